import PyProof.Rows.All
import HandS.HeadHook2
import HandS.ExcInit
import HandS.ExcField
import KE.KExcInit
import KE.KTryMore
import KE.KExcIs
import HandS.HeadHook4
import HandS.ForMost
import HandS.ForExc
import HandS.IsInst
import HandS.WideBits
import HandS.TupAny
import HandS.TupMul
import HandS.Zip
import HandS.Rev
import HandS.Style
import HandS.Flow
import HandS.Conv
import HandS.EndBits
import HandS.EndTab
import PyProof.Rows.IntBool
import PyProof.ReprRoads
import HandS.TryOnly
import HandS.RevRange
import HandS.Head0
import HandS.More
import HandS.Head1
import HandS.Head2
import HandS.HeadEnd
import HandS.HeadHook1
import HandS.Defaults
import HandS.Sort
import PyProof.RangeIter
import PyProof.SumAny
import KE.GoesNew
import KE.DataMinMax
import KE.KTupSum
import KE.KRevSl
import HandS.Star
import KE.KDictZip
import HandS.TupLe
import KE.DataFind
import HandS.SortKw
import HandS.Small
import HandS.ListItems
import HandS.Strs
import HandS.SetFor
import HandS.Dict
import KE.KDictPairs
import HandS.DictTup
import KE.KSortTupAny
import HandS.DictComp
import HandS.Text
import PyProof.StrBlock2
import PyProof.DictUpdate
import PyProof.Rows.SortStr
import KE.KDictSum
import HandS.ExcValue
import HandS.ExcOwn
import PyProof.Rows.StrRev
import PyProof.ReprLen
import KE.IntTextLaws
import PyProof.StrLawsChain
import PyProof.Rows.StrSplitCount
import PyProof.FitsReplace
import PySem.Challenge.RW_liftwater_k49_texts_of_stairs
set_option Elab.async false
set_option linter.all false
set_option maxRecDepth 100000
set_option maxHeartbeats 4000000
namespace Lw
open PySem PySem.Spec PyProof.Rows L2
/-! ### what a head is asked: defs, facts, and closed looks of one's own -/
def nmA0 (K : PySem.W.Frag) (nm : Str) : Addr := match PySem.W.nsIn K mainGlobals nm with
  | some (some (.ref a)) => a
  | _ => 0
def isB0 (K : PySem.W.Frag) (cls c : Value) : Bool := PySem.W.exmOne K cls c == some true
def iniA (K : PySem.W.Frag) (nm : Str) : Addr := He.fAd K (nm, some "__init__")
def xcB (nm : Str) (bmB : List Value) (newId : String) (K : PySem.W.Frag) : Bool :=
  let C := nmA0 K nm
  PySem.W.excInitIn K C bmB newId && (PySem.W.excOver K C bmB && (decide (PySem.W.findIn K (.ref C) "__setattr__" = some (some (.builtin "object.__setattr__"))) && (decide (PySem.W.takerIn K C "what" = some none) && (PySem.W.hasDictIn K C && (decide (PySem.W.findIn K (.ref C) "__init__" = some (some (.ref (iniA K nm)))) &&
    (decide (PySem.W.typeIn K (.ref (iniA K nm)) = some (.type "function")) && (decide (PySem.W.subIn K (.ref C) (.type "BaseException") = some true) && (decide (PySem.W.typeIn K (.ref C) = some (.type "type")) && PySem.W.keepIn K (.ref C)))))))))
def xiB (nm : Str) (K : PySem.W.Frag) : Bool :=
  let C := nmA0 K nm
  xfB K C && (decide (PySem.W.findIn K (.ref C) "what" = some none) && ((PySem.W.clsIn K C).isSome && (decide (PySem.W.findIn K (.ref C) "__class__" = some (some (.builtin "object.__class__"))) &&
    (decide (PySem.W.specialIn K (.builtin "object.__class__") "__get__" = some (some (.builtin "getset_descriptor.__get__"))) && (decide (PySem.W.takesIn K (.builtin "object.__class__") = some true) && decide (PySem.W.mroIn K C (.type "object") = some true))))))
inductive Cn where
  | own (nm : Str)
  | ty (n : String)
def Cn.u (K : PySem.W.Frag) : Cn → Value
  | .own nm => .ref (nmA0 K nm)
  | .ty n => .type n
def Cn.v (K : PySem.W.Frag) : Cn → V
  | .own nm => .ref (nmA0 K nm)
  | .ty n => .ty n
def hmB (nms : List Str) (cs : List Cn) (K : PySem.W.Frag) : Bool := nms.all fun nm => ((cs.map fun c => c.u K).all fun c => (PySem.W.exmOne K (.ref (nmA0 K nm)) c).isSome) && (cs.map fun c => c.u K).any (isB0 K (.ref (nmA0 K nm)))
def tabB1 (tab : List (Str × Bool)) (c : Cn) (K : PySem.W.Frag) : Bool := tab.all fun p => xiB p.1 K && decide (PySem.W.kitOne K (.ref (nmA0 K p.1)) (c.u K) = some p.2)
def tabBN (tab : List (Str × Bool)) (cs : List Cn) (K : PySem.W.Frag) : Bool := tab.all fun p => xiB p.1 K && decide (PySem.W.kitAny K (.ref (nmA0 K p.1)) (cs.map fun c => c.u K) = some p.2)
def xisB (nms : List Str) (K : PySem.W.Frag) : Bool := nms.all fun nm => xiB nm K
def obsX (fa : List He.Fa) (fn : List He.DefD) (xs : List (PySem.W.Frag → Bool)) (K : PySem.W.Frag) : He.AlD := ((He.obsD fa fn K).1 && xs.all fun f => f K, (He.obsD fa fn K).2)
def SaysX (fa : List He.Fa) (fn : List He.DefD) (xs : List (PySem.W.Frag → Bool)) (K : PySem.W.Frag) : Prop := obsX fa fn xs K = He.valD fn
end Lw
namespace Lw
open PySem PySem.Spec PyProof.Rows L2
/-! ### a head that is asked for the tables of the defs that make lambdas, too -/
def lamNames0 : List Str := ["least_level", "least_thaw", "most_taken"]
def lamIn0 (K : PySem.W.Frag) : List Str := lamNames0.filter fun x => PySem.W.codeHdIn K (He.cT K (x, none)).1 (He.cT K (x, none)).2
def lamU (K : PySem.W.Frag) : Bool := (lamIn0 K).all fun x => (lamIn0 K).all fun y => decide (x = y) || decide ((He.cT K (x, none)).2 ≠ (He.cT K (y, none)).2)
def obsLK (fa : List He.Fa) (fn : List He.DefD) (xs : List (PySem.W.Frag → Bool)) (tf : List Str) (g : Addr → Option Obj) (K : PySem.W.Frag) : He.AlD := ((obsX fa fn xs K).1 && (decide (lamIn0 K = tf) && (lamU K && He.tabsB g (tf.map fun x => (x, none)) K)), (obsX fa fn xs K).2)
def obsLG (n : Nat) (fa : List He.Fa) (fn : List He.DefD) (xs : List (PySem.W.Frag → Bool)) (tf : List Str) (g : Addr → Option Obj) : He.AlD := obsLK fa fn xs tf g (He.frT g (He.asD g n))
structure SaysL (fa : List He.Fa) (fn : List He.DefD) (xs : List (PySem.W.Frag → Bool)) (tf : List Str) (h : Heap) (K : PySem.W.Frag) : Prop where
  x : SaysX fa fn xs K
  lam : lamIn0 K = tf
  un : lamU K = true
  hd : ∀ x ∈ tf, PySem.W.codeHdIn K (He.cT K (x, none)).1 (He.cT K (x, none)).2 = true
  out : ∀ x ∈ tf, K.lookup (He.cT K (x, none)).2 = none
  empty : ∀ x ∈ tf, h.get? (He.cT K (x, none)).2 = some { cls := .none, data := .fields #[] }
theorem saysL_of {n : Nat} {fa : List He.Fa} {fn : List He.DefD} {xs : List (PySem.W.Frag → Bool)} {tf : List Str} {h : Heap} (e : obsLG n fa fn xs tf h.get? = He.valD fn) : SaysL fa fn xs tf h (He.frT h.get? (He.asD h.get? n)) := by
  have e1 := congrArg (fun z : He.AlD => z.1) e
  have e2 := congrArg (fun z : He.AlD => z.2) e
  replace e1 : ((obsX fa fn xs (He.frT h.get? (He.asD h.get? n))).1 && (decide (lamIn0 (He.frT h.get? (He.asD h.get? n)) = tf) && (lamU (He.frT h.get? (He.asD h.get? n)) && He.tabsB h.get? (tf.map fun x => (x, none)) (He.frT h.get? (He.asD h.get? n))))) = true := e1
  rw [Bool.and_eq_true, Bool.and_eq_true, Bool.and_eq_true] at e1
  obtain ⟨h1, h2, h3, h4⟩ := e1
  have key : ∀ x ∈ tf, PySem.W.codeHdIn (He.frT h.get? (He.asD h.get? n)) (He.cT (He.frT h.get? (He.asD h.get? n)) (x, none)).1 (He.cT (He.frT h.get? (He.asD h.get? n)) (x, none)).2 = true ∧ ∃ o, h.get? (He.cT (He.frT h.get? (He.asD h.get? n)) (x, none)).2 = some o ∧ He.emptyTab o = true := fun x hx => by
    have h5 := List.all_eq_true.mp h4 (x, none) (List.mem_map.mpr ⟨x, hx, rfl⟩)
    rw [Bool.and_eq_true] at h5
    refine ⟨h5.1, ?_⟩
    have h6 := h5.2
    cases q : h.get? (He.cT (He.frT h.get? (He.asD h.get? n)) (x, none)).2 with
    | none => rw [q] at h6; cases h6
    | some o => rw [q] at h6; exact ⟨o, rfl, h6⟩
  exact ⟨Prod.ext h1 e2, of_decide_eq_true h2, h3, fun x hx => (key x hx).1, fun x hx => by
    obtain ⟨_, o, q, z⟩ := key x hx
    exact He.frT_none q z, fun x hx => by
    obtain ⟨_, o, q, z⟩ := key x hx
    rw [q, He.emptyTab_eq z]⟩
def hookL (n : Nat) (fa : List He.Fa) (fn : List He.DefD) (xs : List (PySem.W.Frag → Bool)) (tf : List Str) : PySem.W.Hook where
  α := He.AlD
  obs := fun s => obsLG n fa fn xs tf s.heap.get?
  val := fun _ => He.valD fn
  says := fun _ h => ∃ K : PySem.W.Frag, K.In h ∧ SaysL fa fn xs tf h K
  of := fun _ _ e => ⟨_, He.frT_in, saysL_of e⟩
  keeps := fun _ _ _ ⟨K, hK, c⟩ k => ⟨K, PySem.W.Frag.In.keeps hK k, ⟨c.x, c.lam, c.un, c.hd, c.out, fun x hx => k _ _ (c.empty x hx)⟩⟩
theorem obsLG_eq {n : Nat} {fa : List He.Fa} {fn : List He.DefD} {xs : List (PySem.W.Frag → Bool)} {tf : List Str} {g : Addr → Option Obj} {s : Shared} (h : ∀ a, g a = s.heap.get? a) : obsLG n fa fn xs tf g = (hookL n fa fn xs tf).obs s := by
  have e : g = s.heap.get? := funext h
  subst e
  rfl
end Lw
namespace K49
open PySem PySem.Spec PyProof.Rows L2
def topS (i : Nat) : Stmt := PySem.Challenge.pw_liftwater_k49_texts_of_stairs.main.body.getD i (.Pass ⟨0, 0, 0, 0⟩)
abbrev s_p_is_number : Stmt := topS 5
abbrev s_p_is_number_from : Stmt := topS 6
abbrev s_p_is_tuple_of : Stmt := topS 7
abbrev s_p_is_stair : Stmt := topS 9
abbrev s_p_is_pound : Stmt := topS 10
abbrev s_p_stair_text : Stmt := topS 14
abbrev s_x_stair_in : Stmt := topS 15
abbrev s_p_number_in : Stmt := topS 16
abbrev s_l_box : Stmt := topS 18
abbrev s_l_take : Stmt := topS 19
abbrev s_l_folded : Stmt := topS 20
abbrev s_l_cells : Stmt := topS 21
abbrev s_l_of : Stmt := topS 22
abbrev s_l_same : Stmt := topS 23
abbrev s_l_lists : Stmt := topS 24
abbrev s_l_great : Stmt := topS 25
abbrev s_l_stair : Stmt := topS 26
abbrev s_l_number : Stmt := topS 27
abbrev s_l_due : Stmt := topS 28
abbrev s_l_asked : Stmt := topS 29
abbrev s_l_bent_text : Stmt := topS 30
abbrev s_l_right : Stmt := topS 31
abbrev s_p_law : Stmt := topS 32
end K49
namespace K49h
open PySem PySem.Spec PyProof.Rows L2 Lw K49
def dd_p_is_number : He.DefD := ⟨("is_number", none), "is_number", "is_number", defArgs s_p_is_number, defBody s_p_is_number, defScope s_p_is_number, [], []⟩
def dd_p_is_number_from : He.DefD := ⟨("is_number_from", none), "is_number_from", "is_number_from", defArgs s_p_is_number_from, defBody s_p_is_number_from, defScope s_p_is_number_from, [], []⟩
def dd_p_is_tuple_of : He.DefD := ⟨("is_tuple_of", none), "is_tuple_of", "is_tuple_of", defArgs s_p_is_tuple_of, defBody s_p_is_tuple_of, defScope s_p_is_tuple_of, [], []⟩
def dd_p_is_stair : He.DefD := ⟨("is_stair", none), "is_stair", "is_stair", defArgs s_p_is_stair, defBody s_p_is_stair, defScope s_p_is_stair, [], []⟩
def dd_p_is_pound : He.DefD := ⟨("is_pound", none), "is_pound", "is_pound", defArgs s_p_is_pound, defBody s_p_is_pound, defScope s_p_is_pound, [], []⟩
def dd_p_stair_text : He.DefD := ⟨("stair_text", none), "stair_text", "stair_text", defArgs s_p_stair_text, defBody s_p_stair_text, defScope s_p_stair_text, [], []⟩
def dd_x_stair_in : He.DefD := ⟨("stair_in", none), "stair_in", "stair_in", defArgs s_x_stair_in, defBody s_x_stair_in, defScope s_x_stair_in, [], []⟩
def dd_p_number_in : He.DefD := ⟨("number_in", none), "number_in", "number_in", defArgs s_p_number_in, defBody s_p_number_in, defScope s_p_number_in, [], []⟩
def dd_l_box : He.DefD := ⟨("_law_box", none), "_law_box", "_law_box", defArgs s_l_box, defBody s_l_box, defScope s_l_box, [], []⟩
def dd_l_take : He.DefD := ⟨("_law_take", none), "_law_take", "_law_take", defArgs s_l_take, defBody s_l_take, defScope s_l_take, [], []⟩
def dd_l_folded : He.DefD := ⟨("_law_folded", none), "_law_folded", "_law_folded", defArgs s_l_folded, defBody s_l_folded, defScope s_l_folded, [], []⟩
def dd_l_cells : He.DefD := ⟨("_law_cells", none), "_law_cells", "_law_cells", defArgs s_l_cells, defBody s_l_cells, defScope s_l_cells, [], []⟩
def dd_l_of : He.DefD := ⟨("_law_of", none), "_law_of", "_law_of", defArgs s_l_of, defBody s_l_of, defScope s_l_of, [], []⟩
def dd_l_same : He.DefD := ⟨("_law_same", none), "_law_same", "_law_same", defArgs s_l_same, defBody s_l_same, defScope s_l_same, [], []⟩
def dd_l_lists : He.DefD := ⟨("_law_lists", none), "_law_lists", "_law_lists", defArgs s_l_lists, defBody s_l_lists, defScope s_l_lists, [], []⟩
def dd_l_great : He.DefD := ⟨("_law_great", none), "_law_great", "_law_great", defArgs s_l_great, defBody s_l_great, defScope s_l_great, [], []⟩
def dd_l_stair : He.DefD := ⟨("_law_stair", none), "_law_stair", "_law_stair", defArgs s_l_stair, defBody s_l_stair, defScope s_l_stair, [], []⟩
def dd_l_number : He.DefD := ⟨("_law_number", none), "_law_number", "_law_number", defArgs s_l_number, defBody s_l_number, defScope s_l_number, [], []⟩
def dd_l_due : He.DefD := ⟨("_law_due", none), "_law_due", "_law_due", defArgs s_l_due, defBody s_l_due, defScope s_l_due, [], []⟩
def dd_l_asked : He.DefD := ⟨("_law_asked", none), "_law_asked", "_law_asked", defArgs s_l_asked, defBody s_l_asked, defScope s_l_asked, [], []⟩
def dd_l_bent_text : He.DefD := ⟨("_law_bent_text", none), "_law_bent_text", "_law_bent_text", defArgs s_l_bent_text, defBody s_l_bent_text, defScope s_l_bent_text, [], []⟩
def dd_l_right : He.DefD := ⟨("_law_right", none), "_law_right", "_law_right", defArgs s_l_right, defBody s_l_right, defScope s_l_right, [], []⟩
def dd_p_law : He.DefD := ⟨("law", none), "law", "law", defArgs s_p_law, defBody s_p_law, defScope s_p_law, [], []⟩
def inS (i : Nat) : Stmt := match topS i with
  | .ClassDef (body := b) .. => b.getD 0 (.Pass ⟨0, 0, 0, 0⟩)
  | _ => .Pass ⟨0, 0, 0, 0⟩
abbrev i_BadText : Stmt := inS 1
theorem sc_i_BadText : FnScope ["self", "what"] ["self", "what"] (defScope i_BadText) := ⟨rfl, rfl, rfl, by decide +kernel, rfl, by decide +kernel, by decide +kernel⟩
def dd_c_BadText : He.DefD := ⟨("BadText", some "__init__"), "__init__", "BadText.__init__", defArgs i_BadText, defBody i_BadText, defScope i_BadText, [], []⟩
def fn : List He.DefD := [dd_p_is_number, dd_p_is_number_from, dd_p_is_tuple_of, dd_p_is_stair, dd_p_is_pound, dd_p_stair_text, dd_x_stair_in, dd_p_number_in, dd_l_box, dd_l_take, dd_l_folded, dd_l_cells, dd_l_of, dd_l_same, dd_l_lists, dd_l_great, dd_l_stair, dd_l_number, dd_l_due, dd_l_asked, dd_l_bent_text, dd_l_right, dd_p_law, dd_c_BadText]
def xs : List (PySem.W.Frag → Bool) := [xcB "BadText" [.type "ValueError", .type "Exception", .type "BaseException", .type "object"] "ValueError.__new__", hmB ["BadText"] [.own "BadRow", .own "BadText", .own "NoTour"], tabB1 [("BadText", true)] (.own "BadText"), tabB1 [("BadText", true)] (.ty "ValueError"), tabBN [("BadText", false)] [.own "BadRow", .own "NoTour"], xisB ["BadText"]]
def tf : List Str := []
def fa : List He.Fa := [.glo "is_number", .glo "is_number_from", .glo "is_tuple_of", .glo "is_stair", .glo "is_pound", .glo "stair_text", .glo "stair_in", .glo "number_in", .glo "_law_box", .glo "_law_take", .glo "_law_folded", .glo "_law_cells", .glo "_law_of", .glo "_law_same", .glo "_law_lists", .glo "_law_great", .glo "_law_stair", .glo "_law_number", .glo "_law_due", .glo "_law_asked", .glo "_law_bent_text", .glo "_law_right", .glo "law", .free "ValueError", .free "abs", .free "all", .free "bool", .free "divmod", .free "enumerate", .free "int", .free "isinstance", .free "len", .free "list", .free "range", .free "str", .free "tuple", .free "zip", .glo "BadText", .glo "BadRow", .glo "NoTour", .str "FIGURES" "0123456789", .int "MOST_FIGURES" 19]
abbrev R : PySem.W.OpenRow := PySem.W.OpenLaw.row PySem.Challenge.rw_liftwater_k49_texts_of_stairs
abbrev hk : PySem.W.Hook := Lw.hookL 4 fa fn xs tf
def ob (s : PySem.W.SharedT) : He.AlD := Lw.obsLG 4 fa fn xs tf (HandSHeadRun.getT s)
theorem ob_eq (s : PySem.W.SharedT) : ob s = hk.obs s.abs := Lw.obsLG_eq (HandSHeadRun.getT_eq s)
def loose : List Str := (["BadText", "BadRow", "NoTour", "is_number", "is_number_from", "is_tuple_of", "is_stair", "is_pound", "FIGURES", "MOST_FIGURES", "stair_text", "stair_in", "number_in", "_law_box", "_law_take", "_law_folded", "_law_cells", "_law_of", "_law_same", "_law_lists", "_law_great", "_law_stair", "_law_number", "_law_due", "_law_asked", "_law_bent_text", "_law_right"] : List Str)
set_option maxHeartbeats 0 in
theorem run (w : World) : HandSHeadRun.RunEq R (PySem.W.view R.prog [32]) hk ob 4000 loose w := by
  intro os
  kernel_rfl
end K49h
namespace Lw
open PySem PySem.Spec PyProof.Rows L2
/-! ### data -/
abbrev D := PyData
theorem same_seqT {K : PySem.W.Frag} {H H' : Hp} {a : Addr} {xs : List V} (e : Same H H') (h : SqT K H a xs) : SqT K H' a xs := by
  rcases h with (h | ⟨o, h⟩) | h
  · exact .inl (.inl (e _ _ h))
  · exact .inl (.inr ⟨o, e _ _ h⟩)
  · exact .inr h
theorem rd_same {H H' : Hp} {a : Addr} {u : HO} (e : Same H H') (h : Rd H a u) : Rd H' a u := by
  rcases h with h | ⟨o, h⟩
  · exact .inl (e _ _ h)
  · exact .inr ⟨o, e _ _ h⟩
def keyD : L2.Key → D
  | .inl i => .int i
  | .inr s => .str s
/-- where the program's name stands for an object -/
def nmAt (K : PySem.W.Frag) (nm : Str) : Addr := match PySem.W.nsIn K mainGlobals nm with
  | some (some (.ref a)) => a
  | _ => 0
/-- what is asked of a class of the program's own -/
def ObC (K : PySem.W.Frag) (C : Addr) : Prop := Cls K C ∧ PySem.W.findIn K (.ref C) "__class__" = some (some (.builtin "object.__class__")) ∧ PySem.W.specialIn K (.builtin "object.__class__") "__get__" = some (some (.builtin "getset_descriptor.__get__")) ∧ PySem.W.takesIn K (.builtin "object.__class__") = some true ∧ PySem.W.mroIn K C (.type "object") = some true ∧
  ∀ n ∈ ["int", "bool", "str", "list", "tuple"], PySem.W.kitOne K (.ref C) (.type n) = some false
/-! data laid out: as the library has it, and dicts, ahead of whose content stands which kind their keys are of -/
mutual
inductive Dp (K : PySem.W.Frag) (H : Hp) : V → PyData → Prop
  | non : Dp K H .non .none
  | bl (b : Bool) : Dp K H (.bl b) (.bool b)
  | int (i : Int) : Dp K H (.int i) (.int i)
  | str (x : Str) : Dp K H (.str x) (.str x)
  | lst {a : Addr} {xs : List V} {ds : List PyData} : SqL K H a xs → DpAll K H xs ds → Dp K H (.ref a) (.list ds)
  | tup {a : Addr} {xs : List V} {ds : List PyData} : SqT K H a xs → DpAll K H xs ds → Dp K H (.ref a) (.tuple ds)
  | dcK {a : Addr} {es : List (L2.Key × V)} {ks : List (PyData × PyData)} : Rd H a (.dK es) → DpKv K H (es.map fun e => (keyD e.1, e.2)) ks → Dp K H (.ref a) (.dict ((.bool false, .none) :: ks))
  | dcT {a : Addr} {es : List (List L2.Key × V)} {ks : List (PyData × PyData)} : Rd H a (.dT es) → DpKv K H (es.map fun e => (PyData.tuple (e.1.map keyD), e.2)) ks → Dp K H (.ref a) (.dict ((.bool true, .none) :: ks))
  | obj {a dx : Addr} {nm : Str} {fl : Bool} {fs : List (Str × V)} {ks : List (PyData × PyData)} : H a = some (.ins (nmAt K nm) dx fs) → ObC K (nmAt K nm) → DpKv K H (fs.map fun e => (PyData.str e.1, e.2)) ks → Dp K H (.ref a) (.dict ((.str nm, .bool fl) :: ks))
inductive DpAll (K : PySem.W.Frag) (H : Hp) : List V → List PyData → Prop
  | nil : DpAll K H [] []
  | cons {v : V} {vs : List V} {d : PyData} {ds : List PyData} : Dp K H v d → DpAll K H vs ds → DpAll K H (v :: vs) (d :: ds)
inductive DpKv (K : PySem.W.Frag) (H : Hp) : List (PyData × V) → List (PyData × PyData) → Prop
  | nil : DpKv K H [] []
  | cons {k : PyData} {v : V} {vs : List (PyData × V)} {d : PyData} {ks : List (PyData × PyData)} : Dp K H v d → DpKv K H vs ks → DpKv K H ((k, v) :: vs) ((k, d) :: ks)
end
section
variable {K : PySem.W.Frag} {H H' : Hp}
mutual
theorem dp_same (e : Same H H') : ∀ {v : V} {d : D}, Dp K H v d → Dp K H' v d
  | _, _, .non => .non
  | _, _, .bl b => .bl b
  | _, _, .int i => .int i
  | _, _, .str x => .str x
  | _, _, .lst h hs => .lst (e.seq h) (dpa_same e hs)
  | _, _, .tup h hs => .tup (same_seqT e h) (dpa_same e hs)
  | _, _, .dcK h hs => .dcK (rd_same e h) (dkv_same e hs)
  | _, _, .dcT h hs => .dcT (rd_same e h) (dkv_same e hs)
  | _, _, .obj h c hs => .obj (e _ _ h) c (dkv_same e hs)
theorem dpa_same (e : Same H H') : ∀ {vs : List V} {ds : List D}, DpAll K H vs ds → DpAll K H' vs ds
  | _, _, .nil => .nil
  | _, _, .cons h hs => .cons (dp_same e h) (dpa_same e hs)
theorem dkv_same (e : Same H H') : ∀ {vs : List (D × V)} {ks : List (D × D)}, DpKv K H vs ks → DpKv K H' vs ks
  | _, _, .nil => .nil
  | _, _, .cons h hs => .cons (dp_same e h) (dkv_same e hs)
end
mutual
theorem dp_lib : ∀ {v : V} {d : D}, Dp K H v d → PyData.hasDict d = false → L2.Dp K H v d
  | _, _, .non, _ => .non
  | _, _, .bl b, _ => .bl b
  | _, _, .int i, _ => .int i
  | _, _, .str x, _ => .str x
  | _, _, .lst h hs, e => .lst h (dpa_lib hs (by simpa [PyData.hasDict] using e))
  | _, _, .tup h hs, e => .tup h (dpa_lib hs (by simpa [PyData.hasDict] using e))
  | _, _, .dcK h hs, e => by simp [PyData.hasDict] at e
  | _, _, .dcT h hs, e => by simp [PyData.hasDict] at e
  | _, _, .obj h c hs, e => by simp [PyData.hasDict] at e
theorem dpa_lib : ∀ {vs : List V} {ds : List D}, DpAll K H vs ds → PyData.hasDictAll ds = false → L2.DpAll K H vs ds
  | _, _, .nil, _ => .nil
  | _, _, .cons h hs, e => by
    simp only [PyData.hasDictAll, Bool.or_eq_false_iff] at e
    exact .cons (dp_lib h e.1) (dpa_lib hs e.2)
end
theorem nd_shaped {d : D} (h : SeqAt.shaped d = true) : PyData.hasDict d = false := PyData.hasDict_of_canLay d (SeqAt.canLay_of_shaped h)
theorem nd_all {ds : List D} (h : ∀ d ∈ ds, PyData.hasDict d = false) : PyData.hasDictAll ds = false := by
  induction ds with
  | nil => simp [PyData.hasDictAll]
  | cons d ds ih => simp only [PyData.hasDictAll, h d (List.mem_cons_self), ih fun x hx => h x (List.mem_cons_of_mem _ hx), Bool.or_self]
theorem nd_shapedAll {ds : List D} (h : ds.all SeqAt.shaped = true) : PyData.hasDictAll ds = false := nd_all fun d hd => nd_shaped (List.all_eq_true.mp h d hd)
theorem Dp.reads {X : Cx} {pins : List (Addr × Obj)} {σ : L2.St} {H : Hp} {s : Shared} (I : Inv X pins σ H s) (d : D) (v : V) (u : Value) (h : Dp X.K H v d) (r : RelV v u) (nd : PyData.hasDict d = false) : ∃ as, Reads s.heap u d as := L2.Dp.reads I d v u (dp_lib h nd) r
theorem Dp.readsAll {X : Cx} {pins : List (Addr × Obj)} {σ : L2.St} {H : Hp} {s : Shared} (I : Inv X pins σ H s) (ds : List D) (vs : List V) (us : List Value) (h : DpAll X.K H vs ds) (r : Vals vs us) (nd : PyData.hasDictAll ds = false) : ∃ as, ReadsAll s.heap us ds as := L2.Dp.readsAll I ds vs us (dpa_lib h nd) r
theorem dpa_len : ∀ {vs : List V} {ds : List D}, DpAll K H vs ds → vs.length = ds.length
  | _, _, .nil => rfl
  | _, _, .cons _ hs => by rw [List.length_cons, List.length_cons, dpa_len hs]
theorem dpa_app : ∀ {vs ws : List V} {ds es : List D}, DpAll K H vs ds → DpAll K H ws es → DpAll K H (vs ++ ws) (ds ++ es)
  | _, _, _, _, .nil, k => k
  | _, _, _, _, .cons h hs, k => .cons h (dpa_app hs k)
theorem dpa_get : ∀ {vs : List V} {ds : List D} {i : Nat} {d : D}, DpAll K H vs ds → ds[i]? = some d → ∃ v, vs[i]? = some v ∧ Dp K H v d
  | _, _, _, _, .nil, e => by simp at e
  | _, _, 0, _, .cons h _, e => by simp at e; subst e; exact ⟨_, rfl, h⟩
  | _, _, i + 1, d, .cons _ hs, e => by
    obtain ⟨v, h1, h2⟩ := dpa_get (i := i) (d := d) hs (by simpa using e)
    exact ⟨v, by simpa using h1, h2⟩
theorem dpa_set {v : V} {d : D} (h : Dp K H v d) : ∀ {vs : List V} {ds : List D} (i : Nat), DpAll K H vs ds → DpAll K H (vs.set i v) (ds.set i d)
  | _, _, _, .nil => .nil
  | _, _, 0, .cons _ t => .cons h t
  | _, _, i + 1, .cons q t => .cons q (dpa_set h i t)
theorem dpa_take : ∀ {vs : List V} {ds : List D} (n : Nat), DpAll K H vs ds → DpAll K H (vs.take n) (ds.take n)
  | _, _, 0, _ => .nil
  | _, _, _ + 1, .nil => .nil
  | _, _, n + 1, .cons r t => .cons r (dpa_take n t)
theorem dpa_drop : ∀ {vs : List V} {ds : List D} (n : Nat), DpAll K H vs ds → DpAll K H (vs.drop n) (ds.drop n)
  | _, _, 0, r => r
  | _, _, _ + 1, .nil => .nil
  | _, _, n + 1, .cons _ t => dpa_drop n t
theorem dpa_rep : ∀ (n : Nat) {vs : List V} {ds : List D}, DpAll K H vs ds → DpAll K H (List.replicate n vs).flatten (List.replicate n ds).flatten
  | 0, _, _, _ => .nil
  | n + 1, _, _, h => by
    rw [List.replicate_succ, List.replicate_succ, List.flatten_cons, List.flatten_cons]
    exact dpa_app h (dpa_rep n h)
theorem dp_none {v : V} (h : Dp K H v .none) : v = .non := by cases h; rfl
theorem dp_bool {v : V} {b : Bool} (h : Dp K H v (.bool b)) : v = .bl b := by cases h; rfl
theorem dp_int {v : V} {i : Int} (h : Dp K H v (.int i)) : v = .int i := by cases h; rfl
theorem dp_str {v : V} {x : Str} (h : Dp K H v (.str x)) : v = .str x := by cases h; rfl
theorem dp_list {v : V} {ds : List D} (h : Dp K H v (.list ds)) : ∃ a vs, v = .ref a ∧ SqL K H a vs ∧ DpAll K H vs ds := by
  cases h with | lst h hs => exact ⟨_, _, rfl, h, hs⟩
theorem dp_tuple {v : V} {ds : List D} (h : Dp K H v (.tuple ds)) : ∃ a vs, v = .ref a ∧ SqT K H a vs ∧ DpAll K H vs ds := by
  cases h with | tup h hs => exact ⟨_, _, rfl, h, hs⟩
theorem dpa_ints : ∀ {ns : List Int}, DpAll K H (ns.map V.int) (ns.map PyData.int)
  | [] => .nil
  | n :: ns => .cons (.int n) dpa_ints
theorem dpa_bools_inv : ∀ {vs : List V} {ns : List Bool}, DpAll K H vs (ns.map PyData.bool) → vs = ns.map V.bl
  | _, [], .nil => rfl
  | _, n :: ns, .cons h t => by rw [dp_bool h, dpa_bools_inv t]; rfl
end
/-! ### the state: slots that hold data, or a list of their own -/
/-- values that are no data: an exception of the program's own, by its class's name and what it keeps; a dict -/
inductive XD where
  | exc (nm : Str) (d : D)
  | odc (kvs : List (D × D))
/-- an exception's object, its class at C, its dict at dd -/
def ExT (a C dd : Addr) : HO := .ext fun h => ∃ (oe : Obj) (vs : Array Value), h.get? a = some oe ∧ oe.cls = .ref C ∧ oe.dict = some dd ∧ oe.data = .fields vs
/-- a dict's content, keys of one kind; ahead of it, which kind -/
def DcAt (K : PySem.W.Frag) (G : Hp) (o : HO) (kvs : List (D × D)) : Prop := (∃ (es : List (L2.Key × V)) (ks : List (D × D)), o = .dK es ∧ kvs = (.bool false, .none) :: ks ∧ Paired (fun e p => keyD e.1 = p.1 ∧ Dp K G e.2 p.2) es ks) ∨
      (∃ (es : List (List L2.Key × V)) (ks : List (D × D)), o = .dT es ∧ kvs = (.bool true, .none) :: ks ∧ Paired (fun e p => PyData.tuple (e.1.map keyD) = p.1 ∧ Dp K G e.2 p.2) es ks) ∨
      ∃ (nm : Str) (fl : Bool) (dx : Addr) (fs : List (Str × V)) (ks : List (D × D)), o = .ins (nmAt K nm) dx fs ∧ kvs = (.str nm, .bool fl) :: ks ∧ ObC K (nmAt K nm) ∧ Paired (fun e p => PyData.str e.1 = p.1 ∧ Dp K G e.2 p.2) fs ks
/-- an instance; ahead of its attributes stand its class's name and whether it is the caller's -/
def isOb : List (D × D) → Bool
  | (.str _, _) :: _ => true
  | _ => false
def parO : List (D × D) → Bool
  | (.str _, .bool true) :: _ => true
  | _ => false
theorem kv_paired {κ : Type} {f : κ → D} {K : PySem.W.Frag} {G : Hp} : ∀ {es : List (κ × V)} {ks : List (D × D)}, DpKv K G (es.map fun e => (f e.1, e.2)) ks → Paired (fun e p => f e.1 = p.1 ∧ Dp K G e.2 p.2) es ks
  | [], _, h => by cases h; exact .nil
  | e :: es, ks, h => by cases h with | cons a b => exact .cons ⟨rfl, a⟩ (kv_paired b)
theorem paired_kv {κ : Type} {f : κ → D} {K : PySem.W.Frag} {G : Hp} : ∀ {es : List (κ × V)} {ks : List (D × D)}, Paired (fun e p => f e.1 = p.1 ∧ Dp K G e.2 p.2) es ks → DpKv K G (es.map fun e => (f e.1, e.2)) ks
  | _, _, .nil => .nil
  | _, (k, d) :: _, .cons ⟨h, a⟩ b => by
    have h : _ = k := h
    subst h
    exact .cons a (paired_kv b)
theorem DcAt.dp {K : PySem.W.Frag} {G : Hp} {a : Addr} {o : HO} {kvs : List (D × D)} (ha : G a = some o) (h : DcAt K G o kvs) : Dp K G (.ref a) (.dict kvs) := by
  rcases h with ⟨es, ks, rfl, rfl, h⟩ | ⟨es, ks, rfl, rfl, h⟩ | ⟨nm, fl, dx, fs, ks, rfl, rfl, hc, h⟩
  · exact .dcK (.inl ha) (paired_kv h)
  · exact .dcT (es := es) (.inl ha) (paired_kv (f := fun c : List L2.Key => PyData.tuple (c.map keyD)) h)
  · exact .obj ha hc (paired_kv (f := fun c : Str => PyData.str c) h)
def Xp (K : PySem.W.Frag) (G : Hp) (v : V) : XD → Prop
  | .exc nm d => ∃ (a dd : Addr) (u : V), v = .ref a ∧ G a = some (ExT a (nmAt K nm) dd) ∧ G dd = some (.xd [(("what" : Str), u)]) ∧ Dp K G u d
  | .odc _ => True
theorem paired_imp {α β : Type} {r r' : α → β → Prop} (h : ∀ x y, r x y → r' x y) : ∀ {xs : List α} {ys : List β}, Paired r xs ys → Paired r' xs ys
  | _, _, .nil => .nil
  | _, _, .cons a b => .cons (h _ _ a) (paired_imp h b)
theorem dc_same {K : PySem.W.Frag} {H H' : Hp} (s : Same H H') {o : HO} {kvs : List (D × D)} (h : DcAt K H o kvs) : DcAt K H' o kvs := by
  rcases h with ⟨es, ks, h1, h0, h2⟩ | ⟨es, ks, h1, h0, h2⟩ | ⟨nm, fl, dx, es, ks, h1, h0, hc, h2⟩
  · exact .inl ⟨es, ks, h1, h0, paired_imp (fun _ _ z => ⟨z.1, dp_same s z.2⟩) h2⟩
  · exact .inr (.inl ⟨es, ks, h1, h0, paired_imp (fun _ _ z => ⟨z.1, dp_same s z.2⟩) h2⟩)
  · exact .inr (.inr ⟨nm, fl, dx, es, ks, h1, h0, hc, paired_imp (fun _ _ z => ⟨z.1, dp_same s z.2⟩) h2⟩)
theorem DcAt.lst {K : PySem.W.Frag} {G : Hp} {xs : List V} {kvs : List (D × D)} : ¬ DcAt K G (.lst xs) kvs := fun h => by
  rcases h with ⟨es, ks, h1, _⟩ | ⟨es, ks, h1, _⟩ | ⟨nm, fl, dx, es, ks, h1, _⟩ <;> cases h1
theorem xp_same {K : PySem.W.Frag} {H H' : Hp} (s : Same H H') {v : V} {x : XD} (h : Xp K H v x) : Xp K H' v x := by
  cases x with
  | exc nm d =>
    obtain ⟨a, dd, u, e, h1, h2, h3⟩ := h
    exact ⟨a, dd, u, e, s _ _ h1, s _ _ h2, dp_same s h3⟩
  | odc kvs => trivial
inductive S where
  | pure (d : D)
  | own (par : Bool) (ds : List D)
  | vx (x : XD)
abbrev En := List (Option S)
abbrev M (α : Type) := En → Option (α × En)
/-- nothing, or a tuple: no list, no dict -/
def Nw (o : Option HO) : Prop := o = none ∨ ∃ xs, o = some (.tup xs)
theorem Nw.no {o : Option HO} {u : HO} (q : Nw o) (e : o = some u) (h : ∀ xs, u ≠ .tup xs) : False := by
  rcases q with q | ⟨xs, q⟩
  · rw [q] at e; cases e
  · rw [q] at e; cases e; exact h xs rfl
theorem Nw.lst {o : Option HO} {xs : List V} (q : Nw o) (e : o = some (.lst xs)) : False := q.no e fun _ z => by cases z
theorem DcAt.tup {K : PySem.W.Frag} {G : Hp} {xs : List V} {kvs : List (D × D)} : ¬ DcAt K G (.tup xs) kvs := fun h => by
  rcases h with ⟨es, ks, h1, _⟩ | ⟨es, ks, h1, _⟩ | ⟨nm, fl, dx, es, ks, h1, _⟩ <;> cases h1
theorem DcAt.tbl {K : PySem.W.Frag} {G : Hp} {ps : Array Value} {kvs : List (D × D)} : ¬ DcAt K G (.tbl ps) kvs := fun h => by
  rcases h with ⟨es, ks, h1, _⟩ | ⟨es, ks, h1, _⟩ | ⟨nm, fl, dx, es, ks, h1, _⟩ <;> cases h1
/-- what stood at a def's entry: the slots of lists of the caller's own, the heaps -/
structure Fx where
  A : Nat → Option Addr
  L : Nat → Bool
  G0 : Hp
  H0 : Hp
/-- whose it is: new, or the caller's -/
def OwnA (F : Fx) (i : Nat) (a : Addr) (p : Bool) : Prop := (p = false → F.H0 a = none) ∧ (p = true → F.A i = some a)
theorem OwnA.new {F : Fx} {i : Nat} {a : Addr} (h : F.H0 a = none) : OwnA F i a false := ⟨fun _ => h, fun z => by cases z⟩
/-- what a slot holds is the caller's -/
def sPar : S → Bool
  | .own b _ => b
  | .vx (.odc kvs) => parO kvs
  | _ => false
def sLst : S → Bool
  | .own _ _ => true
  | _ => false
/-- an own dict at slot i -/
def Od (K : PySem.W.Frag) (F : Fx) (σ : L2.St) (G H : Hp) (i : Nat) (kvs : List (D × D)) : Prop := ∃ a o, σ[i]? = some (some (.ref a)) ∧ H a = some o ∧ DcAt K G o kvs ∧ G a = none ∧ OwnA F i a (parO kvs)
theorem Od.keep {K : PySem.W.Frag} {F : Fx} {σ σ' : L2.St} {G G' H H' : Hp} {i : Nat} {kvs : List (D × D)} (h : Od K F σ G H i kvs) (hs : σ'[i]? = σ[i]?) (s : Same G G') (hh : ∀ a o, H a = some o → (∀ xs, o ≠ .lst xs ∧ o ≠ .tup xs ∧ ∀ ps, o ≠ .tbl ps) → G a = none → H' a = some o ∧ G' a = none) : Od K F σ' G' H' i kvs := by
  obtain ⟨a, o, h1, h2, h3, h4, h5⟩ := h
  obtain ⟨k1, k2⟩ := hh a o h2 (fun xs => ⟨fun z => by subst z; exact DcAt.lst h3, fun z => by subst z; exact DcAt.tup h3, fun ps z => by subst z; exact DcAt.tbl h3⟩) h4
  exact ⟨a, o, by rw [hs]; exact h1, k1, dc_same s h3, k2, h5⟩
/-- the defs that make a lambda, their tables of code objects -/
def lamNames : List Str := ["least_level", "least_thaw", "most_taken"]
def lamIn (K : PySem.W.Frag) : List Str := lamNames.filter fun x => PySem.W.codeHdIn K (He.cT K (x, none)).1 (He.cT K (x, none)).2
def tabsOf (K : PySem.W.Frag) : List (Addr × Str) := (lamIn K).map fun x => ((He.cT K (x, none)).2, x ++ ".<locals>.<lambda>")
/-- each table's code objects are known, by a name of their own -/
def LamG (T : List (Addr × Str)) (G H : Hp) : Prop := ∀ p ∈ T, G p.1 = none ∧ ∃ ps : Array Value, H p.1 = some (.tbl ps) ∧ TriplesOk ps.toList ∧ ∀ (pos : Pos) (cv : Value), codeAmong pos ps.toList = some cv → ∃ c, cv = .ref c ∧ G c = some (LamX.CodeO c p.2)
structure FrOk (T : List (Addr × Str)) (H0 : Hp) (A : Nat → Option Addr) (G H : Hp) : Prop where
  fr : ∀ a o, H0 a = some o → (∀ ps, o ≠ .tbl ps) → (∀ i, A i ≠ some a) → H a = some o
  tn : ∀ a ps, H0 a = some (.tbl ps) → ∃ ps', H a = some (.tbl ps')
  t0 : ∀ p ∈ T, ∃ ps, H0 p.1 = some (.tbl ps)
  tb : LamG T G H
section
variable {T : List (Addr × Str)} {H0 : Hp} {A : Nat → Option Addr} {G G' H H' : Hp}
theorem LamG.grow (h : LamG T G H) {a : Addr} {o : HO} (hg : G a = none) (hne : ∀ ps, H a ≠ some (.tbl ps)) : LamG T (upd G a o) H := fun p hp => by
  obtain ⟨h0, ps, h1, h2, h3⟩ := h p hp
  have ne : p.1 ≠ a := fun z => by rw [z] at h1; exact hne _ h1
  exact ⟨by rw [upd_ne ne]; exact h0, ps, h1, h2, fun pos cv hc => by
    obtain ⟨c, e1, e2⟩ := h3 pos cv hc
    have nc : c ≠ a := fun z => by rw [z, hg] at e2; cases e2
    exact ⟨c, e1, by rw [upd_ne nc]; exact e2⟩⟩
theorem LamG.ext (h : LamG T G H) (e : ∀ b ps, H b = some (.tbl ps) → H' b = some (.tbl ps)) : LamG T G H' := fun p hp => by
  obtain ⟨h0, ps, h1, h2, h3⟩ := h p hp
  exact ⟨h0, ps, e _ _ h1, h2, h3⟩
theorem FrOk.grow (h : FrOk T H0 A G H) {a : Addr} {o : HO} (hg : G a = none) (hne : ∀ ps, H a ≠ some (.tbl ps)) : FrOk T H0 A (upd G a o) H := ⟨h.fr, h.tn, h.t0, h.tb.grow hg hne⟩
theorem FrOk.ext (h : FrOk T H0 A G H) (e : ∀ b o, H b = some o → H' b = some o) : FrOk T H0 A G H' := ⟨fun a o q n na => e a o (h.fr a o q n na), fun a ps q => by
  obtain ⟨ps', z⟩ := h.tn a ps q
  exact ⟨ps', e _ _ z⟩, h.t0, h.tb.ext fun b ps z => e _ _ z⟩
theorem FrOk.tab (h : FrOk T H0 A G H) {p : Addr × Str} (hp : p ∈ T) {a : Addr} (e : H0 a = none) : p.1 ≠ a := fun z => by
  obtain ⟨ps, w⟩ := h.t0 p hp
  rw [z, e] at w; cases w
theorem FrOk.touch (h : FrOk T H0 A G H) {a : Addr} {o : HO} (e : H0 a = none) : FrOk T H0 A G (upd H a o) := ⟨fun b u q n na => by
  have ne : b ≠ a := fun z => by subst z; rw [e] at q; cases q
  rw [upd_ne ne]; exact h.fr b u q n na, fun b ps q => by
  have ne : b ≠ a := fun z => by subst z; rw [e] at q; cases q
  rw [upd_ne ne]; exact h.tn b ps q, h.t0, fun p hp => by
  obtain ⟨h0, ps, h1, h2, h3⟩ := h.tb p hp
  exact ⟨h0, ps, by rw [upd_ne (h.tab hp e)]; exact h1, h2, h3⟩⟩
theorem FrOk.mut (h : FrOk T H0 A G H) {a : Addr} {o u : HO} {i : Nat} (hA : A i = some a) (hu : H a = some u) (nt : ∀ ps, u ≠ .tbl ps) : FrOk T H0 A G (upd H a o) := ⟨fun b w q n na => by
  have ne : b ≠ a := fun z => by subst z; exact na i hA
  rw [upd_ne ne]; exact h.fr b w q n na, fun b ps q => by
  obtain ⟨ps', z⟩ := h.tn b ps q
  have ne : b ≠ a := fun w => by subst w; rw [hu] at z; cases z; exact nt _ rfl
  exact ⟨ps', by rw [upd_ne ne]; exact z⟩, h.t0, fun p hp => by
  obtain ⟨h0, ps, h1, h2, h3⟩ := h.tb p hp
  have ne : p.1 ≠ a := fun w => by rw [w, hu] at h1; cases h1; exact nt _ rfl
  exact ⟨h0, ps, by rw [upd_ne ne]; exact h1, h2, h3⟩⟩
end
structure Rel (K : PySem.W.Frag) (F : Fx) (ς : En) (G : Hp) (σ : L2.St) (H : Hp) : Prop where
  len : σ.length = ς.length
  sub : Same G H
  g0 : Same F.G0 G
  pu : ∀ (i : Nat) d, ς[i]? = some (some (.pure d)) → ∃ v, σ[i]? = some (some v) ∧ Dp K G v d
  ow : ∀ (i : Nat) b ds, ς[i]? = some (some (.own b ds)) → ∃ a vs, σ[i]? = some (some (.ref a)) ∧ H a = some (.lst vs) ∧ G a = none ∧ DpAll K G vs ds ∧ (b = true → F.A i = some a) ∧ (b = false → F.H0 a = none)
  ap : ∀ (i j : Nat) b c ds es a, ς[i]? = some (some (.own b ds)) → ς[j]? = some (some (.own c es)) → σ[i]? = some (some (.ref a)) → σ[j]? = some (some (.ref a)) → i = j
  par : ∀ i a, F.A i = some a → ∃ s, ς[i]? = some (some s) ∧ sPar s = true ∧ sLst s = F.L i
  fr : FrOk (tabsOf K) F.H0 F.A G H
  nw : ∀ a, G a ≠ none → F.G0 a ≠ none ∨ Nw (F.H0 a)
  vx : ∀ (i : Nat) x, ς[i]? = some (some (.vx x)) → ∃ v, σ[i]? = some (some v) ∧ Xp K G v x
  od : ∀ (i : Nat) kvs, ς[i]? = some (some (.vx (.odc kvs))) → Od K F σ G H i kvs
  oa : ∀ (i j : Nat) kvs kws a, ς[i]? = some (some (.vx (.odc kvs))) → ς[j]? = some (some (.vx (.odc kws))) → σ[i]? = some (some (.ref a)) → σ[j]? = some (some (.ref a)) → i = j
/-- what an expression gives -/
inductive R where
  | pure (d : D)
  | ref (i : Nat)
  | fresh (ds : List D)
  | vx (x : XD)
def RepR (K : PySem.W.Frag) (F : Fx) (ς : En) (G : Hp) (σ : L2.St) (H : Hp) : R → V → Prop
  | .pure d, v => Dp K G v d
  | .ref i, v => σ[i]? = some (some v)
  | .vx (.odc kvs), v => ∃ a o, v = .ref a ∧ H a = some o ∧ DcAt K G o kvs ∧ G a = none ∧ F.H0 a = none ∧ parO kvs = false ∧ ∀ (i : Nat) kws, ς[i]? = some (some (.vx (.odc kws))) → σ[i]? ≠ some (some (.ref a))
  | .vx (.exc nm d), v => Xp K G v (.exc nm d)
  | .fresh ds, v => ∃ a vs, v = .ref a ∧ H a = some (.lst vs) ∧ G a = none ∧ DpAll K G vs ds ∧ F.H0 a = none ∧ ∀ (i : Nat) b es, ς[i]? = some (some (.own b es)) → σ[i]? ≠ some (some (.ref a))
section
variable {K : PySem.W.Frag} {F : Fx} {ς : En} {G H : Hp} {σ : L2.St}
theorem same_upd {H : Hp} {p : Addr} {o : HO} (h : H p = none) : Same H (upd H p o) := fun b x e => by
  rw [upd_ne (ne_of_none e h)]; exact e
theorem same_upd2 {G H : Hp} {p : Addr} {o : HO} (h : Same G H) : Same (upd G p o) (upd H p o) := fun b x e => by
  by_cases hb : b = p
  · subst hb; rw [upd_same] at e ⊢; exact e
  · rw [upd_ne hb] at e ⊢; exact h _ _ e
theorem Rel.own_in (r : Rel K F ς G σ H) {i : Nat} {a : Addr} (h : F.A i = some a) : σ[i]? = some (some (.ref a)) ∧ ∃ o, H a = some o ∧ (∀ xs, o ≠ .tup xs) ∧ ∀ ps, o ≠ .tbl ps := by
  obtain ⟨s, e, hs, _⟩ := r.par i a h
  cases s with
  | pure d => cases hs
  | own b ds =>
    cases (show b = true from hs)
    obtain ⟨a', vs, e1, e2, _, _, e5, _⟩ := r.ow i true ds e
    have := e5 rfl
    rw [h] at this; cases this
    exact ⟨e1, _, e2, (fun xs z => by cases z), fun ps z => by cases z⟩
  | vx x =>
    cases x with
    | exc nm d => cases hs
    | odc kvs =>
      obtain ⟨a', o, e1, e2, e3, _, e5⟩ := r.od i kvs e
      have := e5.2 hs
      rw [h] at this; cases this
      exact ⟨e1, o, e2, (fun xs z => by subst z; exact DcAt.tup e3), fun ps z => by subst z; exact DcAt.tbl e3⟩
theorem Rel.new (r : Rel K F ς G σ H) {p : Addr} (h : H p = none) : F.H0 p = none := by
  cases q : F.H0 p with
  | none => rfl
  | some o =>
    by_cases hp : ∃ i, F.A i = some p
    · obtain ⟨i, hi⟩ := hp
      obtain ⟨_, vs, e, _⟩ := r.own_in hi
      rw [e] at h; cases h
    · by_cases ht : ∃ ps, o = .tbl ps
      · obtain ⟨ps, rfl⟩ := ht
        obtain ⟨ps', z⟩ := r.fr.tn p ps q
        rw [z] at h; cases h
      · have := r.fr.fr p o q (fun ps e => ht ⟨ps, e⟩) (fun i e => hp ⟨i, e⟩)
        rw [this] at h; cases h
theorem Rel.newN (r : Rel K F ς G σ H) {p : Addr} (h : Nw (H p)) : Nw (F.H0 p) := by
  rcases h with h | ⟨xs, h⟩
  · exact .inl (r.new h)
  · cases q : F.H0 p with
    | none => exact .inl rfl
    | some o =>
      by_cases hp : ∃ i, F.A i = some p
      · obtain ⟨i, hi⟩ := hp
        obtain ⟨_, vs, e, nt, _⟩ := r.own_in hi
        rw [e] at h; cases h; exact (nt xs rfl).elim
      · by_cases ht : ∃ ps, o = .tbl ps
        · obtain ⟨ps, rfl⟩ := ht
          obtain ⟨ps', z⟩ := r.fr.tn p ps q
          rw [z] at h; cases h
        · have := r.fr.fr p o q (fun ps e => ht ⟨ps, e⟩) (fun i e => hp ⟨i, e⟩)
          rw [this] at h
          exact .inr ⟨xs, h⟩
/-- a tuple that is there counts as a datum from now on -/
theorem Rel.adopt (r : Rel K F ς G σ H) {p : Addr} {xs : List V} (h : H p = some (.tup xs)) (hg : G p = none) : Rel K F ς (upd G p (.tup xs)) σ H where
  len := r.len
  sub := fun b o e => by
    by_cases hb : b = p
    · subst hb; rw [upd_same] at e; cases e; exact h
    · rw [upd_ne hb] at e; exact r.sub _ _ e
  g0 := r.g0.trans (same_upd hg)
  pu := fun i d e => by
    obtain ⟨v, e1, e2⟩ := r.pu i d e
    exact ⟨v, e1, dp_same (same_upd hg) e2⟩
  ow := fun i b ds e => by
    obtain ⟨a, vs, e1, e2, e3, e4, e5⟩ := r.ow i b ds e
    have ne : a ≠ p := fun z => by subst z; rw [h] at e2; cases e2
    exact ⟨a, vs, e1, e2, by rw [upd_ne ne]; exact e3, dpa_same (same_upd hg) e4, e5⟩
  ap := r.ap
  par := r.par
  fr := r.fr.grow hg fun ps z => by rw [h] at z; cases z
  nw := fun a e => by
    by_cases ha : a = p
    · subst ha; exact .inr (r.newN (.inr ⟨xs, h⟩))
    · rw [upd_ne ha] at e; exact r.nw a e
  vx := fun i x e => by
    obtain ⟨v, e1, e2⟩ := r.vx i x e
    exact ⟨v, e1, xp_same (same_upd hg) e2⟩
  od := fun i kvs e => (r.od i kvs e).keep rfl (same_upd hg) fun a o' e1 nl e2 => by
    have ne : a ≠ p := fun z => by subst z; rw [h] at e1; cases e1; exact (nl _).2.1 rfl
    exact ⟨e1, by rw [upd_ne ne]; exact e2⟩
  oa := r.oa
theorem Rel.gnone (r : Rel K F ς G σ H) {p : Addr} (h : H p = none) : G p = none := r.sub.free h
/-- a new object, a datum from now on -/
theorem Rel.lay (r : Rel K F ς G σ H) {p : Addr} {o : HO} (h : H p = none) : Rel K F ς (upd G p o) σ (upd H p o) where
  len := r.len
  sub := same_upd2 r.sub
  g0 := r.g0.trans (same_upd (r.gnone h))
  pu := fun i d e => by
    obtain ⟨v, e1, e2⟩ := r.pu i d e
    exact ⟨v, e1, dp_same (same_upd (r.gnone h)) e2⟩
  ow := fun i b ds e => by
    obtain ⟨a, vs, e1, e2, e3, e4, e5⟩ := r.ow i b ds e
    have ne := ne_of_none e2 h
    exact ⟨a, vs, e1, by rw [upd_ne ne]; exact e2, by rw [upd_ne ne]; exact e3, dpa_same (same_upd (r.gnone h)) e4, e5⟩
  ap := r.ap
  par := r.par
  fr := (r.fr.grow (r.gnone h) fun ps z => by rw [h] at z; cases z).ext (same_upd h)
  nw := fun a e => by
    by_cases ha : a = p
    · subst ha; exact .inr (.inl (r.new h))
    · rw [upd_ne ha] at e; exact r.nw a e
  vx := fun i x e => by
    obtain ⟨v, e1, e2⟩ := r.vx i x e
    exact ⟨v, e1, xp_same (same_upd (r.gnone h)) e2⟩
  od := fun i kvs e => (r.od i kvs e).keep rfl (same_upd (r.gnone h)) fun a o' e1 _ e2 => by
    have ne := ne_of_none e1 h
    exact ⟨by rw [upd_ne ne]; exact e1, by rw [upd_ne ne]; exact e2⟩
  oa := r.oa
/-- a new list, nobody's yet -/
theorem Rel.layF (r : Rel K F ς G σ H) {p : Addr} {o : HO} (h : H p = none) : Rel K F ς G σ (upd H p o) where
  len := r.len
  sub := r.sub.trans (same_upd h)
  g0 := r.g0
  pu := r.pu
  ow := fun i b ds e => by
    obtain ⟨a, vs, e1, e2, e3, e4, e5⟩ := r.ow i b ds e
    have ne := ne_of_none e2 h
    exact ⟨a, vs, e1, by rw [upd_ne ne]; exact e2, e3, e4, e5⟩
  ap := r.ap
  par := r.par
  fr := r.fr.ext (same_upd h)
  nw := r.nw
  vx := r.vx
  od := fun i kvs e => (r.od i kvs e).keep rfl (Same.refl _) fun a o' e1 _ e2 => by
    have ne := ne_of_none e1 h
    exact ⟨by rw [upd_ne ne]; exact e1, e2⟩
  oa := r.oa
theorem Rel.repF (r : Rel K F ς G σ H) {p : Addr} {vs : List V} {ds : List D} (h : H p = none) (hd : DpAll K G vs ds) : RepR K F ς G σ (upd H p (.lst vs)) (.fresh ds) (.ref p) :=
  ⟨p, vs, rfl, upd_same, r.gnone h, hd, r.new h, fun i b es e q => by
    obtain ⟨a, ws, e1, e2, _⟩ := r.ow i b es e
    rw [q] at e1; cases e1
    rw [e2] at h; cases h⟩
theorem Rel.layD (r : Rel K F ς G σ H) {p : Addr} {vs : List V} {ds : List D} (h : H p = none) (hd : DpAll K G vs ds) : Dp K (upd G p (.tup vs)) (.ref p) (.tuple ds) :=
  .tup (.inl (.inl upd_same)) (dpa_same (same_upd (r.gnone h)) hd)
/-- freezing a list that is nobody's -/
theorem Rel.frzF (r : Rel K F ς G σ H) {v : V} {ds : List D} (h : RepR K F ς G σ H (.fresh ds) v) : ∃ G', Rel K F ς G' σ H ∧ Same G G' ∧ Dp K G' v (.list ds) := by
  obtain ⟨a, vs, rfl, h1, h2, h3, h4, h5⟩ := h
  refine ⟨upd G a (.lst vs), ⟨r.len, ?_, r.g0.trans (same_upd h2), ?_, ?_, r.ap, r.par, r.fr.grow h2 (fun ps z => by rw [h1] at z; cases z), ?_, fun i x e => by
    obtain ⟨v, e1, e2⟩ := r.vx i x e
    exact ⟨v, e1, xp_same (same_upd h2) e2⟩, fun i kvs e => (r.od i kvs e).keep rfl (same_upd h2) fun c o e1 nl e2 => by
    have ne : c ≠ a := fun z => by subst z; rw [h1] at e1; cases e1; exact (nl _).1 rfl
    exact ⟨e1, by rw [upd_ne ne]; exact e2⟩, r.oa⟩, same_upd h2, .lst (.inl (.inl upd_same)) (dpa_same (same_upd h2) h3)⟩
  · intro b x e
    by_cases hb : b = a
    · subst hb; rw [upd_same] at e; rw [h1, e]
    · rw [upd_ne hb] at e; exact r.sub _ _ e
  · intro i d e
    obtain ⟨v, e1, e2⟩ := r.pu i d e
    exact ⟨v, e1, dp_same (same_upd h2) e2⟩
  · intro i b es e
    obtain ⟨c, ws, e1, e2, e3, e4, e5⟩ := r.ow i b es e
    have ne : c ≠ a := fun z => by subst z; exact h5 i b es e e1
    exact ⟨c, ws, e1, e2, by rw [upd_ne ne]; exact e3, dpa_same (same_upd h2) e4, e5⟩
  · intro c e
    by_cases hc : c = a
    · subst hc; exact .inr (.inl h4)
    · rw [upd_ne hc] at e; exact r.nw c e
theorem get_set {α : Type} {l : List α} {i j : Nat} {x y : α} (h : (l.set i x)[j]? = some y) : (i = j ∧ x = y) ∨ (i ≠ j ∧ l[j]? = some y) := by
  by_cases e : i = j
  · subst e
    by_cases hl : i < l.length
    · rw [List.getElem?_set_self hl] at h; exact .inl ⟨rfl, Option.some.inj h⟩
    · rw [List.getElem?_eq_none (by rw [List.length_set]; omega)] at h; cases h
  · rw [List.getElem?_set_ne e] at h; exact .inr ⟨e, h⟩
def free (ς : En) (i : Nat) : Bool := match ς[i]? with
  | some (some (.own true _)) => false
  | some (some (.vx (.odc ((.str _, .bool true) :: _)))) => false
  | some _ => true
  | none => false
theorem free_lt {i : Nat} (h : free ς i = true) : i < ς.length := by
  unfold free at h
  by_cases hl : i < ς.length
  · exact hl
  · rw [List.getElem?_eq_none (by omega)] at h; cases h
theorem free_no {i : Nat} {s : S} (h : free ς i = true) (hs : sPar s = true) : ς[i]? ≠ some (some s) := fun e => by
  unfold free at h; rw [e] at h
  cases s with
  | pure d => cases hs
  | own b ds => cases (show b = true from hs); cases h
  | vx x =>
    cases x with
    | exc nm d => cases hs
    | odc kvs =>
      have hs : parO kvs = true := hs
      unfold parO at hs
      split at hs
      · cases h
      · cases hs
theorem free_of {i : Nat} {kvs : List (D × D)} (h : ς[i]? = some (some (.vx (.odc kvs)))) (hp : parO kvs = false) : free ς i = true := by
  unfold free
  rw [h]
  unfold parO at hp
  split at hp
  · cases hp
  · split
    · rename_i e; cases e
    · rename_i e; cases e; rename_i hn; exact (hn _ _ rfl).elim
    · rfl
    · rename_i e; cases e
/-- freezing a dict that is nobody's -/
theorem Rel.frzFD (r : Rel K F ς G σ H) {v : V} {kvs : List (D × D)} (h : RepR K F ς G σ H (.vx (.odc kvs)) v) : ∃ G', Rel K F ς G' σ H ∧ Same G G' ∧ Dp K G' v (.dict kvs) := by
  obtain ⟨a, o, rfl, h1, h3, h2, h4, _, h5⟩ := h
  refine ⟨upd G a o, ⟨r.len, ?_, r.g0.trans (same_upd h2), ?_, ?_, r.ap, r.par, r.fr.grow h2 (fun ps z => by rw [h1] at z; cases z; exact DcAt.tbl h3), ?_, fun i x e => by
    obtain ⟨v, e1, e2⟩ := r.vx i x e
    exact ⟨v, e1, xp_same (same_upd h2) e2⟩, fun i kws e => ?_, r.oa⟩, same_upd h2, DcAt.dp upd_same (dc_same (same_upd h2) h3)⟩
  · intro b x e
    by_cases hb : b = a
    · subst hb; rw [upd_same] at e; rw [h1, e]
    · rw [upd_ne hb] at e; exact r.sub _ _ e
  · intro i d e
    obtain ⟨v, e1, e2⟩ := r.pu i d e
    exact ⟨v, e1, dp_same (same_upd h2) e2⟩
  · intro i b es e
    obtain ⟨c, ws, e1, e2, e3, e4, e5⟩ := r.ow i b es e
    have ne : c ≠ a := fun z => by subst z; rw [h1] at e2; cases e2; exact DcAt.lst h3
    exact ⟨c, ws, e1, e2, by rw [upd_ne ne]; exact e3, dpa_same (same_upd h2) e4, e5⟩
  · intro c e
    by_cases hc : c = a
    · subst hc; exact .inr (.inl h4)
    · rw [upd_ne hc] at e; exact r.nw c e
  · obtain ⟨b, ob, f1, f2, f3, f4, f5⟩ := r.od i kws e
    have ne : b ≠ a := fun z => by subst z; exact h5 i kws e f1
    exact ⟨b, ob, f1, f2, dc_same (same_upd h2) f3, by rw [upd_ne ne]; exact f4, f5⟩
/-- a slot takes a datum -/
theorem Rel.setP (r : Rel K F ς G σ H) {i : Nat} {v : V} {d : D} (hf : free ς i = true) (h : Dp K G v d) : Rel K F (ς.set i (some (.pure d))) G (σ.set i (some v)) H where
  len := by rw [List.length_set, List.length_set, r.len]
  sub := r.sub
  g0 := r.g0
  pu := fun j e q => by
    have hl : i < σ.length := by rw [r.len]; exact free_lt hf
    replace q := get_set q; rcases q with ⟨rfl, q⟩ | ⟨n, q⟩
    · cases q; exact ⟨v, List.getElem?_set_self hl, h⟩
    · rw [List.getElem?_set_ne n]; exact r.pu j e q
  ow := fun j b ds q => by
    replace q := get_set q; rcases q with ⟨rfl, q⟩ | ⟨n, q⟩
    · cases q
    · rw [List.getElem?_set_ne n]; exact r.ow j b ds q
  ap := fun j k b c ds es a q1 q2 q3 q4 => by
    replace q1 := get_set q1; rcases q1 with ⟨rfl, q1⟩ | ⟨n, q1⟩
    · cases q1
    replace q2 := get_set q2; rcases q2 with ⟨rfl, q2⟩ | ⟨m, q2⟩
    · cases q2
    rw [List.getElem?_set_ne n] at q3
    rw [List.getElem?_set_ne m] at q4
    exact r.ap j k b c ds es a q1 q2 q3 q4
  par := fun j a q => by
    obtain ⟨ds, e, hs⟩ := r.par j a q
    have n : i ≠ j := fun z => by subst z; exact free_no hf hs.1 e
    exact ⟨ds, by rw [List.getElem?_set_ne n]; exact e, hs⟩
  fr := r.fr
  nw := r.nw
  vx := fun j x q => by
    replace q := get_set q; rcases q with ⟨rfl, q⟩ | ⟨n, q⟩
    · cases q
    · rw [List.getElem?_set_ne n]; exact r.vx j x q
  od := fun j kvs q => by
    replace q := get_set q; rcases q with ⟨rfl, q⟩ | ⟨n, q⟩
    · cases q
    · exact (r.od j kvs q).keep (List.getElem?_set_ne n) (Same.refl _) fun a o e1 _ e2 => ⟨e1, e2⟩
  oa := fun j k kvs kws a q1 q2 q3 q4 => by
    replace q1 := get_set q1; rcases q1 with ⟨rfl, q1⟩ | ⟨n, q1⟩
    · cases q1
    replace q2 := get_set q2; rcases q2 with ⟨rfl, q2⟩ | ⟨m, q2⟩
    · cases q2
    rw [List.getElem?_set_ne n] at q3
    rw [List.getElem?_set_ne m] at q4
    exact r.oa j k kvs kws a q1 q2 q3 q4
/-- a slot takes a new list as its own -/
theorem Rel.setO (r : Rel K F ς G σ H) {i : Nat} {v : V} {ds : List D} (hf : free ς i = true) (h : RepR K F ς G σ H (.fresh ds) v) : Rel K F (ς.set i (some (.own false ds))) G (σ.set i (some v)) H := by
  obtain ⟨a, vs, rfl, h1, h2, h3, h4, h5⟩ := h
  have hl : i < σ.length := by rw [r.len]; exact free_lt hf
  refine ⟨by rw [List.length_set, List.length_set, r.len], r.sub, r.g0, ?_, ?_, ?_, ?_, r.fr, r.nw, fun j x q => by
    replace q := get_set q; rcases q with ⟨rfl, q⟩ | ⟨n, q⟩
    · cases q
    · rw [List.getElem?_set_ne n]; exact r.vx j x q, fun j kvs q => by
    replace q := get_set q; rcases q with ⟨rfl, q⟩ | ⟨n, q⟩
    · cases q
    · exact (r.od j kvs q).keep (List.getElem?_set_ne n) (Same.refl _) fun a o e1 _ e2 => ⟨e1, e2⟩, fun j k kvs kws a q1 q2 q3 q4 => by
    replace q1 := get_set q1; rcases q1 with ⟨rfl, q1⟩ | ⟨n, q1⟩
    · cases q1
    replace q2 := get_set q2; rcases q2 with ⟨rfl, q2⟩ | ⟨m, q2⟩
    · cases q2
    rw [List.getElem?_set_ne n] at q3
    rw [List.getElem?_set_ne m] at q4
    exact r.oa j k kvs kws a q1 q2 q3 q4⟩
  · intro j e q
    replace q := get_set q; rcases q with ⟨rfl, q⟩ | ⟨n, q⟩
    · cases q
    · rw [List.getElem?_set_ne n]; exact r.pu j e q
  · intro j b es q
    replace q := get_set q; rcases q with ⟨rfl, q⟩ | ⟨n, q⟩
    · cases q
      exact ⟨a, vs, List.getElem?_set_self hl, h1, h2, h3, (fun z => by cases z), fun _ => h4⟩
    · rw [List.getElem?_set_ne n]; exact r.ow j b es q
  · intro j k b c es fs a' q1 q2 q3 q4
    replace q1 := get_set q1; rcases q1 with ⟨rfl, q1⟩ | ⟨n, q1⟩
    · replace q2 := get_set q2; rcases q2 with ⟨rfl, q2⟩ | ⟨m, q2⟩
      · rfl
      · rw [List.getElem?_set_self hl] at q3; cases q3
        rw [List.getElem?_set_ne m] at q4
        exact absurd q4 (h5 k c fs q2)
    · replace q2 := get_set q2; rcases q2 with ⟨rfl, q2⟩ | ⟨m, q2⟩
      · rw [List.getElem?_set_self hl] at q4; cases q4
        rw [List.getElem?_set_ne n] at q3
        exact absurd q3 (h5 j b es q1)
      · rw [List.getElem?_set_ne n] at q3
        rw [List.getElem?_set_ne m] at q4
        exact r.ap j k b c es fs a' q1 q2 q3 q4
  · intro j a' q
    obtain ⟨es, e, hs⟩ := r.par j a' q
    have n : i ≠ j := fun z => by subst z; exact free_no hf hs.1 e
    exact ⟨es, by rw [List.getElem?_set_ne n]; exact e, hs⟩
/-- a slot is forgotten -/
theorem Rel.setN (r : Rel K F ς G σ H) {i : Nat} {o : Option V} (hf : free ς i = true) : Rel K F (ς.set i none) G (σ.set i o) H where
  len := by rw [List.length_set, List.length_set, r.len]
  sub := r.sub
  g0 := r.g0
  pu := fun j e q => by
    replace q := get_set q; rcases q with ⟨rfl, q⟩ | ⟨n, q⟩
    · cases q
    · rw [List.getElem?_set_ne n]; exact r.pu j e q
  ow := fun j b ds q => by
    replace q := get_set q; rcases q with ⟨rfl, q⟩ | ⟨n, q⟩
    · cases q
    · rw [List.getElem?_set_ne n]; exact r.ow j b ds q
  ap := fun j k b c ds es a q1 q2 q3 q4 => by
    replace q1 := get_set q1; rcases q1 with ⟨rfl, q1⟩ | ⟨n, q1⟩
    · cases q1
    replace q2 := get_set q2; rcases q2 with ⟨rfl, q2⟩ | ⟨m, q2⟩
    · cases q2
    rw [List.getElem?_set_ne n] at q3
    rw [List.getElem?_set_ne m] at q4
    exact r.ap j k b c ds es a q1 q2 q3 q4
  par := fun j a q => by
    obtain ⟨ds, e, hs⟩ := r.par j a q
    have n : i ≠ j := fun z => by subst z; exact free_no hf hs.1 e
    exact ⟨ds, by rw [List.getElem?_set_ne n]; exact e, hs⟩
  fr := r.fr
  nw := r.nw
  vx := fun j x q => by
    replace q := get_set q; rcases q with ⟨rfl, q⟩ | ⟨n, q⟩
    · cases q
    · rw [List.getElem?_set_ne n]; exact r.vx j x q
  od := fun j kvs q => by
    replace q := get_set q; rcases q with ⟨rfl, q⟩ | ⟨n, q⟩
    · cases q
    · exact (r.od j kvs q).keep (List.getElem?_set_ne n) (Same.refl _) fun a o e1 _ e2 => ⟨e1, e2⟩
  oa := fun j k kvs kws a q1 q2 q3 q4 => by
    replace q1 := get_set q1; rcases q1 with ⟨rfl, q1⟩ | ⟨n, q1⟩
    · cases q1
    replace q2 := get_set q2; rcases q2 with ⟨rfl, q2⟩ | ⟨m, q2⟩
    · cases q2
    rw [List.getElem?_set_ne n] at q3
    rw [List.getElem?_set_ne m] at q4
    exact r.oa j k kvs kws a q1 q2 q3 q4
/-- an own list is changed -/
theorem Rel.mut (r : Rel K F ς G σ H) {i : Nat} {b : Bool} {ds : List D} {a : Addr} {ws : List V} {es : List D} (hi : ς[i]? = some (some (.own b ds))) (ha : σ[i]? = some (some (.ref a))) (h : DpAll K G ws es) :
    Rel K F (ς.set i (some (.own b es))) G σ (upd H a (.lst ws)) := by
  obtain ⟨a', vs, e1, e2, e3, e4, e5, e6⟩ := r.ow i b ds hi
  rw [ha] at e1; cases e1
  have il : i < ς.length := (List.getElem?_eq_some_iff.mp hi).1
  refine ⟨by rw [List.length_set, r.len], ?_, r.g0, ?_, ?_, ?_, ?_, ?_, r.nw, fun j x q => by
    replace q := get_set q; rcases q with ⟨rfl, q⟩ | ⟨n, q⟩
    · cases q
    · exact r.vx j x q, fun j kvs q => by
    replace q := get_set q; rcases q with ⟨rfl, q⟩ | ⟨n, q⟩
    · cases q
    · exact (r.od j kvs q).keep rfl (Same.refl _) fun c o k1 nl k2 => by
        have ne : c ≠ a := fun z => by subst z; rw [e2] at k1; cases k1; exact (nl _).1 rfl
        exact ⟨by rw [upd_ne ne]; exact k1, k2⟩, fun j k kvs kws x q1 q2 q3 q4 => by
    replace q1 := get_set q1; rcases q1 with ⟨rfl, q1⟩ | ⟨n, q1⟩
    · cases q1
    replace q2 := get_set q2; rcases q2 with ⟨rfl, q2⟩ | ⟨m, q2⟩
    · cases q2
    exact r.oa j k kvs kws x q1 q2 q3 q4⟩
  · intro c o q
    have : c ≠ a := ne_of_none q e3
    rw [upd_ne this]; exact r.sub _ _ q
  · intro j d q
    replace q := get_set q; rcases q with ⟨rfl, q⟩ | ⟨n, q⟩
    · cases q
    · exact r.pu j d q
  · intro j c fs q
    replace q := get_set q; rcases q with ⟨rfl, q⟩ | ⟨n, q⟩
    · cases q
      exact ⟨a, ws, ha, upd_same, e3, h, e5, e6⟩
    · obtain ⟨x, xs, f1, f2, f3, f4, f5⟩ := r.ow j c fs q
      have ne : x ≠ a := fun z => by subst z; exact n (r.ap i j b c ds fs x hi q ha f1)
      exact ⟨x, xs, f1, by rw [upd_ne ne]; exact f2, f3, f4, f5⟩
  · intro j k c d fs gs x q1 q2 q3 q4
    replace q1 := get_set q1; rcases q1 with ⟨rfl, q1⟩ | ⟨n, q1⟩
    · replace q2 := get_set q2; rcases q2 with ⟨rfl, q2⟩ | ⟨m, q2⟩
      · rfl
      · exact r.ap i k b d ds gs x hi q2 q3 q4
    · replace q2 := get_set q2; rcases q2 with ⟨rfl, q2⟩ | ⟨m, q2⟩
      · exact r.ap j i c b fs ds x q1 hi q3 q4
      · exact r.ap j k c d fs gs x q1 q2 q3 q4
  · intro j x q
    by_cases e : i = j
    · subst e
      obtain ⟨fs, q2, hs⟩ := r.par i x q
      rw [hi] at q2
      cases q2
      exact ⟨_, List.getElem?_set_self il, hs⟩
    · rw [List.getElem?_set_ne e]; exact r.par j x q
  · cases b with
    | true => exact r.fr.mut (e5 rfl) e2 fun ps z => by cases z
    | false => exact r.fr.touch (e6 rfl)
/-- an own list becomes a datum -/
theorem Rel.frzO (r : Rel K F ς G σ H) {i : Nat} {ds : List D} (hi : ς[i]? = some (some (.own false ds))) :
    ∃ G' v, Rel K F (ς.set i (some (.pure (.list ds)))) G' σ H ∧ Same G G' ∧ σ[i]? = some (some v) ∧ Dp K G' v (.list ds) := by
  obtain ⟨a, vs, e1, e2, e3, e4, e5, e6⟩ := r.ow i false ds hi
  have hdp : Dp K (upd G a (.lst vs)) (.ref a) (.list ds) := .lst (.inl (.inl upd_same)) (dpa_same (same_upd e3) e4)
  refine ⟨upd G a (.lst vs), .ref a, ⟨by rw [List.length_set, r.len], ?_, r.g0.trans (same_upd e3), ?_, ?_, ?_, ?_, r.fr.grow e3 (fun ps z => by rw [e2] at z; cases z), ?_, fun j x q => by
    replace q := get_set q; rcases q with ⟨rfl, q⟩ | ⟨n, q⟩
    · cases q
    · obtain ⟨u, f1, f2⟩ := r.vx j x q
      exact ⟨u, f1, xp_same (same_upd e3) f2⟩, fun j kvs q => by
    replace q := get_set q; rcases q with ⟨rfl, q⟩ | ⟨n, q⟩
    · cases q
    · exact (r.od j kvs q).keep rfl (same_upd e3) fun c o k1 nl k2 => by
        have ne : c ≠ a := fun z => by subst z; rw [e2] at k1; cases k1; exact (nl _).1 rfl
        exact ⟨k1, by rw [upd_ne ne]; exact k2⟩, fun j k kvs kws x q1 q2 q3 q4 => by
    replace q1 := get_set q1; rcases q1 with ⟨rfl, q1⟩ | ⟨n, q1⟩
    · cases q1
    replace q2 := get_set q2; rcases q2 with ⟨rfl, q2⟩ | ⟨m, q2⟩
    · cases q2
    exact r.oa j k kvs kws x q1 q2 q3 q4⟩, same_upd e3, e1, hdp⟩
  · intro b x e
    by_cases hb : b = a
    · subst hb; rw [upd_same] at e; rw [e2, e]
    · rw [upd_ne hb] at e; exact r.sub _ _ e
  · intro j d q
    replace q := get_set q; rcases q with ⟨rfl, q⟩ | ⟨n, q⟩
    · cases q; exact ⟨_, e1, hdp⟩
    · obtain ⟨v, f1, f2⟩ := r.pu j d q
      exact ⟨v, f1, dp_same (same_upd e3) f2⟩
  · intro j c fs q
    replace q := get_set q; rcases q with ⟨rfl, q⟩ | ⟨n, q⟩
    · cases q
    · obtain ⟨x, xs, f1, f2, f3, f4, f5⟩ := r.ow j c fs q
      have ne : x ≠ a := fun z => by subst z; exact n (r.ap i j false c ds fs x hi q e1 f1)
      exact ⟨x, xs, f1, f2, by rw [upd_ne ne]; exact f3, dpa_same (same_upd e3) f4, f5⟩
  · intro j k c d fs gs x q1 q2 q3 q4
    replace q1 := get_set q1; rcases q1 with ⟨rfl, q1⟩ | ⟨n, q1⟩
    · cases q1
    · replace q2 := get_set q2; rcases q2 with ⟨rfl, q2⟩ | ⟨m, q2⟩
      · cases q2
      · exact r.ap j k c d fs gs x q1 q2 q3 q4
  · intro j x q
    obtain ⟨fs, q2, hs⟩ := r.par j x q
    have n : i ≠ j := fun z => by subst z; rw [hi] at q2; cases q2; cases hs.1
    exact ⟨fs, by rw [List.getElem?_set_ne n]; exact q2, hs⟩
  · intro c e
    by_cases hc : c = a
    · subst hc; exact .inr (.inl (e6 rfl))
    · rw [upd_ne hc] at e; exact r.nw c e
/-- a slot takes a value that is no datum -/
theorem Rel.setX (r : Rel K F ς G σ H) {i : Nat} {v : V} {x : XD} (hf : free ς i = true) (h : Xp K G v x) (hx : ∀ kvs, x ≠ .odc kvs) : Rel K F (ς.set i (some (.vx x))) G (σ.set i (some v)) H := by
  have r1 := r.setN (o := some v) hf
  have hl : i < σ.length := by rw [r.len]; exact free_lt hf
  have old : ∀ (j : Nat) (s : S), (∀ y, s ≠ .vx y) → (ς.set i (some (.vx x)))[j]? = some (some s) → (ς.set i none)[j]? = some (some s) := fun j s ns q => by
    replace q := get_set q; rcases q with ⟨rfl, q⟩ | ⟨n, q⟩
    · cases q; exact absurd rfl (ns x)
    · rw [List.getElem?_set_ne n]; exact q
  have no1 : ∀ d y, S.pure d ≠ .vx y := fun d y z => by cases z
  have no2 : ∀ b ds y, S.own b ds ≠ .vx y := fun b ds y z => by cases z
  refine ⟨by rw [List.length_set, List.length_set, r.len], r.sub, r.g0, fun j d q => r1.pu j d (old j _ (no1 d) q), fun j b ds q => r1.ow j b ds (old j _ (no2 b ds) q), fun j k b c ds es a q1 q2 => r1.ap j k b c ds es a (old j _ (no2 b ds) q1) (old k _ (no2 c es) q2), fun j a q => ?_, r.fr, r.nw, fun j y q => ?_, fun j kvs q => ?_, fun j k kvs kws a q1 q2 q3 q4 => ?_⟩
  · obtain ⟨ds, e, hs⟩ := r.par j a q
    have n : i ≠ j := fun z => by subst z; exact free_no hf hs.1 e
    exact ⟨ds, by rw [List.getElem?_set_ne n]; exact e, hs⟩
  · replace q := get_set q; rcases q with ⟨rfl, q⟩ | ⟨n, q⟩
    · cases q; exact ⟨v, List.getElem?_set_self hl, h⟩
    · rw [List.getElem?_set_ne n]; exact r.vx j y q
  · replace q := get_set q; rcases q with ⟨rfl, q⟩ | ⟨n, q⟩
    · cases q; exact absurd rfl (hx kvs)
    · exact (r.od j kvs q).keep (List.getElem?_set_ne n) (Same.refl _) fun a o e1 _ e2 => ⟨e1, e2⟩
  · replace q1 := get_set q1; rcases q1 with ⟨rfl, q1⟩ | ⟨n, q1⟩
    · cases q1; exact absurd rfl (hx kvs)
    replace q2 := get_set q2; rcases q2 with ⟨rfl, q2⟩ | ⟨m, q2⟩
    · cases q2; exact absurd rfl (hx kws)
    rw [List.getElem?_set_ne n] at q3
    rw [List.getElem?_set_ne m] at q4
    exact r.oa j k kvs kws a q1 q2 q3 q4
/-- a slot takes a new dict as its own -/
theorem Rel.setD (r : Rel K F ς G σ H) {i : Nat} {a : Addr} {o : HO} {kvs : List (D × D)} (hf : free ς i = true) (h1 : H a = some o) (h2 : DcAt K G o kvs) (h3 : G a = none) (h4 : F.H0 a = none) (hp : parO kvs = false) (h5 : ∀ (j : Nat) kws, ς[j]? = some (some (.vx (.odc kws))) → σ[j]? ≠ some (some (.ref a))) :
    Rel K F (ς.set i (some (.vx (.odc kvs)))) G (σ.set i (some (.ref a))) H := by
  have r1 := r.setN (o := some (.ref a)) hf
  have hl : i < σ.length := by rw [r.len]; exact free_lt hf
  have old : ∀ (j : Nat) (s : S), (∀ y, s ≠ .vx y) → (ς.set i (some (.vx (.odc kvs))))[j]? = some (some s) → (ς.set i none)[j]? = some (some s) := fun j s ns q => by
    replace q := get_set q; rcases q with ⟨rfl, q⟩ | ⟨n, q⟩
    · cases q; exact absurd rfl (ns _)
    · rw [List.getElem?_set_ne n]; exact q
  have no1 : ∀ d y, S.pure d ≠ .vx y := fun d y z => by cases z
  have no2 : ∀ b ds y, S.own b ds ≠ .vx y := fun b ds y z => by cases z
  refine ⟨by rw [List.length_set, List.length_set, r.len], r.sub, r.g0, fun j d q => r1.pu j d (old j _ (no1 d) q), fun j b ds q => r1.ow j b ds (old j _ (no2 b ds) q), fun j k b c ds es a q1 q2 => r1.ap j k b c ds es a (old j _ (no2 b ds) q1) (old k _ (no2 c es) q2), fun j a q => ?_, r.fr, r.nw, fun j y q => ?_, fun j kws q => ?_, fun j k kws kxs c q1 q2 q3 q4 => ?_⟩
  · obtain ⟨ds, e, hs⟩ := r.par j a q
    have n : i ≠ j := fun z => by subst z; exact free_no hf hs.1 e
    exact ⟨ds, by rw [List.getElem?_set_ne n]; exact e, hs⟩
  · replace q := get_set q; rcases q with ⟨rfl, q⟩ | ⟨n, q⟩
    · cases q; exact ⟨_, List.getElem?_set_self hl, trivial⟩
    · rw [List.getElem?_set_ne n]; exact r.vx j y q
  · replace q := get_set q; rcases q with ⟨rfl, q⟩ | ⟨n, q⟩
    · cases q; exact ⟨a, o, List.getElem?_set_self hl, h1, h2, h3, by rw [hp]; exact .new h4⟩
    · exact (r.od j kws q).keep (List.getElem?_set_ne n) (Same.refl _) fun a o e1 _ e2 => ⟨e1, e2⟩
  · replace q1 := get_set q1; rcases q1 with ⟨rfl, q1⟩ | ⟨n, q1⟩
    · replace q2 := get_set q2; rcases q2 with ⟨rfl, q2⟩ | ⟨m, q2⟩
      · rfl
      · rw [List.getElem?_set_self hl] at q3; cases q3
        rw [List.getElem?_set_ne m] at q4
        exact absurd q4 (h5 k kxs q2)
    · replace q2 := get_set q2; rcases q2 with ⟨rfl, q2⟩ | ⟨m, q2⟩
      · rw [List.getElem?_set_self hl] at q4; cases q4
        rw [List.getElem?_set_ne n] at q3
        exact absurd q3 (h5 j kws q1)
      · rw [List.getElem?_set_ne n] at q3
        rw [List.getElem?_set_ne m] at q4
        exact r.oa j k kws kxs c q1 q2 q3 q4
/-- an own dict is frozen -/
theorem Rel.frzD (r : Rel K F ς G σ H) {i : Nat} {kvs : List (D × D)} (hp : parO kvs = false) (hi : ς[i]? = some (some (.vx (.odc kvs)))) :
    ∃ G' a, Rel K F (ς.set i (some (.pure (.dict kvs)))) G' σ H ∧ Same G G' ∧ σ[i]? = some (some (.ref a)) ∧ Dp K G' (.ref a) (.dict kvs) := by
  obtain ⟨a, o, e1, e2, e3, e4, e5⟩ := r.od i kvs hi
  have hxp : Dp K (upd G a o) (.ref a) (.dict kvs) := DcAt.dp upd_same (dc_same (same_upd e4) e3)
  refine ⟨upd G a o, a, ⟨by rw [List.length_set, r.len], ?_, r.g0.trans (same_upd e4), ?_, ?_, ?_, ?_, r.fr.grow e4 (fun ps z => by rw [e2] at z; cases z; exact DcAt.tbl e3), ?_, fun j x q => ?_, fun j kws q => ?_, fun j k kxs kys c q1 q2 q3 q4 => ?_⟩, same_upd e4, e1, hxp⟩
  · intro b x e
    by_cases hb : b = a
    · subst hb; rw [upd_same] at e; rw [e2, e]
    · rw [upd_ne hb] at e; exact r.sub _ _ e
  · intro j d q
    replace q := get_set q; rcases q with ⟨rfl, q⟩ | ⟨n, q⟩
    · cases q; exact ⟨_, e1, hxp⟩
    · obtain ⟨v, f1, f2⟩ := r.pu j d q
      exact ⟨v, f1, dp_same (same_upd e4) f2⟩
  · intro j c fs q
    replace q := get_set q; rcases q with ⟨rfl, q⟩ | ⟨n, q⟩
    · cases q
    · obtain ⟨x, xs, f1, f2, f3, f4, f5⟩ := r.ow j c fs q
      have ne : x ≠ a := fun z => by subst z; rw [e2] at f2; cases f2; exact DcAt.lst e3
      exact ⟨x, xs, f1, f2, by rw [upd_ne ne]; exact f3, dpa_same (same_upd e4) f4, f5⟩
  · intro j k c d fs gs x q1 q2 q3 q4
    replace q1 := get_set q1; rcases q1 with ⟨rfl, q1⟩ | ⟨n, q1⟩
    · cases q1
    replace q2 := get_set q2; rcases q2 with ⟨rfl, q2⟩ | ⟨m, q2⟩
    · cases q2
    exact r.ap j k c d fs gs x q1 q2 q3 q4
  · intro j x q
    obtain ⟨fs, q2, hs⟩ := r.par j x q
    have n : i ≠ j := fun z => by subst z; rw [hi] at q2; cases q2; have hs := hs.1; rw [show sPar (.vx (.odc kvs)) = parO kvs from rfl, hp] at hs; cases hs
    exact ⟨fs, by rw [List.getElem?_set_ne n]; exact q2, hs⟩
  · intro c e
    by_cases hc : c = a
    · subst hc; exact .inr (.inl (e5.1 hp))
    · rw [upd_ne hc] at e; exact r.nw c e
  · replace q := get_set q; rcases q with ⟨rfl, q⟩ | ⟨n, q⟩
    · cases q
    · obtain ⟨u, f1, f2⟩ := r.vx j x q
      exact ⟨u, f1, xp_same (same_upd e4) f2⟩
  · replace q := get_set q; rcases q with ⟨rfl, q⟩ | ⟨n, q⟩
    · cases q
    · obtain ⟨b, ob, f1, f2, f3, f4, f5⟩ := r.od j kws q
      have ne : b ≠ a := fun z => by subst z; exact n (r.oa i j kvs kws b hi q e1 f1)
      exact ⟨b, ob, f1, f2, dc_same (same_upd e4) f3, by rw [upd_ne ne]; exact f4, f5⟩
  · replace q1 := get_set q1; rcases q1 with ⟨rfl, q1⟩ | ⟨n, q1⟩
    · cases q1
    replace q2 := get_set q2; rcases q2 with ⟨rfl, q2⟩ | ⟨m, q2⟩
    · cases q2
    exact r.oa j k kxs kys c q1 q2 q3 q4
end
/-! ### readings -/
def toD : R → M D
  | .pure d => fun ς => some (d, ς)
  | .fresh ds => fun ς => some (.list ds, ς)
  | .ref i => fun ς => match ς[i]? with
    | some (some (.own false ds)) => some (.list ds, ς.set i (some (.pure (.list ds))))
    | some (some (.pure d)) => some (d, ς)
    | some (some (.vx (.odc kvs))) => if parO kvs = true then none else some (.dict kvs, ς.set i (some (.pure (.dict kvs))))
    | _ => none
  | .vx (.odc kvs) => fun ς => some (.dict kvs, ς)
  | .vx (.exc _ _) => fun _ => none
def rdD : R → En → Option D
  | .vx _, _ => none
  | .pure d, _ => some d
  | .fresh ds, _ => some (.list ds)
  | .ref i, ς => match ς[i]? with
    | some (some (.own _ ds)) => some (.list ds)
    | some (some (.pure d)) => some d
    | _ => none
/-- what may be read at v: a datum, or a list whose items are data -/
def RdV (K : PySem.W.Frag) (G H : Hp) (v : V) (d : D) : Prop :=
  Dp K G v d ∨ ∃ a vs ds, v = .ref a ∧ d = .list ds ∧ H a = some (.lst vs) ∧ DpAll K G vs ds
section
variable {K : PySem.W.Frag} {F : Fx} {ς ς' : En} {G H : Hp} {σ : L2.St}
theorem toD_ok (r : Rel K F ς G σ H) {x : R} {v : V} {d : D} (h : RepR K F ς G σ H x v) (e : toD x ς = some (d, ς')) : ∃ G', Rel K F ς' G' σ H ∧ Same G G' ∧ Dp K G' v d := by
  cases x with
  | pure d' => cases e; exact ⟨G, r, Same.refl _, h⟩
  | vx x =>
    cases x with
    | exc nm d => cases e
    | odc kvs => cases e; exact r.frzFD h
  | fresh ds => cases e; exact r.frzF h
  | ref i =>
    unfold toD at e
    simp only at e
    split at e
    · rename_i ds q
      cases e
      obtain ⟨G', w, h1, h2, h3, h4⟩ := r.frzO q
      rw [show σ[i]? = some (some v) from h] at h3
      cases h3
      exact ⟨G', h1, h2, h4⟩
    · rename_i d' q
      cases e
      obtain ⟨w, h1, h2⟩ := r.pu i _ q
      rw [show σ[i]? = some (some v) from h] at h1
      cases h1
      exact ⟨G, r, Same.refl _, h2⟩
    · rename_i kvs q
      split at e
      · cases e
      rename_i hob
      cases e
      obtain ⟨G', a, h1, h2, h3, h4⟩ := r.frzD (Bool.eq_false_iff.2 hob) q
      rw [show σ[i]? = some (some v) from h] at h3
      cases h3
      exact ⟨G', h1, h2, h4⟩
    · cases e
theorem rdD_ok (r : Rel K F ς G σ H) {x : R} {v : V} {d : D} (h : RepR K F ς G σ H x v) (e : rdD x ς = some d) : RdV K G H v d := by
  cases x with
  | pure d' => cases e; exact .inl h
  | fresh ds =>
    cases e
    obtain ⟨a, vs, rfl, h1, h2, h3, _⟩ := h
    exact .inr ⟨a, vs, ds, rfl, rfl, h1, h3⟩
  | vx x => cases e
  | ref i =>
    unfold rdD at e
    simp only at e
    split at e
    · rename_i b ds q
      cases e
      obtain ⟨a, vs, e1, e2, e3, e4, _⟩ := r.ow i _ _ q
      rw [show σ[i]? = some (some v) from h] at e1
      cases e1
      exact .inr ⟨a, vs, ds, rfl, rfl, e2, e4⟩
    · rename_i d' q
      cases e
      obtain ⟨w, h1, h2⟩ := r.pu i _ q
      rw [show σ[i]? = some (some v) from h] at h1
      cases h1
      exact .inl h2
    · cases e
theorem RdV.dp (r : Same G H) {v : V} {d : D} (h : RdV K G H v d) : Dp K H v d := by
  rcases h with h | ⟨a, vs, ds, rfl, rfl, h1, h2⟩
  · exact dp_same r h
  · exact .lst (.inl (.inl h1)) (dpa_same r h2)
theorem RdV.list (r : Same G H) {v : V} {ds : List D} (h : RdV K G H v (.list ds)) : ∃ a vs, v = .ref a ∧ SqL K H a vs ∧ DpAll K G vs ds := by
  rcases h with h | ⟨a, vs, ds', rfl, e, h1, h2⟩
  · obtain ⟨a, vs, rfl, h1, h2⟩ := dp_list h
    exact ⟨a, vs, rfl, r.seq h1, h2⟩
  · cases e; exact ⟨a, vs, rfl, .inl (.inl h1), h2⟩
theorem RdV.tuple (r : Same G H) {v : V} {ds : List D} (h : RdV K G H v (.tuple ds)) : ∃ a vs, v = .ref a ∧ SqT K H a vs ∧ DpAll K G vs ds := by
  rcases h with h | ⟨a, vs, ds', rfl, e, h1, h2⟩
  · obtain ⟨a, vs, rfl, h1, h2⟩ := dp_tuple h
    exact ⟨a, vs, rfl, same_seqT r h1, h2⟩
  · cases e
theorem RdV.int {v : V} {i : Int} (h : RdV K G H v (.int i)) : v = .int i := by
  rcases h with h | ⟨a, vs, ds', rfl, e, h1, h2⟩
  · exact dp_int h
  · cases e
theorem RdV.str {v : V} {i : Str} (h : RdV K G H v (.str i)) : v = .str i := by
  rcases h with h | ⟨a, vs, ds', rfl, e, h1, h2⟩
  · exact dp_str h
  · cases e
theorem RdV.bool {v : V} {i : Bool} (h : RdV K G H v (.bool i)) : v = .bl i := by
  rcases h with h | ⟨a, vs, ds', rfl, e, h1, h2⟩
  · exact dp_bool h
  · cases e
theorem RdV.none {v : V} (h : RdV K G H v .none) : v = .non := by
  rcases h with h | ⟨a, vs, ds', rfl, e, h1, h2⟩
  · exact dp_none h
  · cases e
/-- what stays readable while data grow: a datum, or a slot -/
def R.kp : R → Prop
  | .fresh _ => False
  | .vx (.odc _) => False
  | _ => True
theorem rep_keep {G' H' : Hp} {x : R} {v : V} (h : RepR K F ς G σ H x v) (hx : x.kp) (e : Same G G') : RepR K F ς' G' σ H' x v := by
  cases x with
  | pure d => exact dp_same e h
  | ref i => exact h
  | fresh ds => exact hx.elim
  | vx x =>
    cases x with
    | exc nm d => exact xp_same (x := .exc nm d) e h
    | odc kvs => exact hx.elim
end
end Lw
namespace Lw
open PySem PySem.Spec PyProof.Rows L2
/-! ### programs over the state -/
def ret {α : Type} (a : α) : M α := fun ς => some (a, ς)
def bd {α β : Type} (f : M α) (g : α → M β) : M β := fun ς => match f ς with
  | some (a, ς') => g a ς'
  | none => none
def lift {α : Type} (o : Option α) : M α := fun ς => match o with
  | some a => some (a, ς)
  | none => none
def rd (r : R) : M D := fun ς => match rdD r ς with
  | some d => some (d, ς)
  | none => none
def sub (f : M R) : M R := bd f fun r => match r with
  | .fresh ds => ret (.pure (.list ds))
  | .vx (.odc kvs) => ret (.pure (.dict kvs))
  | r => ret r
def esc (f : M R) : M D := bd f toD
theorem bd_some {α β : Type} {f : M α} {g : α → M β} {ς : En} {x : β × En} (h : bd f g ς = some x) : ∃ a ς1, f ς = some (a, ς1) ∧ g a ς1 = some x := by
  unfold bd at h
  split at h
  · rename_i a ς1 e; exact ⟨a, ς1, e, h⟩
  · cases h
theorem lift_some {α : Type} {o : Option α} {ς ς' : En} {x : α} (h : lift o ς = some (x, ς')) : o = some x ∧ ς' = ς := by
  unfold lift at h
  split at h
  · cases h; exact ⟨rfl, rfl⟩
  · cases h
theorem rd_some {r : R} {ς ς' : En} {x : D} (h : rd r ς = some (x, ς')) : rdD r ς = some x ∧ ς' = ς := by
  unfold rd at h
  split at h
  · rename_i d e; cases h; exact ⟨e, rfl⟩
  · cases h
theorem sub_nf {f : M R} {ς ς' : En} {r : R} (h : sub f ς = some (r, ς')) : r.kp := by
  obtain ⟨a, ς1, _, h⟩ := bd_some h
  cases a with
  | vx x => cases x <;> cases h <;> trivial
  | _ => cases h; trivial
/-! ### readings by such programs -/
section
variable (K : PySem.W.Frag) (F : Fx)
def tEv (f : M R) : TE := fun σ H Q => ∃ ς G, Rel K F ς G σ H ∧ ∃ r ς', f ς = some (r, ς') ∧ ∀ v H' G', Rel K F ς' G' σ H' → Same G G' → RepR K F ς' G' σ H' r v → Q v H'
def tEvD (f : M D) : TE := fun σ H Q => ∃ ς G, Rel K F ς G σ H ∧ ∃ d ς', f ς = some (d, ς') ∧ ∀ v H' G', Rel K F ς' G' σ H' → Same G G' → Dp K G' v d → Q v H'
def tEvT (f : M Bool) : TT := fun σ H Q => ∃ ς G, Rel K F ς G σ H ∧ ∃ b ς', f ς = some (b, ς') ∧ ∀ H' G', Rel K F ς' G' σ H' → Same G G' → Q b H'
inductive Ar where
  | val (d : D)
  | ref (i : Nat)
def RepAr (G : Hp) (σ : L2.St) : Ar → V → Prop
  | .val d, v => Dp K G v d
  | .ref i, v => σ[i]? = some (some v)
def tEvA (f : M (List Ar)) : TA := fun σ H Q => ∃ ς G, Rel K F ς G σ H ∧ ∃ as ς', f ς = some (as, ς') ∧ ∀ vs H' G', Rel K F ς' G' σ H' → Same G G' → Paired (RepAr K G' σ) as vs → Q vs H'
end
theorem _root_.L2.PE.mono {X : Cx} {e : Expr} {t t' : TE} (h : PE X e t) (k : ∀ σ H Q, t' σ H Q → t σ H Q) : PE X e t' := ⟨fun pins s σ H Q I hw => h.run pins s σ H Q I (k σ H Q hw)⟩
theorem _root_.L2.PT.mono {X : Cx} {e : Expr} {t t' : TT} (h : PT X e t) (k : ∀ σ H Q, t' σ H Q → t σ H Q) : PT X e t' := ⟨fun pins s σ H Q I hw => h.run pins s σ H Q I (k σ H Q hw)⟩
theorem _root_.L2.PW.mono {X : Cx} {e : Expr} {t t' : TT} (h : PW X e t) (k : ∀ σ H Q, t' σ H Q → t σ H Q) : PW X e t' := ⟨fun w pins s σ H Q I hw => h.run w pins s σ H Q I (k σ H Q hw)⟩
theorem _root_.L2.PA.mono {X : Cx} {e : List Expr} {t t' : TA} (h : PA X e t) (k : ∀ σ H Q, t' σ H Q → t σ H Q) : PA X e t' := ⟨fun p pins s σ H Q I hw => h.run p pins s σ H Q I (k σ H Q hw)⟩
theorem _root_.L2.PS.mono {X : Cx} {e : Stmt} {t t' : TS} (h : PS X e t) (k : ∀ D σ H, t' D σ H → t D σ H) : PS X e t' := ⟨fun pins s σ H D I hw => h.run pins s σ H D I (k D σ H hw)⟩
theorem _root_.L2.PSs.mono {X : Cx} {e : List Stmt} {t t' : TS} (h : PSs X e t) (k : ∀ D σ H, t' D σ H → t D σ H) : PSs X e t' := ⟨fun pins s σ H D I hw => h.run pins s σ H D I (k D σ H hw)⟩
abbrev PEd (X : Cx) (e : Expr) (f : M R) : Prop := ∀ F : Fx, PE X e (tEv X.K F f)
abbrev PDd (X : Cx) (e : Expr) (f : M D) : Prop := ∀ F : Fx, PE X e (tEvD X.K F f)
abbrev PTd (X : Cx) (e : Expr) (f : M Bool) : Prop := ∀ F : Fx, PT X e (tEvT X.K F f)
abbrev PWd (X : Cx) (e : Expr) (f : M Bool) : Prop := ∀ F : Fx, PW X e (tEvT X.K F f)
abbrev PAd (X : Cx) (es : List Expr) (f : M (List Ar)) : Prop := ∀ F : Fx, PA X es (tEvA X.K F f)
section
variable {X : Cx} {F : Fx} {a b c e : Expr} {es : List Expr} {fa fb fc f : M R} {pos : Pos}
def vr (i : Nat) : M R := fun ς => match ς[i]? with
  | some (some (.pure d)) => some (.pure d, ς)
  | some (some (.own _ _)) => some (.ref i, ς)
  | some (some (.vx _)) => some (.ref i, ς)
  | _ => none
theorem d_var (i : Nat) {x : Str} (h : PE X (.Name x pos) (tVar i)) : PEd X (.Name x pos) (vr i) := fun F => h.mono fun σ H Q hq => by
  obtain ⟨ς, G, rl, r, ς', e, k⟩ := hq
  unfold vr at e
  split at e
  · rename_i d q
    cases e
    obtain ⟨v, h1, h2⟩ := rl.pu i d q
    exact ⟨v, h1, k v H G rl (Same.refl _) h2⟩
  · rename_i b ds q
    cases e
    obtain ⟨a, vs, h1, _⟩ := rl.ow i b ds q
    exact ⟨_, h1, k _ H G rl (Same.refl _) h1⟩
  · rename_i x q
    cases e
    obtain ⟨v, h1, h2⟩ := rl.vx i _ q
    exact ⟨v, h1, k v H G rl (Same.refl _) h1⟩
  · cases e
def cn (d : D) : M R := ret (.pure d)
theorem d_cn {v : V} {d : D} (h : PE X e (tC v)) (hd : ∀ G, Dp X.K G v d) : PEd X e (cn d) := fun F => h.mono fun σ H Q hq => by
  obtain ⟨ς, G, rl, r, ς', e, k⟩ := hq
  cases e
  exact k v H G rl (Same.refl _) (hd G)
theorem d_int {i : Int} {j : Nat} : PEd X (.Constant (.int i) j pos) (cn (.int i)) := d_cn pe_int fun _ => .int i
theorem d_str {x : Str} {j : Nat} : PEd X (.Constant (.str x) j pos) (cn (.str x)) := d_cn pe_str fun _ => .str x
theorem d_bl {x : Bool} {j : Nat} : PEd X (.Constant (.bool x) j pos) (cn (.bool x)) := d_cn pe_bl fun _ => .bl x
theorem d_non {j : Nat} : PEd X (.Constant .none j pos) (cn .none) := d_cn pe_non fun _ => .non
theorem d_gstr {x : Str} {z : Str} (h : PE X (.Name x pos) (tC (.str z))) : PEd X (.Name x pos) (cn (.str z)) := d_cn h fun _ => .str z
theorem d_gint {x : Str} {z : Int} (h : PE X (.Name x pos) (tC (.int z))) : PEd X (.Name x pos) (cn (.int z)) := d_cn h fun _ => .int z
theorem d_sub (h : PEd X e f) : PEd X e (sub f) := fun F => (h F).mono fun σ H Q hq => by
  obtain ⟨ς, G, rl, r, ς', e, k⟩ := hq
  obtain ⟨r1, ς1, e1, e2⟩ := bd_some e
  refine ⟨ς, G, rl, r1, ς1, e1, fun v H' G' rl' s rep => ?_⟩
  cases r1 with
  | pure d => cases e2; exact k v H' G' rl' s rep
  | ref i => cases e2; exact k v H' G' rl' s rep
  | vx x =>
    cases x with
    | exc nm d => cases e2; exact k v H' G' rl' s rep
    | odc kvs =>
      cases e2
      obtain ⟨G2, rl2, s2, dp⟩ := rl'.frzFD rep
      exact k v H' G2 rl2 (s.trans s2) dp
  | fresh ds =>
    cases e2
    obtain ⟨G2, rl2, s2, dp⟩ := rl'.frzF rep
    exact k v H' G2 rl2 (s.trans s2) dp
theorem d_esc (h : PEd X e f) : PDd X e (esc f) := fun F => (h F).mono fun σ H Q hq => by
  obtain ⟨ς, G, rl, d, ς', e, k⟩ := hq
  obtain ⟨r1, ς1, e1, e2⟩ := bd_some e
  refine ⟨ς, G, rl, r1, ς1, e1, fun v H' G' rl' s rep => ?_⟩
  obtain ⟨G2, rl2, s2, dp⟩ := toD_ok rl' rep e2
  exact k v H' G2 rl2 (s.trans s2) dp
/-! ### operators on data -/
structure Op2 (X : Cx) (F : Fx) (r2 : R2) (g : D → D → Option R) : Prop where
  run : ∀ (ς : En) (G : Hp) (σ : L2.St) (H : Hp) (x y : V) (dx dy : D) (r : R) (Q : VK), Rel X.K F ς G σ H → RdV X.K G H x dx → RdV X.K G H y dy → g dx dy = some r →
    (∀ v H' G', Rel X.K F ς G' σ H' → Same G G' → RepR X.K F ς G' σ H' r v → Q v H') → r2 x y H Q
def op2 (g : D → D → Option R) (fa fb : M R) : M R := bd (sub fa) fun a => bd (sub fb) fun b => bd (rd a) fun x => bd (rd b) fun y => lift (g x y)
theorem t_op2 {r2 : R2} {g : D → D → Option R} (o : Op2 X F r2 g) : ∀ σ H Q, tEv X.K F (op2 g fa fb) σ H Q → tOp r2 (tEv X.K F (sub fa)) (tEv X.K F (sub fb)) σ H Q := fun σ H Q hq => by
  obtain ⟨ς, G, rl, r, ς', e, k⟩ := hq
  obtain ⟨a, ς1, e1, q1⟩ := bd_some e
  obtain ⟨b, ς2, e2, q2⟩ := bd_some q1
  obtain ⟨x, ς3, e3', q3⟩ := bd_some q2
  obtain ⟨e3, rfl⟩ := rd_some e3'
  obtain ⟨y, ς4, e4', q4⟩ := bd_some q3
  obtain ⟨e4, rfl⟩ := rd_some e4'
  obtain ⟨e5, rfl⟩ := lift_some q4
  refine ⟨ς, G, rl, a, ς1, e1, fun v H1 G1 rl1 s1 rep1 => ⟨ς1, G1, rl1, b, ς', e2, fun w H2 G2 rl2 s2 rep2 => ?_⟩⟩
  have rep1' : RepR X.K F ς' G2 σ H2 a v := rep_keep rep1 (sub_nf e1) s2
  exact o.run ς' G2 σ H2 v w x y r Q rl2 (rdD_ok rl2 rep1' e3) (rdD_ok rl2 rep2 e4) e5 fun u H' G' rl' s rep => k u H' G' rl' (s1.trans (s2.trans s)) rep
theorem d_op {op : Operator} {r2 : R2} {g : D → D → Option R} (ho : OpR X (binaryOp op) r2) (o : ∀ F, Op2 X F r2 g) (ha : PEd X a fa) (hb : PEd X b fb) : PEd X (.BinOp a op b pos) (op2 g fa fb) :=
  fun F => PE.mono (pe_op ho (d_sub ha F) (d_sub hb F)) (t_op2 (o F))
theorem d_cmp {op : CmpOp} {r2 : R2} {g : D → D → Option R} (ho : OpR X (compareOp op) r2) (o : ∀ F, Op2 X F r2 g) (ha : PEd X a fa) (hb : PEd X b fb) (hm : behindInMarks op b = false) : PEd X (.Compare a [op] [b] pos) (op2 g fa fb) :=
  fun F => PE.mono (pe_cmpR ho (d_sub ha F) (d_sub hb F) hm) (t_op2 (o F))
/-- ints -/
def gI (C : Int → Int → Bool) (h : Int → Int → D) : D → D → Option R
  | .int i, .int j => if C i j then some (.pure (h i j)) else none
  | _, _ => none
def gI0 (h : Int → Int → D) : D → D → Option R
  | .int i, .int j => some (.pure (h i j))
  | _, _ => none
theorem op2_I {C : Int → Int → Prop} {c : Int → Int → Bool} {g : Int → Int → V} {h : Int → Int → D} (hc : ∀ i j, c i j = true → C i j) (hg : ∀ i j G, Dp X.K G (g i j) (h i j)) : Op2 X F (rI C g) (gI c h) := ⟨fun ς G σ H x y dx dy r Q rl hx hy e k => by
  cases dx with
  | int i =>
    cases dy with
    | int j =>
      replace e : (if c i j = true then some (R.pure (h i j)) else none) = some r := e
      by_cases q : c i j = true
      · rw [if_pos q] at e
        cases e
        exact ⟨i, j, hx.int, hy.int, hc i j q, k _ H G rl (Same.refl _) (hg i j G)⟩
      · rw [if_neg q] at e; cases e
    | _ => cases e
  | _ => cases e⟩
theorem op2_I0 {g : Int → Int → V} {h : Int → Int → D} (hg : ∀ i j G, Dp X.K G (g i j) (h i j)) : Op2 X F (rI0 g) (gI0 h) := ⟨fun ς G σ H x y dx dy r Q rl hx hy e k => by
  cases dx with
  | int i =>
    cases dy with
    | int j =>
      cases e
      exact ⟨i, j, hx.int, hy.int, k _ H G rl (Same.refl _) (hg i j G)⟩
    | _ => cases e
  | _ => cases e⟩
def orG (g g' : D → D → Option R) (x y : D) : Option R := match g x y with
  | some z => some z
  | none => g' x y
theorem Op2.or {r r' : R2} {g g' : D → D → Option R} (h : Op2 X F r g) (h' : Op2 X F r' g') : Op2 X F (fun x y H Q => r x y H Q ∨ r' x y H Q) (orG g g') := ⟨fun ς G σ H x y dx dy r Q rl hx hy e k => by
  unfold orG at e
  split at e
  · rename_i z q
    cases e
    exact .inl (h.run ς G σ H x y dx dy _ Q rl hx hy q k)
  · exact .inr (h'.run ς G σ H x y dx dy _ Q rl hx hy e k)⟩
theorem op2_sub : Op2 X F (rI0 fun i j => .int (i - j)) (gI0 fun i j => .int (i - j)) := op2_I0 fun _ _ _ => .int _
theorem op2_lt : Op2 X F (rI0 fun i j => .bl (decide (i < j))) (gI0 fun i j => .bool (decide (i < j))) := op2_I0 fun _ _ _ => .bl _
theorem op2_le : Op2 X F (rI0 fun i j => .bl (decide (i ≤ j))) (gI0 fun i j => .bool (decide (i ≤ j))) := op2_I0 fun _ _ _ => .bl _
theorem op2_gt : Op2 X F (rI0 fun i j => .bl (decide (j < i))) (gI0 fun i j => .bool (decide (j < i))) := op2_I0 fun _ _ _ => .bl _
theorem op2_ge : Op2 X F (rI0 fun i j => .bl (decide (j ≤ i))) (gI0 fun i j => .bool (decide (j ≤ i))) := op2_I0 fun _ _ _ => .bl _
def cMul (i j : Int) : Bool := (decide (-(2 ^ 64) < i) && decide (i < 2 ^ 64)) || (decide (-(2 ^ 64) < j) && decide (j < 2 ^ 64))
theorem op2_mulI : Op2 X F (rI CMul fun i j => .int (i * j)) (gI cMul fun i j => .int (i * j)) := op2_I (fun i j h => by
  unfold cMul at h
  simp only [Bool.or_eq_true, Bool.and_eq_true, decide_eq_true_eq] at h
  exact h) fun _ _ _ => .int _
def cDiv (_ j : Int) : Bool := decide (0 < j) && decide (j < 2 ^ 200)
theorem op2_fdiv : Op2 X F (rI CDivW fun i j => .int (i / j)) (gI cDiv fun i j => .int (i / j)) := op2_I (fun i j h => by
  unfold cDiv at h
  simp only [Bool.and_eq_true, decide_eq_true_eq] at h
  refine wide_div (b := 200) h.1 ?_ (by decide) (by decide)
  have h2 : j.toNat < 2 ^ 200 := by
    have := Int.toNat_lt (n := 2 ^ 200) (by omega : 0 ≤ j)
    rw [this]
    exact_mod_cast h.2
  omega) fun _ _ _ => .int _
theorem op2_mod : Op2 X F (rI (fun _ j => 0 < j) fun i j => .int (i % j)) (gI (fun _ j => decide (0 < j)) fun i j => .int (i % j)) := op2_I (fun i j h => of_decide_eq_true h) fun _ _ _ => .int _
def cPow (i j : Int) : Bool := decide (0 ≤ j) && decide (j ≤ 1000000) && decide (i.natAbs < 2 ^ 64)
theorem op2_pow : Op2 X F (rI CPow fun i j => .int (i ^ j.toNat)) (gI cPow fun i j => .int (i ^ j.toNat)) := op2_I (fun i j h => by
  unfold cPow at h
  simp only [Bool.and_eq_true, decide_eq_true_eq] at h
  exact ⟨h.1.1, h.1.2, h.2⟩) fun _ _ _ => .int _
end
end Lw
namespace Lw
open PySem PySem.Spec PyProof.Rows L2
section
variable {X : Cx} {F : Fx} {a b c e : Expr} {es : List Expr} {fa fb fc f : M R} {pos : Pos}
/-! ### + on texts, lists, tuples -/
def rCatL (K : PySem.W.Frag) : R2 := fun x y H Q => ∃ l b xs zs, x = .ref l ∧ y = .ref b ∧ SqL K H l xs ∧ SqL K H b zs ∧ xs.length + zs.length ≤ sizeLine ∧ ∀ p, H p = none → Q (.ref p) (upd H p (.lst (xs ++ zs)))
theorem op_catL : OpR X (binaryOp .Add) (rCatL X.K) := by
  intro pins s σ H x y v u Q I rx ry h
  obtain ⟨l, b, xs, zs, rfl, rfl, hH, hB, hz, q⟩ := h
  cases rx
  cases ry
  obtain ⟨its, r, pl, _⟩ := I.list hH
  obtain ⟨its2, r2, pl2, _⟩ := I.list hB
  obtain ⟨⟨cls, dd, data, sl⟩, ho, hc, n, hd⟩ := pl.isList
  obtain ⟨⟨cls2, dd2, data2, sl2⟩, ho2, hc2, n2, hd2⟩ := pl2.isList
  simp only at hc hd hc2 hd2
  subst hc hd hc2 hd2
  have e : its.toArray ++ its2.toArray = (its ++ its2).toArray := by simp
  have hl := r.length
  have hl2 := r2.length
  refine concat_meets ⟨_, ho, rfl⟩ ⟨_, ho2, rfl⟩ noFill_list_add seq_list_add PySem.F.slot_list_add PySem.F.entry_list_add (PySem.F.args_list_add_2 _ _) (list_addW l b its.toArray its2.toArray n n2 dd dd2 sl sl2 (by rw [List.size_toArray, List.size_toArray]; omega)) ⟨ho, ho2, ?_⟩
  rw [e]
  exact ⟨.ref _, _, I.lnew (t' := s.toks) (r.append r2) (by rw [List.length_append]; omega), rfl, q _ I.fresh⟩
def gStr : D → D → Option R
  | .str x, .str y => if x.length + y.length ≤ sizeLine then some (.pure (.str (x ++ y))) else none
  | _, _ => none
theorem op2_str : Op2 X F (fun x y H Q => ∃ i j, x = .str i ∧ y = .str j ∧ i.length + j.length ≤ sizeLine ∧ Q (.str (i ++ j)) H) gStr := ⟨fun ς G σ H x y dx dy r Q rl hx hy e k => by
  cases dx with
  | str i =>
    cases dy with
    | str j =>
      replace e : (if i.length + j.length ≤ sizeLine then some (R.pure (.str (i ++ j))) else none) = some r := e
      by_cases q : i.length + j.length ≤ sizeLine
      · rw [if_pos q] at e
        cases e
        exact ⟨i, j, hx.str, hy.str, q, k _ H G rl (Same.refl _) (.str _)⟩
      · rw [if_neg q] at e; cases e
    | _ => cases e
  | _ => cases e⟩
def gCatL : D → D → Option R
  | .list x, .list y => if x.length + y.length ≤ sizeLine then some (.fresh (x ++ y)) else none
  | _, _ => none
theorem op2_catL : Op2 X F (rCatL X.K) gCatL := ⟨fun ς G σ H x y dx dy r Q rl hx hy e k => by
  cases dx with
  | list i =>
    cases dy with
    | list j =>
      replace e : (if i.length + j.length ≤ sizeLine then some (R.fresh (i ++ j)) else none) = some r := e
      by_cases q : i.length + j.length ≤ sizeLine
      · rw [if_pos q] at e
        cases e
        obtain ⟨p, vs, rfl, h1, h2⟩ := hx.list rl.sub
        obtain ⟨p', vs', rfl, h1', h2'⟩ := hy.list rl.sub
        refine ⟨p, p', vs, vs', rfl, rfl, h1, h1', by rw [dpa_len h2, dpa_len h2']; exact q, fun z hz => ?_⟩
        exact k _ _ G (rl.layF hz) (Same.refl _) (rl.repF hz (dpa_app h2 h2'))
      · rw [if_neg q] at e; cases e
    | _ => cases e
  | _ => cases e⟩
def gCatT : D → D → Option R
  | .tuple x, .tuple y => if x.length + y.length ≤ sizeLine then some (.pure (.tuple (x ++ y))) else none
  | _, _ => none
theorem op2_catT : Op2 X F (rCatA X.K) gCatT := ⟨fun ς G σ H x y dx dy r Q rl hx hy e k => by
  cases dx with
  | tuple i =>
    cases dy with
    | tuple j =>
      replace e : (if i.length + j.length ≤ sizeLine then some (R.pure (.tuple (i ++ j))) else none) = some r := e
      by_cases q : i.length + j.length ≤ sizeLine
      · rw [if_pos q] at e
        cases e
        obtain ⟨p, vs, rfl, h1, h2⟩ := hx.tuple rl.sub
        obtain ⟨p', vs', rfl, h1', h2'⟩ := hy.tuple rl.sub
        refine ⟨p, p', vs, vs', rfl, rfl, h1, h1', by rw [dpa_len h2, dpa_len h2']; exact q, fun z => ?_, fun _ z => ?_, fun _ _ z hz => ?_⟩
        · subst z
          cases h2
          rcases hy with hy | ⟨_, _, _, _, e, _⟩
          · exact k _ H G rl (Same.refl _) hy
          · cases e
        · subst z
          cases h2'
          rw [List.append_nil] at k
          rcases hx with hx | ⟨_, _, _, _, e, _⟩
          · exact k _ H G rl (Same.refl _) hx
          · cases e
        · exact k _ _ _ (rl.lay hz) (same_upd (rl.gnone hz)) (rl.layD hz (dpa_app h2 h2'))
      · rw [if_neg q] at e; cases e
    | _ => cases e
  | _ => cases e⟩
theorem d_fdiv (ha : PEd X a fa) (hb : PEd X b fb) : PEd X (.BinOp a .FloorDiv b pos) (op2 (gI cDiv fun i j => .int (i / j)) fa fb) := d_op op_fdivW (fun _ => op2_fdiv) ha hb
theorem d_mod (ha : PEd X a fa) (hb : PEd X b fb) : PEd X (.BinOp a .Mod b pos) (op2 (gI (fun _ j => decide (0 < j)) fun i j => .int (i % j)) fa fb) := d_op op_mod (fun _ => op2_mod) ha hb
theorem d_pow (ha : PEd X a fa) (hb : PEd X b fb) : PEd X (.BinOp a .Pow b pos) (op2 (gI cPow fun i j => .int (i ^ j.toNat)) fa fb) := d_op op_pow (fun _ => op2_pow) ha hb
def gRepT : D → D → Option R
  | .tuple xs, .int k => if xs ≠ [] ∧ 2 ≤ k ∧ k ≤ 1000 ∧ xs.length ≤ 1000 then some (.pure (.tuple (List.replicate k.toNat xs).flatten)) else none
  | _, _ => none
theorem op2_repT : Op2 X F (rRepT X.K) gRepT := ⟨fun ς G σ H x y dx dy r Q rl hx hy e k => by
  cases dx with
  | tuple i =>
    cases dy with
    | int j =>
      replace e : (if i ≠ [] ∧ 2 ≤ j ∧ j ≤ 1000 ∧ i.length ≤ 1000 then some (R.pure (.tuple (List.replicate j.toNat i).flatten)) else none) = some r := e
      by_cases q : i ≠ [] ∧ 2 ≤ j ∧ j ≤ 1000 ∧ i.length ≤ 1000
      · rw [if_pos q] at e
        cases e
        obtain ⟨p, vs, rfl, h1, h2⟩ := hx.tuple rl.sub
        refine ⟨p, j, vs, rfl, hy.int, h1, fun z => q.1 (by subst z; cases h2; rfl), q.2.1, q.2.2.1, by rw [dpa_len h2]; exact q.2.2.2, fun z hz => ?_⟩
        exact k _ _ _ (rl.lay hz) (same_upd (rl.gnone hz)) (rl.layD hz (dpa_rep _ h2))
      · rw [if_neg q] at e; cases e
    | _ => cases e
  | _ => cases e⟩
/-! ### comparisons -/
/-- texts are held beside one another whatever signs they have -/
def gEqS : D → D → Option R
  | .str a, .str b => some (.pure (.bool (decide (a = b))))
  | _, _ => none
def gNeS : D → D → Option R
  | .str a, .str b => some (.pure (.bool (!decide (a = b))))
  | _, _ => none
def gEq0 (x y : D) : Option R := if SeqAt.shaped x = true ∧ SeqAt.shaped y = true then some (.pure (.bool (PyData.eqv x y))) else none
def gNe0 (x y : D) : Option R := if SeqAt.shaped x = true ∧ SeqAt.shaped y = true then some (.pure (.bool (!PyData.eqv x y))) else none
def gEq : D → D → Option R := orG gEqS gEq0
def gNe : D → D → Option R := orG gNeS gNe0
theorem op2_eqS : Op2 X F rEq gEqS := ⟨fun ς G σ H x y dx dy r Q rl hx hy e k => by
  cases dx with
  | str i =>
    cases dy with
    | str j =>
      cases e
      cases hx.str
      cases hy.str
      exact ⟨rfl, by
        have := k (.bl (decide (i = j))) H G rl (Same.refl _) (.bl _)
        rw [show decide (V.str i = V.str j) = decide (i = j) by simp]
        exact this⟩
    | _ => cases e
  | _ => cases e⟩
theorem op2_neS : Op2 X F rNe gNeS := ⟨fun ς G σ H x y dx dy r Q rl hx hy e k => by
  cases dx with
  | str i =>
    cases dy with
    | str j =>
      cases e
      cases hx.str
      cases hy.str
      exact ⟨rfl, by
        have := k (.bl (!decide (i = j))) H G rl (Same.refl _) (.bl _)
        rw [show decide (V.str i = V.str j) = decide (i = j) by simp]
        exact this⟩
    | _ => cases e
  | _ => cases e⟩
theorem op2_eq : Op2 X F (rEqD X.K) gEq0 := ⟨fun ς G σ H x y dx dy r Q rl hx hy e k => by
  unfold gEq0 at e
  split at e
  · rename_i q
    cases e
    exact ⟨dx, dy, dp_lib (hx.dp rl.sub) (nd_shaped q.1), dp_lib (hy.dp rl.sub) (nd_shaped q.2), q.1, q.2, k _ H G rl (Same.refl _) (.bl _)⟩
  · cases e⟩
theorem op2_ne : Op2 X F (rNeD X.K) gNe0 := ⟨fun ς G σ H x y dx dy r Q rl hx hy e k => by
  unfold gNe0 at e
  split at e
  · rename_i q
    cases e
    exact ⟨dx, dy, dp_lib (hx.dp rl.sub) (nd_shaped q.1), dp_lib (hy.dp rl.sub) (nd_shaped q.2), q.1, q.2, k _ H G rl (Same.refl _) (.bl _)⟩
  · cases e⟩
def isNone : D → Bool
  | .none => true
  | _ => false
theorem isNone_V {K : PySem.W.Frag} {G H : Hp} {x : V} {d : D} (h : RdV K G H x d) : decide (x = V.non) = isNone d := by
  rcases h with h | ⟨a, vs, ds, rfl, rfl, _⟩
  · cases h <;> first | exact decide_eq_true rfl | exact decide_eq_false (by intro z; cases z)
  · exact decide_eq_false (by intro z; cases z)
def gIs : D → D → Option R
  | x, .none => some (.pure (.bool (isNone x)))
  | _, _ => none
theorem op2_is : Op2 X F (fun x y H Q => y = .non ∧ Q (.bl (decide (x = .non))) H) gIs := ⟨fun ς G σ H x y dx dy r Q rl hx hy e k => by
  cases dy with
  | none =>
    cases e
    exact ⟨hy.none, k _ H G rl (Same.refl _) (by rw [isNone_V hx]; exact .bl _)⟩
  | _ => cases e⟩
/-! ### x in data -/
noncomputable def eqRd (h : Heap) (dx : D) (y : Value) : Bool := @decide (∃ d as, Reads h y d as ∧ PyData.eqv d dx = true) (Classical.propDecidable _)
theorem eqRd_of {h : Heap} {dx d : D} {y : Value} {as : List Addr} (r : Reads h y d as) : eqRd h dx y = PyData.eqv d dx := by
  unfold eqRd
  cases e : PyData.eqv d dx with
  | true => exact @decide_eq_true _ (Classical.propDecidable _) ⟨d, as, r, e⟩
  | false =>
    refine @decide_eq_false _ (Classical.propDecidable _) ?_
    rintro ⟨d', as', r', e'⟩
    obtain ⟨z, _⟩ := PyProof.Rows.reads_det (fun _ _ e _ => e) r r'
    rw [z, e] at e'
    cases e'
theorem any_eqRd {h : Heap} {dx : D} : ∀ {ds : List D} {vs : List Value} {as : List Addr}, ReadsAll h vs ds as → vs.any (eqRd h dx) = ds.any fun d => PyData.eqv d dx
  | _, _, _, .nil => rfl
  | _, _, _, .cons r rs => by rw [List.any_cons, List.any_cons, eqRd_of r, any_eqRd rs]
theorem mem_readsAll {h : Heap} {y : Value} : ∀ {ds : List D} {vs : List Value} {as : List Addr}, ReadsAll h vs ds as → y ∈ vs → ∃ d as', d ∈ ds ∧ Reads h y d as'
  | _, _, _, .nil, m => by cases m
  | _, _, _, .cons r rs, m => by
    rcases List.mem_cons.mp m with rfl | m
    · exact ⟨_, _, List.mem_cons_self, r⟩
    · obtain ⟨d, as', h1, h2⟩ := mem_readsAll rs m
      exact ⟨d, as', List.mem_cons_of_mem _ h1, h2⟩
def rInD (K : PySem.W.Frag) (neg : Bool) : R2 := fun x y H Q => ∃ p xs d ds, y = .ref p ∧ (SqL K H p xs ∨ SqT K H p xs) ∧ Dp K H x d ∧ DpAll K H xs ds ∧ SeqAt.shaped d = true ∧ ds.all SeqAt.shaped = true ∧ Q (.bl (if neg then !(ds.any fun e => PyData.eqv e d) else ds.any fun e => PyData.eqv e d)) H
theorem eqAt_of {pins : List (Addr × Obj)} {σ : L2.St} {H : Hp} {s : Shared} {x : V} {v : Value} {d : D} {xs : List V} {ds : List D} {its : List Value} (hu : X.A.units + 64 < cLine - 1) (I : Inv X pins σ H s) (rx : RelV x v) (hd : Dp X.K H x d) (hs : DpAll X.K H xs ds) (r : Vals xs its) (sd : SeqAt.shaped d = true) (ss : ds.all SeqAt.shaped = true) :
    (∀ y ∈ its, SeqAt.EqAt X.A.in1 s y v (eqRd s.heap d y)) ∧ its.any (eqRd s.heap d) = ds.any fun e => PyData.eqv e d := by
  obtain ⟨as, rd⟩ := Dp.reads I d x v hd rx (nd_shaped sd)
  obtain ⟨bs, rs⟩ := Dp.readsAll I ds xs its hs r (nd_shapedAll ss)
  refine ⟨fun y hy => ?_, any_eqRd rs⟩
  obtain ⟨d', as', m, ry⟩ := mem_readsAll rs hy
  rw [eqRd_of ry]
  have s' := List.all_eq_true.mp ss d' m
  refine SeqAt.eqAt_reads d' d X.A.in1 s y v as' as ry rd (SeqAt.canLay_of_shaped s') (SeqAt.canLay_of_shaped sd) ?_
  have h1 := SeqAt.depth_of_shaped s'
  have h2 : min d'.depth d.depth ≤ d'.depth := Nat.min_le_left _ _
  show X.A.units + 1 + min d'.depth d.depth < cLine
  omega
theorem op_inD (hu : X.A.units + 64 < cLine - 1) : OpR X (compareOp .In) (rInD X.K false) := by
  intro pins s σ H x y v u Q I rx ry h
  obtain ⟨p, xs, d, ds, rfl, hq, hd, hs, sd, ss, q⟩ := h
  cases ry
  rcases hq with hq | hq
  · obtain ⟨its, r, pl, hz⟩ := I.list hq
    obtain ⟨e1, e2⟩ := eqAt_of hu I rx hd hs r sd ss
    refine SeqAt.in_listAt (eqRd s.heap d) pl.isList (fun w hw => e1 w (by simpa using hw)) ⟨.bl _, H, I, rfl, ?_⟩
    rw [show its.toArray.any (eqRd s.heap d) = its.any (eqRd s.heap d) by simp, e2]
    exact q
  · obtain ⟨its, r, pl, hz⟩ := I.tuple hq
    obtain ⟨e1, e2⟩ := eqAt_of hu I rx hd hs r sd ss
    refine SeqAt.in_tupleAt (eqRd s.heap d) pl (fun w hw => e1 w (by simpa using hw)) ⟨.bl _, H, I, rfl, ?_⟩
    rw [show its.toArray.any (eqRd s.heap d) = its.any (eqRd s.heap d) by simp, e2]
    exact q
def items : D → Option (List D)
  | .list ds => some ds
  | .tuple ds => some ds
  | _ => none
theorem items_ok {K : PySem.W.Frag} {G H : Hp} {x : V} {d : D} {ds : List D} (s : Same G H) (h : RdV K G H x d) (e : items d = some ds) : ∃ p xs, x = .ref p ∧ (SqL K H p xs ∨ SqT K H p xs) ∧ DpAll K G xs ds := by
  cases d with
  | list es => cases e; obtain ⟨p, vs, rfl, h1, h2⟩ := h.list s; exact ⟨p, vs, rfl, .inl h1, h2⟩
  | tuple es => cases e; obtain ⟨p, vs, rfl, h1, h2⟩ := h.tuple s; exact ⟨p, vs, rfl, .inr h1, h2⟩
  | _ => cases e
def gIn (neg : Bool) (x y : D) : Option R := match items y with
  | some ds => if SeqAt.shaped x = true ∧ ds.all SeqAt.shaped = true then some (.pure (.bool (if neg then !(ds.any fun e => PyData.eqv e x) else ds.any fun e => PyData.eqv e x))) else none
  | none => none
theorem op2_in (neg : Bool) : Op2 X F (rInD X.K neg) (gIn neg) := ⟨fun ς G σ H x y dx dy r Q rl hx hy e k => by
  unfold gIn at e
  split at e
  · rename_i ds q
    split at e
    · rename_i q2
      cases e
      obtain ⟨p, xs, rfl, h1, h2⟩ := items_ok rl.sub hy q
      exact ⟨p, xs, dx, ds, rfl, h1, hx.dp rl.sub, dpa_same rl.sub h2, q2.1, q2.2, k _ H G rl (Same.refl _) (.bl _)⟩
    · cases e
  · cases e⟩
theorem units1 {k : Nat} {A : Around} (hr : Room k A) : A.units + 64 < cLine - 1 := by have := hr.un; omega
/-! ### a op b op c -/
def bOf : R → Option Bool
  | .pure (.bool b) => some b
  | _ => none
def chn (g g' : D → D → Option R) (fa fb fc : M R) : M R := bd (sub fa) fun a => bd (sub fb) fun b => bd (rd a) fun x => bd (rd b) fun y => bd (lift (g x y)) fun r => bd (lift (bOf r)) fun k =>
  if k = true then bd (sub fc) fun c => bd (rd b) fun y => bd (rd c) fun z => lift (g' y z) else ret (.pure (.bool false))
theorem t_chn {r2 r2' : R2} {g g' : D → D → Option R} (o : Op2 X F r2 g) (o' : Op2 X F r2' g') : ∀ σ H Q, tEv X.K F (chn g g' fa fb fc) σ H Q → tChain r2 r2' (tEv X.K F (sub fa)) (tEv X.K F (sub fb)) (tEv X.K F (sub fc)) σ H Q := fun σ H Q hq => by
  obtain ⟨ς, G, rl, r, ς', e, k⟩ := hq
  obtain ⟨a, ς1, e1, q1⟩ := bd_some e
  obtain ⟨b, ς2, e2, q2⟩ := bd_some q1
  obtain ⟨x, ς3, e3', q3⟩ := bd_some q2
  obtain ⟨e3, h3⟩ := rd_some e3'
  obtain ⟨y, ς4, e4', q4⟩ := bd_some q3
  obtain ⟨e4, h4⟩ := rd_some e4'
  obtain ⟨rr, ς5, e5', q5⟩ := bd_some q4
  obtain ⟨e5, h5⟩ := lift_some e5'
  obtain ⟨kk, ς6, e6', q6⟩ := bd_some q5
  obtain ⟨e6, h6⟩ := lift_some e6'
  subst h3 h4 h5 h6
  refine ⟨ς, G, rl, a, ς1, e1, fun v H1 G1 rl1 s1 rep1 => ⟨ς1, G1, rl1, b, ς6, e2, fun w H2 G2 rl2 s2 rep2 => ?_⟩⟩
  have rep1' : RepR X.K F ς6 G2 σ H2 a v := rep_keep rep1 (sub_nf e1) s2
  refine o.run ς6 G2 σ H2 v w x y rr _ rl2 (rdD_ok rl2 rep1' e3) (rdD_ok rl2 rep2 e4) e5 fun u H3 G3 rl3 s3 rep3 => ?_
  cases rr with
  | pure d =>
    cases d with
    | bool bb =>
      cases e6
      refine ⟨kk, dp_bool rep3, ?_⟩
      cases kk with
      | false =>
        rw [if_neg (by decide)] at q6 ⊢
        cases q6
        exact k _ H3 G3 rl3 (s1.trans (s2.trans s3)) (.bl false)
      | true =>
        rw [if_pos rfl] at q6 ⊢
        obtain ⟨cc, ς7, e7, q7⟩ := bd_some q6
        obtain ⟨y', ς8, e8', q8⟩ := bd_some q7
        obtain ⟨e8, h8⟩ := rd_some e8'
        obtain ⟨z', ς9, e9', q9⟩ := bd_some q8
        obtain ⟨e9, h9⟩ := rd_some e9'
        obtain ⟨e10, h10⟩ := lift_some q9
        subst h8 h9 h10
        refine ⟨ς6, G3, rl3, cc, _, e7, fun w' H4 G4 rl4 s4 rep4 => ?_⟩
        have rep2' := rep_keep (ς' := ς') (H' := H4) rep2 (sub_nf e2) (s3.trans s4)
        exact o'.run _ G4 σ H4 w w' y' z' r Q rl4 (rdD_ok rl4 rep2' e8) (rdD_ok rl4 rep4 e9) e10 fun u H' G' rl' s rep => k u H' G' rl' (s1.trans (s2.trans (s3.trans (s4.trans s)))) rep
    | _ => cases e6
  | _ => cases e6
end
end Lw
namespace Lw
open PySem PySem.Spec PyProof.Rows L2
section
variable {X : Cx} {F : Fx} {a b c e : Expr} {es : List Expr} {fa fb fc f : M R} {ta tb : M Bool} {pos : Pos} {rest : List Expr}
/-! ### tests -/
def tst (f : M R) : M Bool := bd (sub f) fun r => bd (rd r) fun d => lift (match d with | .bool b => some b | _ => none)
def truD : D → Option Bool
  | .none => some false
  | .bool b => some b
  | .int i => some (i != 0)
  | .str x => if x.length ≤ sizeLine then some ((x.length : Int) != 0) else none
  | .list ds => some (!ds.isEmpty)
  | .tuple ds => some (!ds.isEmpty)
  | _ => none
def tru (f : M R) : M Bool := bd (sub f) fun r => bd (rd r) fun d => lift (truD d)
theorem t_tst : ∀ σ H Q, tEvT X.K F (tst f) σ H Q → (tEv X.K F (sub f)) σ H fun x H' => ∃ k, x = .bl k ∧ Q k H' := fun σ H Q hq => by
  obtain ⟨ς, G, rl, r, ς', e, k⟩ := hq
  obtain ⟨a, ς1, e1, q1⟩ := bd_some e
  obtain ⟨x, ς3, e3', q3⟩ := bd_some q1
  obtain ⟨e3, h3⟩ := rd_some e3'
  obtain ⟨e4, h4⟩ := lift_some q3
  subst h3 h4
  refine ⟨ς, G, rl, a, _, e1, fun v H1 G1 rl1 s1 rep1 => ?_⟩
  have rv := rdD_ok rl1 rep1 e3
  cases x with
  | bool b => cases e4; exact ⟨_, rv.bool, k H1 G1 rl1 s1⟩
  | _ => cases e4
theorem d_tstC {op : CmpOp} {r2 : R2} {g : D → D → Option R} (ho : OpR X (compareOp op) r2) (o : ∀ F, Op2 X F r2 g) (ha : PEd X a fa) (hb : PEd X b fb) (hm : behindInMarks op b = false) : PTd X (.Compare a [op] [b] pos) (tst (op2 g fa fb)) :=
  fun F => PT.mono (pt_cmpR ho (d_sub ha F) (d_sub hb F) hm) fun σ H Q hq => t_op2 (o F) σ H _ (by
    obtain ⟨ς, G, rl, r, ς', e, k⟩ := t_tst σ H Q hq
    obtain ⟨r1, ς1, e1, q1⟩ := bd_some e
    refine ⟨ς, G, rl, r1, ς1, e1, fun v H' G' rl' s rep => ?_⟩
    cases r1 with
    | pure d => cases q1; exact k v H' G' rl' s rep
    | ref i => cases q1; exact k v H' G' rl' s rep
    | vx x =>
      cases x with
      | exc nm d => cases q1; exact k v H' G' rl' s rep
      | odc kvs =>
        cases q1
        obtain ⟨G2, rl2, s2, dp⟩ := rl'.frzFD rep
        exact k v H' G2 rl2 (s.trans s2) dp
    | fresh ds =>
      cases q1
      obtain ⟨G2, rl2, s2, dp⟩ := rl'.frzF rep
      exact k v H' G2 rl2 (s.trans s2) dp)
theorem truV_of {K : PySem.W.Frag} {G H : Hp} {x : V} {d : D} {k : Bool} (s : Same G H) (h : RdV K G H x d) (e : truD d = some k) : TruV K x H k := by
  cases d with
  | none => cases e; rw [h.none]; rfl
  | bool b => cases e; rw [h.bool]; rfl
  | int i => cases e; rw [h.int]; rfl
  | str y =>
    rw [h.str]
    unfold truD at e
    simp only at e
    split at e
    · rename_i q; cases e; exact ⟨q, rfl⟩
    · cases e
  | list ds =>
    cases e
    obtain ⟨p, vs, rfl, h1, h2⟩ := h.list s
    refine .inl ⟨vs, h1, ?_⟩
    cases h2 <;> rfl
  | tuple ds =>
    cases e
    obtain ⟨p, vs, rfl, h1, h2⟩ := h.tuple s
    refine .inr (.inl ⟨vs, h1, ?_⟩)
    cases h2 <;> rfl
  | dict _ => cases e
theorem d_tru (h : PEd X e f) (he : ∀ whole, isTrue e X.env whole = (do let v ← whole; standAt e.pos; holding [v] (truthy v)) := by intro _; rfl) : PTd X e (tru f) :=
  fun F => PT.mono (pt_truth (d_sub h F) he) fun σ H Q hq => by
    obtain ⟨ς, G, rl, r, ς', e, k⟩ := hq
    obtain ⟨a, ς1, e1, q1⟩ := bd_some e
    obtain ⟨x, ς3, e3', q3⟩ := bd_some q1
    obtain ⟨e3, h3⟩ := rd_some e3'
    obtain ⟨e4, h4⟩ := lift_some q3
    subst h3 h4
    exact ⟨ς, G, rl, a, _, e1, fun v H1 G1 rl1 s1 rep1 => ⟨_, truV_of rl1.sub (rdD_ok rl1 rep1 e3) e4, k H1 G1 rl1 s1⟩⟩
def andT (ta tb : M Bool) : M Bool := bd ta fun k => if k = true then tb else ret false
def orT (ta tb : M Bool) : M Bool := bd ta fun k => if k = true then ret true else tb
def notT (ta : M Bool) : M Bool := bd ta fun k => ret (!k)
theorem t_andT : ∀ σ H Q, tEvT X.K F (andT ta tb) σ H Q → tAnd (tEvT X.K F ta) (tEvT X.K F tb) σ H Q := fun σ H Q hq => by
  obtain ⟨ς, G, rl, r, ς', e, k⟩ := hq
  obtain ⟨a, ς1, e1, q1⟩ := bd_some e
  refine ⟨ς, G, rl, a, ς1, e1, fun H1 G1 rl1 s1 => ?_⟩
  cases a with
  | true => rw [if_pos rfl] at q1 ⊢; exact ⟨ς1, G1, rl1, r, ς', q1, fun H' G' rl' s => k H' G' rl' (s1.trans s)⟩
  | false => rw [if_neg (by decide)] at q1 ⊢; cases q1; exact k H1 G1 rl1 s1
theorem t_orT : ∀ σ H Q, tEvT X.K F (orT ta tb) σ H Q → tOr (tEvT X.K F ta) (tEvT X.K F tb) σ H Q := fun σ H Q hq => by
  obtain ⟨ς, G, rl, r, ς', e, k⟩ := hq
  obtain ⟨a, ς1, e1, q1⟩ := bd_some e
  refine ⟨ς, G, rl, a, ς1, e1, fun H1 G1 rl1 s1 => ?_⟩
  cases a with
  | true => rw [if_pos rfl] at q1 ⊢; cases q1; exact k H1 G1 rl1 s1
  | false => rw [if_neg (by decide)] at q1 ⊢; exact ⟨ς1, G1, rl1, r, ς', q1, fun H' G' rl' s => k H' G' rl' (s1.trans s)⟩
theorem w_and (ha : PTd X a ta) (hb : PWd X (.BoolOp .And (b :: rest) pos) tb) : PWd X (.BoolOp .And (a :: b :: rest) pos) (andT ta tb) := fun F => PW.mono (pw_and (ha F) (hb F)) t_andT
theorem w_or (ha : PTd X a ta) (hb : PWd X (.BoolOp .Or (b :: rest) pos) tb) : PWd X (.BoolOp .Or (a :: b :: rest) pos) (orT ta tb) := fun F => PW.mono (pw_or (ha F) (hb F)) t_orT
theorem w_and1 (ha : PTd X a ta) : PWd X (.BoolOp .And [a] pos) ta := fun F => pw_and1 (ha F)
theorem w_or1 (ha : PTd X a ta) : PWd X (.BoolOp .Or [a] pos) ta := fun F => pw_or1 (ha F)
theorem d_notT (ha : PTd X a ta) : PTd X (.UnaryOp .Not a pos) (notT ta) := fun F => PT.mono (pt_not (ha F)) fun σ H Q hq => by
  obtain ⟨ς, G, rl, r, ς', e, k⟩ := hq
  obtain ⟨a, ς1, e1, q1⟩ := bd_some e
  cases q1
  exact ⟨ς, G, rl, a, _, e1, fun H1 G1 rl1 s1 => k H1 G1 rl1 s1⟩
/-! ### and, or, not as values -/
def boolD : D → Option Bool
  | .bool b => some b
  | _ => none
def andV (fa fb : M R) : M R := bd (sub fa) fun r => bd (rd r) fun d => bd (lift (boolD d)) fun k => if k = true then fb else ret (.pure (.bool false))
def orV (fa fb : M R) : M R := bd (sub fa) fun r => bd (rd r) fun d => bd (lift (boolD d)) fun k => if k = true then ret (.pure (.bool true)) else fb
def notV (fa : M R) : M R := bd (sub fa) fun r => bd (rd r) fun d => bd (lift (boolD d)) fun k => ret (.pure (.bool !k))
theorem boolD_V {K : PySem.W.Frag} {G H : Hp} {x : V} {d : D} {k : Bool} (h : RdV K G H x d) (e : boolD d = some k) : x = .bl k := by
  cases d with
  | bool b => cases e; exact h.bool
  | _ => cases e
theorem d_and (ha : PEd X a fa) (hb : PEd X (.BoolOp .And (b :: rest) pos) fb) : PEd X (.BoolOp .And (a :: b :: rest) pos) (andV fa fb) := fun F => PE.mono (pe_and (d_sub ha F) (hb F)) fun σ H Q hq => by
  obtain ⟨ς, G, rl, r, ς', e, k⟩ := hq
  obtain ⟨a, ς1, e1, q1⟩ := bd_some e
  obtain ⟨x, ς3, e3', q3⟩ := bd_some q1
  obtain ⟨e3, h3⟩ := rd_some e3'
  obtain ⟨kk, ς4, e4', q4⟩ := bd_some q3
  obtain ⟨e4, h4⟩ := lift_some e4'
  subst h3 h4
  refine ⟨ς, G, rl, a, _, e1, fun v H1 G1 rl1 s1 rep1 => ⟨kk, boolD_V (rdD_ok rl1 rep1 e3) e4, ?_⟩⟩
  cases kk with
  | true => rw [if_pos rfl] at q4 ⊢; exact ⟨_, G1, rl1, r, ς', q4, fun v H' G' rl' s rep => k v H' G' rl' (s1.trans s) rep⟩
  | false => rw [if_neg (by decide)] at q4 ⊢; cases q4; exact k _ H1 G1 rl1 s1 (.bl _)
theorem d_one {op : BoolOp} (h : PEd X a fa) : PEd X (.BoolOp op [a] pos) fa := fun F => pe_one (h F)
theorem d_not (ha : PEd X a fa) : PEd X (.UnaryOp .Not a pos) (notV fa) := fun F => PE.mono (pe_not (d_sub ha F)) fun σ H Q hq => by
  obtain ⟨ς, G, rl, r, ς', e, k⟩ := hq
  obtain ⟨a, ς1, e1, q1⟩ := bd_some e
  obtain ⟨x, ς3, e3', q3⟩ := bd_some q1
  obtain ⟨e3, h3⟩ := rd_some e3'
  obtain ⟨kk, ς4, e4', q4⟩ := bd_some q3
  obtain ⟨e4, h4⟩ := lift_some e4'
  subst h3 h4
  cases q4
  exact ⟨ς, G, rl, a, _, e1, fun v H1 G1 rl1 s1 rep1 => ⟨kk, boolD_V (rdD_ok rl1 rep1 e3) e4, k _ H1 G1 rl1 s1 (.bl _)⟩⟩
def ife (t : M Bool) (fa fb : M R) : M R := bd t fun k => if k = true then fa else fb
theorem d_ife (hc : PTd X c ta) (ha : PEd X a fa) (hb : PEd X b fb) : PEd X (.IfExp c a b pos) (ife ta fa fb) := fun F => PE.mono (pe_ifExp (hc F) (ha F) (hb F)) fun σ H Q hq => by
  obtain ⟨ς, G, rl, r, ς', e, k⟩ := hq
  obtain ⟨a, ς1, e1, q1⟩ := bd_some e
  refine ⟨ς, G, rl, a, ς1, e1, fun H1 G1 rl1 s1 => ?_⟩
  cases a with
  | true => rw [if_pos rfl] at q1 ⊢; exact ⟨_, G1, rl1, r, ς', q1, fun v H' G' rl' s rep => k v H' G' rl' (s1.trans s) rep⟩
  | false => rw [if_neg (by decide)] at q1 ⊢; exact ⟨_, G1, rl1, r, ς', q1, fun v H' G' rl' s rep => k v H' G' rl' (s1.trans s) rep⟩
/-! ### unary minus -/
def negV (fa : M R) : M R := bd (sub fa) fun r => bd (rd r) fun d => lift (match d with | .int i => some (.pure (.int (-i))) | _ => none)
/-! ### arguments, displays -/
def avs : List D → List Ar := List.map Ar.val
def argN : M (List Ar) := ret []
def argV (f : M R) (g : M (List Ar)) : M (List Ar) := bd (esc f) fun d => bd g fun as => ret (.val d :: as)
def argR (f : M R) (g : M (List Ar)) : M (List Ar) := bd f fun r => match r with
  | .ref i => bd g fun as => ret (.ref i :: as)
  | _ => lift none
theorem a_nil : PAd X [] argN := fun F => PA.mono pa_nil fun σ H Q hq => by
  obtain ⟨ς, G, rl, r, ς', e, k⟩ := hq
  cases e
  exact k [] H G rl (Same.refl _) .nil
theorem a_val {ga : M (List Ar)} (ha : PEd X a fa) (hr : PAd X es ga) (hs : starEach (a :: es) X.env = (false, eval a X.env) :: starEach es X.env := by rfl) : PAd X (a :: es) (argV fa ga) := fun F => PA.mono (pa_cons (d_esc ha F) (hr F) hs) fun σ H Q hq => by
  obtain ⟨ς, G, rl, r, ς', e, k⟩ := hq
  obtain ⟨d, ς1, e1, q1⟩ := bd_some e
  obtain ⟨as, ς2, e2, q2⟩ := bd_some q1
  cases q2
  exact ⟨ς, G, rl, d, ς1, e1, fun v H1 G1 rl1 s1 dp => ⟨ς1, G1, rl1, as, _, e2, fun vs H2 G2 rl2 s2 ps => k (v :: vs) H2 G2 rl2 (s1.trans s2) (.cons (dp_same s2 dp) ps)⟩⟩
theorem a_ref {ga : M (List Ar)} (ha : PEd X a fa) (hr : PAd X es ga) (hs : starEach (a :: es) X.env = (false, eval a X.env) :: starEach es X.env := by rfl) : PAd X (a :: es) (argR fa ga) := fun F => PA.mono (pa_cons (ha F) (hr F) hs) fun σ H Q hq => by
  obtain ⟨ς, G, rl, r, ς', e, k⟩ := hq
  obtain ⟨d, ς1, e1, q1⟩ := bd_some e
  refine ⟨ς, G, rl, d, ς1, e1, fun v H1 G1 rl1 s1 dp => ?_⟩
  cases d with
  | ref i =>
    obtain ⟨as, ς2, e2, q2⟩ := bd_some q1
    cases q2
    exact ⟨ς1, G1, rl1, as, _, e2, fun vs H2 G2 rl2 s2 ps => k (v :: vs) H2 G2 rl2 (s1.trans s2) (.cons dp ps)⟩
  | _ => cases q1
def vals : List Ar → Option (List D)
  | [] => some []
  | .val d :: as => match vals as with
    | some ds => some (d :: ds)
    | none => none
  | .ref _ :: _ => none
theorem vals_ok {K : PySem.W.Frag} {G : Hp} {σ : L2.St} : ∀ {as : List Ar} {vs : List V} {ds : List D}, Paired (RepAr K G σ) as vs → vals as = some ds → DpAll K G vs ds
  | _, _, _, .nil, e => by cases e; exact .nil
  | .val d :: as, _, ds, .cons h t, e => by
    unfold vals at e
    split at e
    · rename_i ds' q
      cases e
      exact .cons h (vals_ok t q)
    · cases e
  | .ref i :: as, _, _, .cons h t, e => by cases e
def small (n : Nat) : Bool := decide (n ≤ sizeLine)
def tupE (g : M (List Ar)) : M R := bd g fun as => bd (lift (vals as)) fun ds => if small ds.length = true then ret (.pure (.tuple ds)) else lift none
def lstE (g : M (List Ar)) : M R := bd g fun as => bd (lift (vals as)) fun ds => if small ds.length = true then ret (.fresh ds) else lift none
theorem d_tup {g : M (List Ar)} {k : Nat} (h : PAd X es g) : PEd X (.Tuple es k pos) (tupE g) := fun F => PE.mono (pe_tup (h F)) fun σ H Q hq => by
  obtain ⟨ς, G, rl, r, ς', e, k⟩ := hq
  obtain ⟨as, ς1, e1, q1⟩ := bd_some e
  obtain ⟨ds, ς2, e2', q2⟩ := bd_some q1
  obtain ⟨e2, h2⟩ := lift_some e2'
  subst h2
  refine ⟨ς, G, rl, as, _, e1, fun vs H1 G1 rl1 s1 ps => ?_⟩
  have da := vals_ok ps e2
  by_cases hs : small ds.length = true
  · rw [if_pos hs] at q2
    cases q2
    refine ⟨by rw [dpa_len da]; exact of_decide_eq_true hs, fun p hp => ?_⟩
    exact k _ _ _ (rl1.lay hp) (s1.trans (same_upd (rl1.gnone hp))) (rl1.layD hp da)
  · rw [if_neg hs] at q2; cases q2
theorem d_lst {g : M (List Ar)} (h : PAd X es g) : PEd X (.List es pos) (lstE g) := fun F => PE.mono (pe_lst (h F)) fun σ H Q hq => by
  obtain ⟨ς, G, rl, r, ς', e, k⟩ := hq
  obtain ⟨as, ς1, e1, q1⟩ := bd_some e
  obtain ⟨ds, ς2, e2', q2⟩ := bd_some q1
  obtain ⟨e2, h2⟩ := lift_some e2'
  subst h2
  refine ⟨ς, G, rl, as, _, e1, fun vs H1 G1 rl1 s1 ps => ?_⟩
  have da := vals_ok ps e2
  by_cases hs : small ds.length = true
  · rw [if_pos hs] at q2
    cases q2
    refine ⟨by rw [dpa_len da]; exact of_decide_eq_true hs, fun p hp => ?_⟩
    exact k _ _ _ (rl1.layF hp) s1 (rl1.repF hp da)
  · rw [if_neg hs] at q2; cases q2
/-! ### o[i] -/
def gIx : D → D → Option R
  | .list ds, .int i => (atI ds i).map R.pure
  | .tuple ds, .int i => (atI ds i).map R.pure
  | _, _ => none
theorem atI_dp {K : PySem.W.Frag} {G : Hp} {vs : List V} {ds : List D} {i : Int} {d : D} (h : DpAll K G vs ds) (e : atI ds i = some d) : ∃ v, atI vs i = some v ∧ Dp K G v d := by
  unfold atI at e ⊢
  rw [dpa_len h]
  cases q : ixN ds.length i with
  | none => rw [q] at e; cases e
  | some j => rw [q] at e; exact dpa_get h e
theorem op2_ix : Op2 X F (rIx X.K) gIx := ⟨fun ς G σ H x y dx dy r Q rl hx hy e k => by
  cases dx with
  | list ds =>
    cases dy with
    | int i =>
      cases q : atI ds i with
      | none => rw [gIx, q] at e; cases e
      | some d =>
        rw [gIx, q] at e; cases e
        obtain ⟨p, vs, rfl, h1, h2⟩ := hx.list rl.sub
        obtain ⟨v, e1, e2⟩ := atI_dp h2 q
        exact .inl ⟨p, vs, i, v, rfl, hy.int, h1, e1, k v H G rl (Same.refl _) e2⟩
    | _ => cases e
  | tuple ds =>
    cases dy with
    | int i =>
      cases q : atI ds i with
      | none => rw [gIx, q] at e; cases e
      | some d =>
        rw [gIx, q] at e; cases e
        obtain ⟨p, vs, rfl, h1, h2⟩ := hx.tuple rl.sub
        obtain ⟨v, e1, e2⟩ := atI_dp h2 q
        exact .inr (.inl ⟨p, vs, i, v, rfl, hy.int, h1, e1, k v H G rl (Same.refl _) e2⟩)
    | _ => cases e
  | _ => cases e⟩
theorem d_ix (ha : PEd X a fa) (hb : PEd X b fb) (hs : PlainIx b := by exact fun _ _ => rfl) : PEd X (.Subscript a b pos) (op2 gIx fa fb) := fun F => PE.mono (pe_ix ix_seq (d_sub ha F) (d_sub hb F) hs) (t_op2 op2_ix)
end
end Lw
namespace Lw
open PySem PySem.Spec PyProof.Rows L2
section
variable {X : Cx} {F : Fx} {a b c e : Expr} {es : List Expr} {fa fb fc f : M R} {pos p p2 : Pos} {x : Str}
/-! ### bools among intsD -/
def rIB (h : Int → Int → Int) : R2 := fun x y H Q => (∃ k j, x = .bl k ∧ y = .int j ∧ Q (.int (h (if k = true then 1 else 0) j)) H) ∨ ∃ i k, x = .int i ∧ y = .bl k ∧ Q (.int (h i (if k = true then 1 else 0))) H
theorem op_addB : OpR X (binaryOp .Add) (rIB (· + ·)) := by
  intro pins s σ H x y v u Q I rx ry h
  rcases h with ⟨k, j, rfl, rfl, q⟩ | ⟨i, k, rfl, rfl, q⟩
  · cases rx
    obtain ⟨t, rfl⟩ := ry
    exact PySem.IntBool.add_bool_int ⟨.int _, H, I.tok _, ⟨_, rfl⟩, q⟩
  · obtain ⟨t, rfl⟩ := rx
    cases ry
    exact PySem.add_int_bool ⟨.int _, H, I.tok _, ⟨_, rfl⟩, q⟩
theorem op_subB : OpR X (binaryOp .Sub) (rIB (· - ·)) := by
  intro pins s σ H x y v u Q I rx ry h
  rcases h with ⟨k, j, rfl, rfl, q⟩ | ⟨i, k, rfl, rfl, q⟩
  · cases rx
    obtain ⟨t, rfl⟩ := ry
    exact PySem.IntBool.sub_bool_int ⟨.int _, H, I.tok _, ⟨_, rfl⟩, q⟩
  · obtain ⟨t, rfl⟩ := rx
    cases ry
    exact PySem.IntBool.sub_int_bool ⟨.int _, H, I.tok _, ⟨_, rfl⟩, q⟩
def gIB (h : Int → Int → Int) : D → D → Option R
  | .bool k, .int j => some (.pure (.int (h (if k = true then 1 else 0) j)))
  | .int i, .bool k => some (.pure (.int (h i (if k = true then 1 else 0))))
  | _, _ => none
theorem op2_IB {h : Int → Int → Int} : Op2 X F (rIB h) (gIB h) := ⟨fun ς G σ H x y dx dy r Q rl hx hy e k => by
  cases dx with
  | bool i =>
    cases dy with
    | int j => cases e; exact .inl ⟨i, j, hx.bool, hy.int, k _ H G rl (Same.refl _) (.int _)⟩
    | _ => cases e
  | int i =>
    cases dy with
    | bool j => cases e; exact .inr ⟨i, j, hx.int, hy.bool, k _ H G rl (Same.refl _) (.int _)⟩
    | _ => cases e
  | _ => cases e⟩
/-! ### slices -/
def tEvO (K : PySem.W.Frag) (F : Fx) (f : M (Option Int)) : TO := fun σ H Q => ∃ ς G, Rel K F ς G σ H ∧ ∃ o ς', f ς = some (o, ς') ∧ ∀ H' G', Rel K F ς' G' σ H' → Same G G' → Q o H'
def ptN : M (Option Int) := ret none
def ptS (f : M R) : M (Option Int) := bd (sub f) fun r => bd (rd r) fun d => lift (match d with | .int i => some (some i) | _ => none)
theorem _root_.L2.PO.mono {o : Option Expr} {t t' : TO} (h : PO X o t) (k : ∀ σ H Q, t' σ H Q → t σ H Q) : PO X o t' := ⟨fun pins s σ H Q I hw => h.run pins s σ H Q I (k σ H Q hw)⟩
abbrev POd (X : Cx) (o : Option Expr) (f : M (Option Int)) : Prop := ∀ F : Fx, PO X o (tEvO X.K F f)
theorem o_none : POd X none ptN := fun F => PO.mono po_none fun σ H Q hq => by
  obtain ⟨ς, G, rl, r, ς', e, k⟩ := hq
  cases e
  exact k H G rl (Same.refl _)
theorem o_some (h : PEd X e f) : POd X (some e) (ptS f) := fun F => PO.mono (po_some (d_sub h F)) fun σ H Q hq => by
  obtain ⟨ς, G, rl, r, ς', e, k⟩ := hq
  obtain ⟨a, ς1, e1, q1⟩ := bd_some e
  obtain ⟨x, ς3, e3', q3⟩ := bd_some q1
  obtain ⟨e3, h3⟩ := rd_some e3'
  obtain ⟨e4, h4⟩ := lift_some q3
  subst h3 h4
  refine ⟨ς, G, rl, a, _, e1, fun v H1 G1 rl1 s1 rep1 => ?_⟩
  have rv := rdD_ok rl1 rep1 e3
  cases x with
  | int i => cases e4; exact ⟨i, rv.int, k H1 G1 rl1 s1⟩
  | _ => cases e4
def cutD (ds : List D) (lo hi : Option Int) : List D := (ds.drop (HT.sIx ds.length 0 lo)).take (HT.sIx ds.length ds.length hi - HT.sIx ds.length 0 lo)
def gSl (x : D) (lo hi : Option Int) : Option R := match x with
  | .list ds => some (.fresh (cutD ds lo hi))
  | .tuple ds => some (.pure (.tuple (cutD ds lo hi)))
  | _ => none
def slE (fa : M R) (fl fh : M (Option Int)) : M R := bd (sub fa) fun a => bd fl fun l => bd fh fun h => bd (rd a) fun x => lift (gSl x l h)
theorem d_sl {lo hi : Option Expr} {fl fh : M (Option Int)} (ha : PEd X a fa) (hl : POd X lo fl) (hh : POd X hi fh) : PEd X (.Subscript a (.Slice lo hi none p2) pos) (slE fa fl fh) :=
  fun F => PE.mono (pe_slice (sl_list.or sl_tupA) (d_sub ha F) (hl F) (hh F)) fun σ H Q hq => by
    obtain ⟨ς, G, rl, r, ς', e, k⟩ := hq
    obtain ⟨a, ς1, e1, q1⟩ := bd_some e
    obtain ⟨l, ς2, e2, q2⟩ := bd_some q1
    obtain ⟨h, ς3, e3, q3⟩ := bd_some q2
    obtain ⟨x, ς4, e4', q4⟩ := bd_some q3
    obtain ⟨e4, h4⟩ := rd_some e4'
    obtain ⟨e5, h5⟩ := lift_some q4
    subst h4 h5
    refine ⟨ς, G, rl, a, ς1, e1, fun v H1 G1 rl1 s1 rep1 => ⟨ς1, G1, rl1, l, ς2, e2, fun H2 G2 rl2 s2 => ⟨ς2, G2, rl2, h, _, e3, fun H3 G3 rl3 s3 => ?_⟩⟩⟩
    have rep1' := rep_keep (ς' := ς') (H' := H3) rep1 (sub_nf e1) (s2.trans s3)
    have rv := rdD_ok rl3 rep1' e4
    cases x with
    | list ds =>
      cases e5
      obtain ⟨p, vs, rfl, h1, h2⟩ := rv.list rl3.sub
      refine .inl ⟨p, vs, rfl, h1, fun z hz => ?_⟩
      have : DpAll X.K G3 (cutV vs l h) (cutD ds l h) := by
        unfold cutV cutD
        rw [dpa_len h2]
        exact dpa_take _ (dpa_drop _ h2)
      exact k _ _ G3 (rl3.layF hz) (s1.trans (s2.trans s3)) (rl3.repF hz this)
    | tuple ds =>
      cases e5
      obtain ⟨p, vs, e6, h1, h2⟩ := rv.tuple rl3.sub
      subst e6
      refine .inr ⟨p, vs, rfl, h1, fun z => ?_, fun _ z hz => ?_⟩
      · rw [dpa_len h2] at z
        have : cutD ds l h = ds := by
          unfold cutD
          rw [z.1, z.2]
          simp
        rw [this] at k
        rcases rv with rv | ⟨_, _, _, _, ee, _⟩
        · exact k _ H3 G3 rl3 (s1.trans (s2.trans s3)) rv
        · cases ee
      · have : DpAll X.K G3 (cutV vs l h) (cutD ds l h) := by
          unfold cutV cutD
          rw [dpa_len h2]
          exact dpa_take _ (dpa_drop _ h2)
        exact k _ _ _ (rl3.lay hz) (s1.trans (s2.trans (s3.trans (same_upd (rl3.gnone hz))))) (rl3.layD hz this)
    | _ => cases e5
def revE (fa : M R) : M R := bd (sub fa) fun a => bd (rd a) fun x => lift (match x with | .list ds => some (.fresh ds.reverse) | _ => none)
/-! ### built-ins by values -/
structure Call1 (X : Cx) (F : Fx) (r : List V → Hp → VK → Prop) (g : D → Option R) : Prop where
  run : ∀ (ς : En) (G : Hp) (σ : L2.St) (H : Hp) (x : V) (dx : D) (res : R) (Q : VK), Rel X.K F ς G σ H → RdV X.K G H x dx → g dx = some res →
    (∀ v H' G', Rel X.K F ς G' σ H' → Same G G' → RepR X.K F ς G' σ H' res v → Q v H') → r [x] H Q
structure Call2 (X : Cx) (F : Fx) (r : List V → Hp → VK → Prop) (g : D → D → Option R) : Prop where
  run : ∀ (ς : En) (G : Hp) (σ : L2.St) (H : Hp) (x y : V) (dx dy : D) (res : R) (Q : VK), Rel X.K F ς G σ H → RdV X.K G H x dx → RdV X.K G H y dy → g dx dy = some res →
    (∀ v H' G', Rel X.K F ς G' σ H' → Same G G' → RepR X.K F ς G' σ H' res v → Q v H') → r [x, y] H Q
def cal1 (g : D → Option R) (fa : M R) : M R := bd (sub fa) fun a => bd (rd a) fun x => lift (g x)
theorem t_cal1 {r : List V → Hp → VK → Prop} {g : D → Option R} (o : Call1 X F r g) : ∀ σ H Q, tEv X.K F (cal1 g fa) σ H Q → tCB r (tCons (tEv X.K F (sub fa)) tNil) σ H Q := fun σ H Q hq => by
  obtain ⟨ς, G, rl, r, ς', e, k⟩ := hq
  obtain ⟨a, ς1, e1, q1⟩ := bd_some e
  obtain ⟨x, ς4, e4', q4⟩ := bd_some q1
  obtain ⟨e4, h4⟩ := rd_some e4'
  obtain ⟨e5, h5⟩ := lift_some q4
  subst h4 h5
  exact ⟨ς, G, rl, a, _, e1, fun v H1 G1 rl1 s1 rep1 => o.run _ G1 σ H1 v x r Q rl1 (rdD_ok rl1 rep1 e4) e5 fun u H' G' rl' s rep => k u H' G' rl' (s1.trans s) rep⟩
theorem t_cal2 {r : List V → Hp → VK → Prop} {g : D → D → Option R} (o : Call2 X F r g) : ∀ σ H Q, tEv X.K F (op2 g fa fb) σ H Q → tCB r (tCons (tEv X.K F (sub fa)) (tCons (tEv X.K F (sub fb)) tNil)) σ H Q := fun σ H Q hq =>
  t_op2 (X := X) (F := F) (fa := fa) (fb := fb) (r2 := fun x y H Q => r [x, y] H Q) (g := g) ⟨o.run⟩ σ H Q hq
theorem d_callB1 {r : List V → Hp → VK → Prop} {g : D → Option R} {id : String} (hc : CallR X (.builtin id) r) (o : ∀ F, Call1 X F r g) (hg : Gl X x) (hm : X.mg x = none) (hv : bootBuiltins x = some (.builtin id)) (ha : PEd X a fa) (hn : x ≠ "__name__" := by decide) (hdb : (x == ("__debug__" : Str)) = false := by decide)
    (he : starEach [a] X.env = (false, eval a X.env) :: starEach [] X.env := by rfl) (hpl : (backTo pos (starEach [] X.env)).any (·.1) = false := by rfl) : PEd X (.Call (.Name x p) [a] [] pos) (cal1 g fa) :=
  fun F => PE.mono (pe_callB hc hg hm hv (pa_cons (d_sub ha F) pa_nil he) hn hdb he hpl) (t_cal1 (o F))
theorem d_callT1 {r : List V → Hp → VK → Prop} {g : D → Option R} {T : String} (hc : CallR X (.type T) r) (o : ∀ F, Call1 X F r g) (hg : Gl X x) (hm : X.mg x = none) (hv : bootBuiltins x = some (.type T)) (ha : PEd X a fa) (hn : x ≠ "__name__" := by decide) (hdb : (x == ("__debug__" : Str)) = false := by decide)
    (he : starEach [a] X.env = (false, eval a X.env) :: starEach [] X.env := by rfl) (hpl : (backTo pos (starEach [] X.env)).any (·.1) = false := by rfl) : PEd X (.Call (.Name x p) [a] [] pos) (cal1 g fa) :=
  fun F => PE.mono (pe_callTy hc hg hm hv (pa_cons (d_sub ha F) pa_nil he) hn hdb he hpl) (t_cal1 (o F))
theorem d_callB2 {r : List V → Hp → VK → Prop} {g : D → D → Option R} {id : String} (hc : CallR X (.builtin id) r) (o : ∀ F, Call2 X F r g) (hg : Gl X x) (hm : X.mg x = none) (hv : bootBuiltins x = some (.builtin id)) (ha : PEd X a fa) (hb : PEd X b fb) (hn : x ≠ "__name__" := by decide) (hdb : (x == ("__debug__" : Str)) = false := by decide)
    (he : starEach [a, b] X.env = (false, eval a X.env) :: starEach [b] X.env := by rfl) (he2 : starEach [b] X.env = (false, eval b X.env) :: starEach [] X.env := by rfl) (hpl : (backTo pos (starEach [b] X.env)).any (·.1) = false := by rfl) : PEd X (.Call (.Name x p) [a, b] [] pos) (op2 g fa fb) :=
  fun F => PE.mono (pe_callB hc hg hm hv (pa_cons (d_sub ha F) (pa_cons (d_sub hb F) pa_nil he2) he) hn hdb he hpl) (t_cal2 (o F))
theorem CallR.or {f : Value} {r r' : List V → Hp → VK → Prop} (h : CallR X f r) (h' : CallR X f r') : CallR X f (fun xs H Q => r xs H Q ∨ r' xs H Q) := by
  intro pins s σ H xs us Q I rv hq
  rcases hq with hq | hq
  · exact h pins s σ H xs us Q I rv hq
  · exact h' pins s σ H xs us Q I rv hq
def gAbs : D → Option R
  | .int i => some (.pure (.int (if i < 0 then -i else i)))
  | _ => none
theorem d_abs (hg : Gl X "abs") (hm : X.mg "abs" = none) (ha : PEd X a fa) (he : starEach [a] X.env = (false, eval a X.env) :: starEach [] X.env := by rfl) : PEd X (.Call (.Name "abs" p) [a] [] pos) (cal1 gAbs fa) := d_callB1 call_abs (fun F => ⟨fun ς G σ H x dx res Q rl hx e k => by
  cases dx with
  | int i => cases e; exact ⟨i, by rw [hx.int], k _ H G rl (Same.refl _) (.int _)⟩
  | _ => cases e⟩) hg hm (by decide +kernel) ha (he := he) (hpl := rfl)
def gInt : D → Option R
  | .int i => some (.pure (.int i))
  | .bool k => some (.pure (.int (if k = true then 1 else 0)))
  | _ => none
theorem d_toInt (hg : Gl X "int") (hm : X.mg "int" = none) (ha : PEd X a fa) (he : starEach [a] X.env = (false, eval a X.env) :: starEach [] X.env := by rfl) : PEd X (.Call (.Name "int" p) [a] [] pos) (cal1 gInt fa) := d_callT1 call_int1 (fun F => ⟨fun ς G σ H x dx res Q rl hx e k => by
  cases dx with
  | int i => cases e; exact .inl ⟨i, by rw [hx.int], k _ H G rl (Same.refl _) (.int _)⟩
  | bool i => cases e; exact .inr ⟨i, by rw [hx.bool], k _ H G rl (Same.refl _) (.int _)⟩
  | _ => cases e⟩) hg hm (by decide +kernel) ha (he := he) (hpl := rfl)
def gLen : D → Option R
  | .list ds => some (.pure (.int ds.length))
  | .tuple ds => some (.pure (.int ds.length))
  | .str x => if x.length ≤ sizeLine then some (.pure (.int x.length)) else none
  | _ => none
theorem d_len (hg : Gl X "len") (hm : X.mg "len" = none) (ha : PEd X a fa) (he : starEach [a] X.env = (false, eval a X.env) :: starEach [] X.env := by rfl) : PEd X (.Call (.Name "len" p) [a] [] pos) (cal1 gLen fa) := d_callB1 call_len (fun F => ⟨fun ς G σ H x dx res Q rl hx e k => by
  cases dx with
  | list ds =>
    cases e
    obtain ⟨q, vs, rfl, h1, h2⟩ := hx.list rl.sub
    exact ⟨_, ds.length, rfl, .inl ⟨vs, h1, (dpa_len h2).symm⟩, k _ H G rl (Same.refl _) (.int _)⟩
  | tuple ds =>
    cases e
    obtain ⟨q, vs, rfl, h1, h2⟩ := hx.tuple rl.sub
    exact ⟨_, ds.length, rfl, .inr ⟨vs, h1, (dpa_len h2).symm⟩, k _ H G rl (Same.refl _) (.int _)⟩
  | str y =>
    replace e : (if y.length ≤ sizeLine then some (R.pure (.int y.length)) else none) = some res := e
    by_cases q : y.length ≤ sizeLine
    · rw [if_pos q] at e; cases e
      exact ⟨.str y, y.length, by rw [hx.str], ⟨q, rfl⟩, k _ H G rl (Same.refl _) (.int _)⟩
    · rw [if_neg q] at e; cases e
  | _ => cases e⟩) hg hm PySem.boot_len ha (he := he) (hpl := rfl)
def gList (x : D) : Option R := match items x with
  | some ds => some (.fresh ds)
  | none => none
theorem d_list (hg : Gl X "list") (hm : X.mg "list" = none) (ha : PEd X a fa) (he : starEach [a] X.env = (false, eval a X.env) :: starEach [] X.env := by rfl) : PEd X (.Call (.Name "list" p) [a] [] pos) (cal1 gList fa) := d_callT1 call_list_of (fun F => ⟨fun ς G σ H x dx res Q rl hx e k => by
  unfold gList at e
  split at e
  · rename_i ds q
    cases e
    obtain ⟨l, vs, rfl, h1, h2⟩ := items_ok rl.sub hx q
    exact ⟨l, vs, rfl, h1, fun z hz => k _ _ G (rl.layF hz) (Same.refl _) (rl.repF hz h2)⟩
  · cases e⟩) hg hm (by decide +kernel) ha (he := he) (hpl := rfl)
def gTuple (x : D) : Option R := match items x with
  | some ds => some (.pure (.tuple ds))
  | none => none
theorem d_tuple (hg : Gl X "tuple") (hm : X.mg "tuple" = none) (ha : PEd X a fa) (he : starEach [a] X.env = (false, eval a X.env) :: starEach [] X.env := by rfl) : PEd X (.Call (.Name "tuple" p) [a] [] pos) (cal1 gTuple fa) := d_callT1 call_tuple_of (fun F => ⟨fun ς G σ H x dx res Q rl hx e k => by
  cases dx with
  | list ds =>
    cases e
    obtain ⟨q, vs, rfl, h1, h2⟩ := hx.list rl.sub
    exact ⟨q, vs, rfl, .inl ⟨h1, fun z hz => k _ _ _ (rl.lay hz) (same_upd (rl.gnone hz)) (rl.layD hz h2)⟩⟩
  | tuple ds =>
    cases e
    rcases hx with hx | ⟨_, _, _, _, ee, _⟩
    · obtain ⟨q, vs, e6, h1, h2⟩ := dp_tuple hx
      subst e6
      exact ⟨q, vs, rfl, .inr ⟨same_seqT rl.sub h1, k _ H G rl (Same.refl _) hx⟩⟩
    · cases ee
  | _ => cases e⟩) hg hm (by decide +kernel) ha (he := he) (hpl := rfl)
def bools : List D → Option (List Bool)
  | [] => some []
  | .bool b :: ds => match bools ds with
    | some bs => some (b :: bs)
    | none => none
  | _ :: _ => none
theorem bools_map : ∀ {ds : List D} {bs : List Bool}, bools ds = some bs → ds = bs.map PyData.bool
  | [], _, e => by cases e; rfl
  | .bool b :: ds, bs, e => by
    unfold bools at e
    split at e
    · rename_i bs' q
      cases e
      rw [bools_map q]; rfl
    · cases e
  | .none :: _, _, e => by cases e
  | .int _ :: _, _, e => by cases e
  | .str _ :: _, _, e => by cases e
  | .list _ :: _, _, e => by cases e
  | .tuple _ :: _, _, e => by cases e
  | .dict _ :: _, _, e => by cases e
def gAll : D → Option R
  | .list ds => match bools ds with
    | some bs => some (.pure (.bool (bs.all id)))
    | none => none
  | _ => none
theorem d_all (hc : X.calm = true) (hg : Gl X "all") (hm : X.mg "all" = none) (ha : PEd X a fa) (he : starEach [a] X.env = (false, eval a X.env) :: starEach [] X.env := by rfl) : PEd X (.Call (.Name "all" p) [a] [] pos) (cal1 gAll fa) := d_callB1 (cr_all hc) (fun F => ⟨fun ς G σ H x dx res Q rl hx e k => by
  cases dx with
  | list ds =>
    unfold gAll at e
    simp only at e
    split at e
    · rename_i bs q
      cases e
      obtain ⟨l, vs, rfl, h1, h2⟩ := hx.list rl.sub
      rw [bools_map q] at h2
      rw [dpa_bools_inv h2] at h1
      exact ⟨l, bs, rfl, h1, k _ H G rl (Same.refl _) (.bl _)⟩
    · cases e
  | _ => cases e⟩) hg hm (by decide +kernel) ha (he := he) (hpl := rfl)
def intsD : List D → Option (List Int)
  | [] => some []
  | .int b :: ds => match intsD ds with
    | some bs => some (b :: bs)
    | none => none
  | _ :: _ => none
/-- divmod of a number not below 0 -/
def gDm : D → D → Option R
  | .int i, .int j => if 0 < j ∧ j < 2 ^ 200 then some (.pure (.tuple [.int (i / j), .int (i % j)])) else none
  | _, _ => none
theorem divp_200 {i j : Int} (h : 0 < j ∧ j < 2 ^ 200) : CDivP i j := by
  obtain ⟨w1, w2⟩ : CDivW i j := by
    refine wide_div (b := 200) h.1 ?_ (by decide) (by decide)
    have h2 : j.toNat < 2 ^ 200 := by
      rw [Int.toNat_lt (n := 2 ^ 200) (by omega : 0 ≤ j)]
      exact_mod_cast h.2
    omega
  refine ⟨h.1, ?_⟩
  exact PyProof.noPylong_of_log2 w2
theorem d_divmod (hg : Gl X "divmod") (hm : X.mg "divmod" = none) (ha : PEd X a fa) (hb : PEd X b fb) (he : starEach [a, b] X.env = (false, eval a X.env) :: starEach [b] X.env := by rfl) (he2 : starEach [b] X.env = (false, eval b X.env) :: starEach [] X.env := by rfl) (hpl : (backTo pos (starEach [b] X.env)).any (·.1) = false := by rfl) :
    PEd X (.Call (.Name "divmod" p) [a, b] [] pos) (op2 gDm fa fb) := d_callB2 call_divmodW (fun F => ⟨fun ς G σ H x y dx dy res Q rl hx hy e k => by
  cases dx with
  | int i =>
    cases dy with
    | int j =>
      replace e : (if 0 < j ∧ j < 2 ^ 200 then some (R.pure (.tuple [.int (i / j), .int (i % j)])) else none) = some res := e
      by_cases q : 0 < j ∧ j < 2 ^ 200
      · rw [if_pos q] at e; cases e
        exact ⟨i, j, by rw [hx.int, hy.int], divp_200 q, fun z hz => k _ _ _ (rl.lay hz) (same_upd (rl.gnone hz)) (rl.layD hz (.cons (.int _) (.cons (.int _) .nil)))⟩
      · rw [if_neg q] at e; cases e
    | _ => cases e
  | _ => cases e⟩) hg hm (by decide +kernel) ha hb (he := he) (he2 := he2) (hpl := hpl)
def gStrOf : D → Option R
  | .int i => if i.natAbs.log2 < 1920 then some (.pure (.str (toString i))) else none
  | .bool k => some (.pure (.str (if k = true then "True" else "False")))
  | .str x => none
  | _ => none
theorem call_str_bool : CallR X (.type "str") (fun xs H Q => ∃ i, xs = [.bl i] ∧ Q (.str (if i = true then "True" else "False")) H) := by
  intro pins s σ H xs us Q I r h
  obtain ⟨i, rfl, q⟩ := h
  obtain ⟨u, rfl, rx⟩ := vals1 r
  cases rx
  exact P.str_of_bool ⟨.str _, H, I.tok _, ⟨_, rfl⟩, q⟩
theorem d_strOf (hg : Gl X "str") (hm : X.mg "str" = none) (ha : PEd X a fa) (he : starEach [a] X.env = (false, eval a X.env) :: starEach [] X.env := by rfl) : PEd X (.Call (.Name "str" p) [a] [] pos) (cal1 gStrOf fa) := d_callT1 (CallR.or call_str_int call_str_bool) (fun F => ⟨fun ς G σ H x dx res Q rl hx e k => by
  cases dx with
  | int i =>
    replace e : (if i.natAbs.log2 < 1920 then some (R.pure (.str (toString i))) else none) = some res := e
    by_cases q : i.natAbs.log2 < 1920
    · rw [if_pos q] at e; cases e
      exact .inl ⟨i, by rw [hx.int], q, k _ H G rl (Same.refl _) (.str _)⟩
    · rw [if_neg q] at e; cases e
  | bool i => cases e; exact .inr ⟨i, by rw [hx.bool], k _ H G rl (Same.refl _) (.str _)⟩
  | _ => cases e⟩) hg hm (by decide +kernel) ha (he := he) (hpl := rfl)
end
end Lw
namespace Lw
open PySem PySem.Spec PyProof.Rows L2
section
variable {X : Cx} {a b c e : Expr} {es : List Expr} {fa fb fc f : M R} {pos p p1 p2 p3 : Pos} {x : Str}
/-! ### isinstance -/
inductive Tn where
  | int | bool | str | list | tuple
def Tn.name : Tn → String
  | .int => "int" | .bool => "bool" | .str => "str" | .list => "list" | .tuple => "tuple"
def tyN : D → String
  | .none => "NoneType" | .bool _ => "bool" | .int _ => "int" | .str _ => "str" | .list _ => "list" | .tuple _ => "tuple" | .dict _ => "dict"
def isD : Tn → D → Bool
  | .int, .int _ => true
  | .int, .bool _ => true
  | .bool, .bool _ => true
  | .str, .str _ => true
  | .list, .list _ => true
  | .tuple, .tuple _ => true
  | _, _ => false
theorem kit_isD (t : Tn) (d : D) : kitB (tyN d) t.name = some (isD t d) := by
  cases t <;> cases d <;> (dsimp only [tyN, isD, Tn.name]; decide +kernel)
/-- what is known of a thing's class; a dict of tuples that is walked, too -/
def TyY (K : PySem.W.Frag) (H : Hp) (x : V) (t : Value) : Prop := TyX K H x t ∨ ∃ (a : Addr) (o : Obj) (kvs : List (List L2.Key × V)), x = .ref a ∧ t = .type "dict" ∧ H a = some (.frz o (.dT kvs))
theorem kit_ofY {X : Cx} {pins : List (Addr × Obj)} {σ : L2.St} {H : Hp} {s : Shared} {x : V} {u t : Value} (I : Inv X pins σ H s) (rx : RelV x u) (ty : TyY X.K H x t) : ∃ P : Heap → Prop, PySem.W.KitX X.K u t P ∧ P s.heap ∧ u ≠ .builtin "__main__.__loader__#opaque" := by
  rcases ty with ty | ⟨a, ob, kvs, rfl, rfl, ea⟩
  · exact kit_of I rx ty
  · cases (show u = Value.ref a from rx)
    obtain ⟨_, _, _, xs, _, o, es, ep, h1, h2, _⟩ := (show ObjOk X.prog X.w H s.heap a (.frz ob (.dT kvs)) from I.hok a _ ea)
    exact ⟨_, PySem.W.kitx_dict, ⟨o, h1, h2.1⟩, fun z => nomatch z⟩
def rIsiY (K : PySem.W.Frag) : List V → Hp → VK → Prop := fun xs H Q => ∃ (x c : V) (t u : Value) (b : Bool), xs = [x, c] ∧ ClsV c u ∧ TyY K H x t ∧ PySem.W.kitOne K t u = some b ∧ Q (.bl b) H
def rIsiTY (K : PySem.W.Frag) : List V → Hp → VK → Prop := fun xs H Q => ∃ (x : V) (tp : Addr) (cs : List V) (t : Value) (us : List Value) (b : Bool), xs = [x, .ref tp] ∧ H tp = some (.tup cs) ∧ Paired ClsV cs us ∧ TyY K H x t ∧ PySem.W.kitAny K t us = some b ∧ Q (.bl b) H
theorem call_isiY {X : Cx} : CallR X (.builtin "isinstance") (rIsiY X.K) := by
  intro pins s σ H xs us Q I r h
  obtain ⟨x, c, t, u, b, rfl, k, ty, e, q⟩ := h
  obtain ⟨u1, u2, rfl, r1, r2⟩ := vals2 r
  have e2 := k.eq r2
  subst e2
  obtain ⟨P, Z, p, hx⟩ := kit_ofY I r1 ty
  exact PySem.W.kia_one Z I.kIn p e hx fun tk => ⟨.bl b, H, I.tok tk, rfl, q⟩
theorem call_isiTY {X : Cx} : CallR X (.builtin "isinstance") (rIsiTY X.K) := by
  intro pins s σ H xs us Q I r h
  obtain ⟨x, tp, cs, t, ws, b, rfl, hT, k, ty, e, q⟩ := h
  obtain ⟨u1, u2, rfl, r1, r2⟩ := vals2 r
  cases (show u2 = Value.ref tp from r2)
  obtain ⟨P, Z, p, hx⟩ := kit_ofY I r1 ty
  obtain ⟨_, its, rv, o, h1, h2, n, h3⟩ := (show ObjOk X.prog X.w H s.heap tp (.tup cs) from I.hok tp _ hT)
  have e3 := ClsV.all k rv
  subst e3
  obtain ⟨oc, od, dt, sl⟩ := o
  simp only at h2 h3
  subst h2 h3
  exact PySem.W.kia_tup Z I.kIn p h1 e hx fun tk => ⟨.bl b, H, I.tok tk, rfl, q⟩
/-- what isinstance asks of a datum's type -/
def TyT (K : PySem.W.Frag) (d : D) (t : Value) : Prop := ∀ n : Tn, PySem.W.kitOne K t (.type n.name) = some (isD n d)
theorem tyT_of {K : PySem.W.Frag} (d : D) : TyT K d (.type (tyN d)) := fun n => kit_ty (kit_isD n d)
theorem tyX_of {K : PySem.W.Frag} {H : Hp} {v : V} {d : D} (h : Dp K H v d) : ∃ t, TyY K H v t ∧ TyT K d t := by
  by_cases hd : ∃ nm fl ks, d = .dict ((.str nm, .bool fl) :: ks)
  · obtain ⟨nm, fl, ks, rfl⟩ := hd
    cases h with
    | obj h hc hs =>
      obtain ⟨c1, c2, c3, c4, c5, c6⟩ := hc
      exact ⟨_, .inl (.base (.ins h c1 c2 c3 c4 c5)), fun n => by cases n <;> exact c6 _ (by decide)⟩
  refine ⟨_, ?_, tyT_of d⟩
  cases h with
  | obj h hc hs => exact absurd ⟨_, _, _, rfl⟩ hd
  | non => exact .inl <| .base .non
  | bl b => exact .inl <| .base (.bl b)
  | int i => exact .inl <| .base (.int i)
  | str x => exact .inl <| .base (.str x)
  | lst h _ =>
    rcases h with (h | ⟨o, h⟩) | ⟨o, _, _, h, hc, _⟩
    · exact .inl <| .base (.lst h)
    · exact .inl <| .base (.frz h)
    · exact .inl <| .kList h hc
  | tup h _ =>
    rcases h with (h | ⟨o, h⟩) | ⟨o, _, _, h, hc, _⟩
    · exact .inl <| .base (.tup h)
    · exact .inl <| .fTuple h
    · exact .inl <| .kTuple h hc
  | dcK h _ =>
    rcases h with h | ⟨o, h⟩
    · exact .inl <| .base (.dK h)
    · exact .inl <| .fDict h
  | dcT h _ =>
    rcases h with h | ⟨o, h⟩
    · exact .inl <| .base (.dT h)
    · exact .inr ⟨_, o, _, rfl, rfl, h⟩
def isE (fa : M R) (ts : List Tn) : M R := bd (sub fa) fun r => bd (rd r) fun d => ret (.pure (.bool (ts.any fun t => isD t d)))
theorem kitAny_of {K : PySem.W.Frag} {d : D} {v : Value} (hv : TyT K d v) : ∀ ts : List Tn, PySem.W.kitAny K v (ts.map fun t => .type t.name) = some (ts.any fun t => isD t d)
  | [] => rfl
  | t :: ts => kitAny_cons (hv t) (fun h => by rw [List.any_cons, h, Bool.false_or]; exact kitAny_of hv ts) (fun h => by rw [List.any_cons, h, Bool.true_or])
theorem clsV_of : ∀ ts : List Tn, Paired ClsV (ts.map fun t => V.ty t.name) (ts.map fun t => Value.type t.name)
  | [] => .nil
  | t :: ts => .cons (.ty _) (clsV_of ts)
theorem d_isi1 {y : Str} (t : Tn) (hg : Gl X "isinstance") (hm : X.mg "isinstance" = none) (ha : PEd X a fa) (hy : PE X (.Name y p2) (tC (.ty t.name))) (he : starEach [a, .Name y p2] X.env = (false, eval a X.env) :: starEach [.Name y p2] X.env := by rfl) :
    PEd X (.Call (.Name "isinstance" p) [a, .Name y p2] [] pos) (isE fa [t]) := fun F => PE.mono (pe_callB call_isiY hg hm (by decide +kernel) (pa_cons (d_sub ha F) (pa_cons hy pa_nil) he) (he := he) (hpl := rfl)) fun σ H Q hq => by
  obtain ⟨ς, G, rl, r, ς', e, k⟩ := hq
  obtain ⟨a, ς1, e1, q1⟩ := bd_some e
  obtain ⟨d, ς3, e3', q3⟩ := bd_some q1
  obtain ⟨e3, h3⟩ := rd_some e3'
  subst h3
  cases q3
  refine ⟨ς, G, rl, a, _, e1, fun v H1 G1 rl1 s1 rep1 => ?_⟩
  have rv := rdD_ok rl1 rep1 e3
  obtain ⟨tt, ty, hv⟩ := tyX_of (rv.dp rl1.sub)
  exact ⟨v, .ty t.name, _, _, _, rfl, .ty _, ty, hv t, k _ H1 G1 rl1 s1 (by rw [List.any_cons, List.any_nil, Bool.or_false]; exact .bl _)⟩
theorem tys_len (ts : List Tn) (h : ts.length ≤ 100) : (ts.map fun t => V.ty t.name).length ≤ sizeLine := by rw [List.length_map, sizeLine_eq]; omega
theorem d_isiN {tys : List Expr} {kk : Nat} (ts : List Tn) (hg : Gl X "isinstance") (hm : X.mg "isinstance" = none) (ha : PEd X a fa) (hy : PA X tys (fun σ H Q => Q (ts.map fun t => V.ty t.name) H)) (hl : ts.length ≤ 100 := by decide) (he : starEach [a, .Tuple tys kk p2] X.env = (false, eval a X.env) :: starEach [.Tuple tys kk p2] X.env := by rfl) :
    PEd X (.Call (.Name "isinstance" p) [a, .Tuple tys kk p2] [] pos) (isE fa ts) := fun F => PE.mono (pe_callB call_isiTY hg hm (by decide +kernel) (pa_cons (d_sub ha F) (pa_cons (pe_tup hy) pa_nil) he) (he := he) (hpl := rfl)) fun σ H Q hq => by
  obtain ⟨ς, G, rl, r, ς', e, k⟩ := hq
  obtain ⟨a, ς1, e1, q1⟩ := bd_some e
  obtain ⟨d, ς3, e3', q3⟩ := bd_some q1
  obtain ⟨e3, h3⟩ := rd_some e3'
  subst h3
  cases q3
  refine ⟨ς, G, rl, a, _, e1, fun v H1 G1 rl1 s1 rep1 => ⟨tys_len ts hl, fun z hz => ?_⟩⟩
  have rv := rdD_ok rl1 rep1 e3
  obtain ⟨tt, ty, hv⟩ := tyX_of (dp_same (same_upd (o := .tup (ts.map fun t => V.ty t.name)) hz) (rv.dp rl1.sub))
  exact ⟨v, z, _, _, _, _, rfl, upd_same, clsV_of ts, ty, kitAny_of hv ts, k _ _ _ (rl1.lay hz) (s1.trans (same_upd (rl1.gnone hz))) (.bl _)⟩
/-- the types' names as arguments -/
theorem ty_nil : PA X [] (fun σ H Q => Q (([] : List Tn).map fun t => V.ty t.name) H) := pa_nil
theorem ty_cons {y : Str} {ts : List Tn} (t : Tn) (hy : PE X (.Name y p2) (tC (.ty t.name))) (h : PA X es (fun σ H Q => Q (ts.map fun t => V.ty t.name) H)) (he : starEach (.Name y p2 :: es) X.env = (false, eval (.Name y p2) X.env) :: starEach es X.env := by rfl) :
    PA X (.Name y p2 :: es) (fun σ H Q => Q ((t :: ts).map fun t => V.ty t.name) H) := pa_cons hy h he
/-! ### repr of data -/
end
/-! ### another entry to hold on to -/
section
variable {K : PySem.W.Frag} {F : Fx} {ς ς' : En} {G H G' H' : Hp} {σ σ' : L2.St}
noncomputable def Fx.now (F : Fx) (ς : En) (G : Hp) (σ : L2.St) (H : Hp) : Fx where
  A := F.A
  L := F.L
  G0 := G
  H0 := fun a => @ite _ ((∃ (i : Nat) (ds : List D), ς[i]? = some (some (.own false ds)) ∧ σ[i]? = some (some (.ref a))) ∨ ∃ (i : Nat) (kvs : List (D × D)), ς[i]? = some (some (.vx (.odc kvs))) ∧ parO kvs = false ∧ σ[i]? = some (some (.ref a))) (Classical.propDecidable _) none (H a)
theorem now_none (r : Rel K F ς G σ H) {a : Addr} (h : (F.now ς G σ H).H0 a = none) : F.H0 a = none := by
  by_cases q : (∃ (i : Nat) (ds : List D), ς[i]? = some (some (.own false ds)) ∧ σ[i]? = some (some (.ref a))) ∨ ∃ (i : Nat) (kvs : List (D × D)), ς[i]? = some (some (.vx (.odc kvs))) ∧ parO kvs = false ∧ σ[i]? = some (some (.ref a))
  · rcases q with ⟨i, ds, h1, h2⟩ | ⟨i, kvs, h1, hk, h2⟩
    · obtain ⟨a', vs, e1, _, _, _, _, e6⟩ := r.ow i false ds h1
      rw [h2] at e1; cases e1
      exact e6 rfl
    · obtain ⟨a', o, e1, _, _, _, e5⟩ := r.od i kvs h1
      rw [h2] at e1; cases e1
      exact e5.1 hk
  · have h' : H a = none := by
      unfold Fx.now at h
      simp only at h
      rw [if_neg q] at h
      exact h
    exact r.new h'
theorem now_noneN (r : Rel K F ς G σ H) {a : Addr} (h : Nw ((F.now ς G σ H).H0 a)) : Nw (F.H0 a) := by
  rcases h with h | ⟨xs, h⟩
  · exact .inl (now_none r h)
  · refine r.newN (.inr ⟨xs, ?_⟩)
    unfold Fx.now at h
    simp only at h
    split at h
    · cases h
    · exact h
theorem now_someG {a : Addr} {o : HO} (h : H a = some o) (q : ∀ (i : Nat) b ds, ς[i]? = some (some (.own b ds)) → σ[i]? ≠ some (some (.ref a))) (qd : ∀ (i : Nat) kvs, ς[i]? = some (some (.vx (.odc kvs))) → σ[i]? ≠ some (some (.ref a))) : (F.now ς G σ H).H0 a = some o := by
  unfold Fx.now
  simp only
  rw [if_neg (by
    rintro (⟨i, ds, h1, h2⟩ | ⟨i, kvs, h1, _, h2⟩)
    · exact q i _ _ h1 h2
    · exact qd i _ h1 h2)]
  exact h
theorem Rel.lno (r : Rel K F ς G σ H) {a : Addr} {vs : List V} (h : H a = some (.lst vs)) : ∀ (i : Nat) kvs, ς[i]? = some (some (.vx (.odc kvs))) → σ[i]? ≠ some (some (.ref a)) := fun i kvs h1 h2 => by
  obtain ⟨a', o, e1, e2, e3, _⟩ := r.od i kvs h1
  rw [h2] at e1; cases e1
  rw [h] at e2; cases e2
  exact DcAt.lst e3
theorem now_some (r : Rel K F ς G σ H) {a : Addr} {vs : List V} (h : H a = some (.lst vs)) (q : ∀ (i : Nat) b ds, ς[i]? = some (some (.own b ds)) → σ[i]? ≠ some (some (.ref a))) : (F.now ς G σ H).H0 a = some (.lst vs) := now_someG h q (r.lno h)
theorem Rel.now (r : Rel K F ς G σ H) : Rel K (F.now ς G σ H) ς G σ H where
  len := r.len
  sub := r.sub
  g0 := Same.refl _
  pu := r.pu
  ow := fun i b ds e => by
    obtain ⟨a, vs, e1, e2, e3, e4, e5, e6⟩ := r.ow i b ds e
    refine ⟨a, vs, e1, e2, e3, e4, e5, fun hb => ?_⟩
    subst hb
    unfold Fx.now
    simp only
    rw [if_pos (.inl ⟨i, ds, e, e1⟩)]
  ap := r.ap
  par := r.par
  fr := ⟨fun a o h _ _ => by
    unfold Fx.now at h
    simp only at h
    split at h
    · cases h
    · exact h, fun a ps h => by
    unfold Fx.now at h
    simp only at h
    split at h
    · cases h
    · exact ⟨ps, h⟩, fun p hp => by
    obtain ⟨_, ps, h, _⟩ := r.fr.tb p hp
    exact ⟨ps, now_someG h (fun i b ds e1 e2 => by
      obtain ⟨a', vs, f1, f2, _⟩ := r.ow i b ds e1
      rw [e2] at f1; cases f1
      rw [h] at f2; cases f2) (fun i kvs e1 e2 => by
      obtain ⟨a', o, f1, f2, f3, _⟩ := r.od i kvs e1
      rw [e2] at f1; cases f1
      rw [h] at f2; cases f2
      exact DcAt.tbl f3)⟩, r.fr.tb⟩
  nw := fun a h => .inl h
  vx := r.vx
  od := fun i kvs e => by
    obtain ⟨a, o, e1, e2, e3, e4, e5⟩ := r.od i kvs e
    refine ⟨a, o, e1, e2, e3, e4, fun hk => ?_, e5.2⟩
    unfold Fx.now
    simp only
    rw [if_pos (.inr ⟨i, kvs, e, hk, e1⟩)]
  oa := r.oa
theorem Rel.back (r : Rel K F ς G σ H) (r1 : Rel K (F.now ς G σ H) ς' G' σ' H') : Rel K F ς' G' σ' H' where
  len := r1.len
  sub := r1.sub
  g0 := r.g0.trans r1.g0
  pu := r1.pu
  ow := fun i b ds e => by
    obtain ⟨a, vs, e1, e2, e3, e4, e5, e6⟩ := r1.ow i b ds e
    exact ⟨a, vs, e1, e2, e3, e4, e5, fun hb => now_none r (e6 hb)⟩
  ap := r1.ap
  par := r1.par
  fr := ⟨fun a o h nt na => by
    have h1 := r.fr.fr a o h nt na
    refine r1.fr.fr a o ?_ nt na
    cases q : (F.now ς G σ H).H0 a with
    | none => rw [now_none r q] at h; cases h
    | some o' =>
      by_cases ht : ∃ ps, o' = .tbl ps
      · obtain ⟨ps, rfl⟩ := ht
        obtain ⟨ps', z⟩ := r.now.fr.tn a ps q
        rw [h1] at z; cases z; exact absurd rfl (nt _)
      · have := r.now.fr.fr a o' q (fun ps e => ht ⟨ps, e⟩) na
        rw [h1] at this; exact this.symm, fun a ps h => by
    obtain ⟨ps', h1⟩ := r.fr.tn a ps h
    cases q : (F.now ς G σ H).H0 a with
    | none => rw [now_none r q] at h; cases h
    | some o' =>
      have : o' = .tbl ps' := by
        unfold Fx.now at q
        simp only at q
        split at q
        · cases q
        · rw [h1] at q; exact (Option.some.inj q).symm
      subst this
      exact r1.fr.tn a ps' q, r.fr.t0, r1.fr.tb⟩
  nw := fun a h => by
    rcases r1.nw a h with q | q
    · exact r.nw a q
    · exact .inr (now_noneN r q)
  vx := r1.vx
  od := fun i kvs e => by
    obtain ⟨a, o, e1, e2, e3, e4, e5⟩ := r1.od i kvs e
    exact ⟨a, o, e1, e2, e3, e4, fun hk => now_none r (e5.1 hk), e5.2⟩
  oa := r1.oa
/-- a thing that is nobody's stays so -/
theorem Rel.keepG (r : Rel K F ς G σ H) (r1 : Rel K (F.now ς G σ H) ς' G' σ' H') {a : Addr} {o : HO} (h1 : H a = some o) (h2 : G a = none) (h5 : ∀ (i : Nat) b es, ς[i]? = some (some (.own b es)) → σ[i]? ≠ some (some (.ref a))) (hd : ∀ (i : Nat) kvs, ς[i]? = some (some (.vx (.odc kvs))) → σ[i]? ≠ some (some (.ref a))) (ho : ∀ xs, o ≠ .tup xs) (hot : ∀ ps, o ≠ .tbl ps := by (intro ps z; cases z)) :
    H' a = some o ∧ G' a = none ∧ (∀ (i : Nat) b es, ς'[i]? = some (some (.own b es)) → σ'[i]? ≠ some (some (.ref a))) ∧ ∀ (i : Nat) kvs, ς'[i]? = some (some (.vx (.odc kvs))) → σ'[i]? ≠ some (some (.ref a)) := by
  have q : (F.now ς G σ H).H0 a = some o := now_someG h1 h5 hd
  have np : ∀ i, F.A i ≠ some a := fun i z => by
    obtain ⟨s, e, hs, _⟩ := r.par i a z
    cases s with
    | pure d => cases hs
    | own b ds => exact h5 i _ _ e (r.own_in z).1
    | vx x =>
      cases x with
      | exc nm d => cases hs
      | odc kvs => exact hd i _ e (r.own_in z).1
  refine ⟨r1.fr.fr a _ q hot np, ?_, fun i b es e z => ?_, fun i kvs e z => ?_⟩
  · cases z : G' a with
    | none => rfl
    | some y =>
      rcases r1.nw a (by rw [z]; simp) with w | w
      · exact absurd h2 w
      · exact (w.no q ho).elim
  · obtain ⟨a', vs, e1, _, _, _, e5, e6⟩ := r1.ow i b es e
    rw [z] at e1; cases e1
    cases b with
    | true => exact np i (e5 rfl)
    | false => rw [e6 rfl] at q; cases q
  · obtain ⟨a', o', e1, _, _, _, e5⟩ := r1.od i kvs e
    rw [z] at e1; cases e1
    cases hk : parO kvs with
    | true => exact np i (e5.2 hk)
    | false => rw [e5.1 hk] at q; cases q
/-- a list that is nobody's stays so -/
theorem Rel.keepF (r : Rel K F ς G σ H) (r1 : Rel K (F.now ς G σ H) ς' G' σ' H') {a : Addr} {vs : List V} (h1 : H a = some (.lst vs)) (h2 : G a = none) (h5 : ∀ (i : Nat) b es, ς[i]? = some (some (.own b es)) → σ[i]? ≠ some (some (.ref a))) :
    H' a = some (.lst vs) ∧ G' a = none ∧ ∀ (i : Nat) b es, ς'[i]? = some (some (.own b es)) → σ'[i]? ≠ some (some (.ref a)) := by
  obtain ⟨k1, k2, k3, _⟩ := r.keepG r1 h1 h2 h5 (r.lno h1) (fun xs z => by cases z)
  exact ⟨k1, k2, k3⟩
theorem Rel.keepR (r : Rel K F ς G σ H) (r1 : Rel K (F.now ς G σ H) ς' G' σ H') {x : R} {v : V} (h : RepR K F ς G σ H x v) : RepR K F ς' G' σ H' x v := by
  cases x with
  | pure d => exact dp_same r1.g0 h
  | ref i => exact h
  | vx x =>
    cases x with
    | exc nm d => exact xp_same (x := .exc nm d) r1.g0 h
    | odc kvs =>
      obtain ⟨a, o, rfl, h1, h2, h3, h4, hp, h5⟩ := h
      obtain ⟨k1, k2, _, k3⟩ := r.keepG r1 h1 h3 (fun i b es z1 z2 => by
        obtain ⟨a', vs, f1, f2, _⟩ := r.ow i b es z1
        rw [z2] at f1; cases f1
        rw [h1] at f2; cases f2
        exact DcAt.lst h2) h5 (fun xs z => by subst z; exact DcAt.tup h2) (fun ps z => by subst z; exact DcAt.tbl h2)
      exact ⟨a, o, rfl, k1, dc_same r1.g0 h2, k2, h4, hp, k3⟩
  | fresh ds =>
    obtain ⟨a, vs, rfl, h1, h2, h3, h4, h5⟩ := h
    obtain ⟨k1, k2, k3⟩ := r.keepF r1 h1 h2 h5
    exact ⟨a, vs, rfl, k1, k2, dpa_same r1.g0 h3, h4, k3⟩
end
end Lw
namespace Lw
open PySem PySem.Spec PyProof.Rows L2
inductive Out where
  | nx (ς : En)
  | rt (r : R) (ς : En)
  | bk (ς : En)
  | ct (ς : En)
abbrev MS := En → Option Out
def EndsOk (K : PySem.W.Frag) (F : Fx) (G : Hp) (D : Ends) : Out → Prop
  | .nx ς' => ∀ σ' H' G', Rel K F ς' G' σ' H' → Same G G' → D.nx σ' H'
  | .rt r ς' => ∀ v σ' H' G', Rel K F ς' G' σ' H' → Same G G' → RepR K F ς' G' σ' H' r v → D.rt v H'
  | .bk ς' => ∀ σ' H' G', Rel K F ς' G' σ' H' → Same G G' → D.bk σ' H'
  | .ct ς' => ∀ σ' H' G', Rel K F ς' G' σ' H' → Same G G' → D.ct σ' H'
theorem EndsOk.mono {K : PySem.W.Frag} {F : Fx} {G G1 : Hp} {D : Ends} {o : Out} (s : Same G G1) (h : EndsOk K F G D o) : EndsOk K F G1 D o := by
  cases o with
  | nx ς => exact fun σ' H' G' r z => h σ' H' G' r (s.trans z)
  | rt r ς => exact fun v σ' H' G' r z => h v σ' H' G' r (s.trans z)
  | bk ς => exact fun σ' H' G' r z => h σ' H' G' r (s.trans z)
  | ct ς => exact fun σ' H' G' r z => h σ' H' G' r (s.trans z)
def tSt (K : PySem.W.Frag) (F : Fx) (g : MS) : TS := fun D σ H => ∃ ς G, Rel K F ς G σ H ∧ ∃ o, g ς = some o ∧ EndsOk K F G D o
abbrev PSd (X : Cx) (st : Stmt) (g : MS) : Prop := ∀ F : Fx, PS X st (tSt X.K F g)
abbrev PSsd (X : Cx) (st : List Stmt) (g : MS) : Prop := ∀ F : Fx, PSs X st (tSt X.K F g)
section
variable {X : Cx} {a b c e : Expr} {es : List Expr} {fa fb fc f : M R} {ta : M Bool} {pos p p1 p2 p3 : Pos} {x : Str} {st : Stmt} {sts rest : List Stmt} {g g1 g2 : MS}
def skip : MS := fun ς => some (.nx ς)
def sq (g1 g2 : MS) : MS := fun ς => match g1 ς with
  | some (.nx ς') => g2 ς'
  | o => o
theorem s_nil : PSsd X [] skip := fun F => PSs.mono pss_nil fun D σ H hq => by
  obtain ⟨ς, G, rl, o, e, k⟩ := hq
  cases e
  exact k σ H G rl (Same.refl _)
theorem s_cons (h1 : PSd X st g1) (h2 : PSsd X rest g2) : PSsd X (st :: rest) (sq g1 g2) := fun F => PSs.mono (pss_cons (h1 F) (h2 F)) fun D σ H hq => by
  obtain ⟨ς, G, rl, o, e, k⟩ := hq
  unfold sq at e
  split at e
  · rename_i ς1 q
    exact ⟨ς, G, rl, _, q, fun σ' H' G' rl' s => ⟨ς1, G', rl', o, e, k.mono s⟩⟩
  · rename_i q
    refine ⟨ς, G, rl, o, e, ?_⟩
    cases o with
    | nx ς1 => exact absurd e (q ς1)
    | rt r ς1 => exact k
    | bk ς1 => exact k
    | ct ς1 => exact k
theorem s_one (h1 : PSd X st g1) : PSsd X [st] g1 := fun F => pss_one (h1 F)
def brk : MS := fun ς => some (.bk ς)
def exS (f : M R) : MS := fun ς => match f ς with
  | some (_, ς') => some (.nx ς')
  | none => none
theorem s_expr (he : PEd X e f) (hs : swapsWith e none pos.line X.env = pure false := by rfl) : PSd X (.Expr e pos) (exS f) := fun F => PS.mono (ps_expr (he F) hs) fun D σ H hq => by
  obtain ⟨ς, G, rl, o, e, k⟩ := hq
  unfold exS at e
  split at e
  · rename_i r ς1 q
    cases e
    exact ⟨ς, G, rl, r, ς1, q, fun v H' G' rl' s _ => k σ H' G' rl' s⟩
  · cases e
def retS (f : M R) : MS := fun ς => match f ς with
  | some (.pure d, ς') => some (.rt (.pure d) ς')
  | some (.fresh ds, ς') => some (.rt (.fresh ds) ς')
  | some (.ref i, ς') => match ς'[i]? with
    | some (some (.own false ds)) => some (.rt (.fresh ds) (ς'.set i none))
    | some (some (.pure d)) => some (.rt (.pure d) ς')
    | some (some (.vx (.odc kvs))) => if parO kvs = true then none else some (.rt (.vx (.odc kvs)) (ς'.set i none))
    | _ => none
  | some (.vx x, ς') => some (.rt (.vx x) ς')
  | none => none
theorem Rel.move {K : PySem.W.Frag} {F : Fx} {ς : En} {G H : Hp} {σ : L2.St} (r : Rel K F ς G σ H) {i : Nat} {ds : List D} {v : V} (h : ς[i]? = some (some (.own false ds))) (hv : σ[i]? = some (some v)) :
    Rel K F (ς.set i none) G (σ.set i none) H ∧ RepR K F (ς.set i none) G (σ.set i none) H (.fresh ds) v := by
  have hf : free ς i = true := by unfold free; rw [h]
  obtain ⟨a, vs, e1, e2, e3, e4, _, e6⟩ := r.ow i false ds h
  rw [hv] at e1; cases e1
  refine ⟨r.setN hf, a, vs, rfl, e2, e3, e4, e6 rfl, fun j b es q z => ?_⟩
  replace q := get_set q; rcases q with ⟨rfl, q⟩ | ⟨n, q⟩
  · cases q
  · rw [List.getElem?_set_ne n] at z
    exact n (r.ap i j false b ds es a h q hv z)
theorem Rel.moveD {K : PySem.W.Frag} {F : Fx} {ς : En} {G H : Hp} {σ : L2.St} (r : Rel K F ς G σ H) {i : Nat} {kvs : List (D × D)} {v : V} (hp : parO kvs = false) (h : ς[i]? = some (some (.vx (.odc kvs)))) (hv : σ[i]? = some (some v)) :
    Rel K F (ς.set i none) G (σ.set i none) H ∧ RepR K F (ς.set i none) G (σ.set i none) H (.vx (.odc kvs)) v := by
  have hf : free ς i = true := free_of h hp
  obtain ⟨a, o, e1, e2, e3, e4, e6⟩ := r.od i kvs h
  rw [hv] at e1; cases e1
  refine ⟨r.setN hf, a, o, rfl, e2, e3, e4, e6.1 hp, hp, fun j kws q z => ?_⟩
  replace q := get_set q; rcases q with ⟨rfl, q⟩ | ⟨n, q⟩
  · cases q
  · rw [List.getElem?_set_ne n] at z
    exact n (r.oa i j kvs kws a h q hv z)
theorem s_ret (he : PEd X e f) : PSd X (.Return (some e) pos) (retS f) := fun F => PS.mono (ps_ret (he F)) fun D σ H hq => by
  obtain ⟨ς, G, rl, o, e, k⟩ := hq
  unfold retS at e
  split at e
  · rename_i d ς1 q
    cases e
    exact ⟨ς, G, rl, _, ς1, q, fun v H' G' rl' s rep => k v σ H' G' rl' s rep⟩
  · rename_i ds ς1 q
    cases e
    exact ⟨ς, G, rl, _, ς1, q, fun v H' G' rl' s rep => k v σ H' G' rl' s rep⟩
  · rename_i i ς1 q
    refine ⟨ς, G, rl, _, ς1, q, fun v H' G' rl' s rep => ?_⟩
    split at e
    · rename_i ds q2
      cases e
      obtain ⟨r1, r2⟩ := rl'.move q2 rep
      exact k v _ H' G' r1 s r2
    · rename_i d q2
      cases e
      obtain ⟨w, h1, h2⟩ := rl'.pu i _ q2
      rw [show σ[i]? = some (some v) from rep] at h1
      cases h1
      exact k v σ H' G' rl' s h2
    · rename_i kvs q2
      split at e
      · cases e
      rename_i hp
      cases e
      obtain ⟨r1, r2⟩ := rl'.moveD (Bool.eq_false_iff.2 hp) q2 rep
      exact k v _ H' G' r1 s r2
    · cases e
  · rename_i x ς1 q
    cases e
    exact ⟨ς, G, rl, _, ς1, q, fun v H' G' rl' s rep => k v σ H' G' rl' s rep⟩
  · cases e
def ifS (t : M Bool) (g1 g2 : MS) : MS := fun ς => match t ς with
  | some (true, ς') => g1 ς'
  | some (false, ς') => g2 ς'
  | none => none
theorem s_if (hc : PTd X c ta) (h1 : PSsd X sts g1) (h2 : PSsd X rest g2) : PSd X (.If c sts rest pos) (ifS ta g1 g2) := fun F => PS.mono (ps_if (hc F) (h1 F) (h2 F)) fun D σ H hq => by
  obtain ⟨ς, G, rl, o, e, k⟩ := hq
  unfold ifS at e
  split at e
  · rename_i ς1 q
    refine ⟨ς, G, rl, true, ς1, q, fun H' G' rl' s => ?_⟩
    exact iteT ⟨ς1, G', rl', o, e, k.mono s⟩
  · rename_i ς1 q
    refine ⟨ς, G, rl, false, ς1, q, fun H' G' rl' s => ?_⟩
    exact iteF ⟨ς1, G', rl', o, e, k.mono s⟩
  · cases e
/-! ### targets -/
abbrev Tg := D → En → Option En
def tTg (K : PySem.W.Frag) (F : Fx) (vs : List Nat) (tg : Tg) : TG := fun v σ H Q => ∃ ς G d, Rel K F ς G σ H ∧ Dp K G v d ∧ ∃ ς', tg d ς = some ς' ∧ ∀ σ' H' G', Rel K F ς' G' σ' H' → Same G G' → wipe σ' vs = wipe σ vs → Q σ' H'
theorem _root_.L2.PG.mono {t t' : TG} {tg : Expr} (h : PG X tg t) (k : ∀ v σ H Q, t' v σ H Q → t v σ H Q) : PG X tg t' := ⟨fun pins s σ H v u Q I r hw => h.run pins s σ H v u Q I r (k v σ H Q hw)⟩
abbrev PGd (X : Cx) (e : Expr) (vs : List Nat) (tg : Tg) : Prop := ∀ F : Fx, PG X e (tTg X.K F vs tg)
def tgN (i : Nat) : Tg := fun d ς => if free ς i = true then some (ς.set i (some (.pure d))) else none
theorem wipe_set (σ : L2.St) (i : Nat) (o : Option V) : ∀ vs : List Nat, i ∈ vs → wipe (σ.set i o) vs = wipe σ vs
  | [], h => by cases h
  | j :: vs, h => by
    by_cases hm : i ∈ vs
    · unfold wipe; rw [wipe_set σ i o vs hm]
    · have e : i = j := by
        rcases List.mem_cons.mp h with e | e
        · exact e
        · exact absurd e hm
      subst e
      unfold wipe
      have : ∀ ws : List Nat, i ∉ ws → (wipe (σ.set i o) ws).set i none = (wipe σ ws).set i none := by
        intro ws
        induction ws with
        | nil => intro _; show (σ.set i o).set i none = σ.set i none; rw [List.set_set]
        | cons w ws ih =>
          intro hw
          have h1 : i ≠ w := fun z => hw (by rw [z]; exact List.mem_cons_self)
          have h2 : i ∉ ws := fun z => hw (List.mem_cons_of_mem _ z)
          show ((wipe (σ.set i o) ws).set w none).set i none = ((wipe σ ws).set w none).set i none
          rw [List.set_comm _ _ (Ne.symm h1), ih h2, List.set_comm _ _ h1]
      exact this vs hm
theorem g_name {i : Nat} (h : PG X (.Name x pos) (gName i)) : PGd X (.Name x pos) [i] (tgN i) := fun F => PG.mono h fun v σ H Q hq => by
  obtain ⟨ς, G, d, rl, hd, ς', e, k⟩ := hq
  unfold tgN at e
  split at e
  · rename_i q
    cases e
    exact k _ H G (rl.setP q hd) (Same.refl _) (wipe_set σ i _ [i] (by simp))
  · cases e
/-- several targets -/
abbrev Tgs := List D → En → Option En
def tTgs (K : PySem.W.Frag) (F : Fx) (vs : List Nat) (tg : Tgs) : TGs := fun ws σ H Q => ∃ ς G ds, Rel K F ς G σ H ∧ DpAll K G ws ds ∧ ∃ ς', tg ds ς = some ς' ∧ ∀ σ' H' G', Rel K F ς' G' σ' H' → Same G G' → wipe σ' vs = wipe σ vs → Q σ' H'
theorem _root_.L2.PGs.mono {t t' : TGs} {tg : List Expr} (h : PGs X tg t) (k : ∀ v σ H Q, t' v σ H Q → t v σ H Q) : PGs X tg t' := ⟨fun pins s σ H v u Q I r hw => h.run pins s σ H v u Q I r (k v σ H Q hw)⟩
abbrev PGsd (X : Cx) (e : List Expr) (vs : List Nat) (tg : Tgs) : Prop := ∀ F : Fx, PGs X e (tTgs X.K F vs tg)
def tgsN : Tgs := fun ds ς => match ds with
  | [] => some ς
  | _ => none
def tgsC (t : Tg) (u : Tgs) : Tgs := fun ds ς => match ds with
  | d :: r => match t d ς with
    | some ς' => u r ς'
    | none => none
  | [] => none
theorem gs_nil : PGsd X [] [] tgsN := fun F => PGs.mono pgs_nil fun v σ H Q hq => by
  obtain ⟨ς, G, ds, rl, hd, ς', e, k⟩ := hq
  cases hd with
  | nil => cases e; exact ⟨rfl, k σ H G rl (Same.refl _) rfl⟩
  | cons _ _ => cases e
theorem wipe_app (σ : L2.St) : ∀ vs ws : List Nat, wipe σ (vs ++ ws) = wipe (wipe σ ws) vs
  | [], _ => rfl
  | v :: vs, ws => by show (wipe σ (vs ++ ws)).set v none = (wipe (wipe σ ws) vs).set v none; rw [wipe_app σ vs ws]
theorem wipe_comm1 (σ : L2.St) (i : Nat) : ∀ vs : List Nat, wipe (σ.set i none) vs = (wipe σ vs).set i none
  | [] => rfl
  | v :: vs => by
    show (wipe (σ.set i none) vs).set v none = ((wipe σ vs).set v none).set i none
    rw [wipe_comm1 σ i vs]
    by_cases h : i = v
    · rw [h]
    · rw [List.set_comm _ _ h]
theorem wipe_comm (σ : L2.St) : ∀ vs ws : List Nat, wipe (wipe σ ws) vs = wipe (wipe σ vs) ws
  | [], _ => rfl
  | v :: vs, ws => by show (wipe (wipe σ ws) vs).set v none = wipe ((wipe σ vs).set v none) ws; rw [wipe_comm σ vs ws, wipe_comm1]
theorem gs_cons {e : Expr} {es : List Expr} {t : Tg} {u : Tgs} {vs ws : List Nat} (h1 : PGd X e vs t) (h2 : PGsd X es ws u) (hs : PGs X (e :: es) (gCons (fun v σ H Q => ∃ F, tTg X.K F vs t v σ H Q) (fun v σ H Q => ∃ F, tTgs X.K F ws u v σ H Q))) : PGsd X (e :: es) (vs ++ ws) (tgsC t u) := fun F => PGs.mono hs fun zs σ H Q hq => by
  obtain ⟨ς, G, ds, rl, hd, ς', e, k⟩ := hq
  cases hd with
  | nil => cases e
  | cons d1 d2 =>
    rename_i v r d ds'
    unfold tgsC at e
    simp only at e
    split at e
    · rename_i ς1 q
      refine ⟨v, r, rfl, F, ς, G, d, rl, d1, ς1, q, fun σ1 H1 G1 rl1 s1 w1 => ⟨F, ς1, G1, ds', rl1, dpa_same s1 d2, ς', e, fun σ2 H2 G2 rl2 s2 w2 => k σ2 H2 G2 rl2 (s1.trans s2) ?_⟩⟩
      rw [wipe_app, wipe_app, w2, wipe_comm, w1, wipe_comm]
    · cases e
theorem PGd.ex {e : Expr} {vs : List Nat} {t : Tg} (h : PGd X e vs t) : PG X e (fun v σ H Q => ∃ F, tTg X.K F vs t v σ H Q) := ⟨fun pins s σ H v u Q I r ⟨F, hw⟩ => (h F).run pins s σ H v u Q I r hw⟩
theorem PGsd.ex {e : List Expr} {vs : List Nat} {t : Tgs} (h : PGsd X e vs t) : PGs X e (fun v σ H Q => ∃ F, tTgs X.K F vs t v σ H Q) := ⟨fun pins s σ H v u Q I r ⟨F, hw⟩ => (h F).run pins s σ H v u Q I r hw⟩
theorem _root_.L2.PG.or {t t' : TG} {tg : Expr} (h : PG X tg t) (h' : PG X tg t') : PG X tg (fun v σ H Q => t v σ H Q ∨ t' v σ H Q) := ⟨fun pins s σ H v u Q I r hw => by
  rcases hw with hw | hw
  · exact h.run pins s σ H v u Q I r hw
  · exact h'.run pins s σ H v u Q I r hw⟩
def tgT (n : Nat) (u : Tgs) : Tg := fun d ς => match items d with
  | some ds => if ds.length = n then u ds ς else none
  | none => none
theorem g_tup {es : List Expr} {k n : Nat} {u : Tgs} {vs : List Nat} (h : PG X (.Tuple es k pos) (fun v σ H Q => gTup X.K n (fun v σ H Q => ∃ F, tTgs X.K F vs u v σ H Q) v σ H Q ∨ gLst X.K n (fun v σ H Q => ∃ F, tTgs X.K F vs u v σ H Q) v σ H Q)) : PGd X (.Tuple es k pos) vs (tgT n u) := fun F => PG.mono h fun v σ H Q hq => by
  obtain ⟨ς, G, d, rl, hd, ς', e, kk⟩ := hq
  unfold tgT at e
  split at e
  · rename_i ds q
    split at e
    · rename_i hl
      cases d with
      | list es =>
        cases q
        obtain ⟨a, ws, rfl, h1, h2⟩ := dp_list hd
        exact .inr ⟨a, ws, rfl, rl.sub.seq h1, by rw [dpa_len h2]; exact hl, F, ς, G, _, rl, h2, ς', e, kk⟩
      | tuple es =>
        cases q
        obtain ⟨a, ws, rfl, h1, h2⟩ := dp_tuple hd
        exact .inl ⟨a, ws, rfl, same_seqT rl.sub h1, by rw [dpa_len h2]; exact hl, F, ς, G, _, rl, h2, ς', e, kk⟩
      | _ => cases q
    · cases e
  · cases e
def tgS (fo fi : M R) : Tg := fun d ς => match fo ς with
  | some (.ref i, ς1) => match ptS fi ς1 with
    | some (some j, ς2) => match ς2[i]? with
      | some (some (.own b ds)) => match ixN ds.length j with
        | some n => some (ς2.set i (some (.own b (ds.set n d))))
        | none => none
      | _ => none
    | _ => none
  | _ => none
theorem PEd.ex {e : Expr} {f : M R} (h : PEd X e f) : PE X e (fun σ H Q => ∃ F, tEv X.K F f σ H Q) := ⟨fun pins s σ H Q I ⟨F, hw⟩ => (h F).run pins s σ H Q I hw⟩
theorem g_sub {o i : Expr} {fo fi : M R} (h : PG X (.Subscript o i pos) (gSub (fun σ H Q => ∃ F, tEv X.K F fo σ H Q) (fun σ H Q => ∃ F, tEv X.K F (sub fi) σ H Q) rSetL)) : PGd X (.Subscript o i pos) [] (tgS fo fi) := fun F => PG.mono h fun v σ H Q hq => by
  obtain ⟨ς, G, d, rl, hd, ς', e, k⟩ := hq
  unfold tgS at e
  split at e
  · rename_i n ς1 q1
    split at e
    · rename_i j ς2 q2
      split at e
      · rename_i b ds q3
        split at e
        · rename_i m q4
          cases e
          obtain ⟨r, ς3, e3, q5⟩ := bd_some q2
          obtain ⟨y, ς4, e4', q6⟩ := bd_some q5
          obtain ⟨e4, h4⟩ := rd_some e4'
          obtain ⟨e5, h5⟩ := lift_some q6
          subst h4 h5
          refine ⟨F, ς, G, rl, _, ς1, q1, fun ov H1 G1 rl1 s1 rep1 => ⟨F, ς1, G1, rl1, r, _, e3, fun iv H2 G2 rl2 s2 rep2 => ?_⟩⟩
          have ri := rdD_ok rl2 rep2 e4
          cases y with
          | int jj =>
            cases e5
            obtain ⟨a, ws, f1, f2, f3, f4, _⟩ := rl2.ow _ b ds q3
            rw [show σ[n]? = some (some ov) from rep1] at f1
            cases f1
            exact ⟨a, ws, j, m, rfl, ri.int, f2, by rw [dpa_len f4]; exact q4, k σ _ G2 (rl2.mut q3 rep1 (dpa_set (dp_same (s1.trans s2) hd) m f4)) (s1.trans s2) rfl⟩
          | _ => cases e5
        · cases e
      · cases e
    · cases e
  · cases e
/-- target = value -/
def asg (f : M R) (tg : Tg) : MS := fun ς => match esc f ς with
  | some (d, ς') => match tg d ς' with
    | some ς2 => some (.nx ς2)
    | none => none
  | none => none
theorem s_asg {tg : Expr} {vs : List Nat} {t : Tg} (he : PEd X e f) (hg : PGd X tg vs t) (hs : swapsWithSole [tg] e pos.line X.env = pure false := by rfl) (hw : swappedStores [tg] e X.env = pure none := by rfl) (h1 : (assignEach [tg] X.env).map (·.2) = [assign tg X.env] := by rfl) : PSd X (.Assign [tg] e pos) (asg f t) := fun F => PS.mono (ps_asg (d_esc he F) (hg F) hs hw h1) fun D σ H hq => by
  obtain ⟨ς, G, rl, o, e, k⟩ := hq
  unfold asg at e
  split at e
  · rename_i d ς1 q
    split at e
    · rename_i ς2 q2
      cases e
      exact ⟨ς, G, rl, d, ς1, q, fun v H' G' rl' s dp => ⟨ς1, G', d, rl', dp, ς2, q2, fun σ2 H2 G2 rl2 s2 _ => k σ2 H2 G2 rl2 (s.trans s2)⟩⟩
    · cases e
  · cases e
/-- name = a new list, the name's own -/
def asgO (i : Nat) (f : M R) : MS := fun ς => match f ς with
  | some (.fresh ds, ς') => if free ς' i = true then some (.nx (ς'.set i (some (.own false ds)))) else none
  | _ => none
theorem t_asgO {F : Fx} {i : Nat} : ∀ D σ H, tSt X.K F (asgO i f) D σ H → tAsg (tEv X.K F f) (gName i) D σ H := fun D σ H hq => by
  obtain ⟨ς, G, rl, o, e, k⟩ := hq
  unfold asgO at e
  split at e
  · rename_i ds ς1 q
    split at e
    · rename_i hf
      cases e
      exact ⟨ς, G, rl, _, ς1, q, fun v H' G' rl' s rep => k _ H' G' (rl'.setO hf rep) s⟩
    · cases e
  · cases e
theorem t_asgP {F : Fx} {i : Nat} : ∀ D σ H, tSt X.K F (asg f (tgN i)) D σ H → tAsg (tEv X.K F f) (gName i) D σ H := fun D σ H hq => by
  obtain ⟨ς, G, rl, o, e, k⟩ := hq
  unfold asg at e
  split at e
  · rename_i d ς1 q
    obtain ⟨r1, ς2, e1, e2⟩ := bd_some q
    split at e
    · rename_i ς3 q2
      cases e
      refine ⟨ς, G, rl, r1, ς2, e1, fun v H' G' rl' s rep => ?_⟩
      obtain ⟨G2, rl2, s2, dp⟩ := toD_ok rl' rep e2
      unfold tgN at q2
      split at q2
      · rename_i hf
        cases q2
        exact k _ H' G2 (rl2.setP hf dp) (s.trans s2)
      · cases q2
    · cases e
  · cases e
theorem s_asgO {i : Nat} (he : PEd X e f) (h : ∀ te : TE, PE X e te → PS X st (tAsg te (gName i))) : PSd X st (asgO i f) := fun F => PS.mono (h _ (he F)) t_asgO
/-- where the value is a comprehension -/
theorem s_asgL {i : Nat} {t : TE} (h : PS X st (tAsg t (gName i))) (ht : ∀ F σ H Q, tEv X.K F f σ H Q → t σ H Q) : PSd X st (asg f (tgN i)) := fun F => PS.mono h fun D σ H hq => ht F σ H _ (t_asgP D σ H hq)
/-! ### a, b = x, y in one go -/
def put (i : Nat) : R → Option (Option S)
  | .pure d => some (some (.pure d))
  | .fresh ds => some (some (.own false ds))
  | .ref _ => none
  | .vx (.odc kvs) => some (some (.vx (.odc kvs)))
  | .vx (.exc _ _) => none
/-- what is to be stored: a datum, or (o) a new list as it is -/
def pv' (o : Bool) (f : M R) : M R := if o = true then f else bd (esc f) fun d => ret (.pure d)
theorem d_pv (o : Bool) (h : PEd X e f) : PEd X e (pv' o f) := by
  cases o with
  | true => exact h
  | false =>
    intro F
    refine PE.mono (d_esc h F) fun σ H Q hq => ?_
    obtain ⟨ς, G, rl, r, ς', e, k⟩ := hq
    obtain ⟨d, ς1, e1, q1⟩ := bd_some e
    cases q1
    exact ⟨ς, G, rl, d, _, e1, k⟩
def par2 (i j : Nat) (o1 o2 : Bool) (fa fb : M R) : MS := fun ς => match bd (pv' o1 fa) (fun x => bd (pv' o2 fb) fun y => ret (x, y)) ς with
  | some ((x, y), ς') => match put i x, put j y with
    | some s, some t => if free ς' i = true ∧ free (ς'.set i s) j = true ∧ i ≠ j then some (.nx ((ς'.set i s).set j t)) else none
    | _, _ => none
  | none => none
theorem Rel.put {K : PySem.W.Frag} {F : Fx} {ς : En} {G H : Hp} {σ : L2.St} (r : Rel K F ς G σ H) {i : Nat} {x : R} {v : V} {s : Option S} (hf : free ς i = true) (hs : put i x = some s) (h : RepR K F ς G σ H x v) : Rel K F (ς.set i s) G (σ.set i (some v)) H := by
  cases x with
  | pure d => cases hs; exact r.setP hf h
  | fresh ds => cases hs; exact r.setO hf h
  | ref k => cases hs
  | vx x =>
    cases x with
    | exc nm d => cases hs
    | odc kvs =>
      cases hs
      obtain ⟨a, o, rfl, h1, h2, h3, h4, hp, h5⟩ := h
      exact r.setD hf h1 h2 h3 h4 hp h5
theorem s_par2 {i j : Nat} {o1 o2 : Bool} (ha : PEd X a fa) (hb : PEd X b fb) (h : ∀ t : TA, PA X [a, b] t → PS X st (tPar i j t)) (hs1 : starEach [a, b] X.env = (false, eval a X.env) :: starEach [b] X.env := by rfl) (hs2 : starEach [b] X.env = (false, eval b X.env) :: starEach [] X.env := by rfl) : PSd X st (par2 i j o1 o2 fa fb) := fun F =>
  PS.mono (h _ (pa_cons (PEd.ex (d_pv o1 ha)) (pa_cons (PEd.ex (d_pv o2 hb)) pa_nil hs2) hs1)) fun D σ H hq => by
    obtain ⟨ς, G, rl, o, e, k⟩ := hq
    unfold par2 at e
    split at e
    · rename_i x y ς' q
      obtain ⟨x', ς1, e1, q1⟩ := bd_some q
      obtain ⟨y', ς2, e2, q2⟩ := bd_some q1
      cases q2
      split at e
      · rename_i s t p1 p2
        split at e
        · rename_i hf
          cases e
          refine ⟨F, ς, G, rl, _, ς1, e1, fun v H1 G1 rl1 s1 rep1 => ⟨F.now ς1 G1 σ H1, ς1, G1, rl1.now, _, _, e2, fun w H2 G2 rl2 s2 rep2 => ⟨v, w, rfl, ?_⟩⟩⟩
          have rb := rl1.back rl2
          have rep1' := rl1.keepR rl2 rep1
          have ra := rb.put hf.1 p1 rep1'
          refine k _ H2 G2 (ra.put hf.2.1 p2 ?_) (s1.trans s2)
          cases y with
          | pure d => exact rep2
          | vx xd =>
            cases xd with
            | exc nm d => exact rep2
            | odc kws =>
              obtain ⟨a2, o2, rfl, f1, f2, f3, f4, fp, f5⟩ := rep2
              refine ⟨a2, o2, rfl, f1, f2, f3, now_none rl1 f4, fp, fun n kvs z1 z2 => ?_⟩
              replace z1 := get_set z1; rcases z1 with ⟨rfl, z1⟩ | ⟨nn, z1⟩
              · have il : i < σ.length := by rw [rl.len] ; exact (by have := free_lt hf.1; rw [← rb.len] at this; rw [← rl.len]; exact this)
                rw [List.getElem?_set_self il] at z2
                have hv : v = .ref a2 := Option.some.inj (Option.some.inj z2)
                cases x with
                | pure d => cases p1; cases z1
                | vx x =>
                  cases x with
                  | exc nm d => cases p1
                  | odc kvs2 =>
                    obtain ⟨a1, o1, e6, g1, g2, g3, g4, gp, g5⟩ := rep1
                    rw [hv] at e6
                    cases e6
                    rw [now_someG g1 (fun i b es z1 z2 => by
                      obtain ⟨a', vs, k1, k2, _⟩ := rl1.ow i b es z1
                      rw [z2] at k1; cases k1
                      rw [g1] at k2; cases k2
                      exact DcAt.lst g2) g5] at f4
                    cases f4
                | ref n => cases p1
                | fresh ds1 => cases p1; cases z1
              · rw [List.getElem?_set_ne nn] at z2
                exact f5 n kvs z1 z2
          | ref n => cases p2
          | fresh ds =>
            obtain ⟨a2, vs2, rfl, f1, f2, f3, f4, f5⟩ := rep2
            refine ⟨a2, vs2, rfl, f1, f2, f3, now_none rl1 f4, fun n b es z1 z2 => ?_⟩
            replace z1 := get_set z1; rcases z1 with ⟨rfl, z1⟩ | ⟨nn, z1⟩
            · have il : i < σ.length := by rw [rl.len] ; exact (by have := free_lt hf.1; rw [← rb.len] at this; rw [← rl.len]; exact this)
              rw [List.getElem?_set_self il] at z2
              have hv : v = .ref a2 := Option.some.inj (Option.some.inj z2)
              cases x with
              | pure d => cases p1; cases z1
              | vx x =>
                cases x with
                | exc nm d => cases p1
                | odc kvs2 => cases p1; cases z1
              | ref n => cases p1
              | fresh ds1 =>
                obtain ⟨a1, vs1, e6, g1, g2, g3, g4, g5⟩ := rep1
                rw [hv] at e6
                cases e6
                rw [now_some rl1 g1 g5] at f4
                cases f4
            · rw [List.getElem?_set_ne nn] at z2
              exact f5 n b es z1 z2
        · cases e
      · cases e
    · cases e
def par3 (i j l : Nat) (fa fb fc : M R) : MS := fun ς => match bd (esc fa) (fun x => bd (esc fb) fun y => bd (esc fc) fun z => ret (x, y, z)) ς with
  | some ((x, y, z), ς') => if free ς' i = true ∧ free (ς'.set i (some (.pure x))) j = true ∧ free ((ς'.set i (some (.pure x))).set j (some (.pure y))) l = true then some (.nx (((ς'.set i (some (.pure x))).set j (some (.pure y))).set l (some (.pure z)))) else none
  | none => none
theorem PDd.ex {e : Expr} {f : M D} (h : PDd X e f) : PE X e (fun σ H Q => ∃ F, tEvD X.K F f σ H Q) := ⟨fun pins s σ H Q I ⟨F, hw⟩ => (h F).run pins s σ H Q I hw⟩
theorem s_par3 {i j l : Nat} (ha : PEd X a fa) (hb : PEd X b fb) (hc : PEd X c fc) (h : ∀ t : TA, PA X [a, b, c] t → PS X st (tPar3 i j l t)) (hs1 : starEach [a, b, c] X.env = (false, eval a X.env) :: starEach [b, c] X.env := by rfl) (hs2 : starEach [b, c] X.env = (false, eval b X.env) :: starEach [c] X.env := by rfl) (hs3 : starEach [c] X.env = (false, eval c X.env) :: starEach [] X.env := by rfl) : PSd X st (par3 i j l fa fb fc) := fun F =>
  PS.mono (h _ (pa_cons (d_esc ha F) (pa_cons (d_esc hb F) (pa_cons (d_esc hc F) pa_nil hs3) hs2) hs1)) fun D σ H hq => by
    obtain ⟨ς, G, rl, o, e, k⟩ := hq
    unfold par3 at e
    split at e
    · rename_i x y z ς' q
      obtain ⟨x', ς1, e1, q1⟩ := bd_some q
      obtain ⟨y', ς2, e2, q2⟩ := bd_some q1
      obtain ⟨z', ς3, e3, q3⟩ := bd_some q2
      cases q3
      split at e
      · rename_i hf
        cases e
        exact ⟨ς, G, rl, _, ς1, e1, fun v H1 G1 rl1 s1 d1 => ⟨ς1, G1, rl1, _, ς2, e2, fun w H2 G2 rl2 s2 d2 => ⟨ς2, G2, rl2, _, _, e3, fun u H3 G3 rl3 s3 d3 => ⟨v, w, u, rfl,
          k _ H3 G3 (((rl3.setP hf.1 (dp_same (s2.trans s3) d1)).setP hf.2.1 (dp_same s3 d2)).setP hf.2.2 d3) (s1.trans (s2.trans s3))⟩⟩⟩⟩
      · cases e
    · cases e
end
end Lw
namespace Lw
open PySem PySem.Spec PyProof.Rows L2
/-! ### what is walked -/
structure WalkD (K : PySem.W.Frag) (G : Hp) (J : It) (ds : List D) : Prop where
  stop : ∀ H, Same G H → J.stop ds.length H
  go : ∀ i H, i < ds.length → Same G H → J.go i H
  yld : ∀ (i : Nat) H x H' d, Same G H → J.yld i H x H' → ds[i]? = some d → (H' = H ∧ Dp K G x d) ∨ ∃ T xs es, x = .ref T ∧ ((H T = none ∧ H' = upd H T (.tup xs)) ∨ (H' = H ∧ H T = some (.tup xs))) ∧ d = .tuple es ∧ DpAll K G xs es
theorem WalkD.mono {K : PySem.W.Frag} {G G' : Hp} {J : It} {ds : List D} (w : WalkD K G J ds) (s : Same G G') : WalkD K G' J ds where
  stop := fun H h => w.stop H (s.trans h)
  go := fun i H hi h => w.go i H hi (s.trans h)
  yld := fun i H x H' d h y e => by
    rcases w.yld i H x H' d (s.trans h) y e with ⟨h1, h2⟩ | ⟨T, xs, es, h1, h2, h4, h5⟩
    · exact .inl ⟨h1, dp_same s h2⟩
    · exact .inr ⟨T, xs, es, h1, h2, h4, dpa_same s h5⟩
def tEvI (K : PySem.W.Frag) (F : Fx) (f : M (List D)) : TI := fun σ H R => ∃ ς G, Rel K F ς G σ H ∧ ∃ ds ς', f ς = some (ds, ς') ∧ ∀ J H' G', Rel K F ς' G' σ H' → Same G G' → WalkD K G' J ds → R J H'
theorem _root_.L2.PI.mono {X : Cx} {tg it : Expr} {t t' : TI} (h : PI X tg it t) (k : ∀ σ H R, t' σ H R → t σ H R) : PI X tg it t' := ⟨fun pins s σ H R I hw => h.run pins s σ H R I (k σ H R hw)⟩
theorem _root_.L2.PI.or {X : Cx} {tg it : Expr} {t t' : TI} (h : PI X tg it t) (h' : PI X tg it t') : PI X tg it (fun σ H R => t σ H R ∨ t' σ H R) := ⟨fun pins s σ H R I hw => by
  rcases hw with hw | hw
  · exact h.run pins s σ H R I hw
  · exact h'.run pins s σ H R I hw⟩
abbrev PId (X : Cx) (tg it : Expr) (f : M (List D)) : Prop := ∀ F : Fx, PI X tg it (tEvI X.K F f)
section
variable {X : Cx} {a b c e tg : Expr} {es : List Expr} {fa fb fc f : M R} {ta : M Bool} {pos p p1 p2 p3 : Pos} {x : Str} {st : Stmt} {sts rest : List Stmt} {g g1 g2 : MS}
variable {K : PySem.W.Frag} {G : Hp}
theorem walk_tup {l : Addr} {xs : List V} {ds : List D} (h : SqT K G l xs) (hd : DpAll K G xs ds) : WalkD K G (Itt K l) ds where
  stop := fun H s => ⟨xs, same_seqT s h, by rw [dpa_len hd]; exact Nat.le_refl _⟩
  go := fun i H hl s => by
    obtain ⟨v, e, _⟩ := dpa_get hd (List.getElem?_eq_getElem hl)
    exact ⟨xs, v, same_seqT s h, e⟩
  yld := fun i H x H' d s y e => by
    obtain ⟨y1, y2⟩ := y
    obtain ⟨v, e1, e2⟩ := dpa_get hd e
    have := y2 xs (same_seqT s h)
    rw [e1] at this; cases this
    exact .inl ⟨y1, e2⟩
/-- over a list or tuple -/
def itS (f : M R) : M (List D) := bd (esc f) fun d => lift (items d)
theorem i_seq (he : PEd X e f) : PId X tg e (itS f) := fun F => PI.mono (PI.or (pi_list (d_esc he F)) (pi_tup (d_esc he F))) fun σ H R hq => by
  obtain ⟨ς, G, rl, ds, ς', e, k⟩ := hq
  obtain ⟨d, ς1, e1, q1⟩ := bd_some e
  obtain ⟨e2, h2⟩ := lift_some q1
  subst h2
  cases d with
  | list es =>
    cases e2
    refine .inl ⟨ς, G, rl, _, _, e1, fun v H' G' rl' s dp => ?_⟩
    obtain ⟨l, vs, rfl, h1, h2⟩ := dp_list dp
    have w : WalkD X.K G' (Itl X.K l) ds := by
      constructor
      · exact fun H s => ⟨vs, s.seq h1, by rw [dpa_len h2]; exact Nat.le_refl _⟩
      · intro i H hl s
        obtain ⟨v, e, _⟩ := dpa_get h2 (List.getElem?_eq_getElem hl)
        exact ⟨vs, v, s.seq h1, e⟩
      · intro i H x H' d s y e
        obtain ⟨y1, y2⟩ := y
        obtain ⟨v, e1, e2⟩ := dpa_get h2 e
        have := y2 vs (s.seq h1)
        rw [e1] at this; cases this
        exact .inl ⟨y1, e2⟩
    exact ⟨l, rfl, ⟨vs, rl'.sub.seq h1⟩, k _ H' G' rl' s w⟩
  | tuple es =>
    cases e2
    refine .inr ⟨ς, G, rl, _, _, e1, fun v H' G' rl' s dp => ?_⟩
    obtain ⟨l, vs, rfl, h1, h2⟩ := dp_tuple dp
    exact ⟨l, rfl, ⟨vs, same_seqT rl'.sub h1⟩, k _ H' G' rl' s (walk_tup h1 h2)⟩
  | _ => cases e2
/-- range(n), range(a, b) -/
def rngD (lo : Int) : Nat → List D
  | 0 => []
  | n + 1 => .int lo :: rngD (lo + 1) n
theorem rngD_len : ∀ (n : Nat) (lo : Int), (rngD lo n).length = n
  | 0, _ => rfl
  | n + 1, lo => by rw [rngD, List.length_cons, rngD_len n]
theorem rngD_get : ∀ (n : Nat) (lo : Int) (i : Nat), i < n → (rngD lo n)[i]? = some (.int (lo + i))
  | 0, _, _, h => absurd h (Nat.not_lt_zero _)
  | n + 1, lo, 0, _ => by rw [rngD]; simp
  | n + 1, lo, i + 1, h => by
    rw [rngD, List.getElem?_cons_succ, rngD_get n (lo + 1) i (by omega)]
    congr 2
    push_cast
    omega
theorem walk_rng {lo : Int} {n : Nat} : WalkD K G (Itr lo n) (rngD lo n) where
  stop := fun H s => by rw [rngD_len]; exact Nat.le_refl _
  go := fun i H hl s => by rw [rngD_len] at hl; exact hl
  yld := fun i H x H' d s y e => by
    have hl := (List.getElem?_eq_some_iff.mp e).1
    rw [rngD_len] at hl
    rw [rngD_get n lo i hl] at e
    cases e
    obtain ⟨y1, rfl⟩ := y
    exact .inl ⟨y1, .int _⟩
def inR (i : Int) : Bool := decide (-(2 ^ 62) ≤ i) && decide (i < 2 ^ 62)
def itR1 (f : M R) : M (List D) := bd (sub f) fun r => bd (rd r) fun d => match d with
  | .int n => if inR n = true then ret (rngD 0 n.toNat) else lift none
  | _ => lift none
def itR2 (fa fb : M R) : M (List D) := bd (sub fa) fun r => bd (sub fb) fun r2 => bd (rd r) fun d => bd (rd r2) fun d2 => match d, d2 with
  | .int m, .int n => if inR m = true ∧ inR n = true then ret (rngD m (n - m).toNat) else lift none
  | _, _ => lift none
theorem i_rng1 (hg : Gl X "range") (hm : X.mg "range" = none) (ha : PEd X a fa) (hs : starEach [a] X.env = [(false, eval a X.env)] := by rfl) : PId X tg (.Call (.Name "range" p) [a] [] pos) (itR1 fa) := fun F => PI.mono (pi_range1 hg hm (pa_cons (d_sub ha F) pa_nil hs) hs) fun σ H R hq => by
  obtain ⟨ς, G, rl, ds, ς', e, k⟩ := hq
  obtain ⟨r, ς1, e1, q1⟩ := bd_some e
  obtain ⟨d, ς2, e2', q2⟩ := bd_some q1
  obtain ⟨e2, h2⟩ := rd_some e2'
  subst h2
  refine ⟨ς, G, rl, r, _, e1, fun v H1 G1 rl1 s1 rep1 => ?_⟩
  have rv := rdD_ok rl1 rep1 e2
  cases d with
  | int n =>
    by_cases hn : inR n = true
    · replace q2 : (if inR n = true then ret (rngD 0 n.toNat) else lift none) _ = some (ds, ς') := q2
      rw [if_pos hn] at q2
      cases q2
      unfold inR at hn
      simp only [Bool.and_eq_true, decide_eq_true_eq] at hn
      refine ⟨n, by rw [rv.int], hn.1, hn.2, k _ H1 G1 rl1 s1 ?_⟩
      exact walk_rng
    · replace q2 : (if inR n = true then ret (rngD 0 n.toNat) else lift none) _ = some (ds, ς') := q2
      rw [if_neg hn] at q2
      cases q2
  | _ => cases q2
/-- enumerate(xs) of a list -/
def enumD : Nat → List D → List D
  | _, [] => []
  | i, d :: ds => .tuple [.int i, d] :: enumD (i + 1) ds
theorem enumD_len : ∀ (ds : List D) (i : Nat), (enumD i ds).length = ds.length
  | [], _ => rfl
  | d :: ds, i => by rw [enumD, List.length_cons, List.length_cons, enumD_len ds]
theorem enumD_get : ∀ (ds : List D) (i j : Nat), (enumD i ds)[j]? = (ds[j]?).map fun d => PyData.tuple [.int ((i + j : Nat) : Int), d]
  | [], _, _ => rfl
  | d :: ds, i, 0 => by rw [enumD]; simp
  | d :: ds, i, j + 1 => by
    rw [enumD, List.getElem?_cons_succ, List.getElem?_cons_succ, enumD_get ds (i + 1) j]
    congr
    funext d
    congr 4
    omega
def itE (f : M R) : M (List D) := bd (esc f) fun d => match d with
  | .list ds => ret (enumD 0 ds)
  | _ => lift none
theorem i_enum {elts : List Expr} {kk : Nat} (hg : Gl X "enumerate") (hm : X.mg "enumerate" = none) (ha : PEd X a fa) (hs : starEach [a] X.env = [(false, eval a X.env)] := by rfl) : PId X (.Tuple elts kk p2) (.Call (.Name "enumerate" p) [a] [] pos) (itE fa) := fun F => PI.mono (pi_enum hg hm (pa_cons (d_esc ha F) pa_nil hs) hs) fun σ H R hq => by
  obtain ⟨ς, G, rl, ds, ς', e, k⟩ := hq
  obtain ⟨d, ς1, e1, q1⟩ := bd_some e
  refine ⟨ς, G, rl, d, _, e1, fun v H1 G1 rl1 s1 dp => ?_⟩
  cases d with
  | list es =>
    cases q1
    obtain ⟨l, vs, rfl, h1, h2⟩ := dp_list dp
    refine ⟨l, vs, rfl, rl1.sub.seq h1, k _ H1 G1 rl1 s1 ⟨fun H s => ⟨vs, s.seq h1, by rw [enumD_len, dpa_len h2]; exact Nat.le_refl _⟩, fun i H hl s => ?_, fun i H x H' d s y e => ?_⟩⟩
    · rw [enumD_len] at hl
      obtain ⟨v, e, _⟩ := dpa_get h2 (List.getElem?_eq_getElem hl)
      exact ⟨vs, v, s.seq h1, e⟩
    · obtain ⟨T, z, rfl, hT, rfl, hz⟩ := y
      rw [enumD_get] at e
      cases q : es[i]? with
      | none => rw [q] at e; cases e
      | some d' =>
        rw [q] at e
        cases e
        obtain ⟨v, f1, f2⟩ := dpa_get h2 q
        have := hz vs (s.seq h1)
        rw [f1] at this; cases this
        refine .inr ⟨T, _, _, rfl, .inl ⟨hT, rfl⟩, rfl, .cons ?_ (.cons f2 .nil)⟩
        rw [Nat.zero_add]
        exact .int _
  | _ => cases q1
/-- zip of two lists or two tuples -/
def zipD : List D → List D → List D
  | a :: as, b :: bs => .tuple [a, b] :: zipD as bs
  | _, _ => []
theorem zipD_len : ∀ (xs ys : List D), (zipD xs ys).length = min xs.length ys.length
  | [], ys => by rw [zipD]; simp; simp
  | a :: as, [] => by rw [zipD]; simp; simp
  | a :: as, b :: bs => by rw [zipD, List.length_cons, zipD_len as bs, List.length_cons, List.length_cons]; omega
theorem zipD_get : ∀ (xs ys : List D) (i : Nat) (d : D), (zipD xs ys)[i]? = some d → ∃ a b, xs[i]? = some a ∧ ys[i]? = some b ∧ d = .tuple [a, b]
  | [], ys, i, d, e => by rw [zipD] at e; simp at e; simp
  | a :: as, [], i, d, e => by rw [zipD] at e; simp at e; simp
  | a :: as, b :: bs, 0, d, e => by rw [zipD] at e; simp at e; exact ⟨a, b, rfl, rfl, e.symm⟩
  | a :: as, b :: bs, i + 1, d, e => by
    rw [zipD, List.getElem?_cons_succ] at e
    obtain ⟨u, v, h1, h2, h3⟩ := zipD_get as bs i d e
    exact ⟨u, v, by rw [List.getElem?_cons_succ]; exact h1, by rw [List.getElem?_cons_succ]; exact h2, h3⟩
def itZ (fa fb : M R) : M (List D) := bd (esc fa) fun d => bd (esc fb) fun d2 => match d, d2 with
  | .list xs, .list ys => ret (zipD xs ys)
  | .tuple xs, .tuple ys => ret (zipD xs ys)
  | _, _ => lift none
theorem i_zip {elts : List Expr} {kk : Nat} (hg : Gl X "zip") (hm : X.mg "zip" = none) (ha : PEd X a fa) (hb : PEd X b fb) (hs1 : starEach [a, b] X.env = (false, eval a X.env) :: starEach [b] X.env := by rfl) (hs2 : starEach [b] X.env = (false, eval b X.env) :: starEach [] X.env := by rfl) (hpl : (backTo pos (starEach [b] X.env)).any (·.1) = false := by rfl) :
    PId X (.Tuple elts kk p2) (.Call (.Name "zip" p) [a, b] [] pos) (itZ fa fb) := fun F => PI.mono (RZ.pi_zipA hg hm (pa_cons (d_esc ha F) (pa_cons (d_esc hb F) pa_nil hs2) hs1) hs1 hpl) fun σ H R hq => by
  obtain ⟨ς, G, rl, ds, ς', e, k⟩ := hq
  obtain ⟨d, ς1, e1, q1⟩ := bd_some e
  obtain ⟨d2, ς2, e2, q2⟩ := bd_some q1
  refine ⟨ς, G, rl, d, _, e1, fun v H1 G1 rl1 s1 dp => ⟨ς1, G1, rl1, d2, ς2, e2, fun w H2 G2 rl2 s2 dp2 => ?_⟩⟩
  cases d with
  | list xs =>
    cases d2 with
    | list ys =>
      cases q2
      obtain ⟨l, vs, rfl, h1, h2⟩ := dp_list (dp_same s2 dp)
      obtain ⟨l2, ws, rfl, h3, h4⟩ := dp_list dp2
      refine ⟨l, l2, vs, ws, rfl, .inl ⟨rl2.sub.seq h1, rl2.sub.seq h3, k _ H2 G2 rl2 (s1.trans s2) ⟨fun H s => ⟨vs, ws, s.seq h1, s.seq h3, ?_⟩, fun i H hl s => ?_, fun i H x H' d s y e => ?_⟩⟩⟩
      · rw [zipD_len, dpa_len h2, dpa_len h4]; omega
      · rw [zipD_len] at hl
        obtain ⟨v, f1, _⟩ := dpa_get h2 (List.getElem?_eq_getElem (i := i) (by omega))
        obtain ⟨w, f2, _⟩ := dpa_get h4 (List.getElem?_eq_getElem (i := i) (by omega))
        exact ⟨vs, ws, v, w, s.seq h1, s.seq h3, f1, f2⟩
      · obtain ⟨T, u, z, rfl, hT, rfl, z1, z2⟩ := y
        obtain ⟨a', b', f1, f2, rfl⟩ := zipD_get xs ys i d e
        obtain ⟨v1, g1, g2⟩ := dpa_get h2 f1
        obtain ⟨v2, g3, g4⟩ := dpa_get h4 f2
        have t1 := z1 vs (s.seq h1)
        have t2 := z2 ws (s.seq h3)
        rw [g1] at t1; cases t1
        rw [g3] at t2; cases t2
        exact .inr ⟨T, _, _, rfl, .inl ⟨hT, rfl⟩, rfl, .cons g2 (.cons g4 .nil)⟩
    | _ => cases q2
  | tuple xs =>
    cases d2 with
    | tuple ys =>
      cases q2
      obtain ⟨l, vs, rfl, h1, h2⟩ := dp_tuple (dp_same s2 dp)
      obtain ⟨l2, ws, rfl, h3, h4⟩ := dp_tuple dp2
      refine ⟨l, l2, vs, ws, rfl, .inr ⟨same_seqT rl2.sub h1, same_seqT rl2.sub h3, k _ H2 G2 rl2 (s1.trans s2) ⟨fun H s => ⟨vs, ws, same_seqT s h1, same_seqT s h3, ?_⟩, fun i H hl s => ?_, fun i H x H' d s y e => ?_⟩⟩⟩
      · rw [zipD_len, dpa_len h2, dpa_len h4]; omega
      · rw [zipD_len] at hl
        obtain ⟨v, f1, _⟩ := dpa_get h2 (List.getElem?_eq_getElem (i := i) (by omega))
        obtain ⟨w, f2, _⟩ := dpa_get h4 (List.getElem?_eq_getElem (i := i) (by omega))
        exact ⟨vs, ws, v, w, same_seqT s h1, same_seqT s h3, f1, f2⟩
      · obtain ⟨T, u, z, rfl, hT, rfl, z1, z2⟩ := y
        obtain ⟨a', b', f1, f2, rfl⟩ := zipD_get xs ys i d e
        obtain ⟨v1, g1, g2⟩ := dpa_get h2 f1
        obtain ⟨v2, g3, g4⟩ := dpa_get h4 f2
        have t1 := z1 vs (same_seqT s h1)
        have t2 := z2 ws (same_seqT s h3)
        rw [g1] at t1; cases t1
        rw [g3] at t2; cases t2
        exact .inr ⟨T, _, _, rfl, .inl ⟨hT, rfl⟩, rfl, .cons g2 (.cons g4 .nil)⟩
    | _ => cases q2
  | _ => cases q2
/-! ### for -/
def loop (tg : Tg) (body : MS) : List D → MS
  | [], ς => some (.nx ς)
  | d :: ds, ς => match tg d ς with
    | some ς1 => match body ς1 with
      | some (.nx ς2) => loop tg body ds ς2
      | some (.ct ς2) => loop tg body ds ς2
      | some (.bk ς2) => some (.nx ς2)
      | some (.rt r ς2) => some (.rt r ς2)
      | none => none
    | none => none
def forS (f : M (List D)) (tg : Tg) (body : MS) : MS := fun ς => match f ς with
  | some (ds, ς1) => loop tg body ds ς1
  | none => none
theorem Rel.tupled {F : Fx} {ς : En} {σ : L2.St} {H : Hp} {J : It} {ds : List D} {i : Nat} {v : V} {H' : Hp} {d : D} (r : Rel K F ς G σ H) {G1 : Hp} (s1 : Same G1 G) (w : WalkD K G1 J ds) (y : J.yld i H v H') (e : ds[i]? = some d) : ∃ G', Rel K F ς G' σ H' ∧ Same G G' ∧ Dp K G' v d := by
  rcases w.yld i H v H' d (s1.trans r.sub) y e with ⟨rfl, h2⟩ | ⟨T, xs, es, rfl, ⟨h2, rfl⟩ | ⟨rfl, h2⟩, rfl, h5⟩
  · exact ⟨G, r, Same.refl _, dp_same s1 h2⟩
  · exact ⟨_, r.lay h2, same_upd (r.gnone h2), r.layD h2 (dpa_same s1 h5)⟩
  · cases hg : G T with
    | none => exact ⟨_, r.adopt h2 hg, same_upd hg, .tup (.inl (.inl upd_same)) (dpa_same (same_upd hg) (dpa_same s1 h5))⟩
    | some o =>
      have := r.sub _ _ hg
      rw [h2] at this
      cases this
      exact ⟨G, r, Same.refl _, .tup (.inl (.inl hg)) (dpa_same s1 h5)⟩
theorem s_for {it : Expr} {fi : M (List D)} {vs : List Nat} {t : Tg} (hp : PassesOwn (model X.prog X.w) X.A X.env X.xe) (hc : X.calm = true) (hi : PId X tg it fi) (hg : PGd X tg vs t) (hb : PSsd X sts g) (hs : ∀ x, foldedSetIterable it X.env x = pure x := by intro _; rfl) : PSd X (.For tg it sts [] pos) (forS fi t g) := fun F =>
  PS.mono (ps_for hp hc (hi F) (hg F) (hb F) hs) fun D σ H hq => by
    obtain ⟨ς, G, rl, o, e, k⟩ := hq
    unfold forS at e
    split at e
    · rename_i ds ς1 q
      refine ⟨ς, G, rl, ds, ς1, q, fun J H1 G1 rl1 s1 wk => ?_⟩
      refine ⟨fun i m σ' H' => m = ds.length - i ∧ i ≤ ds.length ∧ ∃ ς' G' o', Rel X.K F ς' G' σ' H' ∧ Same G1 G' ∧ loop t g (ds.drop i) ς' = some o' ∧ EndsOk X.K F G' D o', ⟨ds.length, by simp, Nat.zero_le _, ς1, G1, o, rl1, Same.refl _, e, k.mono s1⟩, ?_⟩
      rintro i m σ' H' ⟨rfl, hi', ς', G', o', rl', s', e', k'⟩
      by_cases hlt : i < ds.length
      · rw [List.drop_eq_getElem_cons hlt, loop] at e'
        split at e'
        · rename_i ς2 q2
          refine .inr ⟨wk.go i H' hlt (s'.trans rl'.sub), fun σ3 H3 => ∃ ς3 G3 o3, Rel X.K F ς3 G3 σ3 H3 ∧ Same G1 G3 ∧ loop t g (ds.drop (i + 1)) ς3 = some o3 ∧ EndsOk X.K F G3 D o3, fun σ3 H3 h3 => ⟨ds.length - (i + 1), by omega, rfl, hlt, h3⟩, fun v H2 y => ?_⟩
          obtain ⟨G2, rl2, s2, dp2⟩ := rl'.tupled s' wk y (List.getElem?_eq_getElem hlt)
          refine ⟨ς', G2, _, rl2, dp2, ς2, q2, fun σ3 H3 G3 rl3 s3 _ => ?_⟩
          have s13 : Same G1 G3 := s'.trans (s2.trans s3)
          split at e'
          · rename_i ς4 q4
            exact ⟨ς2, G3, rl3, _, q4, fun σ5 H5 G5 rl5 s5 => ⟨ς4, G5, o', rl5, s13.trans s5, e', k'.mono (s2.trans (s3.trans s5))⟩⟩
          · rename_i ς4 q4
            exact ⟨ς2, G3, rl3, _, q4, fun σ5 H5 G5 rl5 s5 => ⟨ς4, G5, o', rl5, s13.trans s5, e', k'.mono (s2.trans (s3.trans s5))⟩⟩
          · rename_i ς4 q4
            cases e'
            exact ⟨ς2, G3, rl3, _, q4, fun σ5 H5 G5 rl5 s5 => k' σ5 H5 G5 rl5 (s2.trans (s3.trans s5))⟩
          · rename_i r ς4 q4
            cases e'
            exact ⟨ς2, G3, rl3, _, q4, fun v σ5 H5 G5 rl5 s5 rep => k' v σ5 H5 G5 rl5 (s2.trans (s3.trans s5)) rep⟩
          · cases e'
        · cases e'
      · have ei : i = ds.length := by omega
        subst ei
        rw [List.drop_length, loop] at e'
        cases e'
        exact .inl ⟨wk.stop H' (s'.trans rl'.sub), k' σ' H' G' rl' (Same.refl _)⟩
    · cases e
end
end Lw
namespace Lw
open PySem PySem.Spec PyProof.Rows L2
section
variable {K : PySem.W.Frag} {F : Fx} {ς ς' : En} {G H G' H' : Hp} {σ σ' : L2.St}
def wipeE (ς : En) : List Nat → En
  | [] => ς
  | v :: vs => (wipeE ς vs).set v none
def freeAll (ς : En) (vs : List Nat) : Bool := vs.all (free ς)
theorem free_set {i j : Nat} (h : free ς i = true) : free (ς.set j none) i = true := by
  unfold free at h ⊢
  by_cases e : j = i
  · subst e
    by_cases hl : j < ς.length
    · rw [List.getElem?_set_self hl]
    · rw [List.getElem?_eq_none (by omega)] at h; cases h
  · rw [List.getElem?_set_ne e]; exact h
theorem free_wipeE {i : Nat} (h : free ς i = true) : ∀ vs : List Nat, free (wipeE ς vs) i = true
  | [] => h
  | v :: vs => free_set (free_wipeE h vs)
theorem Rel.wiped (r : Rel K F ς G σ H) : ∀ vs : List Nat, freeAll ς vs = true → Rel K F (wipeE ς vs) G (wipe σ vs) H
  | [], _ => r
  | v :: vs, h => by
    unfold freeAll at h
    rw [List.all_cons, Bool.and_eq_true] at h
    exact (r.wiped vs h.2).setN (free_wipeE h.1 vs)
theorem Rel.unwipe {vs : List Nat} (r : Rel K F ς G (wipe σ vs) H) : Rel K F ς G σ H where
  len := by rw [← r.len, wipe_length]
  sub := r.sub
  g0 := r.g0
  pu := fun i d e => by
    obtain ⟨v, h1, h2⟩ := r.pu i d e
    exact ⟨v, (wipe_some h1).1, h2⟩
  ow := fun i b ds e => by
    obtain ⟨a, ws, h1, h2⟩ := r.ow i b ds e
    exact ⟨a, ws, (wipe_some h1).1, h2⟩
  ap := fun i j b c ds es a q1 q2 q3 q4 => by
    obtain ⟨a1, _, h1, _⟩ := r.ow i b ds q1
    obtain ⟨a2, _, h2, _⟩ := r.ow j c es q2
    have e1 := (wipe_some h1).1
    have e2 := (wipe_some h2).1
    rw [q3] at e1; cases e1
    rw [q4] at e2; cases e2
    exact r.ap i j b c ds es a q1 q2 h1 h2
  par := r.par
  fr := r.fr
  nw := r.nw
  vx := fun i x e => by
    obtain ⟨v, h1, h2⟩ := r.vx i x e
    exact ⟨v, (wipe_some h1).1, h2⟩
  od := fun i kvs e => by
    obtain ⟨a, o, h1, h2⟩ := r.od i kvs e
    exact ⟨a, o, (wipe_some h1).1, h2⟩
  oa := fun i j kvs kws a q1 q2 q3 q4 => by
    obtain ⟨a1, _, h1, _⟩ := r.od i kvs q1
    obtain ⟨a2, _, h2, _⟩ := r.od j kws q2
    have e1 := (wipe_some h1).1
    have e2 := (wipe_some h2).1
    rw [q3] at e1; cases e1
    rw [q4] at e2; cases e2
    exact r.oa i j kvs kws a q1 q2 h1 h2
/-- something of nobody's is changed -/
theorem Rel.touchG (r : Rel K F ς G σ H) {a : Addr} {o : HO} (h2 : G a = none) (h4 : F.H0 a = none) (h5 : ∀ (i : Nat) b es, ς[i]? = some (some (.own b es)) → σ[i]? ≠ some (some (.ref a))) (hd : ∀ (i : Nat) kvs, ς[i]? = some (some (.vx (.odc kvs))) → σ[i]? ≠ some (some (.ref a))) : Rel K F ς G σ (upd H a o) where
  len := r.len
  sub := fun b x e => by
    rw [upd_ne (ne_of_none e h2)]; exact r.sub _ _ e
  g0 := r.g0
  pu := r.pu
  ow := fun i b ds e => by
    obtain ⟨a', vs, e1, e2, e3⟩ := r.ow i b ds e
    have ne : a' ≠ a := fun z => by subst z; exact h5 i b ds e e1
    exact ⟨a', vs, e1, by rw [upd_ne ne]; exact e2, e3⟩
  ap := r.ap
  par := r.par
  fr := r.fr.touch h4
  nw := r.nw
  vx := r.vx
  od := fun i kvs e => by
    obtain ⟨a', o', e1, e2, e3⟩ := r.od i kvs e
    have ne : a' ≠ a := fun z => by subst z; exact hd i kvs e e1
    exact ⟨a', o', e1, by rw [upd_ne ne]; exact e2, e3⟩
  oa := r.oa
theorem Rel.touch (r : Rel K F ς G σ H) {a : Addr} {o : HO} (h2 : G a = none) (h4 : F.H0 a = none) (h5 : ∀ (i : Nat) b es, ς[i]? = some (some (.own b es)) → σ[i]? ≠ some (some (.ref a))) {ws : List V} (h6 : H a = some (.lst ws)) : Rel K F ς G σ (upd H a o) := r.touchG h2 h4 h5 (r.lno h6)
end
/-! ### [e for x in xs] -/
def lcLoop (vs : List Nat) (tg : Tg) (tt : M Bool) (fe : M R) : List D → List D → En → Option (List D × En)
  | [], acc, ς => some (acc, ς)
  | d :: ds, acc, ς => match tg d ς with
    | some ς1 => match tt ς1 with
      | some (true, ς2) => match esc fe ς2 with
        | some (y, ς3) => if freeAll ς3 vs = true ∧ acc.length < sizeLine then lcLoop vs tg tt fe ds (acc ++ [y]) (wipeE ς3 vs) else none
        | none => none
      | some (false, ς2) => if freeAll ς2 vs = true then lcLoop vs tg tt fe ds acc (wipeE ς2 vs) else none
      | none => none
    | none => none
def lcE (fi : M (List D)) (vs : List Nat) (tg : Tg) (tt : M Bool) (fe : M R) : M R := fun ς => match fi ς with
  | some (ds, ς1) => if freeAll ς1 vs = true then match lcLoop vs tg tt fe ds [] (wipeE ς1 vs) with
      | some (acc, ς2) => some (.fresh acc, ς2)
      | none => none
    else none
  | none => none
section
variable {X : Cx} {a b c e tg : Expr} {es : List Expr} {fa fb fc f fe : M R} {ta : M Bool} {pos p p1 p2 p3 : Pos} {x : Str} {st : Stmt} {sts rest : List Stmt} {g g1 g2 : MS}
abbrev gEx (K : PySem.W.Frag) (vs : List Nat) (t : Tg) : TG := fun v σ H Q => ∃ F, tTg K F vs t v σ H Q
abbrev tEx (K : PySem.W.Frag) (t : M Bool) : TT := fun σ H Q => ∃ F, tEvT K F t σ H Q
abbrev eEx (K : PySem.W.Frag) (f : M D) : TE := fun σ H Q => ∃ F, tEvD K F f σ H Q
theorem t_lcJ {K : PySem.W.Frag} {vs : List Nat} {t : Tg} {F : Fx} {ς1 ς' : En} {G1 H1 : Hp} {σ : L2.St} {J : It} {ds accF : List D} {Q : VK} (rl1 : Rel K F ς1 G1 σ H1) (wk : WalkD K G1 J ds) (hf : freeAll ς1 vs = true) (q2 : lcLoop vs t ta fe ds [] (wipeE ς1 vs) = some (accF, ς'))
    (k : ∀ v H' G', Rel K F ς' G' σ H' → Same G1 G' → RepR K F ς' G' σ H' (.fresh accF) v → Q v H') (L : Addr) (hL : H1 L = none) : ∃ W : Nat → Nat → Hp → Prop, (∃ m, W 0 m (upd H1 L (.lst []))) ∧ ∀ i m H, W i m H →
      (J.stop i H ∧ Q (.ref L) H) ∨ (J.go i H ∧ ∃ Nx : Hp → Prop, (∀ H', Nx H' → ∃ m', m' < m ∧ W (i + 1) m' H') ∧ ∀ x H', J.yld i H x H' → gEx K vs t x (wipe σ vs) H' fun σ2 H2 => wipe σ2 vs = wipe σ vs ∧ tEx K ta σ2 H2 fun b H3 =>
        if b = true then eEx K (esc fe) σ2 H3 fun y H4 => ∃ acc, H4 L = some (.lst acc) ∧ acc.length < sizeLine ∧ Nx (upd H4 L (.lst (acc ++ [y]))) else Nx H3) := by
  refine ⟨fun i m H' => m = ds.length - i ∧ i ≤ ds.length ∧ ∃ ςi Gi acc accV, Rel K F ςi Gi (wipe σ vs) H' ∧ Same G1 Gi ∧ H' L = some (.lst accV) ∧ Gi L = none ∧ DpAll K Gi accV acc ∧ F.H0 L = none ∧ (∀ (n : Nat) b es, ςi[n]? = some (some (.own b es)) → (wipe σ vs)[n]? ≠ some (some (.ref L))) ∧ lcLoop vs t ta fe (ds.drop i) acc ςi = some (accF, ς'), ?_, ?_⟩
  · refine ⟨ds.length, by simp, Nat.zero_le _, wipeE ς1 vs, G1, [], [], (rl1.wiped vs hf).layF hL, Same.refl _, upd_same, rl1.gnone hL, .nil, rl1.new hL, fun n b es z w => ?_, q2⟩
    obtain ⟨a, ws, f1, f2, _⟩ := (rl1.wiped vs hf).ow n b es z
    rw [w] at f1; cases f1
    rw [hL] at f2; cases f2
  · rintro i m H' ⟨rfl, hi, ςi, Gi, acc, accV, rli, si, hLi, hGi, hdi, h0, hni, ei⟩
    by_cases hlt : i < ds.length
    · rw [List.drop_eq_getElem_cons hlt, lcLoop] at ei
      split at ei
      · rename_i ς3 q3
        refine .inr ⟨wk.go i H' hlt (si.trans rli.sub), fun H3 => ∃ ςi Gi acc accV, Rel K F ςi Gi (wipe σ vs) H3 ∧ Same G1 Gi ∧ H3 L = some (.lst accV) ∧ Gi L = none ∧ DpAll K Gi accV acc ∧ F.H0 L = none ∧ (∀ (n : Nat) b es, ςi[n]? = some (some (.own b es)) → (wipe σ vs)[n]? ≠ some (some (.ref L))) ∧ lcLoop vs t ta fe (ds.drop (i + 1)) acc ςi = some (accF, ς'), fun H3 h3 => ⟨ds.length - (i + 1), by omega, rfl, hlt, h3⟩, fun v H2 y => ?_⟩
        obtain ⟨G2, rl2, s2, dp2⟩ := rli.now.tupled si wk y (List.getElem?_eq_getElem hlt)
        refine ⟨F.now ςi Gi (wipe σ vs) H', ςi, G2, _, rl2, dp2, ς3, q3, fun σ3 H3 G3 rl3 s3 w3 => ⟨w3.trans (by
            have : ∀ us : List Nat, wipe (wipe σ us) us = wipe σ us := by
              intro us
              induction us with
              | nil => rfl
              | cons u us ih =>
                show (wipe ((wipe σ us).set u none) us).set u none = (wipe σ us).set u none
                rw [wipe_comm1, List.set_set, ih]
            exact this vs), ?_⟩⟩
        split at ei
        · rename_i ς4 q4
          refine ⟨F.now ςi Gi (wipe σ vs) H', ς3, G3, rl3, true, ς4, q4, fun H4 G4 rl4 s4 => ?_⟩
          refine iteT ?_
          split at ei
          · rename_i y5 ς5 q5
            split at ei
            · rename_i hf5
              refine ⟨F.now ςi Gi (wipe σ vs) H', ς4, G4, rl4, y5, ς5, q5, fun u H5 G5 rl5 s5 dp5 => ?_⟩
              obtain ⟨k1, k2, k3⟩ := rli.keepF rl5 hLi hGi hni
              have hdi' : DpAll K G5 accV acc := dpa_same (s2.trans (s3.trans (s4.trans s5))) hdi
              refine ⟨accV, k1, by rw [dpa_len hdi]; exact hf5.2, wipeE ς5 vs, G5, acc ++ [y5], accV ++ [u], ?_, si.trans (s2.trans (s3.trans (s4.trans s5))), upd_same, k2, dpa_app hdi' (.cons dp5 .nil), h0, ?_, ei⟩
              · have rb := (rli.back rl5).wiped vs hf5.1
                have w3' : wipe σ3 vs = wipe σ vs := by
                  rw [w3]
                  have : ∀ us : List Nat, wipe (wipe σ us) us = wipe σ us := by
                    intro us
                    induction us with
                    | nil => rfl
                    | cons u us ih =>
                      show (wipe ((wipe σ us).set u none) us).set u none = (wipe σ us).set u none
                      rw [wipe_comm1, List.set_set, ih]
                  exact this vs
                rw [w3'] at rb
                refine rb.touch k2 h0 (fun n b es z1 z2 => ?_) k1
                obtain ⟨a6, ws6, f1, f2, _⟩ := rb.ow n b es z1
                rw [z2] at f1; cases f1
                have z3 : ς5[n]? = some (some (.own b es)) := by
                  have : ∀ us : List Nat, (wipeE ς5 us)[n]? = some (some (.own b es)) → ς5[n]? = some (some (.own b es)) := by
                    intro us
                    induction us with
                    | nil => exact fun h => h
                    | cons u us ih =>
                      intro h
                      have h' : ((wipeE ς5 us).set u none)[n]? = some (some (.own b es)) := h
                      replace h' := get_set h'; rcases h' with ⟨rfl, h'⟩ | ⟨_, h'⟩
                      · cases h'
                      · exact ih h'
                  exact this vs z1
                rw [← w3'] at z2
                exact k3 n b es z3 (wipe_some z2).1
              · intro n b es z1 z2
                have w3' : wipe σ3 vs = wipe σ vs := by
                  rw [w3]
                  have : ∀ us : List Nat, wipe (wipe σ us) us = wipe σ us := by
                    intro us
                    induction us with
                    | nil => rfl
                    | cons u us ih =>
                      show (wipe ((wipe σ us).set u none) us).set u none = (wipe σ us).set u none
                      rw [wipe_comm1, List.set_set, ih]
                  exact this vs
                have z3 : ς5[n]? = some (some (.own b es)) := by
                  have : ∀ us : List Nat, (wipeE ς5 us)[n]? = some (some (.own b es)) → ς5[n]? = some (some (.own b es)) := by
                    intro us
                    induction us with
                    | nil => exact fun h => h
                    | cons u us ih =>
                      intro h
                      have h' : ((wipeE ς5 us).set u none)[n]? = some (some (.own b es)) := h
                      replace h' := get_set h'; rcases h' with ⟨rfl, h'⟩ | ⟨_, h'⟩
                      · cases h'
                      · exact ih h'
                  exact this vs z1
                rw [← w3'] at z2
                exact k3 n b es z3 (wipe_some z2).1
            · cases ei
          · cases ei
        · rename_i ς4 q4
          refine ⟨F.now ςi Gi (wipe σ vs) H', ς3, G3, rl3, false, ς4, q4, fun H5 G5 rl5 s5 => ?_⟩
          refine iteF ?_
          split at ei
          · rename_i hf5
            obtain ⟨k1, k2, k3⟩ := rli.keepF rl5 hLi hGi hni
            have hdi' : DpAll K G5 accV acc := dpa_same (s2.trans (s3.trans s5)) hdi
            have w3' : wipe σ3 vs = wipe σ vs := by
              rw [w3]
              have : ∀ us : List Nat, wipe (wipe σ us) us = wipe σ us := by
                intro us
                induction us with
                | nil => rfl
                | cons u us ih =>
                  show (wipe ((wipe σ us).set u none) us).set u none = (wipe σ us).set u none
                  rw [wipe_comm1, List.set_set, ih]
              exact this vs
            have rb := (rli.back rl5).wiped vs hf5
            rw [w3'] at rb
            refine ⟨wipeE ς4 vs, G5, acc, accV, rb, si.trans (s2.trans (s3.trans s5)), k1, k2, hdi', h0, fun n b es z1 z2 => ?_, ei⟩
            have z3 : ς4[n]? = some (some (.own b es)) := by
              have : ∀ us : List Nat, (wipeE ς4 us)[n]? = some (some (.own b es)) → ς4[n]? = some (some (.own b es)) := by
                intro us
                induction us with
                | nil => exact fun h => h
                | cons u us ih =>
                  intro h
                  have h' : ((wipeE ς4 us).set u none)[n]? = some (some (.own b es)) := h
                  replace h' := get_set h'; rcases h' with ⟨rfl, h'⟩ | ⟨_, h'⟩
                  · cases h'
                  · exact ih h'
              exact this vs z1
            rw [← w3'] at z2
            exact k3 n b es z3 (wipe_some z2).1
          · cases ei
        · cases ei
      · cases ei
    · have eI : i = ds.length := by omega
      subst eI
      rw [List.drop_length, lcLoop] at ei
      cases ei
      refine .inl ⟨wk.stop H' (si.trans rli.sub), k _ H' Gi rli.unwipe si ⟨L, accV, rfl, hLi, hGi, hdi, h0, fun n b es z1 z2 => ?_⟩⟩
      obtain ⟨a6, ws6, f1, f2, _⟩ := rli.ow n b es z1
      have := (wipe_some f1).1
      rw [z2] at this; cases this
      exact hni n b es z1 f1
theorem t_lc {K : PySem.W.Frag} {fi : M (List D)} {vs : List Nat} {t : Tg} (F : Fx) : ∀ σ H Q, tEv K F (lcE fi vs t ta fe) σ H Q → tLc (fun σ H R => ∃ F, tEvI K F fi σ H R) (gEx K vs t) (tEx K ta) (eEx K (esc fe)) vs σ H Q := fun σ H Q hq => by
  obtain ⟨ς, G, rl, r, ς', e, k⟩ := hq
  unfold lcE at e
  split at e
  · rename_i ds ς1 q1
    split at e
    · rename_i hf
      split at e
      · rename_i accF ς2 q2
        cases e
        exact ⟨F, ς, G, rl, ds, ς1, q1, fun J H1 G1 rl1 s1 wk L hL => t_lcJ rl1 wk hf q2 (fun v H' G' r s rep => k v H' G' r (s1.trans s) rep) L hL⟩
      · cases e
    · cases e
  · cases e
theorem PId.ex {it : Expr} {fi : M (List D)} (h : PId X tg it fi) : PI X tg it (fun σ H R => ∃ F, tEvI X.K F fi σ H R) := ⟨fun pins s σ H R I ⟨F, hw⟩ => (h F).run pins s σ H R I hw⟩
theorem ts_nil : PTs X [] (tEx X.K (ret true)) := ⟨fun pins s σ H Q I ⟨F, ς, G, rl, b, ς', e, k⟩ => by
  cases e
  exact pts_nil.run pins s σ H Q I (k H G rl (Same.refl _))⟩
end
end Lw
namespace Lw
open PySem PySem.Spec PyProof.Rows L2
section
variable {X : Cx} {a b c e tg o : Expr} {es : List Expr} {fa fb fc f fe fo : M R} {ta : M Bool} {pos p p1 p2 p3 : Pos} {x : Str} {st : Stmt} {sts rest : List Stmt} {g g1 g2 : MS}
theorem d_lc {elt tg iter : Expr} {ifs : List Expr} {scope : Scope} {own : List (Str × Nat)} {fi : M (List D)} {t : Tg} (hc : X.calm = true) (hN : X.N.Nodup) (hi : PId X tg iter fi) (ok : BlkOk X.N X.env.scope scope own)
    (hg : ∀ (s : Shared) (H : Hp) (C : Addr) (cl : List (Str × Addr)) (fp : List Addr), PGd (X.blk s H scope (compEnvC scope cl C X.env) fp) tg (own.map (·.2)) t)
    (ht : ∀ (s : Shared) (H : Hp) (C : Addr) (cl : List (Str × Addr)) (fp : List Addr), PTs (X.blk s H scope (compEnvC scope cl C X.env) fp) ifs (tEx X.K ta))
    (he : ∀ (s : Shared) (H : Hp) (C : Addr) (cl : List (Str × Addr)) (fp : List Addr), PEd (X.blk s H scope (compEnvC scope cl C X.env) fp) elt fe) (hs : ∀ x, foldedSetIterable iter X.env x = pure x := by intro _; rfl) :
    PEd X (.ListComp elt [⟨tg, iter, ifs, 0⟩] scope pos) (lcE fi (own.map (·.2)) t ta fe) := fun F =>
  PE.mono (pe_lc hc hN hi.ex ok (fun s H C cl fp => (hg s H C cl fp).ex) ht (fun s H C cl fp => PDd.ex (d_esc (he s H C cl fp))) hs) (t_lc F)
/-! ### methods of an own list -/
def isOwn (i : Nat) : M Unit := fun ς => match ς[i]? with
  | some (some (.own _ _)) => some ((), ς)
  | _ => none
def mth (h : List D → List D → Option (D × List D)) (fo : M R) (ga : M (List Ar)) : M R := bd fo fun r => match r with
  | .ref i => bd (isOwn i) fun _ => bd ga fun as => bd (lift (vals as)) fun ws => fun ς => match ς[i]? with
    | some (some (.own b ds)) => match h ds ws with
      | some (d, ds') => some (.pure d, ς.set i (some (.own b ds')))
      | none => none
    | _ => none
  | _ => lift none
structure Mth (X : Cx) (r : V → List V → Hp → VK → Prop) (h : List D → List D → Option (D × List D)) : Prop where
  run : ∀ (G : Hp) (H : Hp) (l : Addr) (xs ws : List V) (ds es : List D) (d : D) (ds' : List D) (Q : VK), H l = some (.lst xs) → DpAll X.K G xs ds → DpAll X.K G ws es → h ds es = some (d, ds') →
    (∀ v xs', DpAll X.K G xs' ds' → Dp X.K G v d → Q v (upd H l (.lst xs'))) → r (.ref l) ws H Q
theorem d_mth {ga : M (List Ar)} {h : List D → List D → Option (D × List D)} {r : V → List V → Hp → VK → Prop} (m : Mth X r h) (ho : PEd X o fo) (ha : PAd X es ga) (hp : ∀ (to : TE) (t : TA), PE X o to → PA X es t → PE X e (tBM X.K "list" r to t)) : PEd X e (mth h fo ga) := fun F => PE.mono (hp _ _ (ho F) (ha F)) fun σ H Q hq => by
  obtain ⟨ς, G, rl, res, ς', e, k⟩ := hq
  obtain ⟨r0, ς1, e1, q1⟩ := bd_some e
  refine ⟨ς, G, rl, r0, ς1, e1, fun v H1 G1 rl1 s1 rep1 => ?_⟩
  cases r0 with
  | ref i =>
    obtain ⟨_, ς2, e2, q2⟩ := bd_some q1
    unfold isOwn at e2
    split at e2
    · rename_i b ds q3
      cases e2
      obtain ⟨l, xs, f1, f2, _⟩ := rl1.ow i b ds q3
      rw [show σ[i]? = some (some v) from rep1] at f1
      cases f1
      refine ⟨.inl ⟨rfl, _, SqL.of f2⟩, ?_⟩
      obtain ⟨as, ς3, e3, q4⟩ := bd_some q2
      obtain ⟨ws, ς4, e4', q5⟩ := bd_some q4
      obtain ⟨e4, h4⟩ := lift_some e4'
      subst h4
      refine ⟨ς1, G1, rl1, as, _, e3, fun vs H2 G2 rl2 s2 ps => ?_⟩
      split at q5
      · rename_i b2 ds2 q6
        split at q5
        · rename_i d ds' q7
          cases q5
          obtain ⟨l2, xs2, g1, g2, g3, g4, _⟩ := rl2.ow i b2 ds2 q6
          rw [show σ[i]? = some (some (.ref l)) from rep1] at g1
          cases g1
          exact m.run G2 H2 l xs2 vs ds2 ws d ds' Q g2 g4 (vals_ok ps e4) q7 fun w xs' hx hw => k w _ G2 (rl2.mut q6 rep1 hx) (s1.trans s2) hw
        · cases q5
      · cases q5
    · cases e2
  | _ => cases q1
def hApp : List D → List D → Option (D × List D)
  | ds, [d] => if ds.length < sizeLine then some (.none, ds ++ [d]) else none
  | _, _ => none
theorem m_append : Mth X rAppend hApp := ⟨fun G H l xs ws ds es d ds' Q h1 h2 h3 e k => by
  cases h3 with
  | nil => cases e
  | cons hv ht =>
    cases ht with
    | nil =>
      rename_i v dd
      replace e : (if ds.length < sizeLine then some (PyData.none, ds ++ [dd]) else none) = some (d, ds') := e
      by_cases q : ds.length < sizeLine
      · rw [if_pos q] at e
        cases e
        exact ⟨l, xs, v, rfl, rfl, h1, by rw [dpa_len h2]; exact q, k _ _ (dpa_app h2 (.cons hv .nil)) .non⟩
      · rw [if_neg q] at e; cases e
    | cons _ _ => cases e⟩
def hPopAt : List D → List D → Option (D × List D)
  | ds, [.int i] => if -(2 ^ 63) ≤ i ∧ i < 2 ^ 63 then match seqIndex? i ds.length with
      | some k => match ds[k]? with
        | some d => some (d, ds.eraseIdx k)
        | none => none
      | none => none
    else none
  | _, _ => none
def hIns : List D → List D → Option (D × List D)
  | ds, [.int i, d] => if 0 ≤ i ∧ i < 2 ^ 63 ∧ ds.length < sizeLine then some (.none, ds.take i.toNat ++ [d] ++ ds.drop i.toNat) else none
  | _, _ => none
end
/-! ### a def, with nothing being shown around it -/
structure FnG (P : Program) (w : World) (K : PySem.W.Frag) (mg : Str → Option Value) (base : Heap) (CX : CXT) (k : Nat) (f : Addr) (fd : FuncData) (ps : List Str) (sp : Sp) : Prop where
  len : ∀ vs H Q E, sp vs H Q E → vs.length = ps.length
  run : ∀ (A : Around) (outer : List Env) (s : Shared) (H : Hp) (args : Args) (us : List Value) (vs : List V) (Q : VK) (E : XK), A.guards = some [] → Room k A → Env0 P w K mg base A outer s H →
    BindsTo s fd args (ps.zip us) → Vals vs us → sp vs H Q E → codeAny (model P w) A (.call (.ref f) args) (CR CX outer P w H s Q E) s
section
variable {P : Program} {w : World} {K : PySem.W.Frag} {mg : Str → Option Value} {base : Heap} {CX : CXT} {k : Nat} {f : Addr} {fd : FuncData} {ps : List Str} {sp : Sp}
theorem FnG.mono {j : Nat} (F : FnG P w K mg base CX j f fd ps sp) (h : j ≤ k) : FnG P w K mg base CX k f fd ps sp :=
  ⟨F.len, fun A outer s H args us vs Q E hg hr => F.run A outer s H args us vs Q E hg (hr.mono h)⟩
theorem fnG_of {name qual : Str} {params : Arguments} {body : List Stmt} {scope : Scope} {dV kV doc pm cdv ct oc : Value} {an od : Option Addr} {osl : Array (Option Value)} {N : List Str}
    (lk : K.lookup f = some ⟨oc, od, .func (PySem.W.fnOf name qual params body scope dV kV doc pm an cdv ct), osl⟩) (hcode : PySem.W.codeIn K cdv qual = true) (sc : FnScope N ps scope) (hlen : ∀ vs H Q E, sp vs H Q E → vs.length = ps.length)
    (hb0 : ∀ (A : Around) (outer : List Env) (s : Shared) (H : Hp) (vs : List V) (Q : VK) (E : XK), A.guards = some [] → Room k (A.deeper (envOfC qual scope s.heap.objs.size f cdv)) → sp vs H Q E →
      ∃ t, PSs (cxOf CX P w K mg base N qual scope f cdv A outer s H E) body t ∧ t { nx := fun _ H' => Q .non H', rt := Q } (L2.start N vs) H) : FnG P w K mg base CX (k + 1) f (PySem.W.fnOf name qual params body scope dV kV doc pm an cdv ct) ps sp := by
  constructor
  · exact hlen
  intro A outer s H args us vs Q E hgd room env bind rel prom
  have inK : K.In s.heap := env.mod.kin.keeps (fun b o e => (env.bs b o e).1)
  have noLim : s.heap.NoLimit := env.mod.nolimit.keeps (fun b o e => (env.bs b o e).1)
  have kinds : ∀ y ∈ ps.zip us, scope.names.lookup y.1 = some .local ∨ (scope.names.lookup y.1 = some .cell ∧ ((cellsFrom (s.heap.objs.size + 1) scope.names []).lookup y.1).isSome = true) := by
    rintro ⟨n, v⟩ hy
    rcases sc.par n (List.of_mem_zip hy).1 with loc | cel
    · exact Or.inl loc
    · exact Or.inr ⟨cel, PySem.W.cellsFrom_some _ _ _ (Or.inl cel)⟩
  refine codeAny_call_function room.depth (inK _ _ lk) rfl sc.co sc.gen rfl (PySem.W.codeRec_of inK hcode) (bind _ _ _ _ ?_)
  refine wpAny_newFunctionEnv_cells sc.kind kinds (fun env' he s1 inCall => ?_)
  subst he
  refine ⟨noLim.keeps inCall.toInCall.keep, codeAny_func ?_⟩
  obtain ⟨t, ht, hq⟩ := hb0 A outer s H vs Q E hgd (room.deeper _) prom
  have I0 : Inv (cxOf CX P w K mg base N qual scope f cdv A outer s H E) [] (L2.start N vs) H s1 := inv_start sc room.hd env (hlen vs H Q E prom) rel inCall
  refine wpAny_mono (ht.run [] s1 (L2.start N vs) H _ I0 hq) (fun fl s' hs => ?_) (fun _ _ hs => hs)
  cases fl with
  | ret u =>
    obtain ⟨v, σ', H', J, rv, q⟩ := hs
    exact ⟨v, H', J.os, J.bare, J.base, J.hok, rv, q⟩
  | next =>
    obtain ⟨σ', H', J, q⟩ := hs
    exact ⟨V.non, H', J.os, J.bare, J.base, J.hok, rfl, q⟩
  | brk => obtain ⟨_, _, _, q⟩ := hs; exact False.elim q
  | cont => obtain ⟨_, _, _, q⟩ := hs; exact False.elim q
end
section
variable {X : Cx} {CX : CXT} {k : Nat} {f : Addr} {fd : FuncData} {ps : List Str} {sp : Sp} {E : XK} {x : Str} {p pos : Pos} {e : Expr} {es : List Expr} {t : TA}
theorem pe_callG (G : FnG X.prog X.w X.K X.mg X.base CX k f fd ps sp) (hgd : X.A.guards = some []) (hr : Room k X.A) (hg : Gl X x) (hm : X.mg x = some (.ref f)) (hk : PySem.W.keepIn X.K (.ref f) = true) (hb : Binds X.K fd ps []) (hx : Passes CX X E)
    (ha : PA X (e :: es) t) (hdb : (x == ("__debug__" : Str)) = false := by decide) (he : starEach (e :: es) X.env = (false, eval e X.env) :: starEach es X.env := by rfl) (hpl : (backTo pos (starEach es X.env)).any (·.1) = false := by rfl) :
    PE X (.Call (.Name x p) (e :: es) [] pos) (fun σ H Q => t σ H fun vs H1 => sp vs H1 Q E) := by
  refine ⟨fun pins s σ H Q I h => wpAny_Call_Name_kw (ld_glob I hg hm ?_ hdb)⟩
  refine PySem.W.callWith_K (h₀ := X.base) I.ok.mod.kin hk (thn (ha.run pos pins s σ H _ I h) fun us s1 ⟨vs, H1, I1, r, q⟩ => ⟨I1.kIn, ?_⟩) he hpl
  have hl : (us ++ []).length = ps.length := by rw [List.append_nil, ← r.length]; exact G.len _ _ _ _ q
  have hb' := hb s1 us I1.kIn hl
  rw [List.append_nil] at hb'
  refine wpAny_call (codeAny_mono (G.run X.A X.stack s1 H1 ⟨us, []⟩ us vs Q E hgd hr I1.env0 hb' r q) fun r' s' hq => ?_)
  cases r' with
  | error er => exact hx pins σ H1 s1 er s' I1 hq
  | ok fl =>
    cases fl with
    | ret u => exact I1.after hq
    | next => exact False.elim hq
    | brk => exact False.elim hq
    | cont => exact False.elim hq
end
end Lw
namespace Lw
open PySem PySem.Spec PyProof.Rows L2
abbrev Fsem := List S → Option (R × List S)
structure ArgsOk (K : PySem.W.Frag) (ss : List S) (G : Hp) (vs : List V) (H : Hp) : Prop where
  len : vs.length = ss.length
  sub : Same G H
  pu : ∀ (i : Nat) d, ss[i]? = some (.pure d) → ∃ v, vs[i]? = some v ∧ Dp K G v d
  ow : ∀ (i : Nat) b ds, ss[i]? = some (.own b ds) → b = true ∧ ∃ a xs, vs[i]? = some (.ref a) ∧ H a = some (.lst xs) ∧ G a = none ∧ DpAll K G xs ds
  ap : ∀ (i j : Nat) b c ds es a, ss[i]? = some (.own b ds) → ss[j]? = some (.own c es) → vs[i]? = some (.ref a) → vs[j]? = some (.ref a) → i = j
  vx : ∀ (i : Nat) x, ss[i]? = some (.vx x) → ∃ v, vs[i]? = some v ∧ Xp K G v x
  ob : ∀ (i : Nat) kvs, ss[i]? = some (.vx (.odc kvs)) → parO kvs = true ∧ ∃ a o, vs[i]? = some (.ref a) ∧ H a = some o ∧ DcAt K G o kvs ∧ G a = none
  oj : ∀ (i j : Nat) kvs kws a, ss[i]? = some (.vx (.odc kvs)) → ss[j]? = some (.vx (.odc kws)) → vs[i]? = some (.ref a) → vs[j]? = some (.ref a) → i = j
  tb : LamG (tabsOf K) G H
def RepOut (K : PySem.W.Frag) (H G' H' : Hp) : R → V → Prop
  | .pure d, v => Dp K G' v d
  | .fresh ds, v => ∃ a xs, v = .ref a ∧ H' a = some (.lst xs) ∧ G' a = none ∧ DpAll K G' xs ds ∧ H a = none
  | .ref _, _ => False
  | .vx (.exc nm d), v => Xp K G' v (.exc nm d)
  | .vx (.odc kvs), v => ∃ a o, v = .ref a ∧ H' a = some o ∧ DcAt K G' o kvs ∧ G' a = none ∧ H a = none ∧ parO kvs = false
structure RetOk (K : PySem.W.Frag) (ss : List S) (G : Hp) (vs : List V) (H : Hp) (r : R) (outs : List S) (v : V) (H' G' : Hp) : Prop where
  same : Same G G'
  sub : Same G' H'
  nw : ∀ a, G' a ≠ none → G a ≠ none ∨ Nw (H a)
  fr : ∀ a o, H a = some o → (∀ ps, o ≠ .tbl ps) → (∀ (i : Nat) s, ss[i]? = some s → sPar s = true → vs[i]? ≠ some (.ref a)) → H' a = some o
  tn : ∀ a ps, H a = some (.tbl ps) → ∃ ps', H' a = some (.tbl ps')
  tb : LamG (tabsOf K) G' H'
  ow : ∀ (i : Nat) b ds a, ss[i]? = some (.own b ds) → vs[i]? = some (.ref a) → ∃ ds' xs', outs[i]? = some (.own true ds') ∧ H' a = some (.lst xs') ∧ G' a = none ∧ DpAll K G' xs' ds'
  ob : ∀ (i : Nat) kvs a, ss[i]? = some (.vx (.odc kvs)) → vs[i]? = some (.ref a) → ∃ kws o, outs[i]? = some (.vx (.odc kws)) ∧ parO kws = true ∧ H' a = some o ∧ DcAt K G' o kws ∧ G' a = none
  rep : RepOut K H G' H' r v
def spF (K : PySem.W.Frag) (n : Nat) (m : Fsem) : Sp := fun vs H Q _ => ∃ ss G, ss.length = n ∧ ArgsOk K ss G vs H ∧ ∃ r outs, m ss = some (r, outs) ∧ ∀ v H' G', RetOk K ss G vs H r outs v H' G' → Q v H'
/-! ### the call -/
def argS : List Ar → En → Option (List S)
  | [], _ => some []
  | .val d :: as, ς => match argS as ς with
    | some ss => some (.pure d :: ss)
    | none => none
  | .ref i :: as, ς => match ς[i]?, argS as ς with
    | some (some (.own _ ds)), some ss => some (.own true ds :: ss)
    | some (some (.pure d)), some ss => some (.pure d :: ss)
    | some (some (.vx (.exc nm d))), some ss => some (.vx (.exc nm d) :: ss)
    | some (some (.vx (.odc ((.str nm, .bool _) :: ks)))), some ss => some (.vx (.odc ((.str nm, .bool true) :: ks)) :: ss)
    | _, _ => none
def setOwn (ς : En) (i : Nat) (ds : List D) : En := match ς[i]? with
  | some (some (.own b _)) => ς.set i (some (.own b ds))
  | _ => ς
def setOb (ς : En) (i : Nat) (kws : List (D × D)) : En := match ς[i]? with
  | some (some (.vx (.odc ((.str _, .bool fl) :: _)))) => match kws with
    | (.str nm, .bool _) :: ks => ς.set i (some (.vx (.odc ((.str nm, .bool fl) :: ks))))
    | _ => ς
  | _ => ς
def putBack : List Ar → List S → En → En
  | .ref i :: as, .own _ ds :: os, ς => putBack as os (setOwn ς i ds)
  | .ref i :: as, .vx (.odc kws) :: os, ς => putBack as os (setOb ς i kws)
  | _ :: as, _ :: os, ς => putBack as os ς
  | _, _, ς => ς
def refsOf : List Ar → List Nat
  | [] => []
  | .val _ :: as => refsOf as
  | .ref i :: as => i :: refsOf as
def callE (m : Fsem) (ga : M (List Ar)) : M R := bd ga fun as => fun ς => match argS as ς with
  | some ss => match m ss with
    | some (.ref _, _) => none
    | some (r, outs) => if (refsOf as).Nodup then some (r, putBack as outs ς) else none
    | none => none
  | none => none
theorem argS_len : ∀ {as : List Ar} {ς : En} {ss : List S}, argS as ς = some ss → ss.length = as.length
  | [], _, _, e => by cases e; rfl
  | .val d :: as, ς, ss, e => by
    unfold argS at e
    split at e
    · rename_i ss' q; cases e; rw [List.length_cons, List.length_cons, argS_len q]
    · cases e
  | .ref i :: as, ς, ss, e => by
    unfold argS at e
    split at e
    · rename_i q; cases e; rw [List.length_cons, List.length_cons, argS_len q]
    · rename_i q; cases e; rw [List.length_cons, List.length_cons, argS_len q]
    · rename_i q; cases e; rw [List.length_cons, List.length_cons, argS_len q]
    · rename_i q; cases e; rw [List.length_cons, List.length_cons, argS_len q]
    · cases e
theorem argS_get : ∀ {as : List Ar} {ς : En} {ss : List S} {k : Nat} {s : S}, argS as ς = some ss → ss[k]? = some s →
    (∃ d, as[k]? = some (.val d) ∧ s = .pure d) ∨ ∃ j, as[k]? = some (.ref j) ∧ ((∃ b ds, ς[j]? = some (some (.own b ds)) ∧ s = .own true ds) ∨ (∃ d, ς[j]? = some (some (.pure d)) ∧ s = .pure d) ∨ (∃ z : Str × D, ς[j]? = some (some (.vx (.exc z.1 z.2))) ∧ s = .vx (.exc z.1 z.2)) ∨ ∃ nm fl ks, ς[j]? = some (some (.vx (.odc ((.str nm, .bool fl) :: ks)))) ∧ s = .vx (.odc ((.str nm, .bool true) :: ks)))
  | [], _, _, _, _, e, h => by cases e; cases h
  | .val d :: as, ς, ss, k, s, e, h => by
    unfold argS at e
    split at e
    · rename_i ss' q
      cases e
      cases k with
      | zero => cases h; exact .inl ⟨d, rfl, rfl⟩
      | succ k =>
        have h' := argS_get (k := k) (s := s) q (by simpa using h)
        simpa using h'
    · cases e
  | .ref i :: as, ς, ss, k, s, e, h => by
    unfold argS at e
    split at e
    · rename_i b ds ss' q1 q
      cases e
      cases k with
      | zero => cases h; exact .inr ⟨i, rfl, .inl ⟨b, ds, q1, rfl⟩⟩
      | succ k =>
        have h' := argS_get (k := k) (s := s) q (by simpa using h)
        simpa using h'
    · rename_i d ss' q1 q
      cases e
      cases k with
      | zero => cases h; exact .inr ⟨i, rfl, .inr (.inl ⟨d, q1, rfl⟩)⟩
      | succ k =>
        have h' := argS_get (k := k) (s := s) q (by simpa using h)
        simpa using h'
    · rename_i nm d ss' q1 q
      cases e
      cases k with
      | zero => cases h; exact .inr ⟨i, rfl, .inr (.inr (.inl ⟨(nm, d), q1, rfl⟩))⟩
      | succ k =>
        have h' := argS_get (k := k) (s := s) q (by simpa using h)
        simpa using h'
    · rename_i nm fl ks ss' q1 q
      cases e
      cases k with
      | zero => cases h; exact .inr ⟨i, rfl, .inr (.inr (.inr ⟨nm, fl, ks, q1, rfl⟩))⟩
      | succ k =>
        have h' := argS_get (k := k) (s := s) q (by simpa using h)
        simpa using h'
    · cases e
theorem argS_at : ∀ {as : List Ar} {ς : En} {ss : List S} {k j : Nat} {b : Bool} {ds : List D}, argS as ς = some ss → as[k]? = some (.ref j) → ς[j]? = some (some (.own b ds)) → ss[k]? = some (.own true ds)
  | [], _, _, _, _, _, _, e, h, _ => by cases h
  | .val d :: as, ς, ss, k, j, b, ds, e, h, hj => by
    unfold argS at e
    split at e
    · rename_i ss' q
      cases e
      cases k with
      | zero => cases h
      | succ k =>
        have h' := argS_at (k := k) q (by simpa using h) hj
        simpa using h'
    · cases e
  | .ref i :: as, ς, ss, k, j, b, ds, e, h, hj => by
    unfold argS at e
    split at e
    · rename_i b' ds' ss' q1 q
      cases e
      cases k with
      | zero =>
        cases h
        rw [hj] at q1
        cases q1
        rfl
      | succ k =>
        have h' := argS_at (k := k) q (by simpa using h) hj
        simpa using h'
    · rename_i d ss' q1 q
      cases e
      cases k with
      | zero =>
        cases h
        rw [hj] at q1
        cases q1
      | succ k =>
        have h' := argS_at (k := k) q (by simpa using h) hj
        simpa using h'
    · rename_i d ss' q1 q
      cases e
      cases k with
      | zero =>
        cases h
        rw [hj] at q1
        cases q1
      | succ k =>
        have h' := argS_at (k := k) q (by simpa using h) hj
        simpa using h'
    · rename_i d ss' q1 q
      cases e
      cases k with
      | zero =>
        cases h
        rw [hj] at q1
        cases q1
      | succ k =>
        have h' := argS_at (k := k) q (by simpa using h) hj
        simpa using h'
    · cases e
theorem argS_atO : ∀ {as : List Ar} {ς : En} {ss : List S} {k j : Nat} {nm : Str} {fl : Bool} {ks : List (D × D)}, argS as ς = some ss → as[k]? = some (.ref j) → ς[j]? = some (some (.vx (.odc ((.str nm, .bool fl) :: ks)))) → ss[k]? = some (.vx (.odc ((.str nm, .bool true) :: ks)))
  | [], _, _, _, _, _, _, _, e, h, _ => by cases h
  | .val d :: as, ς, ss, k, j, nm, fl, ks, e, h, hj => by
    unfold argS at e
    split at e
    · rename_i ss' q
      cases e
      cases k with
      | zero => cases h
      | succ k =>
        have h' := argS_atO (k := k) q (by simpa using h) hj
        simpa using h'
    · cases e
  | .ref i :: as, ς, ss, k, j, nm, fl, ks, e, h, hj => by
    unfold argS at e
    split at e
    all_goals
      first
      | cases e; done
      | rename_i ss' q1 q
        cases e
        cases k with
        | zero =>
          cases h
          rw [hj] at q1
          cases q1 <;> rfl
        | succ k =>
          have h' := argS_atO (k := k) q (by simpa using h) hj
          simpa using h'
theorem paired_get {α β : Type} {Rr : α → β → Prop} : ∀ {as : List α} {bs : List β} {k : Nat} {x : α}, Paired Rr as bs → as[k]? = some x → ∃ y, bs[k]? = some y ∧ Rr x y
  | _, _, _, _, .nil, e => by simp at e
  | _, _, 0, _, .cons h _, e => by simp at e; subst e; exact ⟨_, rfl, h⟩
  | _, _, k + 1, x, .cons _ t, e => by
    obtain ⟨y, h1, h2⟩ := paired_get (k := k) (x := x) t (by simpa using e)
    exact ⟨y, by simpa using h1, h2⟩
theorem paired_len {α β : Type} {Rr : α → β → Prop} : ∀ {as : List α} {bs : List β}, Paired Rr as bs → as.length = bs.length
  | _, _, .nil => rfl
  | _, _, .cons _ t => by rw [List.length_cons, List.length_cons, paired_len t]
theorem refs_mem : ∀ {as : List Ar} {k j : Nat}, as[k]? = some (.ref j) → j ∈ refsOf as
  | [], _, _, h => by cases h
  | .val d :: as, 0, j, h => by cases h
  | .val d :: as, k + 1, j, h => refs_mem (as := as) (k := k) h
  | .ref i :: as, 0, j, h => by cases h; exact List.mem_cons_self
  | .ref i :: as, k + 1, j, h => List.mem_cons_of_mem _ (refs_mem (as := as) (k := k) h)
theorem mem_refs : ∀ {as : List Ar} {j : Nat}, j ∈ refsOf as → ∃ k : Nat, as[k]? = some (.ref j)
  | [], _, h => by cases h
  | .val d :: as, j, h => by obtain ⟨k, e⟩ := mem_refs (as := as) h; exact ⟨k + 1, e⟩
  | .ref i :: as, j, h => by
    rcases List.mem_cons.mp h with rfl | h
    · exact ⟨0, rfl⟩
    · obtain ⟨k, e⟩ := mem_refs (as := as) h; exact ⟨k + 1, e⟩
theorem setOwn_len (ς : En) (i : Nat) (ds : List D) : (setOwn ς i ds).length = ς.length := by
  unfold setOwn; split
  · rw [List.length_set]
  · rfl
theorem pb_nil (os : List S) (ς : En) : putBack [] os ς = ς := by cases os <;> rfl
theorem pb_nil2 (a : Ar) (as : List Ar) (ς : En) : putBack (a :: as) [] ς = ς := by cases a <;> rfl
theorem setOb_len (ς : En) (i : Nat) (kws : List (D × D)) : (setOb ς i kws).length = ς.length := by
  unfold setOb; split
  · split
    · rw [List.length_set]
    · rfl
  · rfl
theorem pb_val (d : D) (as : List Ar) (o : S) (os : List S) (ς : En) : putBack (.val d :: as) (o :: os) ς = putBack as os ς := by
  cases o with
  | vx x => cases x <;> rfl
  | _ => rfl
/-- what one argument sets -/
def setS (ς : En) (i : Nat) : S → En
  | .own _ ds => setOwn ς i ds
  | .vx (.odc kws) => setOb ς i kws
  | _ => ς
theorem pb_ref (i : Nat) (as : List Ar) (s : S) (os : List S) (ς : En) : putBack (.ref i :: as) (s :: os) ς = putBack as os (setS ς i s) := by
  cases s with
  | vx x => cases x <;> rfl
  | _ => rfl
theorem setS_len (ς : En) (i : Nat) (s : S) : (setS ς i s).length = ς.length := by
  cases s with
  | pure d => rfl
  | own b ds => exact setOwn_len ..
  | vx x =>
    cases x with
    | exc nm d => rfl
    | odc kws => exact setOb_len ..
theorem putBack_len : ∀ (as : List Ar) (os : List S) (ς : En), (putBack as os ς).length = ς.length
  | [], _, ς => by rw [pb_nil]
  | a :: as, [], ς => by rw [pb_nil2]
  | .val d :: as, o :: os, ς => by rw [pb_val]; exact putBack_len as os ς
  | .ref i :: as, o :: os, ς => by rw [pb_ref, putBack_len as os, setS_len]
theorem setOwn_ne {ς : En} {i j : Nat} {ds : List D} (h : i ≠ j) : (setOwn ς i ds)[j]? = ς[j]? := by
  unfold setOwn; split
  · rw [List.getElem?_set_ne h]
  · rfl
theorem setS_ne {ς : En} {i j : Nat} {s : S} (h : i ≠ j) : (setS ς i s)[j]? = ς[j]? := by
  cases s with
  | pure d => rfl
  | own b ds => exact setOwn_ne h
  | vx x =>
    cases x with
    | exc nm d => rfl
    | odc kws =>
      show (setOb ς i kws)[j]? = _
      unfold setOb; split
      · split
        · rw [List.getElem?_set_ne h]
        · rfl
      · rfl
theorem setOwn_own {ς : En} {i : Nat} {b : Bool} {ds es : List D} (h : ς[i]? = some (some (.own b es))) : (setOwn ς i ds)[i]? = some (some (.own b ds)) := by
  unfold setOwn
  rw [h]
  exact List.getElem?_set_self (List.getElem?_eq_some_iff.mp h).1
theorem setOb_ob {ς : En} {i : Nat} {nm nm' : Str} {fl fl' : Bool} {ks ks' : List (D × D)} (h : ς[i]? = some (some (.vx (.odc ((.str nm, .bool fl) :: ks))))) : (setOb ς i ((.str nm', .bool fl') :: ks'))[i]? = some (some (.vx (.odc ((.str nm', .bool fl) :: ks')))) := by
  unfold setOb
  rw [h]
  exact List.getElem?_set_self (List.getElem?_eq_some_iff.mp h).1
/-- of one kind, and the same one's -/
def Kin (x y : Option (Option S)) : Prop := x = y ∨ (∃ b ds es, x = some (some (.own b ds)) ∧ y = some (some (.own b es))) ∨ ∃ nm nm' fl ks ks', x = some (some (.vx (.odc ((.str nm, .bool fl) :: ks)))) ∧ y = some (some (.vx (.odc ((.str nm', .bool fl) :: ks'))))
theorem Kin.trans {x y z : Option (Option S)} (h : Kin x y) (k : Kin y z) : Kin x z := by
  rcases h with rfl | ⟨b, ds, es, rfl, rfl⟩ | ⟨nm, nm', fl, ks, ks', rfl, rfl⟩
  · exact k
  · rcases k with rfl | ⟨b', ds', es', e, rfl⟩ | ⟨_, _, _, _, _, e, _⟩
    · exact .inr (.inl ⟨_, _, _, rfl, rfl⟩)
    · cases e; exact .inr (.inl ⟨_, _, _, rfl, rfl⟩)
    · cases e
  · rcases k with rfl | ⟨b', ds', es', e, _⟩ | ⟨_, _, _, _, _, e, rfl⟩
    · exact .inr (.inr ⟨_, _, _, _, _, rfl, rfl⟩)
    · cases e
    · cases e; exact .inr (.inr ⟨_, _, _, _, _, rfl, rfl⟩)
theorem setS_kin (ς : En) (i : Nat) (s : S) (j : Nat) : Kin ς[j]? (setS ς i s)[j]? := by
  by_cases e : i = j
  · subst e
    cases s with
    | pure d => exact .inl rfl
    | own b ds =>
      show Kin _ (setOwn ς i ds)[i]?
      by_cases q : ∃ c es, ς[i]? = some (some (.own c es))
      · obtain ⟨c, es, q⟩ := q
        rw [setOwn_own q, q]
        exact .inr (.inl ⟨_, _, _, rfl, rfl⟩)
      · unfold setOwn; split
        · rename_i q2; exact absurd ⟨_, _, q2⟩ q
        · exact .inl rfl
    | vx x =>
      cases x with
      | exc nm d => exact .inl rfl
      | odc kws =>
        show Kin _ (setOb ς i kws)[i]?
        unfold setOb; split
        · rename_i nm fl ks q
          split
          · rw [List.getElem?_set_self (List.getElem?_eq_some_iff.mp q).1, q]
            exact .inr (.inr ⟨_, _, _, _, _, rfl, rfl⟩)
          · exact .inl rfl
        · exact .inl rfl
  · rw [setS_ne e]; exact .inl rfl
theorem putBack_kin : ∀ (as : List Ar) (os : List S) (ς : En) (j : Nat), Kin ς[j]? (putBack as os ς)[j]?
  | [], _, ς, j => by rw [pb_nil]; exact .inl rfl
  | a :: as, [], ς, j => by rw [pb_nil2]; exact .inl rfl
  | .val d :: as, o :: os, ς, j => by rw [pb_val]; exact putBack_kin as os ς j
  | .ref i :: as, o :: os, ς, j => by rw [pb_ref]; exact (setS_kin ς i o j).trans (putBack_kin as os _ j)
/-- a slot that no argument is -/
theorem putBack_ne : ∀ {as : List Ar} {os : List S} {ς : En} {j : Nat}, j ∉ refsOf as → (putBack as os ς)[j]? = ς[j]?
  | [], _, ς, j, _ => by rw [pb_nil]
  | a :: as, [], ς, j, _ => by rw [pb_nil2]
  | .val d :: as, o :: os, ς, j, h => by rw [pb_val]; exact putBack_ne (as := as) h
  | .ref i :: as, o :: os, ς, j, h => by
    have h' : j ≠ i ∧ j ∉ refsOf as := ⟨fun z => h (by rw [z]; exact List.mem_cons_self), fun z => h (List.mem_cons_of_mem _ z)⟩
    rw [pb_ref, putBack_ne h'.2, setS_ne (Ne.symm h'.1)]
theorem putBack_atS : ∀ {as : List Ar} {os : List S} {ς : En} {k j : Nat} {s : S}, (refsOf as).Nodup → as[k]? = some (.ref j) → os[k]? = some s → (putBack as os ς)[j]? = (setS ς j s)[j]?
  | [], _, _, _, _, _, _, h, _ => by cases h
  | _ :: _, [], _, _, _, _, _, _, h => by cases h
  | .val d :: as, o :: os, ς, k, j, s, nd, h1, h2 => by
    cases k with
    | zero => cases h1
    | succ k => rw [pb_val]; exact putBack_atS (as := as) (k := k) nd (by simpa using h1) (by simpa using h2)
  | .ref i :: as, o :: os, ς, k, j, s, nd, h1, h2 => by
    have nd' := List.nodup_cons.mp nd
    rw [pb_ref]
    cases k with
    | zero =>
      cases h1; cases h2
      rw [putBack_ne nd'.1]
    | succ k =>
      have h1' : as[k]? = some (.ref j) := by simpa using h1
      have ne : i ≠ j := fun z => nd'.1 (by rw [z]; exact refs_mem (as := as) (k := k) h1')
      rw [putBack_atS (k := k) nd'.2 h1' (by simpa using h2)]
      have e1 := setS_ne (ς := ς) (s := o) ne
      have hl : ∀ (ς1 ς2 : En), ς1[j]? = ς2[j]? → (setS ς1 j s)[j]? = (setS ς2 j s)[j]? := fun ς1 ς2 e => by
        cases s with
        | pure d => exact e
        | own b ds =>
          show (setOwn ς1 j ds)[j]? = (setOwn ς2 j ds)[j]?
          unfold setOwn
          rw [e]
          split
          · rename_i q
            rw [List.getElem?_set_self (List.getElem?_eq_some_iff.mp (e.trans q)).1, List.getElem?_set_self (List.getElem?_eq_some_iff.mp q).1]
          · exact e
        | vx x =>
          cases x with
          | exc nm d => exact e
          | odc kws =>
            show (setOb ς1 j kws)[j]? = (setOb ς2 j kws)[j]?
            unfold setOb
            rw [e]
            split
            · rename_i q
              split
              · rw [List.getElem?_set_self (List.getElem?_eq_some_iff.mp (e.trans q)).1, List.getElem?_set_self (List.getElem?_eq_some_iff.mp q).1]
              · exact e
            · exact e
      exact hl _ _ e1
theorem putBack_at {as : List Ar} {os : List S} {ς : En} {k j : Nat} {b c : Bool} {ds es : List D} (nd : (refsOf as).Nodup) (h1 : as[k]? = some (.ref j)) (h2 : os[k]? = some (.own c ds)) (h3 : ς[j]? = some (some (.own b es))) : (putBack as os ς)[j]? = some (some (.own b ds)) := by
  rw [putBack_atS nd h1 h2]
  exact setOwn_own h3
theorem putBack_atO {as : List Ar} {os : List S} {ς : En} {k j : Nat} {nm nm' : Str} {fl fl' : Bool} {ks ks' : List (D × D)} (nd : (refsOf as).Nodup) (h1 : as[k]? = some (.ref j)) (h2 : os[k]? = some (.vx (.odc ((.str nm', .bool fl') :: ks')))) (h3 : ς[j]? = some (some (.vx (.odc ((.str nm, .bool fl) :: ks))))) : (putBack as os ς)[j]? = some (some (.vx (.odc ((.str nm', .bool fl) :: ks')))) := by
  rw [putBack_atS nd h1 h2]
  exact setOb_ob (fl' := fl') h3
theorem putBack_own {as : List Ar} {os : List S} {ς : En} {j : Nat} {b : Bool} {ds : List D} (h : (putBack as os ς)[j]? = some (some (.own b ds))) : ∃ es, ς[j]? = some (some (.own b es)) := by
  rcases putBack_kin as os ς j with e | ⟨b', ds', es', e1, e2⟩ | ⟨_, _, _, _, _, _, e2⟩
  · exact ⟨ds, e.trans h⟩
  · rw [h] at e2; cases e2; exact ⟨_, e1⟩
  · rw [h] at e2; cases e2
theorem putBack_pure {as : List Ar} {os : List S} {ς : En} {j : Nat} {d : D} (h : (putBack as os ς)[j]? = some (some (.pure d))) : ς[j]? = some (some (.pure d)) := by
  rcases putBack_kin as os ς j with e | ⟨b', ds', es', e1, e2⟩ | ⟨_, _, _, _, _, _, e2⟩
  · exact e.trans h
  · rw [h] at e2; cases e2
  · rw [h] at e2; cases e2
theorem putBack_odc {as : List Ar} {os : List S} {ς : En} {j : Nat} {kws : List (D × D)} (h : (putBack as os ς)[j]? = some (some (.vx (.odc kws)))) : ∃ kvs, ς[j]? = some (some (.vx (.odc kvs))) ∧ parO kvs = parO kws ∧ (kvs ≠ kws → ∃ nm fl ks, kvs = (.str nm, .bool fl) :: ks) := by
  rcases putBack_kin as os ς j with e | ⟨b', ds', es', e1, e2⟩ | ⟨nm, nm', fl, ks, ks', e1, e2⟩
  · exact ⟨kws, e.trans h, rfl, fun z => absurd rfl z⟩
  · rw [h] at e2; cases e2
  · rw [h] at e2; cases e2
    exact ⟨_, e1, by cases fl <;> rfl, fun _ => ⟨_, _, _, rfl⟩⟩
theorem putBack_exc {as : List Ar} {os : List S} {ς : En} {j : Nat} {nm : Str} {d : D} (h : (putBack as os ς)[j]? = some (some (.vx (.exc nm d)))) : ς[j]? = some (some (.vx (.exc nm d))) := by
  rcases putBack_kin as os ς j with e | ⟨b', ds', es', e1, e2⟩ | ⟨_, _, _, _, _, _, e2⟩
  · exact e.trans h
  · rw [h] at e2; cases e2
  · rw [h] at e2; cases e2
theorem putBack_sPar {as : List Ar} {os : List S} {ς : En} {j : Nat} {s : S} (h : ς[j]? = some (some s)) : ∃ s', (putBack as os ς)[j]? = some (some s') ∧ sPar s' = sPar s ∧ sLst s' = sLst s := by
  rcases putBack_kin as os ς j with e | ⟨b', ds', es', e1, e2⟩ | ⟨nm, nm', fl, ks, ks', e1, e2⟩
  · exact ⟨s, e.symm.trans h, rfl, rfl⟩
  · rw [h] at e1; cases e1; exact ⟨_, e2, rfl, rfl⟩
  · rw [h] at e1; cases e1; exact ⟨_, e2, by cases fl <;> rfl, rfl⟩
theorem dc_flag {K : PySem.W.Frag} {G : Hp} {o : HO} {nm : Str} {fl fl' : Bool} {ks : List (D × D)} (h : DcAt K G o ((.str nm, .bool fl) :: ks)) : DcAt K G o ((.str nm, .bool fl') :: ks) := by
  rcases h with ⟨es, ks', _, e, _⟩ | ⟨es, ks', _, e, _⟩ | ⟨nm', fl2, dx, fs, ks', h1, e, hc, h2⟩
  · cases e
  · cases e
  · cases e; exact .inr (.inr ⟨_, _, dx, fs, _, h1, rfl, hc, h2⟩)
theorem dc_par {K : PySem.W.Frag} {G : Hp} {o : HO} {kvs : List (D × D)} (h : DcAt K G o kvs) (hp : parO kvs = true) : ∃ nm ks, kvs = (.str nm, .bool true) :: ks := by
  unfold parO at hp
  split at hp
  · exact ⟨_, _, rfl⟩
  · cases hp
theorem refs_inj {m : Nat} : ∀ (as : List Ar), (refsOf as).Nodup → ∀ (i j : Nat), as[i]? = some (.ref m) → as[j]? = some (.ref m) → i = j := by
  intro as
  induction as with
  | nil => intro _ i j h; cases h
  | cons x as ih =>
    intro nd i j hi hj
    cases x with
    | val d =>
      cases i with
      | zero => cases hi
      | succ i =>
        cases j with
        | zero => cases hj
        | succ j => rw [ih nd i j hi hj]
    | ref l =>
      have nd' := List.nodup_cons.mp nd
      cases i with
      | zero =>
        cases j with
        | zero => rfl
        | succ j => cases hi; exact absurd (refs_mem (as := as) (k := j) hj) nd'.1
      | succ i =>
        cases j with
        | zero => cases hj; exact absurd (refs_mem (as := as) (k := i) hi) nd'.1
        | succ j => rw [ih nd'.2 i j hi hj]
section
variable {K : PySem.W.Frag} {F : Fx} {ς : En} {G H G' H' : Hp} {σ : L2.St}
theorem Rel.args (r : Rel K F ς G σ H) {as : List Ar} {ss : List S} {vs : List V} (e : argS as ς = some ss) (ps : Paired (RepAr K G σ) as vs) (nd : (refsOf as).Nodup) : ArgsOk K ss G vs H where
  len := by rw [argS_len e, paired_len ps]
  sub := r.sub
  tb := r.fr.tb
  pu := fun i d h => by
    rcases argS_get e h with ⟨d', h1, h2⟩ | ⟨j, h1, ⟨b, ds, h2, h3⟩ | ⟨d', h2, h3⟩ | ⟨kvs, h2, h3⟩ | ⟨nm, fl, ks, h2, h3⟩⟩
    · cases h2
      obtain ⟨v, k1, k2⟩ := paired_get ps h1
      exact ⟨v, k1, k2⟩
    · cases h3
    · cases h3
      obtain ⟨v, k1, k2⟩ := paired_get ps h1
      obtain ⟨w, k3, k4⟩ := r.pu j d h2
      rw [show σ[j]? = some (some v) from k2] at k3
      cases k3
      exact ⟨v, k1, k4⟩
    · cases h3
    · cases h3
  ow := fun i b ds h => by
    rcases argS_get e h with ⟨d', h1, h2⟩ | ⟨j, h1, ⟨b', ds', h2, h3⟩ | ⟨d', h2, h3⟩ | ⟨kvs, h2, h3⟩ | ⟨nm, fl, ks, h2, h3⟩⟩
    · cases h2
    · cases h3
      obtain ⟨v, k1, k2⟩ := paired_get ps h1
      obtain ⟨a, xs, f1, f2, f3, f4, _⟩ := r.ow j b' ds h2
      rw [show σ[j]? = some (some v) from k2] at f1
      cases f1
      exact ⟨rfl, a, xs, k1, f2, f3, f4⟩
    · cases h3
    · cases h3
    · cases h3
  ap := fun i j b c ds es a h1 h2 h3 h4 => by
    rcases argS_get e h1 with ⟨d', _, q⟩ | ⟨m, g1, ⟨b', ds', g2, g3⟩ | ⟨d', _, q⟩ | ⟨kvs, _, q⟩ | ⟨_, _, _, _, q⟩⟩
    · cases q
    · rcases argS_get e h2 with ⟨d', _, q⟩ | ⟨n, g4, ⟨c', es', g5, g6⟩ | ⟨d', _, q⟩ | ⟨kvs, _, q⟩ | ⟨_, _, _, _, q⟩⟩
      · cases q
      · obtain ⟨v, k1, k2⟩ := paired_get ps g1
        obtain ⟨w, k3, k4⟩ := paired_get ps g4
        rw [h3] at k1; cases k1
        rw [h4] at k3; cases k3
        have emn := r.ap m n b' c' ds' es' a g2 g5 k2 k4
        subst emn
        exact refs_inj as nd i j g1 g4
      · cases q
      · cases q
      · cases q
    · cases q
    · cases q
    · cases q
  vx := fun i x h => by
    rcases argS_get e h with ⟨d', _, q⟩ | ⟨m, g1, ⟨b', ds', g2, g3⟩ | ⟨d', _, q⟩ | ⟨kvs, g2, q⟩ | ⟨nm, fl, ks, g2, q⟩⟩
    · cases q
    · cases g3
    · cases q
    · cases q
      obtain ⟨v, k1, k2⟩ := paired_get ps g1
      obtain ⟨w, k3, k4⟩ := r.vx m _ g2
      rw [show σ[m]? = some (some v) from k2] at k3
      cases k3
      exact ⟨v, k1, k4⟩
    · cases q
      obtain ⟨v, k1, k2⟩ := paired_get ps g1
      exact ⟨v, k1, trivial⟩
  ob := fun i kvs h => by
    rcases argS_get e h with ⟨d', _, q⟩ | ⟨m, g1, ⟨b', ds', g2, g3⟩ | ⟨d', _, q⟩ | ⟨kvs, g2, q⟩ | ⟨nm, fl, ks, g2, q⟩⟩
    · cases q
    · cases g3
    · cases q
    · cases q
    · cases q
      obtain ⟨v, k1, k2⟩ := paired_get ps g1
      obtain ⟨a, o, k3, k4, k5, k6, _⟩ := r.od m _ g2
      rw [show σ[m]? = some (some v) from k2] at k3
      cases k3
      exact ⟨rfl, a, o, k1, k4, dc_flag k5, k6⟩
  oj := fun i j kvs kws a h1 h2 h3 h4 => by
    rcases argS_get e h1 with ⟨d', _, q⟩ | ⟨m, g1, ⟨b', ds', g2, g3⟩ | ⟨d', _, q⟩ | ⟨kvs, _, q⟩ | ⟨nm, fl, ks, g2, q⟩⟩
    · cases q
    · cases g3
    · cases q
    · cases q
    · rcases argS_get e h2 with ⟨d', _, q⟩ | ⟨n, g4, ⟨c', es', g5, g6⟩ | ⟨d', _, q⟩ | ⟨kvs, _, q⟩ | ⟨nm2, fl2, ks2, g5, q⟩⟩
      · cases q
      · cases g6
      · cases q
      · cases q
      · obtain ⟨v, k1, k2⟩ := paired_get ps g1
        obtain ⟨w, k3, k4⟩ := paired_get ps g4
        rw [h3] at k1; cases k1
        rw [h4] at k3; cases k3
        have emn := r.oa m n _ _ a g2 g5 k2 k4
        subst emn
        exact refs_inj as nd i j g1 g4
theorem Rel.called (r : Rel K F ς G σ H) {as : List Ar} {ss outs : List S} {vs : List V} {res : R} {v : V} (e : argS as ς = some ss) (ps : Paired (RepAr K G σ) as vs) (nd : (refsOf as).Nodup) (t : RetOk K ss G vs H res outs v H' G') :
    Rel K F (putBack as outs ς) G' σ H' := by
  -- an own slot's list is not an argument's, unless it is that argument
  have away : ∀ (j : Nat) b ds a, ς[j]? = some (some (.own b ds)) → σ[j]? = some (some (.ref a)) → j ∉ refsOf as → ∀ (i : Nat) s, ss[i]? = some s → sPar s = true → vs[i]? ≠ some (.ref a) := by
    intro j b ds a h1 h2 h3 i s h4 hs h5
    rcases argS_get e h4 with ⟨d', _, q⟩ | ⟨m, g1, ⟨b', ds', g2, g3⟩ | ⟨d', _, q⟩ | ⟨kvs, _, q⟩ | ⟨nm, fl, ks, g2, q⟩⟩
    · cases q; cases hs
    · obtain ⟨w, k1, k2⟩ := paired_get ps g1
      rw [h5] at k1; cases k1
      have := r.ap m j b' b ds' ds a g2 h1 k2 h2
      subst this
      exact h3 (refs_mem g1)
    · cases q; cases hs
    · cases q; cases hs
    · obtain ⟨w, k1, k2⟩ := paired_get ps g1
      rw [h5] at k1; cases k1
      obtain ⟨a', o, f1, f2, f3, _⟩ := r.od m _ g2
      obtain ⟨a2, xs, l1, l2, _⟩ := r.ow j b ds h1
      rw [show σ[m]? = some (some (.ref a)) from k2] at f1; cases f1
      rw [h2] at l1; cases l1
      rw [l2] at f2; cases f2
      exact DcAt.lst f3
  -- neither is an object
  have awayO : ∀ (j : Nat) kvs a, ς[j]? = some (some (.vx (.odc kvs))) → σ[j]? = some (some (.ref a)) → (j ∉ refsOf as ∨ isOb kvs = false) → ∀ (i : Nat) s, ss[i]? = some s → sPar s = true → vs[i]? ≠ some (.ref a) := by
    intro j kvs a h1 h2 h3 i s h4 hs h5
    obtain ⟨a2, o, l1, l2, l3, _⟩ := r.od j kvs h1
    rw [h2] at l1; cases l1
    rcases argS_get e h4 with ⟨d', _, q⟩ | ⟨m, g1, ⟨b', ds', g2, g3⟩ | ⟨d', _, q⟩ | ⟨kvs', _, q⟩ | ⟨nm, fl, ks, g2, q⟩⟩
    · cases q; cases hs
    · obtain ⟨w, k1, k2⟩ := paired_get ps g1
      rw [h5] at k1; cases k1
      obtain ⟨a', xs, f1, f2, _⟩ := r.ow m b' ds' g2
      rw [show σ[m]? = some (some (.ref a)) from k2] at f1; cases f1
      rw [l2] at f2; cases f2
      exact DcAt.lst l3
    · cases q; cases hs
    · cases q; cases hs
    · obtain ⟨w, k1, k2⟩ := paired_get ps g1
      rw [h5] at k1; cases k1
      have := r.oa m j _ kvs a g2 h1 k2 h2
      subst this
      rcases h3 with h3 | h3
      · exact h3 (refs_mem g1)
      · rw [h1] at g2; cases g2; cases h3
  refine ⟨by rw [putBack_len, r.len], t.sub, r.g0.trans t.same, ?_, ?_, ?_, ?_, ?_, ?_, ?_, ?_, ?_⟩
  · intro i d h
    obtain ⟨w, h1, h2⟩ := r.pu i d (putBack_pure h)
    exact ⟨w, h1, dp_same t.same h2⟩
  · intro i b ds h
    obtain ⟨es, hq⟩ := putBack_own h
    obtain ⟨a, xs, f1, f2, f3, f4, f5⟩ := r.ow i b es hq
    by_cases hm : i ∈ refsOf as
    · obtain ⟨kk, hk⟩ := mem_refs hm
      have hs := argS_at e hk hq
      obtain ⟨v', k1, k2⟩ := paired_get ps hk
      rw [show σ[i]? = some (some v') from k2] at f1
      cases f1
      obtain ⟨ds', xs', o1, o2, o3, o4⟩ := t.ow kk true es a hs k1
      rw [putBack_at nd hk o1 hq] at h
      cases h
      exact ⟨a, xs', k2, o2, o3, o4, f5⟩
    · rw [putBack_ne hm, hq] at h
      cases h
      refine ⟨a, xs, f1, t.fr a _ f2 (fun ps z => by cases z) (away i b ds a hq f1 hm), ?_, dpa_same t.same f4, f5⟩
      cases z : G' a with
      | none => rfl
      | some y =>
        rcases t.nw a (by rw [z]; simp) with w | w
        · exact absurd f3 w
        · exact (w.lst f2).elim
  · intro i j b c ds es a h1 h2 h3 h4
    obtain ⟨_, q1⟩ := putBack_own h1
    obtain ⟨_, q2⟩ := putBack_own h2
    exact r.ap i j b c _ _ a q1 q2 h3 h4
  · intro i a h
    obtain ⟨s, hq, hs⟩ := r.par i a h
    obtain ⟨s', q1, q2, q3⟩ := putBack_sPar (as := as) (os := outs) hq
    exact ⟨s', q1, q2.trans hs.1, q3.trans hs.2⟩
  · refine ⟨fun a o h nt na => ?_, fun a ps h => by
      obtain ⟨ps', z⟩ := r.fr.tn a ps h
      exact t.tn a ps' z, r.fr.t0, t.tb⟩
    refine t.fr a o (r.fr.fr a o h nt na) nt fun i s h4 hs h5 => ?_
    rcases argS_get e h4 with ⟨d', _, q⟩ | ⟨m, g1, ⟨b', ds', g2, g3⟩ | ⟨d', _, q⟩ | ⟨kvs, _, q⟩ | ⟨nm, fl, ks, g2, q⟩⟩
    · cases q; cases hs
    · obtain ⟨w, k1, k2⟩ := paired_get ps g1
      rw [h5] at k1; cases k1
      obtain ⟨a', xs, f1, _, _, _, f5, f6⟩ := r.ow m b' ds' g2
      rw [show σ[m]? = some (some (.ref a)) from k2] at f1
      cases f1
      cases b' with
      | true => exact na m (f5 rfl)
      | false => rw [f6 rfl] at h; cases h
    · cases q; cases hs
    · cases q; cases hs
    · obtain ⟨w, k1, k2⟩ := paired_get ps g1
      rw [h5] at k1; cases k1
      obtain ⟨a', o', f1, _, _, _, f5⟩ := r.od m _ g2
      rw [show σ[m]? = some (some (.ref a)) from k2] at f1
      cases f1
      cases fl with
      | true => exact na m (f5.2 rfl)
      | false => rw [f5.1 rfl] at h; cases h
  · intro a h
    rcases t.nw a h with w | w
    · exact r.nw a w
    · exact .inr (r.newN w)
  · intro i x h
    cases x with
    | exc nm d =>
      obtain ⟨w, h1, h2⟩ := r.vx i _ (putBack_exc h)
      exact ⟨w, h1, xp_same t.same h2⟩
    | odc kws =>
      obtain ⟨kvs, h1, _⟩ := putBack_odc h
      obtain ⟨w, h1, _⟩ := r.vx i _ h1
      exact ⟨w, h1, trivial⟩
  · intro i kws h
    obtain ⟨kvs, hq, hpp, hne⟩ := putBack_odc h
    by_cases hm : i ∈ refsOf as ∧ isOb kvs = true
    · obtain ⟨a, o, f1, f2, f3, f4, f5⟩ := r.od i kvs hq
      obtain ⟨kk, hk⟩ := mem_refs hm.1
      obtain ⟨nm, fl, ks, rfl⟩ : ∃ nm fl ks, kvs = (.str nm, .bool fl) :: ks := by
        rcases f3 with ⟨es, ks', _, e', _⟩ | ⟨es, ks', _, e', _⟩ | ⟨nm', fl2, dx, fs, ks', _, e', _⟩
        · subst e'; cases hm.2
        · subst e'; cases hm.2
        · exact ⟨_, _, _, e'⟩
      have hs := argS_atO e hk hq
      obtain ⟨v', k1, k2⟩ := paired_get ps hk
      rw [show σ[i]? = some (some v') from k2] at f1
      cases f1
      obtain ⟨kxs, o', o1, o2, o3, o4, o5⟩ := t.ob kk _ a hs k1
      obtain ⟨nm', ks', rfl⟩ := dc_par o4 o2
      rw [putBack_atO nd hk o1 hq] at h
      cases h
      exact ⟨a, o', k2, o3, dc_flag o4, o5, by rw [← hpp]; exact f5⟩
    · have h3 : i ∉ refsOf as ∨ isOb kvs = false := by
        by_cases c : i ∈ refsOf as
        · exact .inr (by
            cases z : isOb kvs with
            | true => exact absurd ⟨c, z⟩ hm
            | false => rfl)
        · exact .inl c
      have ekk : kvs = kws := by
        rcases h3 with h3 | h3
        · rw [putBack_ne h3, hq] at h; cases h; rfl
        · refine Classical.byContradiction fun z => ?_
          obtain ⟨nm, fl, ks, rfl⟩ := hne z
          cases h3
      subst ekk
      obtain ⟨a, o, l1, l2, l3, l4, l5⟩ := r.od i kvs hq
      refine ⟨a, o, l1, t.fr a o l2 (fun ps z => by subst z; exact DcAt.tbl l3) (awayO i kvs a hq l1 h3), dc_same t.same l3, ?_, l5⟩
      cases z : G' a with
      | none => rfl
      | some y =>
        rcases t.nw a (by rw [z]; simp) with w | w
        · exact absurd l4 w
        · exact (w.no l2 fun xs z => by subst z; exact DcAt.tup l3).elim
  · intro i j kvs kws a h1 h2 h3 h4
    obtain ⟨_, q1, _⟩ := putBack_odc h1
    obtain ⟨_, q2, _⟩ := putBack_odc h2
    exact r.oa i j _ _ a q1 q2 h3 h4
end
section
variable {X : Cx} {CX : CXT} {k n : Nat} {f : Addr} {fd : FuncData} {ps : List Str} {E : XK} {x : Str} {p pos : Pos} {e : Expr} {es : List Expr} {m : Fsem} {ga : M (List Ar)}
theorem d_call (G : FnG X.prog X.w X.K X.mg X.base CX k f fd ps (spF X.K n m)) (hgd : X.A.guards = some []) (hr : Room k X.A) (hg : Gl X x) (hm : X.mg x = some (.ref f)) (hk : PySem.W.keepIn X.K (.ref f) = true) (hb : Binds X.K fd ps []) (hx : Passes CX X E) (hn : (e :: es).length = n)
    (ha : PAd X (e :: es) ga) (hla : ∀ ς as ς', ga ς = some (as, ς') → as.length = (e :: es).length) (hdb : (x == ("__debug__" : Str)) = false := by decide) (he : starEach (e :: es) X.env = (false, eval e X.env) :: starEach es X.env := by rfl) (hpl : (backTo pos (starEach es X.env)).any (·.1) = false := by rfl) :
    PEd X (.Call (.Name x p) (e :: es) [] pos) (callE m ga) := fun F => PE.mono (pe_callG G hgd hr hg hm hk hb hx (ha F) hdb he hpl) fun σ H Q hq => by
  obtain ⟨ς, G, rl, r, ς', e', k⟩ := hq
  obtain ⟨as, ς1, e1, q1⟩ := bd_some e'
  refine ⟨ς, G, rl, as, ς1, e1, fun vs H1 G1 rl1 s1 pr => ?_⟩
  split at q1
  · rename_i ss q2
    split at q1
    · cases q1
    · rename_i r' outs hne q3
      split at q1
      · rename_i nd
        cases q1
        refine ⟨ss, G1, by rw [argS_len q2, hla _ _ _ e1, hn], rl1.args q2 pr nd, r, outs, q3, fun v H' G' t => k v H' G' (rl1.called q2 pr nd t) (s1.trans t.same) ?_⟩
        cases r with
        | pure d => exact t.rep
        | vx x =>
          cases x with
          | exc nm d => exact t.rep
          | odc kvs =>
            obtain ⟨a, o, rfl, h1, h2, h3, h4, hp⟩ := t.rep
            refine ⟨a, o, rfl, h1, h2, h3, rl1.new h4, hp, fun i kws z1 z2 => ?_⟩
            obtain ⟨kvs', y1, _⟩ := putBack_odc z1
            obtain ⟨a', _, f1, f2, _⟩ := (rl1.od i _ y1)
            rw [z2] at f1; cases f1
            rw [h4] at f2; cases f2
        | ref i => exact t.rep.elim
        | fresh ds =>
          obtain ⟨a, xs, rfl, h1, h2, h3, h4⟩ := t.rep
          refine ⟨a, xs, rfl, h1, h2, h3, rl1.new h4, fun i b es z1 z2 => ?_⟩
          obtain ⟨es', hq⟩ := putBack_own z1
          obtain ⟨a', _, f1, f2, _⟩ := rl1.ow i b es' hq
          rw [z2] at f1; cases f1
          rw [h4] at f2; cases f2
      · cases q1
    · cases q1
  · cases q1
end
theorem argN_len {ς : En} {as : List Ar} {ς' : En} (h : argN ς = some (as, ς')) : as.length = 0 := by cases h; rfl
theorem argV_len {f : M R} {g : M (List Ar)} {n : Nat} (hg : ∀ ς as ς', g ς = some (as, ς') → as.length = n) : ∀ ς as ς', argV f g ς = some (as, ς') → as.length = n + 1 := fun ς as ς' h => by
  obtain ⟨d, ς1, _, q⟩ := bd_some h
  obtain ⟨as', ς2, e2, q2⟩ := bd_some q
  cases q2
  rw [List.length_cons, hg _ _ _ e2]
theorem argR_len {f : M R} {g : M (List Ar)} {n : Nat} (hg : ∀ ς as ς', g ς = some (as, ς') → as.length = n) : ∀ ς as ς', argR f g ς = some (as, ς') → as.length = n + 1 := fun ς as ς' h => by
  obtain ⟨d, ς1, _, q⟩ := bd_some h
  cases d with
  | ref i =>
    obtain ⟨as', ς2, e2, q2⟩ := bd_some q
    cases q2
    rw [List.length_cons, hg _ _ _ e2]
  | _ => cases q
/-! ### the def -/
def ent (n : Nat) (ss : List S) : En := ss.map some ++ List.replicate (n - ss.length) none
def outsOf (ς : En) (k : Nat) : List S := (ς.take k).map fun o => o.getD (.pure .none)
def runFn (g : MS) (n : Nat) : Fsem := fun ss => match g (ent n ss) with
  | some (.rt (.ref _) _) => none
  | some (.rt r ς) => some (r, outsOf ς ss.length)
  | some (.nx ς) => some (.pure .none, outsOf ς ss.length)
  | _ => none
def fxOf (ss : List S) (vs : List V) (G H : Hp) : Fx where
  A := fun i => match ss[i]?, vs[i]? with
    | some s, some (.ref a) => if sPar s = true then some a else none
    | _, _ => none
  L := fun i => match ss[i]? with
    | some s => sLst s
    | none => false
  G0 := G
  H0 := H
theorem ent_get {n : Nat} {ss : List S} {i : Nat} {s : S} (h : (ent n ss)[i]? = some (some s)) : ss[i]? = some s := by
  unfold ent at h
  by_cases hi : i < ss.length
  · rw [List.getElem?_append_left (by simpa using hi), List.getElem?_map] at h
    cases q : ss[i]? with
    | none => rw [q] at h; cases h
    | some z => rw [q] at h; cases h; rfl
  · rw [List.getElem?_append_right (by simpa using hi), List.getElem?_replicate] at h
    split at h <;> cases h
theorem ent_of {n : Nat} {ss : List S} {i : Nat} {s : S} (h : ss[i]? = some s) : (ent n ss)[i]? = some (some s) := by
  unfold ent
  have hi := (List.getElem?_eq_some_iff.mp h).1
  rw [List.getElem?_append_left (by simpa using hi), List.getElem?_map, h]
  rfl
theorem start_of {N : List Str} {vs : List V} {i : Nat} {v : V} (h : vs[i]? = some v) : (L2.start N vs)[i]? = some (some v) := by
  unfold L2.start
  have hi := (List.getElem?_eq_some_iff.mp h).1
  rw [List.getElem?_append_left (by simpa using hi), List.getElem?_map, h]
  rfl
theorem start_get {N : List Str} {vs : List V} {i : Nat} {v : V} (h : (L2.start N vs)[i]? = some (some v)) : vs[i]? = some v := by
  unfold L2.start at h
  by_cases hi : i < vs.length
  · rw [List.getElem?_append_left (by simpa using hi), List.getElem?_map] at h
    cases q : vs[i]? with
    | none => rw [q] at h; cases h
    | some z => rw [q] at h; cases h; rfl
  · rw [List.getElem?_append_right (by simpa using hi), List.getElem?_replicate] at h
    split at h <;> cases h
theorem rel_start {K : PySem.W.Frag} {ss : List S} {vs : List V} {G H : Hp} {N : List Str} (a : ArgsOk K ss G vs H) : Rel K (fxOf ss vs G H) (ent N.length ss) G (L2.start N vs) H where
  len := by unfold ent L2.start; simp only [List.length_append, List.length_map, List.length_replicate, a.len]
  sub := a.sub
  g0 := Same.refl _
  pu := fun i d h => by
    obtain ⟨v, h1, h2⟩ := a.pu i d (ent_get h)
    exact ⟨v, start_of h1, h2⟩
  ow := fun i b ds h => by
    have hs := ent_get h
    obtain ⟨rfl, z, xs, h1, h2, h3, h4⟩ := a.ow i b ds hs
    refine ⟨z, xs, start_of h1, h2, h3, h4, fun _ => ?_, fun q => by cases q⟩
    unfold fxOf
    simp only
    rw [hs, h1]
    rfl
  ap := fun i j b c ds es z h1 h2 h3 h4 => a.ap i j b c ds es z (ent_get h1) (ent_get h2) (start_get h3) (start_get h4)
  par := fun i z h => by
    unfold fxOf at h
    simp only at h
    split at h
    · rename_i s a' q1 q2
      split at h
      · rename_i hs
        refine ⟨s, ent_of q1, hs, ?_⟩
        unfold fxOf
        simp only
        rw [q1]
      · cases h
    · cases h
  fr := ⟨fun z o h _ _ => h, fun z ps h => ⟨ps, h⟩, fun p hp => by
    obtain ⟨_, ps, h, _⟩ := a.tb p hp
    exact ⟨ps, h⟩, a.tb⟩
  nw := fun z h => .inl h
  vx := fun i x h => by
    obtain ⟨v, h1, h2⟩ := a.vx i x (ent_get h)
    exact ⟨v, start_of h1, h2⟩
  od := fun i kvs h => by
    obtain ⟨hp, z, o, h1, h2, h3, h4⟩ := a.ob i kvs (ent_get h)
    refine ⟨z, o, start_of h1, h2, h3, h4, (fun q => by rw [hp] at q; cases q), fun _ => ?_⟩
    unfold fxOf
    simp only
    rw [ent_get h, h1]
    exact if_pos hp
  oa := fun i j kvs kws c h1 h2 h3 h4 => a.oj i j kvs kws c (ent_get h1) (ent_get h2) (start_get h3) (start_get h4)
theorem ret_ok {K : PySem.W.Frag} {ss : List S} {vs : List V} {G H G' H' : Hp} {ς' : En} {σ' : L2.St} {r : R} {v : V} (a : ArgsOk K ss G vs H) (rl : Rel K (fxOf ss vs G H) ς' G' σ' H') (s : Same G G') (hr : ∀ i, r ≠ .ref i) (rep : RepR K (fxOf ss vs G H) ς' G' σ' H' r v) :
    RetOk K ss G vs H r (outsOf ς' ss.length) v H' G' where
  same := s
  sub := rl.sub
  nw := rl.nw
  tn := rl.fr.tn
  tb := rl.fr.tb
  fr := fun z o h nt na => by
    refine rl.fr.fr z o h nt fun i q => ?_
    unfold fxOf at q
    simp only at q
    split at q
    · rename_i s a' q1 q2
      split at q
      · rename_i hs
        cases q
        exact na i s q1 hs q2
      · cases q
    · cases q
  ow := fun i b ds z h1 h2 => by
    have hA : (fxOf ss vs G H).A i = some z := by
      unfold fxOf
      simp only
      rw [h1, h2]
      exact if_pos (show sPar (.own b ds) = true from (a.ow i b ds h1).1)
    have hL : (fxOf ss vs G H).L i = true := by
      unfold fxOf
      simp only
      rw [h1]
      rfl
    obtain ⟨s, e, hs1, hs2⟩ := rl.par i z hA
    rw [hL] at hs2
    obtain ⟨ds', rfl⟩ : ∃ ds', s = .own true ds' := by
      cases s with
      | pure d => cases hs1
      | own b ds' => cases (show b = true from hs1); exact ⟨_, rfl⟩
      | vx x => cases hs2
    obtain ⟨z', xs, f1, f2, f3, f4, f5, _⟩ := rl.ow i true ds' e
    have := f5 rfl
    rw [hA] at this; cases this
    refine ⟨ds', xs, ?_, f2, f3, f4⟩
    have hi := (List.getElem?_eq_some_iff.mp h1).1
    unfold outsOf
    rw [List.getElem?_map, List.getElem?_take_of_lt hi, e]
    rfl
  ob := fun i kvs z h1 h2 => by
    have hp := (a.ob i kvs h1).1
    have hA : (fxOf ss vs G H).A i = some z := by
      unfold fxOf
      simp only
      rw [h1, h2]
      exact if_pos hp
    have hL : (fxOf ss vs G H).L i = false := by
      unfold fxOf
      simp only
      rw [h1]
      rfl
    obtain ⟨s, e, hs1, hs2⟩ := rl.par i z hA
    rw [hL] at hs2
    obtain ⟨kws, rfl⟩ : ∃ kws, s = .vx (.odc kws) := by
      cases s with
      | pure d => cases hs1
      | own b ds' => cases hs2
      | vx x =>
        cases x with
        | exc nm d => cases hs1
        | odc kws => exact ⟨_, rfl⟩
    obtain ⟨z', o, f1, f2, f3, f4, f5⟩ := rl.od i kws e
    have := f5.2 hs1
    rw [hA] at this; cases this
    refine ⟨kws, o, ?_, hs1, f2, f3, f4⟩
    have hi := (List.getElem?_eq_some_iff.mp h1).1
    unfold outsOf
    rw [List.getElem?_map, List.getElem?_take_of_lt hi, e]
    rfl
  rep := by
    cases r with
    | pure d => exact rep
    | vx x =>
      cases x with
      | exc nm d => exact rep
      | odc kvs =>
        obtain ⟨z, o, rfl, h1, h2, h3, h4, hp, _⟩ := rep
        exact ⟨z, o, rfl, h1, h2, h3, h4, hp⟩
    | ref i => exact absurd rfl (hr i)
    | fresh ds =>
      obtain ⟨z, xs, rfl, h1, h2, h3, h4, _⟩ := rep
      exact ⟨z, xs, rfl, h1, h2, h3, h4⟩
theorem fn_body {X : Cx} {n : Nat} {N : List Str} {g : MS} {body : List Stmt} {vs : List V} {H : Hp} {Q : VK} {E : XK} (hb : PSsd X.nox body g) (h : spF X.K n (runFn g N.length) vs H Q E) :
    ∃ t, PSs X body t ∧ t { nx := fun _ H' => Q .non H', rt := Q } (L2.start N vs) H := by
  obtain ⟨ss, G, hl, a, r, outs, e2, q⟩ := h
  refine ⟨_, (hb (fxOf ss vs G H)).nox, ?_⟩
  unfold runFn at e2
  split at e2
  · cases e2
  · rename_i r' ς' hne q2
    cases e2
    exact ⟨ent N.length ss, G, rel_start a, _, q2, fun v σ' H' G' rl s rep => q v H' G' (ret_ok a rl s (fun i z => hne i z) rep)⟩
  · rename_i ς' q2
    cases e2
    exact ⟨ent N.length ss, G, rel_start a, _, q2, fun σ' H' G' rl s => q .non H' G' (ret_ok a rl s (fun i z => by cases z) .non)⟩
  · cases e2
end Lw
namespace Lw
open PySem PySem.Spec PyProof.Rows L2
/-! ### the law's own call; the makers' tables may grow -/
def csOf (K : PySem.W.Frag) : List (Addr × Addr) := (lamIn K).map fun x => He.cT K (x, none)
theorem tab_cs {K : PySem.W.Frag} {p : Addr × Str} (h : p ∈ tabsOf K) : ∃ q ∈ csOf K, q.2 = p.1 := by
  obtain ⟨x, hx, rfl⟩ := List.mem_map.1 h
  exact ⟨_, List.mem_map.2 ⟨x, hx, rfl⟩, rfl⟩
/-- the tables at the law's begin -/
structure TabsAt0 (K : PySem.W.Frag) (h : Heap) : Prop where
  emp : ∀ q ∈ csOf K, h.get? q.2 = some { cls := .none, data := .fields #[] }
  out : ∀ q ∈ csOf K, K.lookup q.2 = none
  cod : ∀ q ∈ csOf K, PySem.W.CodeHd h q.1 q.2
/-- all but tables -/
def noT (H : Hp) : Hp := fun b => match H b with
  | some (.tbl _) => none
  | o => o
theorem noT_of {H : Hp} {b : Addr} {o : HO} (h : H b = some o) (n : ∀ ps, o ≠ .tbl ps) : noT H b = some o := by
  unfold noT
  rw [h]
  cases o <;> first | rfl | exact absurd rfl (n _)
theorem noT_sub {H : Hp} : Same (noT H) H := fun b o e => by
  unfold noT at e
  split at e
  · cases e
  · exact e
theorem tabG0 {K : PySem.W.Frag} {H : Hp} (h : ∀ q ∈ csOf K, H q.2 = some (.tbl #[])) : LamG (tabsOf K) (noT H) H := fun p hp => by
  obtain ⟨q, hq, e⟩ := tab_cs hp
  have e1 : H p.1 = some (.tbl #[]) := by rw [← e]; exact h q hq
  refine ⟨by unfold noT; rw [e1], #[], e1, True.intro, fun pos cv hc => ?_⟩
  have z : codeAmong pos [] = some cv := hc
  simp [codeAmong] at z
theorem law_go {P : Program} {w : World} {K : PySem.W.Frag} {mg mb : Str → Option Value} {k : Nat} {fa a : Addr} {fd : FuncData} {x : Str} {sp : Sp} {s₁ : Shared} {vs : List Value} {ns : List Int}
    (KX : K.In s₁.heap) (hns : s₁.heap.Ns mainGlobals mg) (hb : s₁.heap.Ns builtinsNs mb) (hbb : ∀ x : Str, x ≠ "__name__" → mb x = bootBuiltins x) (hlim : s₁.heap.NoLimit) (hg : s₁.gens = #[]) (T0 : TabsAt0 K s₁.heap)
    (hbm : ∃ (bm : Addr) (ob : Obj), mg "__builtins__" = some (.ref bm) ∧ bm ≠ builtinsNs ∧ s₁.heap.get? bm = some ob ∧ ob.cls = .type "module" ∧ ob.dict = some builtinsNs ∧ ob.data = .plain)
    (ha : s₁.heap.get? a = some { cls := .type "list", data := .seq vs.toArray }) (hi : IntsAre vs ns) (hl : ns.length ≤ sizeLine) (hr : Room k callerA)
    (F : ∀ base : Heap, K.In base → base.Ns mainGlobals mg → (∀ q ∈ csOf K, LamX.TabB base mg q.1 q.2) → FnG P w K mg base CX0 k fa fd [x] sp) (hbind : ∀ (s : Shared) (u : Value), BindsTo s fd ⟨[u], []⟩ [(x, u)])
    (hsp : ∀ H : Hp, LamG (tabsOf K) (noT H) H → SqL K H a (ns.map V.int) → sp [.ref a] H (fun v _ => v = .bl true) fun _ _ _ => False) :
    codeAny (model P w) callerA (.call (.ref fa) ⟨[.ref a], []⟩) (fun r s' => r = .ok (.ret (.bool true)) ∧ OldK s₁.heap s'.heap ∧ s'.os = s₁.os ∧ AllBare s'.gens) s₁ := by
  have rv := vals_ints hi
  let tb : Addr → Prop := fun b => ∃ q ∈ csOf K, q.2 = b
  have tbE : ∀ b, tb b → s₁.heap.get? b = some { cls := .none, data := .fields #[] } := by
    rintro b ⟨q, hq, rfl⟩
    exact T0.emp q hq
  have aTb : ¬ tb a := fun z => by
    have := tbE a z
    rw [ha] at this
    exact absurd (show Data.seq vs.toArray _ = Data.fields #[] from congrArg Obj.data (Option.some.inj this)) (by intro z; cases z)
  -- from any picture of the heap that tracks the script and the tables alone
  have main : ∀ H : Hp, (∀ q ∈ csOf K, H q.2 = some (.tbl #[])) → (∀ b u, H b = some u → ¬ tb b → ∃ ob xs, u = .frz ob (.lst xs)) → SqL K H a (ns.map V.int) → HOk P w H s₁.heap → (∀ b, H b ≠ none → b = a ∨ tb b) → (H a ≠ none → K.lookup a = none) →
      codeAny (model P w) callerA (.call (.ref fa) ⟨[.ref a], []⟩) (fun r s' => r = .ok (.ret (.bool true)) ∧ OldK s₁.heap s'.heap ∧ s'.os = s₁.os ∧ AllBare s'.gens) s₁ := by
    intro H hT hO hS hok hA hK
    have old : ∀ {b : Addr} {o : Obj}, s₁.heap.get? b = some o → H b = none → (hidT s₁.heap H).get? b = some o := fun e n => hidT_get e n
    have free : ∀ {b : Addr} {o : Obj}, s₁.heap.get? b = some o → (∀ us n, o.data ≠ .seq us n) → o.data ≠ .fields #[] → H b = none := by
      intro b o e d1 d2
      cases q : H b with
      | none => rfl
      | some u =>
        rcases hA b (by rw [q]; simp) with rfl | z
        · rw [ha] at e; cases e; exact absurd rfl (d1 _ _)
        · rw [tbE b z] at e; cases e; exact absurd rfl d2
    have dicts : ∀ {b : Addr} {o : Obj} {es : Array DictEntry} {ep : Nat}, s₁.heap.get? b = some o → o.data = .dict es ep → H b = none := by
      intro b o es ep e d
      exact free e (fun us n z => by rw [d] at z; cases z) (fun z => by rw [d] at z; cases z)
    have spaces : ∀ {b : Addr} {m : Str → Option Value}, s₁.heap.Ns b m → (hidT s₁.heap H).Ns b m := by
      rintro b m ⟨o, es, ep, e, d, r⟩
      exact ⟨o, es, ep, old e (dicts e d), d, r⟩
    have hKb : K.In (hidT s₁.heap H) := by
      intro b o e
      refine old (KX b o e) ?_
      cases q : H b with
      | none => rfl
      | some u =>
        rcases hA b (by rw [q]; simp) with e' | ⟨z, hz, rfl⟩
        · subst e'
          rw [hK (by rw [q]; simp)] at e
          cases e
        · rw [T0.out z hz] at e; cases e
    have hM : Mod K mg (hidT s₁.heap H) := by
      obtain ⟨mc, h1, h2⟩ := hlim
      exact ⟨hKb, spaces hns, ⟨mb, spaces hb, hbb⟩, mc, spaces h1, h2⟩
    have hTB : ∀ q ∈ csOf K, LamX.TabB (hidT s₁.heap H) mg q.1 q.2 := by
      intro q hq
      have e0 := T0.emp q hq
      refine ⟨?_, ?_, fun z => ?_⟩
      · obtain ⟨o, us, f1, f2, f3, f4, f5, f6, f7, e1, r1, r2, r3, r4⟩ := T0.cod q hq
        exact ⟨o, us, f1, f2, f3, f4, f5, f6, f7, old e1 (free e1 (fun us n z => by rw [r2] at z; cases z) (fun z => by rw [r2] at z; cases z; simp at r3)), r1, r2, r3, r4⟩
      · obtain ⟨bm, ob, b1, b2, b3, b4, b5, b6⟩ := hbm
        refine ⟨bm, ob, b1, b2, fun z => ?_, fun z => ?_, old b3 (free b3 (fun us n z => by rw [b6] at z; cases z) (fun z => by rw [b6] at z; cases z)), b4, b5, b6⟩
        · obtain ⟨o, es, ep, e, hd, _⟩ := hns
          subst z
          rw [e] at b3; cases b3
          rw [hd] at b6; cases b6
        · subst z
          rw [e0] at b3; cases b3
          cases b6
      · obtain ⟨o, es, ep, e, hd, _⟩ := hns
        rw [z, e0] at e; cases e
        cases hd
    have noF : ∀ b : Addr, b ∉ (frs ([] : List Env)) := fun b z => absurd (show b ∈ ([] : List Addr) from z) (by simp)
    have e0 : Env0 P w K mg (hidT s₁.heap H) callerA [] s₁ H := ⟨rfl, hM, fun b o e => of_hidT e, Nat.le_of_eq (hidT_size _ _), trivial, fun b z => absurd z (noF b), hok, .of_eq hg⟩
    refine codeAny_mono ((F _ hKb (spaces hns) hTB).run callerA [] s₁ H ⟨[.ref a], []⟩ [.ref a] [.ref a] _ _ rfl hr e0 (hbind s₁ (.ref a)) (.cons rfl .nil) (hsp H (tabG0 hT) hS)) (fun r s' h => ?_)
    cases r with
    | error e => exact False.elim h
    | ok fl =>
      cases fl with
      | next => exact False.elim h
      | brk => exact False.elim h
      | cont => exact False.elim h
      | ret u =>
        obtain ⟨v, H', os, bare, un, hok', r', q⟩ := h
        cases (show v = .bl true from q)
        cases (show u = Value.bool true from r')
        have stay : ∀ b o, ¬ tb b → s₁.heap.get? b = some o → s'.heap.get? b = some o := by
          intro b o nb e
          cases z0 : H b with
          | none => exact un.keep b o e z0 (noF b) (by simp)
          | some u =>
            obtain ⟨ob, xs, z⟩ := hO b u z0 nb
            rw [z] at z0
            have z2 := un.frzs b ob _ z0
            obtain ⟨e1, _⟩ := hok b _ z0
            obtain ⟨e2, _⟩ := hok' b _ z2
            rw [e] at e1
            cases e1
            exact e2
        have more : ∀ q ∈ csOf K, ∃ us : Array Value, s'.heap.get? q.2 = some { cls := .none, data := .fields us } := fun q hq => by
          obtain ⟨us, z⟩ := un.tbls q.2 #[] (hT q hq)
          exact ⟨_, hok' q.2 _ z⟩
        refine ⟨rfl, ⟨fun b o e => ?_, fun b o e => ?_⟩, os, bare⟩
        · rcases Classical.em (tb b) with hb | hb
          · obtain ⟨q, hq, rfl⟩ := hb
            obtain ⟨us, hm⟩ := more q hq
            rw [T0.emp q hq] at e
            cases e
            exact .inr (.inl ⟨((T0.cod q hq).tab (T0.emp q hq)).isCodeTable, rfl, #[], us, rfl, by rw [Array.empty_append]; exact hm⟩)
          · exact .inl (stay b o hb e)
        · rcases Classical.em (tb b) with hb | hb
          · obtain ⟨q, hq, rfl⟩ := hb
            obtain ⟨us, hm⟩ := more q hq
            exact ⟨_, hm⟩
          · exact ⟨o, stay b o hb e⟩
  let HT : Hp := fun b => @ite _ (tb b) (Classical.propDecidable _) (some (.tbl #[])) none
  have ht1 : ∀ b, tb b → HT b = some (.tbl #[]) := fun b h => if_pos h
  have ht2 : ∀ b, ¬ tb b → HT b = none := fun b h => if_neg h
  have htok : ∀ b u, HT b = some u → tb b ∧ u = .tbl #[] := fun b u h => by
    rcases Classical.em (tb b) with q | q
    · rw [ht1 b q] at h; cases h; exact ⟨q, rfl⟩
    · rw [ht2 b q] at h; cases h
  cases hk : K.lookup a with
  | some o =>
    have e := KX a o hk
    rw [ha] at e
    cases e
    refine main HT (fun q hq => ht1 _ ⟨q, hq, rfl⟩) (fun b u z n => absurd (htok b u z).1 n) (Or.inr ⟨_, vs.toArray, _, hk, rfl, rfl, rfl, ?_, by simpa using rv⟩) (fun b u z => ?_) (fun b z => ?_) (fun z => ?_)
    · rw [List.size_toArray, hi.length]
      exact hl
    · obtain ⟨q, rfl⟩ := htok b u z
      exact tbE b q
    · rcases Classical.em (tb b) with q | q
      · exact .inr q
      · exact absurd (ht2 b q) z
    · exact absurd (ht2 a aTb) z
  | none =>
    have hu : ∀ b, b ≠ a → (upd HT a (.frz { cls := .type "list", data := .seq vs.toArray } (.lst (ns.map V.int)))) b = HT b := fun b n => upd_ne n
    refine main (upd HT a (.frz { cls := .type "list", data := .seq vs.toArray } (.lst (ns.map V.int)))) (fun q hq => ?_) (fun b u z n => ?_) (Or.inl (Or.inr ⟨{ cls := .type "list", data := .seq vs.toArray }, upd_same⟩)) ?_ (fun b z => ?_) (fun _ => hk)
    · have ne : q.2 ≠ a := fun z => aTb ⟨q, hq, z⟩
      rw [hu _ ne]
      exact ht1 _ ⟨q, hq, rfl⟩
    · by_cases hb : b = a
      · subst hb; rw [upd_same] at z; cases z; exact ⟨_, _, rfl⟩
      · rw [hu b hb] at z; exact absurd (htok b u z).1 n
    · intro b u z
      by_cases hb : b = a
      · subst hb
        rw [upd_same] at z
        cases z
        exact ⟨ha, by rw [List.length_map]; exact hl, vs, _, rv, ha⟩
      · rw [hu b hb] at z
        obtain ⟨q, rfl⟩ := htok b u z
        exact tbE b q
    · by_cases hb : b = a
      · exact .inl hb
      · rw [hu b hb] at z
        rcases Classical.em (tb b) with q | q
        · exact .inr q
        · exact absurd (ht2 b q) z
/-- what the law must be worth -/
theorem law_sp {K : PySem.W.Frag} {m : Fsem} {H : Hp} {a : Addr} {ns : List Int} (tb : LamG (tabsOf K) (noT H) H) (h : ∃ outs, m [.pure (.list (ns.map PyData.int))] = some (.pure (.bool true), outs)) (hS : SqL K H a (ns.map V.int)) : spF K 1 m [.ref a] H (fun v _ => v = .bl true) fun _ _ _ => False := by
  obtain ⟨outs, e⟩ := h
  refine ⟨_, noT H, rfl, ⟨rfl, noT_sub, fun i d h => ?_, fun i b ds h => ?_, fun i j b c ds es z h1 _ _ _ => ?_, fun i x h => (by cases i <;> cases h), fun i kvs h => (by cases i <;> cases h), fun i j kvs kws z h _ _ _ => (by cases i <;> cases h), tb⟩, _, outs, e, fun v H' G' t => dp_bool t.rep⟩
  · cases i with
    | zero =>
      cases h
      refine ⟨_, rfl, .lst ?_ dpa_ints⟩
      rcases hS with (z | ⟨o, z⟩) | z
      · exact .inl (.inl (noT_of z fun ps w => by cases w))
      · exact .inl (.inr ⟨o, noT_of z fun ps w => by cases w⟩)
      · exact .inr z
    | succ i => cases h
  · cases i with
    | zero => cases h
    | succ i => cases h
  · cases i with
    | zero => cases h1
    | succ i => cases h1
end Lw
namespace Lw
open PySem PySem.Spec PyProof.Rows L2
theorem tuple_mul1 (l : Addr) (items : Array Value) (n : Nat) (dd : Option Addr) (sl : Array (Option Value)) (u : Tok) :
    Meets (Builtin.«tuple.__mul__» ⟨[.ref l, .int 1 u], []⟩) (fun _ R s => s.heap.get? l = some { cls := .type "tuple", dict := dd, data := .seq items n, slots := sl } ∧ R (.ok (.ret (Value.ref l))) s) :=
  .of_wp fun prog w A R s h => by
    obtain ⟨hp, g, d, tk, os⟩ := s
    obtain ⟨hl, h⟩ := h
    have f1 := AutoSeq1.idx_int
    wp_walk using wpAny_loadPart' hl
    repeat (first
      | (refine wpAny_ite_false (decide_eq_false (by decide)) ?_; wp_walk using wpAny_loadPart' hl)
      | (refine wpAny_ite_true (decide_eq_true (by simp)) ?_; wp_walk using wpAny_loadPart' hl))
    exact ⟨_, rfl, h⟩
def rRepT1 (K : PySem.W.Frag) : R2 := fun x y H Q => ∃ l xs, x = .ref l ∧ y = .int 1 ∧ SqT K H l xs ∧ Q (.ref l) H
section
variable {X : Cx} {F : Fx} {a b c e : Expr} {es : List Expr} {fa fb fc f : M R} {ta : M Bool} {pos p p2 : Pos} {x : Str}
theorem op_repT1 : OpR X (binaryOp .Mult) (rRepT1 X.K) := by
  intro pins s σ H x y v u Q I rx ry h
  obtain ⟨l, xs, rfl, rfl, hT, q⟩ := h
  cases rx
  obtain ⟨t, rfl⟩ := ry
  obtain ⟨its, r, ⟨⟨cls, dd, data, sl⟩, ho, hc, n, hd⟩, hs⟩ := I.tuple hT
  simp only at hc hd
  subst hc hd
  exact wpAny_binaryOp_repeat_ref (T := "tuple") (U := "int") (by decide) ⟨_, ho, rfl⟩ (fun s' => typeIs_int s' 1 t) noFill_tuple_mul F.fills_int_mul F.slot_int_rmul repeat_tuple F.slot_int_index.lookup
    (call_meets F.slot_int_rmul (typeIs_int s 1 t) F.entry_int_rmul (F.args_int_rmul_2 _ _) (int_rmul_tuple 1 t l its.toArray n dd sl)
      ⟨ho, rfl, ⟨_, ho, rfl⟩, call_meets F.slot_tuple_mul ⟨_, ho, rfl⟩ F.entry_tuple_mul (F.args_tuple_mul_2 _ _) (tuple_mul1 l its.toArray n dd sl t) ⟨ho, .ref l, H, I, rfl, q⟩⟩)
def gRepT1 : D → D → Option R
  | .tuple xs, .int 1 => some (.pure (.tuple xs))
  | _, _ => none
theorem op2_repT1 : Op2 X F (rRepT1 X.K) gRepT1 := ⟨fun ς G σ H x y dx dy r Q rl hx hy e k => by
  cases dx with
  | tuple i =>
    cases dy with
    | int j =>
      by_cases q : j = 1
      · subst q
        cases e
        rcases hx with hx | ⟨_, _, _, _, ee, _⟩
        · obtain ⟨p, vs, rfl, h1, h2⟩ := dp_tuple hx
          exact ⟨p, vs, rfl, hy.int, same_seqT rl.sub h1, k _ H G rl (Same.refl _) hx⟩
        · cases ee
      · unfold gRepT1 at e
        split at e
        · rename_i h1 h2; cases h2; exact absurd rfl q
        · cases e
    | _ => cases e
  | _ => cases e⟩
def gMulA : D → D → Option R := orG (gI cMul fun i j => .int (i * j)) (orG gRepT gRepT1)
theorem d_mulA (ha : PEd X a fa) (hb : PEd X b fb) : PEd X (.BinOp a .Mult b pos) (op2 gMulA fa fb) := d_op (op_mul.or (op_repT.or op_repT1)) (fun _ => Op2.or op2_mulI (Op2.or op2_repT op2_repT1)) ha hb
def gAddA : D → D → Option R := orG (gI0 fun i j => .int (i + j)) (orG gStr (orG gCatL (orG gCatT (gIB (· + ·)))))
theorem d_addA (ha : PEd X a fa) (hb : PEd X b fb) : PEd X (.BinOp a .Add b pos) (op2 gAddA fa fb) :=
  d_op (op_add.or (op_add_str.or (op_catL.or (op_catA.or op_addB)))) (fun _ => Op2.or (op2_I0 fun _ _ _ => .int _) (Op2.or op2_str (Op2.or op2_catL (Op2.or op2_catT op2_IB)))) ha hb
def gSubA : D → D → Option R := orG (gI0 fun i j => .int (i - j)) (gIB (· - ·))
theorem d_subA (ha : PEd X a fa) (hb : PEd X b fb) : PEd X (.BinOp a .Sub b pos) (op2 gSubA fa fb) := d_op (op_sub.or op_subB) (fun _ => Op2.or op2_sub op2_IB) ha hb
def gDivA : D → D → Option R := gI cDiv fun i j => .int (i / j)
def gModA : D → D → Option R := gI (fun _ j => decide (0 < j)) fun i j => .int (i % j)
def gPowA : D → D → Option R := gI cPow fun i j => .int (i ^ j.toNat)
def gLt : D → D → Option R := gI0 fun i j => .bool (decide (i < j))
def gLe : D → D → Option R := gI0 fun i j => .bool (decide (i ≤ j))
def gGt : D → D → Option R := gI0 fun i j => .bool (decide (j < i))
def gGe : D → D → Option R := gI0 fun i j => .bool (decide (j ≤ i))
theorem d_divA (ha : PEd X a fa) (hb : PEd X b fb) : PEd X (.BinOp a .FloorDiv b pos) (op2 gDivA fa fb) := d_fdiv ha hb
theorem d_modA (ha : PEd X a fa) (hb : PEd X b fb) : PEd X (.BinOp a .Mod b pos) (op2 gModA fa fb) := d_mod ha hb
theorem d_powA (ha : PEd X a fa) (hb : PEd X b fb) : PEd X (.BinOp a .Pow b pos) (op2 gPowA fa fb) := d_pow ha hb
theorem o_lt : Op2 X F (rI0 fun i j => .bl (decide (i < j))) gLt := op2_lt
theorem o_le : Op2 X F (rI0 fun i j => .bl (decide (i ≤ j))) gLe := op2_le
theorem o_gt : Op2 X F (rI0 fun i j => .bl (decide (j < i))) gGt := op2_gt
theorem o_ge : Op2 X F (rI0 fun i j => .bl (decide (j ≤ i))) gGe := op2_ge
theorem _root_.Lw.PWd.pt (h : PWd X e ta) : PTd X e ta := fun F => (h F).pt
theorem d_tstN {op op' : CmpOp} {r2 r2' : R2} {g g' : D → D → Option R} (ho : OpR X (compareOp op) r2) (o : ∀ F, Op2 X F r2 g) (ho' : OpR X (compareOp op') r2') (o' : ∀ F, Op2 X F r2' g') (ha : PEd X a fa) (hb : PEd X b fb) (hc : PEd X c fc)
    (hm : lastMarks [op, op'] [b, c] = false := by with_unfolding_all rfl) : PTd X (.Compare a [op, op'] [b, c] pos) (tst (chn g g' fa fb fc)) := fun F =>
  PT.mono (pt_chain ho ho' (d_sub ha F) (d_sub hb F) (d_sub hc F) hm) fun σ H Q hq => t_chn (o F) (o' F) σ H _ (by
    obtain ⟨ς, G, rl, r, ς', e, k⟩ := t_tst σ H Q hq
    obtain ⟨r1, ς1, e1, q1⟩ := bd_some e
    refine ⟨ς, G, rl, r1, ς1, e1, fun v H' G' rl' s rep => ?_⟩
    cases r1 with
    | pure d => cases q1; exact k v H' G' rl' s rep
    | ref i => cases q1; exact k v H' G' rl' s rep
    | vx x =>
      cases x with
      | exc nm d => cases q1; exact k v H' G' rl' s rep
      | odc kvs =>
        cases q1
        obtain ⟨G2, rl2, s2, dp⟩ := rl'.frzFD rep
        exact k v H' G2 rl2 (s.trans s2) dp
    | fresh ds =>
      cases q1
      obtain ⟨G2, rl2, s2, dp⟩ := rl'.frzF rep
      exact k v H' G2 rl2 (s.trans s2) dp)
end
/-! ### a def by its name -/
def Fo (P : Program) (w : World) (K : PySem.W.Frag) (mg : Str → Option Value) (base : Heap) (x : Str) (ps : List Str) (m : Fsem) (k : Nat) : Prop :=
  ∃ (f : Addr) (fd : FuncData), FnG P w K mg base CX0 k f fd ps (spF K ps.length m) ∧ mg x = some (.ref f) ∧ PySem.W.keepIn K (.ref f) = true ∧ Binds K fd ps []
section
variable {X : Cx} {x : Str} {ps : List Str} {m : Fsem} {k j : Nat} {p pos : Pos} {e : Expr} {es : List Expr} {ga : M (List Ar)}
theorem Fo.call (h : Fo X.prog X.w X.K X.mg X.base x ps m j) (hgd : X.A.guards = some []) (hr : Room k X.A) (hj : j ≤ k) (hg : Gl X x) (hn : (e :: es).length = ps.length) (ha : PAd X (e :: es) ga) (hla : ∀ ς as ς', ga ς = some (as, ς') → as.length = (e :: es).length)
    (hdb : (x == ("__debug__" : Str)) = false := by decide) (he : starEach (e :: es) X.env = (false, eval e X.env) :: starEach es X.env := by rfl) (hpl : (backTo pos (starEach es X.env)).any (·.1) = false := by rfl) :
    PEd X (.Call (.Name x p) (e :: es) [] pos) (callE m ga) := by
  obtain ⟨f, fd, G, hm, hk, hb⟩ := h
  exact d_call G hgd (hr.mono hj) hg hm hk hb (pass0 (X := X)) hn ha hla hdb he hpl
end
theorem fo_none {P : Program} {w : World} {K : PySem.W.Frag} {mg : Str → Option Value} {base : Heap} {x : Str} {ps : List Str} {k : Nat} {f : Addr} {fd : FuncData} (hm : mg x = some (.ref f)) (hk : PySem.W.keepIn K (.ref f) = true) (hb : Binds K fd ps []) : Fo P w K mg base x ps (fun _ => none) k := by
  refine ⟨f, fd, ⟨fun vs H Q E h => ?_, fun A outer s H args us vs Q E _ _ _ _ _ h => ?_⟩, hm, hk, hb⟩
  · obtain ⟨_, _, _, _, _, _, e, _⟩ := h; cases e
  · obtain ⟨_, _, _, _, _, _, e, _⟩ := h; cases e
theorem FunD.mkFn {P : Program} {w : World} {K : PySem.W.Frag} {mg : Str → Option Value} {base : Heap} {k : Nat} {f : Addr} {fd : FuncData} {ps : List Str} {x : Str} {params : Arguments} {body : List Stmt} {scope : Scope} {dvs : List V} {kws : List (Str × V)} {N : List Str} {g : MS}
    (F : FunD K x x params body scope dvs kws f fd) (S : FnScope N ps scope)
    (hbody : ∀ (cdv : Value) (A : Around) (outer : List Env) (s : Shared) (H : Hp) (E : XK), A.guards = some [] → Room k (A.deeper (envOfC x scope s.heap.objs.size f cdv)) →
      PSsd (cxOf CX0 P w K mg base N x scope f cdv A outer s H E).nox body g) : FnG P w K mg base CX0 (k + 1) f fd ps (spF K ps.length (runFn g N.length)) := by
  obtain ⟨oc, od, dV, kV, doc, pm, an, cdv, ct, osl, rfl, lk, hcd, _, _⟩ := F.ex
  refine fnG_of lk hcd S (fun vs H Q E h => ?_) (fun A outer s H vs Q E hgd hr h => ?_)
  · obtain ⟨ss, G, hl, a, _⟩ := h
    rw [a.len, hl]
  · exact fn_body (hbody cdv A outer s H E hgd hr) h
theorem FunD.mkG {P : Program} {w : World} {K : PySem.W.Frag} {mg : Str → Option Value} {base : Heap} {k : Nat} {f : Addr} {fd : FuncData} {ps : List Str} {x : Str} {params : Arguments} {body : List Stmt} {scope : Scope} {dvs : List V} {kws : List (Str × V)} {N : List Str} {g : MS}
    (F : FunD K x x params body scope dvs kws f fd) (S : FnScope N ps scope)
    (hbody : ∀ (cdv : Value) (A : Around) (outer : List Env) (s : Shared) (H : Hp) (E : XK), A.guards = some [] → Room k (A.deeper (envOfC x scope s.heap.objs.size f cdv)) →
      PSsd (cxOf CX0 P w K mg base N x scope f cdv A outer s H E).nox body g) (hm : mg x = some (.ref f)) (hb : Binds K fd ps []) : Fo P w K mg base x ps (runFn g N.length) (k + 1) := ⟨f, fd, FunD.mkFn F S hbody, hm, F.kp, hb⟩
/-! ### a def that is handed a new list as its one argument -/
def finF (o : Option (R × List S)) (ς : En) : Option (R × En) := match o with
  | some (.ref _, _) => none
  | some (r, _) => some (r, ς)
  | none => none
def callF (m : Fsem) (fe : M R) : M R := bd fe fun r => match r with
  | .fresh ds => fun ς => finF (m [.own true ds]) ς
  | _ => lift none
section
variable {K : PySem.W.Frag} {F : Fx} {ς : En} {G H G' H' : Hp} {σ : L2.St}
theorem args1 (r : Rel K F ς G σ H) {ds : List D} {v : V} (h : RepR K F ς G σ H (.fresh ds) v) : ArgsOk K [.own true ds] G [v] H := by
  obtain ⟨a, xs, rfl, h1, h2, h3, _, _⟩ := h
  refine ⟨rfl, r.sub, fun i d q => ?_, fun i b es q => ?_, fun i j b c es fs z q1 q2 _ _ => ?_, fun i x q => (by cases i <;> cases q), fun i kvs h => (by cases i <;> cases h), fun i j kvs kws z h _ _ _ => (by cases i <;> cases h), r.fr.tb⟩
  · cases i with
    | zero => cases q
    | succ i => cases q
  · cases i with
    | zero => cases q; exact ⟨rfl, a, xs, rfl, h1, h2, h3⟩
    | succ i => cases q
  · cases i with
    | zero =>
      cases j with
      | zero => rfl
      | succ j => cases q2
    | succ i => cases q1
theorem Rel.called1 (r : Rel K F ς G σ H) {ds : List D} {v w : V} {res : R} {outs : List S} (h : RepR K F ς G σ H (.fresh ds) v) (t : RetOk K [.own true ds] G [v] H res outs w H' G') : Rel K F ς G' σ H' := by
  obtain ⟨a, xs, rfl, h1, h2, h3, h4, h5⟩ := h
  have away : ∀ b, b ≠ a → ∀ (i : Nat) s, ([S.own true ds])[i]? = some s → sPar s = true → ([V.ref a])[i]? ≠ some (.ref b) := by
    intro b ne i s q1 _ q2
    cases i with
    | zero => cases q2; exact ne rfl
    | succ i => cases q1
  refine ⟨r.len, t.sub, r.g0.trans t.same, ?_, ?_, r.ap, r.par, ?_, ?_, fun i x e => by
    obtain ⟨u, e1, e2⟩ := r.vx i x e
    exact ⟨u, e1, xp_same t.same e2⟩, fun i kvs e => (r.od i kvs e).keep rfl t.same fun c o k1 nl k2 => ⟨t.fr c o k1 (fun ps => (nl []).2.2 ps) (away c fun z => by subst z; rw [h1] at k1; cases k1; exact (nl _).1 rfl), by
      cases z : G' c with
      | none => rfl
      | some y =>
        rcases t.nw c (by rw [z]; simp) with q | q
        · exact absurd k2 q
        · exact (q.no k1 fun xs => (nl xs).2.1).elim⟩, r.oa⟩
  · intro i d e
    obtain ⟨u, e1, e2⟩ := r.pu i d e
    exact ⟨u, e1, dp_same t.same e2⟩
  · intro i b es e
    obtain ⟨c, ws, e1, e2, e3, e4, e5⟩ := r.ow i b es e
    have ne : c ≠ a := fun z => by subst z; exact h5 i b es e e1
    refine ⟨c, ws, e1, t.fr c _ e2 (fun ps z => by cases z) (away c ne), ?_, dpa_same t.same e4, e5⟩
    cases z : G' c with
    | none => rfl
    | some y =>
      rcases t.nw c (by rw [z]; simp) with q | q
      · exact absurd e3 q
      · exact (q.lst e2).elim
  · refine ⟨fun c o e nt na => ?_, fun c ps e => by
      obtain ⟨ps', z⟩ := r.fr.tn c ps e
      exact t.tn c ps' z, r.fr.t0, t.tb⟩
    have ne : c ≠ a := fun z => by subst z; rw [h4] at e; cases e
    exact t.fr c o (r.fr.fr c o e nt na) nt (away c ne)
  · intro c e
    rcases t.nw c e with q | q
    · exact r.nw c q
    · exact .inr (r.newN q)
end
section
variable {X : Cx} {x : Str} {ps : List Str} {m : Fsem} {k j : Nat} {p pos : Pos} {e : Expr} {fe : M R}
theorem Fo.call1 (h : Fo X.prog X.w X.K X.mg X.base x ps m j) (hgd : X.A.guards = some []) (hr : Room k X.A) (hj : j ≤ k) (hg : Gl X x) (hn : 1 = ps.length) (he : PEd X e fe)
    (hdb : (x == ("__debug__" : Str)) = false := by decide) (hs : starEach [e] X.env = (false, eval e X.env) :: starEach [] X.env := by rfl) (hpl : (backTo pos (starEach [] X.env)).any (·.1) = false := by rfl) :
    PEd X (.Call (.Name x p) [e] [] pos) (callF m fe) := by
  obtain ⟨f, fd, G, hm, hk, hb⟩ := h
  intro F
  refine PE.mono (pe_callG G hgd (hr.mono hj) hg hm hk hb (pass0 (X := X)) (pa_cons (he F) pa_nil hs) hdb hs hpl) fun σ H Q hq => ?_
  obtain ⟨ς, G, rl, r, ς', e', kq⟩ := hq
  obtain ⟨r0, ς1, e1, q1⟩ := bd_some e'
  refine ⟨ς, G, rl, r0, ς1, e1, fun v H1 G1 rl1 s1 rep => ?_⟩
  cases r0 with
  | fresh ds =>
    replace q1 : finF (m [.own true ds]) ς1 = some (r, ς') := q1
    unfold finF at q1
    split at q1
    · cases q1
    · rename_i r' outs hne q3
      cases q1
      refine ⟨[.own true ds], G1, hn, args1 rl1 rep, r, outs, q3, fun u H' G' t => kq u H' G' (rl1.called1 rep t) (s1.trans t.same) ?_⟩
      cases r with
      | pure d => exact t.rep
      | vx x =>
        cases x with
        | exc nm d => exact t.rep
        | odc kvs =>
          obtain ⟨a, o, rfl, h1, h2, h3, h4, hp⟩ := t.rep
          refine ⟨a, o, rfl, h1, h2, h3, rl1.new h4, hp, fun i kws z1 z2 => ?_⟩
          obtain ⟨a', _, f1, f2, _⟩ := rl1.od i kws z1
          rw [z2] at f1; cases f1
          rw [h4] at f2; cases f2
      | ref i => exact t.rep.elim
      | fresh es =>
        obtain ⟨a, xs, rfl, h1, h2, h3, h4⟩ := t.rep
        refine ⟨a, xs, rfl, h1, h2, h3, rl1.new h4, fun i b es' z1 z2 => ?_⟩
        obtain ⟨a', _, f1, f2, _⟩ := rl1.ow i b es' z1
        rw [z2] at f1; cases f1
        rw [h4] at f2; cases f2
    · cases q1
  | _ => cases q1
end
theorem walk_GE {l : PySem.W.OpenLaw} {n k : Nat} {q : Program} {loose : List Str} {XP : (Str → Option Value) → Heap → Prop} {YP : World → Heap → Prop} {d : DefRec} {x : Str}
    (hn : l.most = some n) (hn2 : n ≤ sizeLine) (hdf : d.params.defaults = []) (hr : Room k callerA)
    (F : ∀ (w : World) (mg : Str → Option Value) (fa : Addr) (h : Heap), YP w h → h.Ns mainGlobals mg → mg d.name = some (.ref fa) →
      ∃ (K : PySem.W.Frag) (fd : FuncData) (sp : Sp), K.In h ∧ TabsAt0 K h ∧ (∀ (s : Shared) (u : Value), BindsTo s fd ⟨[u], []⟩ [(x, u)]) ∧
        (∀ (H : Hp) (a : Addr) (ns : List Int), ns.length ≤ n → (∀ z ∈ ns, Builtin.Int.intBits z ≤ 1048576) → LamG (tabsOf K) (noT H) H → SqL K H a (ns.map V.int) → sp [.ref a] H (fun v _ => v = .bl true) fun _ _ _ => False) ∧
        ∀ base : Heap, K.In base → base.Ns mainGlobals mg → (∀ q ∈ csOf K, LamX.TabB base mg q.1 q.2) → FnG l.prog w K mg base CX0 k fa fd [x] sp) :
    PySem.W.WalkO q loose XP YP l.row.toRowW d [] (fun f vs => PySem.call f vs) := by
  refine Att.attach_callB hn hdf (fun w s₀ s₁ mg mb fa o pm cd doc a vs ns G Y ho hd hcd hmg hobj hints hlen hbits hg => ?_)
  obtain ⟨K, fd, sp, KX, T0, hb, hsp, hF⟩ := F w mg fa _ Y G.T.g hmg
  exact law_go KX G.T.g G.T.b G.T.builtins G.T.nolimit hg T0 G.T.bmain hobj hints (Nat.le_trans hlen hn2) hr hF hb (fun H hT hS => hsp H a ns hlen hbits hT hS)
end Lw
namespace Lw
open PySem PySem.Spec PyProof.Rows L2
/-! ### what a program over the state is worth -/
def wp {α : Type} (f : M α) (ς : En) (Q : α → En → Prop) : Prop := ∃ a ς', f ς = some (a, ς') ∧ Q a ς'
def wps (g : MS) (ς : En) (Q : Out → Prop) : Prop := ∃ o, g ς = some o ∧ Q o
def wpf (m : Fsem) (ss : List S) (Q : R → List S → Prop) : Prop := ∃ r o, m ss = some (r, o) ∧ Q r o
namespace Sm
section
variable {α β : Type} {ς : En} {i : Nat} {d : D} {ds : List D} {b : Bool}
theorem mono {f : M α} {Q Q' : α → En → Prop} (h : wp f ς Q) (k : ∀ a ς', Q a ς' → Q' a ς') : wp f ς Q' := by
  obtain ⟨a, ς', e, q⟩ := h; exact ⟨a, ς', e, k _ _ q⟩
theorem fmono {m : Fsem} {ss : List S} {Q Q' : R → List S → Prop} (h : wpf m ss Q) (k : ∀ r o, Q r o → Q' r o) : wpf m ss Q' := by
  obtain ⟨r, o, e, q⟩ := h; exact ⟨r, o, e, k _ _ q⟩
theorem ret {a : α} {Q : α → En → Prop} (h : Q a ς) : wp (Lw.ret a) ς Q := ⟨a, ς, rfl, h⟩
theorem bd {f : M α} {g : α → M β} {Q : β → En → Prop} (h : wp f ς fun a ς' => wp (g a) ς' Q) : wp (Lw.bd f g) ς Q := by
  obtain ⟨a, ς', e, a2, ς2, e2, q⟩ := h
  exact ⟨a2, ς2, by unfold Lw.bd; rw [e]; exact e2, q⟩
theorem cn {Q : R → En → Prop} (h : Q (.pure d) ς) : wp (Lw.cn d) ς Q := ⟨_, ς, rfl, h⟩
theorem vrP {Q : R → En → Prop} (e : ς[i]? = some (some (.pure d))) (h : Q (.pure d) ς) : wp (vr i) ς Q := ⟨_, ς, by unfold vr; rw [e], h⟩
theorem vrO {Q : R → En → Prop} (e : ς[i]? = some (some (.own b ds))) (h : Q (.ref i) ς) : wp (vr i) ς Q := ⟨_, ς, by unfold vr; rw [e], h⟩
theorem lift {o : Option α} {a : α} {Q : α → En → Prop} (e : o = some a) (h : Q a ς) : wp (Lw.lift o) ς Q := ⟨a, ς, by unfold Lw.lift; rw [e], h⟩
theorem rd {r : R} {Q : D → En → Prop} (e : rdD r ς = some d) (h : Q d ς) : wp (Lw.rd r) ς Q := ⟨d, ς, by unfold Lw.rd; rw [e], h⟩
/-- a value that is read at once -/
def nf : R → R
  | .fresh ds => .pure (.list ds)
  | .vx (.odc kvs) => .pure (.dict kvs)
  | r => r
theorem rd_nf {r : R} {ς : En} {d : D} (h : rdD r ς = some d) : rdD (nf r) ς = some d := by
  cases r with
  | vx x => cases h
  | _ => exact h
theorem sub {f : M R} {Q : R → En → Prop} (h : wp f ς fun r ς' => Q (nf r) ς') : wp (Lw.sub f) ς Q := by
  refine bd (mono h fun r ς' q => ?_)
  cases r with
  | vx x => cases x <;> exact ret q
  | _ => exact ret q
theorem op2 {g : D → D → Option R} {fa fb : M R} {Q : R → En → Prop} (h : wp fa ς fun a ς1 => wp fb ς1 fun b ς2 => ∃ x y r, rdD a ς2 = some x ∧ rdD b ς2 = some y ∧ g x y = some r ∧ Q r ς2) : wp (Lw.op2 g fa fb) ς Q := by
  refine bd (sub (mono h fun a ς1 h => bd (sub (mono h fun b ς2 h => ?_))))
  obtain ⟨x, y, r, e1, e2, e3, q⟩ := h
  exact bd (rd (rd_nf e1) (bd (rd (rd_nf e2) (lift e3 q))))
theorem cal1 {g : D → Option R} {fa : M R} {Q : R → En → Prop} (h : wp fa ς fun a ς1 => ∃ x r, rdD a ς1 = some x ∧ g x = some r ∧ Q r ς1) : wp (Lw.cal1 g fa) ς Q := by
  refine bd (sub (mono h fun a ς1 h => ?_))
  obtain ⟨x, r, e1, e3, q⟩ := h
  exact bd (rd (rd_nf e1) (lift e3 q))
theorem isE {ts : List Tn} {fa : M R} {Q : R → En → Prop} (h : wp fa ς fun a ς1 => ∃ x, rdD a ς1 = some x ∧ Q (.pure (.bool (ts.any fun t => isD t x))) ς1) : wp (Lw.isE fa ts) ς Q := by
  refine bd (sub (mono h fun a ς1 h => ?_))
  obtain ⟨x, e1, q⟩ := h
  exact bd (rd (rd_nf e1) (ret q))
theorem esc {f : M R} {Q : D → En → Prop} (h : wp f ς fun r ς1 => ∃ d ς2, toD r ς1 = some (d, ς2) ∧ Q d ς2) : wp (Lw.esc f) ς Q := by
  refine bd (mono h fun r ς1 h => ?_)
  obtain ⟨d, ς2, e, q⟩ := h
  exact ⟨d, ς2, e, q⟩
theorem tst {f : M R} {Q : Bool → En → Prop} (h : wp f ς fun r ς1 => ∃ b, rdD r ς1 = some (.bool b) ∧ Q b ς1) : wp (Lw.tst f) ς Q := by
  refine bd (sub (mono h fun a ς1 h => ?_))
  obtain ⟨x, e1, q⟩ := h
  exact bd (rd (rd_nf e1) (lift rfl q))
theorem tru {f : M R} {Q : Bool → En → Prop} (h : wp f ς fun r ς1 => ∃ d b, rdD r ς1 = some d ∧ truD d = some b ∧ Q b ς1) : wp (Lw.tru f) ς Q := by
  refine bd (sub (mono h fun a ς1 h => ?_))
  obtain ⟨x, b, e1, e2, q⟩ := h
  exact bd (rd (rd_nf e1) (lift e2 q))
theorem andT {ta tb : M Bool} {Q : Bool → En → Prop} (h : wp ta ς fun b ς1 => if b = true then wp tb ς1 Q else Q false ς1) : wp (Lw.andT ta tb) ς Q := by
  refine bd (mono h fun b ς1 h => ?_)
  cases b
  · rw [if_neg (by decide)] at h ⊢; exact ret h
  · rw [if_pos rfl] at h ⊢; exact h
theorem orT {ta tb : M Bool} {Q : Bool → En → Prop} (h : wp ta ς fun b ς1 => if b = true then Q true ς1 else wp tb ς1 Q) : wp (Lw.orT ta tb) ς Q := by
  refine bd (mono h fun b ς1 h => ?_)
  cases b
  · rw [if_neg (by decide)] at h ⊢; exact h
  · rw [if_pos rfl] at h ⊢; exact ret h
theorem notT {ta : M Bool} {Q : Bool → En → Prop} (h : wp ta ς fun b ς1 => Q (!b) ς1) : wp (Lw.notT ta) ς Q := bd (mono h fun b ς1 h => ret h)
theorem andV {fa fb : M R} {Q : R → En → Prop} (h : wp fa ς fun r ς1 => ∃ b, rdD r ς1 = some (.bool b) ∧ if b = true then wp fb ς1 Q else Q (.pure (.bool false)) ς1) : wp (Lw.andV fa fb) ς Q := by
  refine bd (sub (mono h fun a ς1 h => ?_))
  obtain ⟨b, e1, q⟩ := h
  refine bd (rd (rd_nf e1) (bd (lift rfl ?_)))
  cases b
  · rw [if_neg (by decide)] at q ⊢; exact ret q
  · rw [if_pos rfl] at q ⊢; exact q
theorem orV {fa fb : M R} {Q : R → En → Prop} (h : wp fa ς fun r ς1 => ∃ b, rdD r ς1 = some (.bool b) ∧ if b = true then Q (.pure (.bool true)) ς1 else wp fb ς1 Q) : wp (Lw.orV fa fb) ς Q := by
  refine bd (sub (mono h fun a ς1 h => ?_))
  obtain ⟨b, e1, q⟩ := h
  refine bd (rd (rd_nf e1) (bd (lift rfl ?_)))
  cases b
  · rw [if_neg (by decide)] at q ⊢; exact q
  · rw [if_pos rfl] at q ⊢; exact ret q
theorem notV {fa : M R} {Q : R → En → Prop} (h : wp fa ς fun r ς1 => ∃ b, rdD r ς1 = some (.bool b) ∧ Q (.pure (.bool !b)) ς1) : wp (Lw.notV fa) ς Q := by
  refine bd (sub (mono h fun a ς1 h => ?_))
  obtain ⟨b, e1, q⟩ := h
  exact bd (rd (rd_nf e1) (bd (lift rfl (ret q))))
theorem negV {fa : M R} {Q : R → En → Prop} (h : wp fa ς fun r ς1 => ∃ i, rdD r ς1 = some (.int i) ∧ Q (.pure (.int (-i))) ς1) : wp (Lw.negV fa) ς Q := by
  refine bd (sub (mono h fun a ς1 h => ?_))
  obtain ⟨b, e1, q⟩ := h
  exact bd (rd (rd_nf e1) (lift rfl q))
theorem ife {t : M Bool} {fa fb : M R} {Q : R → En → Prop} (h : wp t ς fun b ς1 => if b = true then wp fa ς1 Q else wp fb ς1 Q) : wp (Lw.ife t fa fb) ς Q := by
  refine bd (mono h fun b ς1 h => ?_)
  cases b
  · rw [if_neg (by decide)] at h ⊢; exact h
  · rw [if_pos rfl] at h ⊢; exact h
theorem chn {g g' : D → D → Option R} {fa fb fc : M R} {Q : R → En → Prop} (h : wp fa ς fun a ς1 => wp fb ς1 fun b ς2 => ∃ x y k, rdD a ς2 = some x ∧ rdD b ς2 = some y ∧ g x y = some (.pure (.bool k)) ∧
    if k = true then wp fc ς2 fun c ς3 => ∃ y z r, rdD b ς3 = some y ∧ rdD c ς3 = some z ∧ g' y z = some r ∧ Q r ς3 else Q (.pure (.bool false)) ς2) : wp (Lw.chn g g' fa fb fc) ς Q := by
  refine bd (sub (mono h fun a ς1 h => bd (sub (mono h fun b ς2 h => ?_))))
  obtain ⟨x, y, k, e1, e2, e3, q⟩ := h
  refine bd (rd (rd_nf e1) (bd (rd (rd_nf e2) (bd (lift e3 (bd (lift rfl ?_)))))))
  cases k
  · rw [if_neg (by decide)] at q ⊢; exact ret q
  · rw [if_pos rfl] at q ⊢
    refine bd (sub (mono q fun c ς3 h => ?_))
    obtain ⟨y, z, r, e1, e2, e3, q⟩ := h
    exact bd (rd (rd_nf e1) (bd (rd (rd_nf e2) (lift e3 q))))
theorem argN {Q : List Ar → En → Prop} (h : Q [] ς) : wp Lw.argN ς Q := ret h
theorem argV {f : M R} {g : M (List Ar)} {Q : List Ar → En → Prop} (h : wp f ς fun r ς1 => ∃ d ς2, toD r ς1 = some (d, ς2) ∧ wp g ς2 fun as ς3 => Q (.val d :: as) ς3) : wp (Lw.argV f g) ς Q :=
  bd (esc (mono h fun r ς1 ⟨d, ς2, e, q⟩ => ⟨d, ς2, e, bd (mono q fun as ς3 q => ret q)⟩))
theorem argR {f : M R} {g : M (List Ar)} {Q : List Ar → En → Prop} (h : wp f ς fun r ς1 => ∃ i, r = .ref i ∧ wp g ς1 fun as ς3 => Q (.ref i :: as) ς3) : wp (Lw.argR f g) ς Q := by
  refine bd (mono h fun r ς1 h => ?_)
  obtain ⟨i, rfl, q⟩ := h
  exact bd (mono q fun as ς3 q => ret q)
theorem tupE {g : M (List Ar)} {Q : R → En → Prop} (h : wp g ς fun as ς1 => ∃ ds, vals as = some ds ∧ ds.length ≤ sizeLine ∧ Q (.pure (.tuple ds)) ς1) : wp (Lw.tupE g) ς Q := by
  refine bd (mono h fun as ς1 h => ?_)
  obtain ⟨ds, e, hs, q⟩ := h
  refine bd (lift e ?_)
  rw [if_pos (show small ds.length = true from decide_eq_true hs)]
  exact ret q
theorem lstE {g : M (List Ar)} {Q : R → En → Prop} (h : wp g ς fun as ς1 => ∃ ds, vals as = some ds ∧ ds.length ≤ sizeLine ∧ Q (.fresh ds) ς1) : wp (Lw.lstE g) ς Q := by
  refine bd (mono h fun as ς1 h => ?_)
  obtain ⟨ds, e, hs, q⟩ := h
  refine bd (lift e ?_)
  rw [if_pos (show small ds.length = true from decide_eq_true hs)]
  exact ret q
theorem callE {m : Fsem} {g : M (List Ar)} {Q : R → En → Prop} (h : wp g ς fun as ς1 => ∃ ss, argS as ς1 = some ss ∧ (refsOf as).Nodup ∧ wpf m ss fun r outs => (∀ i, r ≠ .ref i) ∧ Q r (putBack as outs ς1)) : wp (Lw.callE m g) ς Q := by
  refine bd (mono h fun as ς1 h => ?_)
  obtain ⟨ss, e, nd, r, outs, e2, hr, q⟩ := h
  refine ⟨r, putBack as outs ς1, ?_, q⟩
  simp only [e, e2]
  cases r with
  | ref i => exact absurd rfl (hr i)
  | pure d => exact if_pos nd
  | vx x => exact if_pos nd
  | fresh ds => exact if_pos nd
theorem callF {m : Fsem} {fe : M R} {Q : R → En → Prop} (h : wp fe ς fun r ς1 => ∃ ds, r = .fresh ds ∧ wpf m [.own true ds] fun r outs => (∀ i, r ≠ .ref i) ∧ Q r ς1) : wp (Lw.callF m fe) ς Q := by
  refine bd (mono h fun r ς1 h => ?_)
  obtain ⟨ds, rfl, r, outs, e2, hr, q⟩ := h
  refine ⟨r, ς1, ?_, q⟩
  show finF (m [.own true ds]) ς1 = _
  rw [e2]
  cases r with
  | ref i => exact absurd rfl (hr i)
  | pure d => rfl
  | vx x => rfl
  | fresh ds => rfl
theorem ptN {Q : Option Int → En → Prop} (h : Q none ς) : wp Lw.ptN ς Q := ret h
theorem ptS {f : M R} {Q : Option Int → En → Prop} (h : wp f ς fun r ς1 => ∃ i, rdD r ς1 = some (.int i) ∧ Q (some i) ς1) : wp (Lw.ptS f) ς Q := by
  refine bd (sub (mono h fun a ς1 h => ?_))
  obtain ⟨b, e1, q⟩ := h
  exact bd (rd (rd_nf e1) (lift rfl q))
theorem slE {fa : M R} {fl fh : M (Option Int)} {Q : R → En → Prop} (h : wp fa ς fun a ς1 => wp fl ς1 fun l ς2 => wp fh ς2 fun u ς3 => ∃ x r, rdD a ς3 = some x ∧ gSl x l u = some r ∧ Q r ς3) : wp (Lw.slE fa fl fh) ς Q := by
  refine bd (sub (mono h fun a ς1 h => bd (mono h fun l ς2 h => bd (mono h fun u ς3 h => ?_))))
  obtain ⟨x, r, e1, e2, q⟩ := h
  exact bd (rd (rd_nf e1) (lift e2 q))
theorem revE {fa : M R} {Q : R → En → Prop} (h : wp fa ς fun a ς1 => ∃ ds, rdD a ς1 = some (.list ds) ∧ Q (.fresh ds.reverse) ς1) : wp (Lw.revE fa) ς Q := by
  refine bd (sub (mono h fun a ς1 h => ?_))
  obtain ⟨ds, e1, q⟩ := h
  exact bd (rd (rd_nf e1) (lift rfl q))
theorem mth {hh : List D → List D → Option (D × List D)} {fo : M R} {ga : M (List Ar)} {Q : R → En → Prop} (h : wp fo ς fun r ς1 => ∃ i b ds, r = .ref i ∧ ς1[i]? = some (some (.own b ds)) ∧ wp ga ς1 fun as ς2 => ∃ ws b ds d ds', vals as = some ws ∧ ς2[i]? = some (some (.own b ds)) ∧ hh ds ws = some (d, ds') ∧ Q (.pure d) (ς2.set i (some (.own b ds')))) : wp (Lw.mth hh fo ga) ς Q := by
  refine bd (mono h fun r ς1 h => ?_)
  obtain ⟨i, b, ds, rfl, e, h⟩ := h
  refine bd ⟨(), ς1, by unfold isOwn; rw [e], bd (mono h fun as ς2 h => ?_)⟩
  obtain ⟨ws, b, ds, d, ds', e1, e2, e3, q⟩ := h
  refine bd (lift e1 ⟨_, _, ?_, q⟩)
  simp only [e2, e3]
/-- iterables -/
theorem itS {f : M R} {Q : List D → En → Prop} (h : wp f ς fun r ς1 => ∃ d ς2 ds, toD r ς1 = some (d, ς2) ∧ items d = some ds ∧ Q ds ς2) : wp (Lw.itS f) ς Q :=
  bd (esc (mono h fun r ς1 ⟨d, ς2, ds, e, e2, q⟩ => ⟨d, ς2, e, lift e2 q⟩))
theorem itR1 {f : M R} {Q : List D → En → Prop} (h : wp f ς fun r ς1 => ∃ n, rdD r ς1 = some (.int n) ∧ inR n = true ∧ Q (rngD 0 n.toNat) ς1) : wp (Lw.itR1 f) ς Q := by
  refine bd (sub (mono h fun a ς1 h => ?_))
  obtain ⟨n, e1, e2, q⟩ := h
  refine bd (rd (rd_nf e1) ?_)
  show wp (if inR n = true then Lw.ret (rngD 0 n.toNat) else Lw.lift none) ς1 Q
  rw [if_pos e2]
  exact ret q
theorem itR2 {fa fb : M R} {Q : List D → En → Prop} (h : wp fa ς fun r ς1 => wp fb ς1 fun r2 ς2 => ∃ m n, rdD r ς2 = some (.int m) ∧ rdD r2 ς2 = some (.int n) ∧ inR m = true ∧ inR n = true ∧ Q (rngD m (n - m).toNat) ς2) : wp (Lw.itR2 fa fb) ς Q := by
  refine bd (sub (mono h fun a ς1 h => bd (sub (mono h fun b ς2 h => ?_))))
  obtain ⟨m, n, e1, e2, h1, h2, q⟩ := h
  refine bd (rd (rd_nf e1) (bd (rd (rd_nf e2) ?_)))
  show wp (if inR m = true ∧ inR n = true then Lw.ret (rngD m (n - m).toNat) else Lw.lift none) ς2 Q
  rw [if_pos ⟨h1, h2⟩]
  exact ret q
theorem itE {f : M R} {Q : List D → En → Prop} (h : wp f ς fun r ς1 => ∃ ds ς2, toD r ς1 = some (.list ds, ς2) ∧ Q (enumD 0 ds) ς2) : wp (Lw.itE f) ς Q :=
  bd (esc (mono h fun r ς1 ⟨ds, ς2, e, q⟩ => ⟨_, ς2, e, ret q⟩))
theorem itZ {fa fb : M R} {Q : List D → En → Prop} (h : wp fa ς fun r ς1 => ∃ d ς2, toD r ς1 = some (d, ς2) ∧ wp fb ς2 fun r2 ς3 => ∃ d2 ς4 xs ys, toD r2 ς3 = some (d2, ς4) ∧ ((d = .list xs ∧ d2 = .list ys) ∨ (d = .tuple xs ∧ d2 = .tuple ys)) ∧ Q (zipD xs ys) ς4) : wp (Lw.itZ fa fb) ς Q := by
  refine bd (esc (mono h fun r ς1 h => ?_))
  obtain ⟨d, ς2, e, h⟩ := h
  refine ⟨d, ς2, e, bd (esc (mono h fun r2 ς3 h => ?_))⟩
  obtain ⟨d2, ς4, xs, ys, e2, h, q⟩ := h
  refine ⟨d2, ς4, e2, ?_⟩
  rcases h with ⟨rfl, rfl⟩ | ⟨rfl, rfl⟩ <;> exact ret q
/-- comprehensions -/
theorem lcE {fi : M (List D)} {vs : List Nat} {tg : Tg} {tt : M Bool} {fe : M R} {Q : R → En → Prop}
    (h : wp fi ς fun ds ς1 => freeAll ς1 vs = true ∧ ∃ acc ς2, lcLoop vs tg tt fe ds [] (wipeE ς1 vs) = some (acc, ς2) ∧ Q (.fresh acc) ς2) : wp (Lw.lcE fi vs tg tt fe) ς Q := by
  obtain ⟨ds, ς1, e, hf, acc, ς2, e2, q⟩ := h
  refine ⟨_, ς2, ?_, q⟩
  unfold Lw.lcE
  simp only [e, e2]
  rw [if_pos hf]
theorem lcInv {vs : List Nat} {tg : Tg} {fe : M R} {ds : List D} {Q : List D → En → Prop} (I : Nat → List D → En → Prop) (h0 : I 0 [] ς) (hlen : ds.length ≤ sizeLine)
    (hs : ∀ (i : Nat) d acc ς, ds[i]? = some d → acc.length = i → I i acc ς → ∃ ς1, tg d ς = some ς1 ∧ wp fe ς1 fun r ς2 => ∃ y ς3, toD r ς2 = some (y, ς3) ∧ freeAll ς3 vs = true ∧ I (i + 1) (acc ++ [y]) (wipeE ς3 vs))
    (hd : ∀ acc ς, acc.length = ds.length → I ds.length acc ς → Q acc ς) : ∃ acc ς2, lcLoop vs tg (Lw.ret true) fe ds [] ς = some (acc, ς2) ∧ Q acc ς2 := by
  have main : ∀ (n i : Nat) (acc : List D) (ς : En), n = ds.length - i → i ≤ ds.length → acc.length = i → I i acc ς → ∃ acc' ς2, lcLoop vs tg (Lw.ret true) fe (ds.drop i) acc ς = some (acc', ς2) ∧ Q acc' ς2 := by
    intro n
    induction n with
    | zero =>
      intro i acc ς hn hi ha hI
      have : i = ds.length := by omega
      subst this
      rw [List.drop_length]
      exact ⟨acc, ς, rfl, hd acc ς ha hI⟩
    | succ n ih =>
      intro i acc ς hn hi ha hI
      have hlt : i < ds.length := by omega
      rw [List.drop_eq_getElem_cons hlt]
      obtain ⟨ς1, e1, r, ς2, e2, y, ς3, e3, hf, hI'⟩ := hs i _ acc ς (List.getElem?_eq_getElem hlt) ha hI
      obtain ⟨acc', ς4, e4, q⟩ := ih (i + 1) (acc ++ [y]) (wipeE ς3 vs) (by omega) hlt (by simp [ha]) hI'
      refine ⟨acc', ς4, ?_, q⟩
      rw [lcLoop]
      have ee : Lw.esc fe ς1 = some (y, ς3) := by unfold Lw.esc Lw.bd; rw [e2]; exact e3
      simp only [e1, Lw.ret, ee]
      rw [if_pos ⟨hf, by omega⟩]
      exact e4
  have := main ds.length 0 [] ς (by omega) (by omega) rfl h0
  rw [List.drop_zero] at this
  exact this
end
section
variable {ς : En} {Q : Out → Prop} {g g1 g2 : MS} {f : M R}
theorem skip (h : Q (.nx ς)) : wps Lw.skip ς Q := ⟨_, rfl, h⟩
def andThen (g : MS) (Q : Out → Prop) : Out → Prop
  | .nx ς => wps g ς Q
  | o => Q o
theorem sq (h : wps g1 ς (andThen g2 Q)) : wps (Lw.sq g1 g2) ς Q := by
  obtain ⟨o, e, q⟩ := h
  cases o with
  | nx ς1 => obtain ⟨o2, e2, q2⟩ := q; exact ⟨o2, by unfold Lw.sq; rw [e]; exact e2, q2⟩
  | rt r ς1 => exact ⟨_, by unfold Lw.sq; rw [e], q⟩
  | bk ς1 => exact ⟨_, by unfold Lw.sq; rw [e], q⟩
  | ct ς1 => exact ⟨_, by unfold Lw.sq; rw [e], q⟩
theorem asg {tg : Tg} (h : wp f ς fun r ς1 => ∃ d ς2 ς3, toD r ς1 = some (d, ς2) ∧ tg d ς2 = some ς3 ∧ Q (.nx ς3)) : wps (Lw.asg f tg) ς Q := by
  obtain ⟨r, ς1, e, d, ς2, ς3, e2, e3, q⟩ := h
  refine ⟨.nx ς3, ?_, q⟩
  have ee : Lw.esc f ς = some (d, ς2) := by unfold Lw.esc Lw.bd; rw [e]; exact e2
  unfold Lw.asg
  simp only [ee, e3]
theorem asgO {i : Nat} (h : wp f ς fun r ς1 => ∃ ds, r = .fresh ds ∧ free ς1 i = true ∧ Q (.nx (ς1.set i (some (.own false ds))))) : wps (Lw.asgO i f) ς Q := by
  obtain ⟨r, ς1, e, ds, rfl, hf, q⟩ := h
  exact ⟨_, by unfold Lw.asgO; rw [e]; exact if_pos hf, q⟩
theorem exS (h : wp f ς fun _ ς1 => Q (.nx ς1)) : wps (Lw.exS f) ς Q := by
  obtain ⟨r, ς1, e, q⟩ := h
  exact ⟨_, by unfold Lw.exS; rw [e], q⟩
/-- what is handed back -/
def outR (Q : Out → Prop) : R → En → Prop
  | .pure d, ς => Q (.rt (.pure d) ς)
  | .fresh ds, ς => Q (.rt (.fresh ds) ς)
  | .vx x, ς => Q (.rt (.vx x) ς)
  | .ref i, ς => (∃ ds, ς[i]? = some (some (.own false ds)) ∧ Q (.rt (.fresh ds) (ς.set i none))) ∨ (∃ d, ς[i]? = some (some (.pure d)) ∧ Q (.rt (.pure d) ς)) ∨
      ∃ kvs, ς[i]? = some (some (.vx (.odc kvs))) ∧ parO kvs = false ∧ Q (.rt (.vx (.odc kvs)) (ς.set i none))
theorem retS (h : wp f ς (outR Q)) : wps (Lw.retS f) ς Q := by
  obtain ⟨r, ς1, e, q⟩ := h
  unfold wps Lw.retS
  rw [e]
  cases r with
  | pure d => exact ⟨_, rfl, q⟩
  | fresh ds => exact ⟨_, rfl, q⟩
  | ref i =>
    rcases q with ⟨ds, e2, q⟩ | ⟨d, e2, q⟩ | ⟨d, e2, e3, q⟩
    · exact ⟨_, by simp only [e2], q⟩
    · exact ⟨_, by simp only [e2], q⟩
    · exact ⟨_, by simp only [e2, e3]; rfl, q⟩
  | vx x => exact ⟨_, rfl, q⟩
theorem ifS {t : M Bool} (h : wp t ς fun b ς1 => if b = true then wps g1 ς1 Q else wps g2 ς1 Q) : wps (Lw.ifS t g1 g2) ς Q := by
  obtain ⟨b, ς1, e, q⟩ := h
  unfold wps Lw.ifS
  rw [e]
  cases b
  · rw [if_neg (by decide)] at q; exact q
  · rw [if_pos rfl] at q; exact q
theorem forS {fi : M (List D)} {tg : Tg} (h : wp fi ς fun ds ς1 => wps (loop tg g ds) ς1 Q) : wps (Lw.forS fi tg g) ς Q := by
  obtain ⟨ds, ς1, e, o, e2, q⟩ := h
  exact ⟨o, by unfold Lw.forS; rw [e]; exact e2, q⟩
theorem loopInv {tg : Tg} {ds : List D} (I : Nat → En → Prop) (h0 : I 0 ς)
    (hs : ∀ (i : Nat) d ς, ds[i]? = some d → I i ς → ∃ ς1, tg d ς = some ς1 ∧ wps g ς1 fun o => match o with | .nx ς2 => I (i + 1) ς2 | .ct ς2 => I (i + 1) ς2 | .bk ς2 => Q (.nx ς2) | .rt r ς2 => Q (.rt r ς2))
    (hd : ∀ ς, I ds.length ς → Q (.nx ς)) : wps (loop tg g ds) ς Q := by
  have main : ∀ (n i : Nat) (ς : En), n = ds.length - i → i ≤ ds.length → I i ς → wps (loop tg g (ds.drop i)) ς Q := by
    intro n
    induction n with
    | zero =>
      intro i ς hn hi hI
      have : i = ds.length := by omega
      subst this
      rw [List.drop_length]
      exact ⟨_, rfl, hd ς hI⟩
    | succ n ih =>
      intro i ς hn hi hI
      have hlt : i < ds.length := by omega
      rw [List.drop_eq_getElem_cons hlt]
      obtain ⟨ς1, e1, o, e2, q⟩ := hs i _ ς (List.getElem?_eq_getElem hlt) hI
      unfold wps
      rw [loop]
      simp only [e1, e2]
      cases o with
      | nx ς2 => exact ih (i + 1) ς2 (by omega) hlt q
      | ct ς2 => exact ih (i + 1) ς2 (by omega) hlt q
      | bk ς2 => exact ⟨_, rfl, q⟩
      | rt r ς2 => exact ⟨_, rfl, q⟩
  have := main ds.length 0 ς (by omega) (by omega) h0
  rw [List.drop_zero] at this
  exact this
theorem par2 {i j : Nat} {o1 o2 : Bool} {fa fb : M R} (h : wp (pv' o1 fa) ς fun x ς1 => wp (pv' o2 fb) ς1 fun y ς2 => ∃ s t, put i x = some s ∧ put j y = some t ∧ (free ς2 i = true ∧ free (ς2.set i s) j = true ∧ i ≠ j) ∧ Q (.nx ((ς2.set i s).set j t))) : wps (Lw.par2 i j o1 o2 fa fb) ς Q := by
  obtain ⟨x, ς1, e1, y, ς2, e2, s, t, p1, p2, hf, q⟩ := h
  refine ⟨_, ?_, q⟩
  unfold Lw.par2
  have : Lw.bd (pv' o1 fa) (fun x => Lw.bd (pv' o2 fb) fun y => Lw.ret (x, y)) ς = some ((x, y), ς2) := by
    unfold Lw.bd
    rw [e1]
    simp only [e2, Lw.ret]
  rw [this]
  simp only [p1, p2]
  rw [if_pos hf]
theorem pvF {f : M R} {Q : R → En → Prop} (h : wp f ς fun r ς1 => ∃ d ς2, toD r ς1 = some (d, ς2) ∧ Q (.pure d) ς2) : wp (pv' false f) ς Q := by
  show wp (Lw.bd (Lw.esc f) fun d => Lw.ret (.pure d)) ς Q
  exact bd (esc (mono h fun r ς1 ⟨d, ς2, e, q⟩ => ⟨d, ς2, e, ret q⟩))
theorem pvT {f : M R} {Q : R → En → Prop} (h : wp f ς Q) : wp (pv' true f) ς Q := h
theorem par3 {i j l : Nat} {fa fb fc : M R} (h : wp fa ς fun a ς1 => ∃ x ς1', toD a ς1 = some (x, ς1') ∧ wp fb ς1' fun b ς2 => ∃ y ς2', toD b ς2 = some (y, ς2') ∧ wp fc ς2' fun c ς3 => ∃ z ς3', toD c ς3 = some (z, ς3') ∧
    (free ς3' i = true ∧ free (ς3'.set i (some (.pure x))) j = true ∧ free ((ς3'.set i (some (.pure x))).set j (some (.pure y))) l = true) ∧ Q (.nx (((ς3'.set i (some (.pure x))).set j (some (.pure y))).set l (some (.pure z))))) : wps (Lw.par3 i j l fa fb fc) ς Q := by
  obtain ⟨a, ς1, e1, x, ς1', t1, b, ς2, e2, y, ς2', t2, c, ς3, e3, z, ς3', t3, hf, q⟩ := h
  refine ⟨_, ?_, q⟩
  unfold Lw.par3
  have h1 : Lw.esc fa ς = some (x, ς1') := by unfold Lw.esc Lw.bd; rw [e1]; exact t1
  have h2 : Lw.esc fb ς1' = some (y, ς2') := by unfold Lw.esc Lw.bd; rw [e2]; exact t2
  have h3 : Lw.esc fc ς2' = some (z, ς3') := by unfold Lw.esc Lw.bd; rw [e3]; exact t3
  have : Lw.bd (Lw.esc fa) (fun x => Lw.bd (Lw.esc fb) fun y => Lw.bd (Lw.esc fc) fun z => Lw.ret (x, y, z)) ς = some ((x, y, z), ς3') := by
    unfold Lw.bd
    rw [h1]
    simp only [h2, h3, Lw.ret]
  rw [this]
  simp only
  rw [if_pos hf]
/-- a def by its body -/
def outF (n : Nat) (Q : R → List S → Prop) : Out → Prop
  | .rt r ς => (∀ i, r ≠ .ref i) ∧ Q r (outsOf ς n)
  | .nx ς => Q (.pure .none) (outsOf ς n)
  | _ => False
theorem run {n : Nat} {ss : List S} {Q : R → List S → Prop} (h : wps g (ent n ss) (outF ss.length Q)) : wpf (runFn g n) ss Q := by
  obtain ⟨o, e, q⟩ := h
  unfold wpf runFn
  rw [e]
  cases o with
  | nx ς => exact ⟨_, _, rfl, q⟩
  | rt r ς =>
    cases r with
    | ref i => exact absurd rfl (q.1 i)
    | pure d => exact ⟨_, _, rfl, q.2⟩
    | vx x => exact ⟨_, _, rfl, q.2⟩
    | fresh ds => exact ⟨_, _, rfl, q.2⟩
  | bk ς => exact q.elim
  | ct ς => exact q.elim
theorem at_nx (h : wps g ς Q) : andThen g Q (.nx ς) := h
theorem at_rt {r : R} (h : Q (.rt r ς)) : andThen g Q (.rt r ς) := h
theorem oP {d : D} (h : Q (.rt (.pure d) ς)) : outR Q (.pure d) ς := h
theorem oF {ds : List D} (h : Q (.rt (.fresh ds) ς)) : outR Q (.fresh ds) ς := h
theorem oM {i : Nat} {ds : List D} (e : ς[i]? = some (some (.own false ds))) (h : Q (.rt (.fresh ds) (ς.set i none))) : outR Q (.ref i) ς := .inl ⟨ds, e, h⟩
theorem fP {n : Nat} {d : D} {Q : R → List S → Prop} (h : Q (.pure d) (outsOf ς n)) : outF n Q (.rt (.pure d) ς) := ⟨(fun i z => by cases z), h⟩
theorem fF {n : Nat} {ds : List D} {Q : R → List S → Prop} (h : Q (.fresh ds) (outsOf ς n)) : outF n Q (.rt (.fresh ds) ς) := ⟨(fun i z => by cases z), h⟩
end
end Sm
class Stp (G : Prop) (P : outParam Prop) : Prop where
  go : P → G
class Evl (e : Option R) (r : outParam R) : Prop where
  ev : e = some r
class Gd (G : Prop) : Prop where
  keep : G → G
class Gd5 (G : Prop) : Prop where
  keep : G → G
instance {a b : D} {x : Option R} : Gd (gMulA a b = x) := ⟨id⟩
instance {a b : D} {x : Option R} : Gd (gDivA a b = x) := ⟨id⟩
instance {a b : D} {x : Option R} : Gd (gDm a b = x) := ⟨id⟩
instance {i : Int} {b : Bool} : Gd (inR i = b) := ⟨id⟩
namespace Sm
section
variable {α β : Type} {ς : En} {i : Nat} {d : D} {ds : List D} {b : Bool}
instance stp_ret {a : α} {Q : α → En → Prop} : Stp (wp (Lw.ret a) ς Q) (Q a ς) := ⟨Sm.ret⟩
instance stp_cn {Q : R → En → Prop} : Stp (wp (Lw.cn d) ς Q) (Q (.pure d) ς) := ⟨Sm.cn⟩
instance stp_op2 {g : D → D → Option R} {fa fb : M R} {Q : R → En → Prop} : Stp (wp (Lw.op2 g fa fb) ς Q) (wp fa ς fun a ς1 => wp fb ς1 fun b ς2 => ∃ x y r, rdD a ς2 = some x ∧ rdD b ς2 = some y ∧ g x y = some r ∧ Q r ς2) := ⟨Sm.op2⟩
instance stp_cal1 {g : D → Option R} {fa : M R} {Q : R → En → Prop} : Stp (wp (Lw.cal1 g fa) ς Q) (wp fa ς fun a ς1 => ∃ x r, rdD a ς1 = some x ∧ g x = some r ∧ Q r ς1) := ⟨Sm.cal1⟩
instance stp_isE {ts : List Tn} {fa : M R} {Q : R → En → Prop} : Stp (wp (Lw.isE fa ts) ς Q) (wp fa ς fun a ς1 => ∃ x, rdD a ς1 = some x ∧ Q (.pure (.bool (ts.any fun t => isD t x))) ς1) := ⟨Sm.isE⟩
instance stp_esc {f : M R} {Q : D → En → Prop} : Stp (wp (Lw.esc f) ς Q) (wp f ς fun r ς1 => ∃ d ς2, toD r ς1 = some (d, ς2) ∧ Q d ς2) := ⟨Sm.esc⟩
instance stp_tst {f : M R} {Q : Bool → En → Prop} : Stp (wp (Lw.tst f) ς Q) (wp f ς fun r ς1 => ∃ b, rdD r ς1 = some (.bool b) ∧ Q b ς1) := ⟨Sm.tst⟩
instance stp_tru {f : M R} {Q : Bool → En → Prop} : Stp (wp (Lw.tru f) ς Q) (wp f ς fun r ς1 => ∃ d b, rdD r ς1 = some d ∧ truD d = some b ∧ Q b ς1) := ⟨Sm.tru⟩
instance stp_andT {ta tb : M Bool} {Q : Bool → En → Prop} : Stp (wp (Lw.andT ta tb) ς Q) (wp ta ς fun b ς1 => if b = true then wp tb ς1 Q else Q false ς1) := ⟨Sm.andT⟩
instance stp_orT {ta tb : M Bool} {Q : Bool → En → Prop} : Stp (wp (Lw.orT ta tb) ς Q) (wp ta ς fun b ς1 => if b = true then Q true ς1 else wp tb ς1 Q) := ⟨Sm.orT⟩
instance stp_notT {ta : M Bool} {Q : Bool → En → Prop} : Stp (wp (Lw.notT ta) ς Q) (wp ta ς fun b ς1 => Q (!b) ς1) := ⟨Sm.notT⟩
instance stp_andV {fa fb : M R} {Q : R → En → Prop} : Stp (wp (Lw.andV fa fb) ς Q) (wp fa ς fun r ς1 => ∃ b, rdD r ς1 = some (.bool b) ∧ if b = true then wp fb ς1 Q else Q (.pure (.bool false)) ς1) := ⟨Sm.andV⟩
instance stp_orV {fa fb : M R} {Q : R → En → Prop} : Stp (wp (Lw.orV fa fb) ς Q) (wp fa ς fun r ς1 => ∃ b, rdD r ς1 = some (.bool b) ∧ if b = true then Q (.pure (.bool true)) ς1 else wp fb ς1 Q) := ⟨Sm.orV⟩
instance stp_notV {fa : M R} {Q : R → En → Prop} : Stp (wp (Lw.notV fa) ς Q) (wp fa ς fun r ς1 => ∃ b, rdD r ς1 = some (.bool b) ∧ Q (.pure (.bool !b)) ς1) := ⟨Sm.notV⟩
instance stp_negV {fa : M R} {Q : R → En → Prop} : Stp (wp (Lw.negV fa) ς Q) (wp fa ς fun r ς1 => ∃ i, rdD r ς1 = some (.int i) ∧ Q (.pure (.int (-i))) ς1) := ⟨Sm.negV⟩
instance stp_ife {t : M Bool} {fa fb : M R} {Q : R → En → Prop} : Stp (wp (Lw.ife t fa fb) ς Q) (wp t ς fun b ς1 => if b = true then wp fa ς1 Q else wp fb ς1 Q) := ⟨Sm.ife⟩
instance stp_chn {g g' : D → D → Option R} {fa fb fc : M R} {Q : R → En → Prop} : Stp (wp (Lw.chn g g' fa fb fc) ς Q) (wp fa ς fun a ς1 => wp fb ς1 fun b ς2 => ∃ x y k, rdD a ς2 = some x ∧ rdD b ς2 = some y ∧ g x y = some (.pure (.bool k)) ∧     if k = true then wp fc ς2 fun c ς3 => ∃ y z r, rdD b ς3 = some y ∧ rdD c ς3 = some z ∧ g' y z = some r ∧ Q r ς3 else Q (.pure (.bool false)) ς2) := ⟨Sm.chn⟩
instance stp_argN {Q : List Ar → En → Prop} : Stp (wp Lw.argN ς Q) (Q [] ς) := ⟨Sm.argN⟩
instance stp_argV {f : M R} {g : M (List Ar)} {Q : List Ar → En → Prop} : Stp (wp (Lw.argV f g) ς Q) (wp f ς fun r ς1 => ∃ d ς2, toD r ς1 = some (d, ς2) ∧ wp g ς2 fun as ς3 => Q (.val d :: as) ς3) := ⟨Sm.argV⟩
instance stp_argR {f : M R} {g : M (List Ar)} {Q : List Ar → En → Prop} : Stp (wp (Lw.argR f g) ς Q) (wp f ς fun r ς1 => ∃ i, r = .ref i ∧ wp g ς1 fun as ς3 => Q (.ref i :: as) ς3) := ⟨Sm.argR⟩
instance stp_tupE {g : M (List Ar)} {Q : R → En → Prop} : Stp (wp (Lw.tupE g) ς Q) (wp g ς fun as ς1 => ∃ ds, vals as = some ds ∧ ds.length ≤ sizeLine ∧ Q (.pure (.tuple ds)) ς1) := ⟨Sm.tupE⟩
instance stp_lstE {g : M (List Ar)} {Q : R → En → Prop} : Stp (wp (Lw.lstE g) ς Q) (wp g ς fun as ς1 => ∃ ds, vals as = some ds ∧ ds.length ≤ sizeLine ∧ Q (.fresh ds) ς1) := ⟨Sm.lstE⟩
instance stp_callE {m : Fsem} {g : M (List Ar)} {Q : R → En → Prop} : Stp (wp (Lw.callE m g) ς Q) (wp g ς fun as ς1 => ∃ ss, argS as ς1 = some ss ∧ (refsOf as).Nodup ∧ wpf m ss fun r outs => (∀ i, r ≠ .ref i) ∧ Q r (putBack as outs ς1)) := ⟨Sm.callE⟩
instance stp_callF {m : Fsem} {fe : M R} {Q : R → En → Prop} : Stp (wp (Lw.callF m fe) ς Q) (wp fe ς fun r ς1 => ∃ ds, r = .fresh ds ∧ wpf m [.own true ds] fun r outs => (∀ i, r ≠ .ref i) ∧ Q r ς1) := ⟨Sm.callF⟩
instance stp_ptN {Q : Option Int → En → Prop} : Stp (wp Lw.ptN ς Q) (Q none ς) := ⟨Sm.ptN⟩
instance stp_ptS {f : M R} {Q : Option Int → En → Prop} : Stp (wp (Lw.ptS f) ς Q) (wp f ς fun r ς1 => ∃ i, rdD r ς1 = some (.int i) ∧ Q (some i) ς1) := ⟨Sm.ptS⟩
instance stp_slE {fa : M R} {fl fh : M (Option Int)} {Q : R → En → Prop} : Stp (wp (Lw.slE fa fl fh) ς Q) (wp fa ς fun a ς1 => wp fl ς1 fun l ς2 => wp fh ς2 fun u ς3 => ∃ x r, rdD a ς3 = some x ∧ gSl x l u = some r ∧ Q r ς3) := ⟨Sm.slE⟩
instance stp_revE {fa : M R} {Q : R → En → Prop} : Stp (wp (Lw.revE fa) ς Q) (wp fa ς fun a ς1 => ∃ ds, rdD a ς1 = some (.list ds) ∧ Q (.fresh ds.reverse) ς1) := ⟨Sm.revE⟩
instance stp_mth {hh : List D → List D → Option (D × List D)} {fo : M R} {ga : M (List Ar)} {Q : R → En → Prop} : Stp (wp (Lw.mth hh fo ga) ς Q) (wp fo ς fun r ς1 => ∃ i b ds, r = .ref i ∧ ς1[i]? = some (some (.own b ds)) ∧ wp ga ς1 fun as ς2 => ∃ ws b ds d ds', vals as = some ws ∧ ς2[i]? = some (some (.own b ds)) ∧ hh ds ws = some (d, ds') ∧ Q (.pure d) (ς2.set i (some (.own b ds')))) := ⟨Sm.mth⟩
instance stp_itS {f : M R} {Q : List D → En → Prop} : Stp (wp (Lw.itS f) ς Q) (wp f ς fun r ς1 => ∃ d ς2 ds, toD r ς1 = some (d, ς2) ∧ items d = some ds ∧ Q ds ς2) := ⟨Sm.itS⟩
instance stp_itR1 {f : M R} {Q : List D → En → Prop} : Stp (wp (Lw.itR1 f) ς Q) (wp f ς fun r ς1 => ∃ n, rdD r ς1 = some (.int n) ∧ inR n = true ∧ Q (rngD 0 n.toNat) ς1) := ⟨Sm.itR1⟩
instance stp_itR2 {fa fb : M R} {Q : List D → En → Prop} : Stp (wp (Lw.itR2 fa fb) ς Q) (wp fa ς fun r ς1 => wp fb ς1 fun r2 ς2 => ∃ m n, rdD r ς2 = some (.int m) ∧ rdD r2 ς2 = some (.int n) ∧ inR m = true ∧ inR n = true ∧ Q (rngD m (n - m).toNat) ς2) := ⟨Sm.itR2⟩
instance stp_itE {f : M R} {Q : List D → En → Prop} : Stp (wp (Lw.itE f) ς Q) (wp f ς fun r ς1 => ∃ ds ς2, toD r ς1 = some (.list ds, ς2) ∧ Q (enumD 0 ds) ς2) := ⟨Sm.itE⟩
instance stp_itZ {fa fb : M R} {Q : List D → En → Prop} : Stp (wp (Lw.itZ fa fb) ς Q) (wp fa ς fun r ς1 => ∃ d ς2, toD r ς1 = some (d, ς2) ∧ wp fb ς2 fun r2 ς3 => ∃ d2 ς4 xs ys, toD r2 ς3 = some (d2, ς4) ∧ ((d = .list xs ∧ d2 = .list ys) ∨ (d = .tuple xs ∧ d2 = .tuple ys)) ∧ Q (zipD xs ys) ς4) := ⟨Sm.itZ⟩
end
section
variable {ς : En} {Q : Out → Prop} {g g1 g2 : MS} {f : M R}
instance stp_skip  : Stp (wps Lw.skip ς Q) (Q (.nx ς)) := ⟨Sm.skip⟩
instance stp_sq  : Stp (wps (Lw.sq g1 g2) ς Q) (wps g1 ς (andThen g2 Q)) := ⟨Sm.sq⟩
instance stp_asg {tg : Tg} : Stp (wps (Lw.asg f tg) ς Q) (wp f ς fun r ς1 => ∃ d ς2 ς3, toD r ς1 = some (d, ς2) ∧ tg d ς2 = some ς3 ∧ Q (.nx ς3)) := ⟨Sm.asg⟩
instance stp_asgO {i : Nat} : Stp (wps (Lw.asgO i f) ς Q) (wp f ς fun r ς1 => ∃ ds, r = .fresh ds ∧ free ς1 i = true ∧ Q (.nx (ς1.set i (some (.own false ds))))) := ⟨Sm.asgO⟩
instance stp_exS  : Stp (wps (Lw.exS f) ς Q) (wp f ς fun _ ς1 => Q (.nx ς1)) := ⟨Sm.exS⟩
instance stp_retS  : Stp (wps (Lw.retS f) ς Q) (wp f ς (outR Q)) := ⟨Sm.retS⟩
instance stp_ifS {t : M Bool} : Stp (wps (Lw.ifS t g1 g2) ς Q) (wp t ς fun b ς1 => if b = true then wps g1 ς1 Q else wps g2 ς1 Q) := ⟨Sm.ifS⟩
instance stp_forS {fi : M (List D)} {tg : Tg} : Stp (wps (Lw.forS fi tg g) ς Q) (wp fi ς fun ds ς1 => wps (loop tg g ds) ς1 Q) := ⟨Sm.forS⟩
instance stp_par2 {i j : Nat} {o1 o2 : Bool} {fa fb : M R} : Stp (wps (Lw.par2 i j o1 o2 fa fb) ς Q) (wp (pv' o1 fa) ς fun x ς1 => wp (pv' o2 fb) ς1 fun y ς2 => ∃ s t, put i x = some s ∧ put j y = some t ∧ (free ς2 i = true ∧ free (ς2.set i s) j = true ∧ i ≠ j) ∧ Q (.nx ((ς2.set i s).set j t))) := ⟨Sm.par2⟩
instance stp_pvF {f : M R} {Q : R → En → Prop} : Stp (wp (pv' false f) ς Q) (wp f ς fun r ς1 => ∃ d ς2, toD r ς1 = some (d, ς2) ∧ Q (.pure d) ς2) := ⟨Sm.pvF⟩
instance stp_pvT {f : M R} {Q : R → En → Prop} : Stp (wp (pv' true f) ς Q) (wp f ς Q) := ⟨Sm.pvT⟩
instance stp_par3 {i j l : Nat} {fa fb fc : M R} : Stp (wps (Lw.par3 i j l fa fb fc) ς Q) (wp fa ς fun a ς1 => ∃ x ς1', toD a ς1 = some (x, ς1') ∧ wp fb ς1' fun b ς2 => ∃ y ς2', toD b ς2 = some (y, ς2') ∧ wp fc ς2' fun c ς3 => ∃ z ς3', toD c ς3 = some (z, ς3') ∧     (free ς3' i = true ∧ free (ς3'.set i (some (.pure x))) j = true ∧ free ((ς3'.set i (some (.pure x))).set j (some (.pure y))) l = true) ∧ Q (.nx (((ς3'.set i (some (.pure x))).set j (some (.pure y))).set l (some (.pure z))))) := ⟨Sm.par3⟩
instance stp_at_nx  : Stp (andThen g Q (.nx ς)) (wps g ς Q) := ⟨Sm.at_nx⟩
instance stp_at_rt {r : R} : Stp (andThen g Q (.rt r ς)) (Q (.rt r ς)) := ⟨Sm.at_rt⟩
instance stp_oP {d : D} : Stp (outR Q (.pure d) ς) (Q (.rt (.pure d) ς)) := ⟨Sm.oP⟩
instance stp_oF {ds : List D} : Stp (outR Q (.fresh ds) ς) (Q (.rt (.fresh ds) ς)) := ⟨Sm.oF⟩
instance stp_fP {n : Nat} {d : D} {Q : R → List S → Prop} : Stp (outF n Q (.rt (.pure d) ς)) (Q (.pure d) (outsOf ς n)) := ⟨Sm.fP⟩
instance stp_fF {n : Nat} {ds : List D} {Q : R → List S → Prop} : Stp (outF n Q (.rt (.fresh ds) ς)) (Q (.fresh ds) (outsOf ς n)) := ⟨Sm.fF⟩
end
end Sm
end Lw
namespace Lw
open PySem PySem.Spec PyProof.Rows L2
/-! ### an exception class of the program's own, over any built-in one, whose __init__ keeps what it is handed -/
structure XC (K : PySem.W.Frag) (C fI : Addr) (bmB : List Value) (newId : String) : Prop where
  ini : PySem.W.excInitIn K C bmB newId = true
  ovr : PySem.W.excOver K C bmB = true
  sa : PySem.W.findIn K (.ref C) "__setattr__" = some (some (.builtin "object.__setattr__"))
  tk : PySem.W.takerIn K C "what" = some none
  hd : PySem.W.hasDictIn K C = true
  iC : PySem.W.findIn K (.ref C) "__init__" = some (some (.ref fI))
  tI : PySem.W.typeIn K (.ref fI) = some (.type "function")
  exC : PySem.W.subIn K (.ref C) (.type "BaseException") = some true
  tyC : PySem.W.typeIn K (.ref C) = some (.type "type")
  kC : PySem.W.keepIn K (.ref C) = true
section
variable {prog : Program} {w : World} {A : Around} {E : Value → Shared → Prop} {s : Shared} {K : PySem.W.Frag} {C fI x t1 : Addr} {B newId initId : String} {bmB : List Value} {v : Value} {Q : Unit → Shared → Prop}
theorem exc_set (SF : StoreFacts B bmB "object.__setattr__" "object") (T : XC K C fI bmB newId) (hK : K.In s.heap) (hx : s.heap.get? x = some (PySem.W.excObj C t1 none .none))
    (hq : ∀ (h' : Heap) (tk' : Nat) (dx : Addr), (∀ b o, b ≠ x → s.heap.get? b = some o → h'.get? b = some o) → s.heap.objs.size ≤ dx → dx ≠ x → h'.get? x = some (PySem.W.excObj C t1 (some dx) .none) →
      h'.Ns1 dx (fun y => if y = ("what" : Str) then some v else none) → Q () { s with heap := h', toks := tk' }) :
    wpAny (model prog w) A (setAttr (.ref x) "what" v) Q E s := by
  obtain ⟨hp, g, d, t, os⟩ := s
  have ne : x ≠ hp.objs.size := Nat.ne_of_lt (Heap.lt_size hx)
  have inst : PySem.W.InstAt hp x (PySem.W.excObj C t1 none .none) C none := ⟨hx, rfl, rfl, trivial⟩
  refine PySem.W.set_plain hK inst T.sa ?_
  refine PySem.W.osa_openX (r := none) SF hK inst T.ovr T.tk fun bb => ?_
  obtain ⟨cd, hc, hd'⟩ := PySem.W.any_some T.hd
  have hx1 : (hp.push (PySem.W.dictOf [] 0)).get? x = some (PySem.W.excObj C t1 none .none) := Heap.get?_push_of_some _ hx
  refine wpAny_bind (wpAny_pure (wpAny_bind (PySem.W.instanceDict_exc hx (PySem.W.looks_clsIn hK hc) hd' ?_)))
  refine PySem.HandSPX.store_in_new ?_ ?_
  · exact ⟨_, #[], _, (Heap.get?_update_ne _ _ _ _ ne.symm).trans (Heap.get?_push_at rfl rfl), rfl, fun e he => absurd he (by simp), fun _ => rfl⟩
  · intro h' tk' hn' hs
    refine hq h' tk' hp.objs.size (fun b o hb ho => ?_) (Nat.le_refl _) ne.symm ?_ hn'
    · have hb2 : b ≠ hp.objs.size := Nat.ne_of_lt (Heap.lt_size ho)
      rw [hs.2 b hb2, Heap.get?_update_ne _ _ _ _ hb]
      exact Heap.get?_push_of_some _ ho
    · rw [hs.2 x ne]
      exact Heap.get?_update_self _ hx1 rfl
end
end Lw
namespace Lw
open PySem PySem.Spec PyProof.Rows L2
/-- self.what = what, in the words of the heap -/
def wWh (C : Addr) (a : Addr) (y : V) (H : Hp) (Q : Hp → Prop) : Prop := H a = some (exo a C none) ∧ ∀ dx, H dx = none → dx ≠ a → Q (upd (upd H dx (exd dx [(("what" : Str), y)])) a (exo a C (some dx)))
section
variable {X : Cx} {pins : List (Addr × Obj)} {σ : L2.St} {H : Hp} {s : Shared} {C fI a : Addr} {y : V} {u : Value} {B newId initId : String} {bmB : List Value} {Q : Unit → Shared → Prop} {E : Value → Shared → Prop} {A : Around}
theorem what_set (SF : StoreFacts B bmB "object.__setattr__" "object") (T : XC X.K C fI bmB newId) (I : Inv X pins σ H s) (ry : RelV y u) {P : Hp → Prop} (h : wWh C a y H P) (hQ : ∀ H' s', Inv X pins σ H' s' → P H' → Q () s') :
    wpAny (model X.prog X.w) A (setAttr (.ref a) "what" u) Q E s := by
  obtain ⟨e, hp⟩ := h
  obtain ⟨t1, ho⟩ := exo_at I.hok e
  refine exc_set SF T I.kIn ho fun h' tk' dx k dn dne hx hn => ?_
  have hnd : H dx = none := I.hok.fresh dn
  have ltd : ∀ {b : Addr} {o : Obj}, s.heap.get? b = some o → b ≠ dx := fun {b o} q z => absurd (Heap.lt_size q) (by rw [z]; exact Nat.not_lt.mpr dn)
  have nota : ∀ {b : Addr}, H b = none → b ≠ a := fun {b} n z => by
    subst z
    rw [n] at e
    cases e
  have two : ∀ {b : Addr} {o : HO}, H b = some o → o ≠ exo a C none → upd (upd H dx (exd dx [(("what" : Str), y)])) a (exo a C (some dx)) b = some o := fun {b o} q ne => by
    have h1 : b ≠ a := fun z => by
      subst z
      rw [e] at q
      exact ne (Option.some.inj q).symm
    rw [upd_ne h1, upd_ne (ne_of_none q hnd)]
    exact q
  have un : Un X.fs [] H (upd (upd H dx (exd dx [(("what" : Str), y)])) a (exo a C (some dx))) s.heap h' := by
    constructor
    · exact fun b o q n _ _ => k b o (nota n) q
    · exact fun b o q n _ _ => ⟨o.slots, k b o (nota n) q⟩
    · intro b o q n _
      rw [upd_ne (nota n), upd_ne (ltd q)]
      exact n
    · intro b o q _
      by_cases z : b = a
      · exact ⟨_, by rw [z]; exact hx⟩
      · exact ⟨o, k b o z q⟩
    · exact fun b xs q => two q (Ne.symm exo_tup)
    · exact fun b o v q => two q (Ne.symm exo_frz)
    · intro b ps q
      refine ⟨#[], ?_⟩
      rw [two q (Ne.symm exo_tbl)]
      simp
  refine hQ _ _ (I.un (t' := tk') un fun b o q => ?_) (hp dx hnd dne)
  by_cases z : b = a
  · subst z
    rw [upd_same] at q
    cases q
    exact exo_ok hx
  rw [upd_ne z] at q
  by_cases z2 : b = dx
  · subst z2
    rw [upd_same] at q
    cases q
    exact exd_ok hn (relO_put (fs := []) ry fun g => True.intro)
  rw [upd_ne z2] at q
  refine (I.hok b o q).stay (fun c v hc r => k c v ?_ r) (fun c r => two r (Ne.symm exo_own)) fun c xs r => two r (Ne.symm exo_tup)
  rcases hc with hc | hc
  · rw [hc]; exact z
  · intro w
    rw [w, e] at hc
    exact exo_own (Option.some.inj hc)
end
end Lw
namespace Lw
open PySem PySem.Spec PyProof.Rows L2
section
variable {X : Cx} {C fI : Addr} {B newId initId : String} {bmB : List Value} {o e : Expr} {to te : TE} {p' pos : Pos}
/-- the one statement of such an __init__ -/
theorem ps_what (SF : StoreFacts B bmB "object.__setattr__" "object") (T : XC X.K C fI bmB newId) (ho : PE X o to) (he : PE X e te) (hs : swapsWith e (some (.Attribute o "what" p')) pos.line X.env = pure false := by rfl) :
    PS X (.Assign [.Attribute o "what" p'] e pos) (fun D σ H => te σ H fun y H1 => to σ H1 fun x H2 => ∃ a, x = .ref a ∧ wWh C a y H2 (D.nx σ)) := by
  refine ⟨fun pins s σ H D I h => ?_⟩
  refine plainObj_wpAny_Assign_Attribute ?_ hs
  refine thn (he.run pins s σ H _ I h) fun v s1 hv => ?_
  obtain ⟨y, H1, I1, r1, q1⟩ := hv
  refine thn (ho.run pins s1 σ H1 _ I1 q1) fun u s2 hu => ?_
  obtain ⟨x, H2, I2, r2, a, rfl, q⟩ := hu
  have eu : u = Value.ref a := r2
  subst eu
  exact what_set SF T I2 r1 q fun H' s' J z => ⟨σ, H', J, z⟩
/-- what its __init__ promises -/
def spW (C : Addr) : Sp := fun vs H Q _ => ∃ a y, vs = [.ref a, y] ∧ wWh C a y H (Q .non)
end
theorem init_ok {P : Program} {w : World} {K : PySem.W.Frag} {mg : Str → Option Value} {base : Heap} {C fI : Addr} {fd : FuncData} {B newId : String} {bmB : List Value} {qual x : Str} {params : Arguments} {scope : Scope} {k : Nat} {p1 p2 p3 p4 : Pos}
    (SF : StoreFacts B bmB "object.__setattr__" "object") (T : XC K C fI bmB newId)
    (F : FunD K x qual params [.Assign [.Attribute (.Name "self" p1) "what" p2] (.Name "what" p3) p4] scope [] [] fI fd) (S : FnScope ["self", "what"] ["self", "what"] scope) (h0 : Vis scope "self") (h1 : Vis scope "what") :
    FnOk P w K mg base CX0 (k + 1) fI fd ["self", "what"] (spW C) := by
  refine F.ok S (fun vs H Q E h => by obtain ⟨a, y, rfl, _⟩ := h; rfl) fun cdv A outer s H vs Q E hr h => ?_
  obtain ⟨a, y, rfl, hw⟩ := h
  refine ⟨_, pss_one (ps_what SF T (pe_var (i := 0) rfl h0 (by decide) (by decide)) (pe_var (i := 1) rfl h1 (by decide) (by decide)) rfl), ?_⟩
  exact ⟨y, rfl, .ref a, rfl, a, rfl, hw⟩
section
variable {X : Cx} {C fI : Addr} {fd : FuncData} {k : Nat} {B newId initId : String} {bmB : List Value} {x : Str} {e : Expr} {te : TE} {p pos : Pos}
def oneV (P : V → Hp → Prop) : List V → Hp → Prop
  | [v], H => P v H
  | _, _ => False
/-- x(e), of such a class -/
def tMkW (C : Addr) (te : TE) : L2.St → Hp → XK → Prop := fun σ H Q => te σ H fun v H1 => ∀ dd, H1 dd = none → Q (.ref C) (some dd) (upd H1 dd (.xd [(("what" : Str), v)]))
theorem pmk_what (FB : ExcBaseFacts B newId initId bmB) (T : XC X.K C fI bmB newId) (F1 : FnOk X.prog X.w X.K X.mg X.base CX0 k fI fd ["self", "what"] (spW C)) (hr : Room (k + 1) X.A) (hb : Binds X.K fd ["self", "what"] []) (hg : Gl X x) (hm : X.mg x = some (.ref C)) (ha : PE X e te)
    (hdb : (x == ("__debug__" : Str)) = false := by decide) (he : starEach [e] X.env = (false, eval e X.env) :: starEach [] X.env := by rfl) (hpl : (backTo pos (starEach [] X.env)).any (·.1) = false := by rfl) :
    PMk X (.Call (.Name x p) [e] [] pos) (tMkW C te) := by
  intro pins s σ H Q I h
  have hargs : PA X [e] (fun σ H Q => te σ H fun v H1 => Q [v] H1) := pa_cons ha pa_nil he
  refine wpAny_Call_Name_kw (ld_glob I hg hm ?_ hdb)
  refine PySem.W.callWith_K (h₀ := X.base) I.ok.mod.kin T.kC ?_ he hpl
  refine thn (hargs.run pos pins s σ H (oneV fun v H1 => ∀ dd, H1 dd = none → Q (.ref C) (some dd) (upd H1 dd (.xd [(("what" : Str), v)]))) I h) fun us s1 hh => ?_
  obtain ⟨vs, H1, I1, r1, q1⟩ := hh
  obtain ⟨v, rfl⟩ : ∃ v, vs = [v] := by
    rcases vs with _ | ⟨v, _ | ⟨v2, vs⟩⟩
    · exact q1.elim
    · exact ⟨v, rfl⟩
    · exact q1.elim
  obtain ⟨u, rfl, ru⟩ : ∃ u, us = [u] ∧ RelV v u := by
    cases r1 with
    | cons ra rb => cases rb with | nil => exact ⟨_, rfl, ra⟩
  refine ⟨I1.kIn, ?_⟩
  show wpAny _ _ (call (.ref C) [u]) _ _ _
  obtain ⟨nm, N, qn, bs, bm, hdct, sn, sub, ab, col, dd0, k0, k1, k2, k3, k5, hC, hcont⟩ := PySem.W.excInit_of I1.kIn T.ini
  obtain ⟨hp, g, dr, tk, os⟩ := s1
  have big : hp.objs.size ≤ hp.objs.size + 1 := Nat.le_succ _
  have fresh := I1.hok.fresh big
  have kept : ∀ b o, hp.get? b = some o → ((hp.push (PySem.W.kdv_tup [u])).push (PySem.HandSPX.excO C hp.objs.size)).get? b = some o := fun b o q => Heap.get?_push_of_some _ (Heap.get?_push_of_some _ q)
  have got : ((hp.push (PySem.W.kdv_tup [u])).push (PySem.HandSPX.excO C hp.objs.size)).get? (hp.objs.size + 1) = some (PySem.HandSPX.excO C hp.objs.size) := by heap_get
  have I2 := I1.laid (t' := tk) (o := exo (hp.objs.size + 1) C none) (h' := (hp.push (PySem.W.kdv_tup [u])).push (PySem.HandSPX.excO C hp.objs.size)) kept big (exo_ok got)
  have prom : spW C [.ref (hp.objs.size + 1), v] (upd H1 (hp.objs.size + 1) (exo (hp.objs.size + 1) C none))
      (fun z H2 => z = .non ∧ ∃ (d : Addr) (fs : List (Str × V)), H2 (hp.objs.size + 1) = some (exo (hp.objs.size + 1) C (some d)) ∧ H2 d = some (exd d fs) ∧ H1 d = none ∧ Q (.ref C) (some d) (upd (del H2 (hp.objs.size + 1)) d (.xd fs))) (fun _ _ _ => False) := by
    refine ⟨_, v, rfl, upd_same, fun d hd hne => ⟨rfl, d, [(("what" : Str), v)], upd_same, ?_, ?_, ?_⟩⟩
    · rw [upd_ne hne]
      exact upd_same
    · rw [upd_ne hne] at hd
      exact hd
    · rw [upd_ne hne] at hd
      have e2 : upd (del (upd (upd (upd H1 (hp.objs.size + 1) (exo (hp.objs.size + 1) C none)) d (exd d [(("what" : Str), v)])) (hp.objs.size + 1) (exo (hp.objs.size + 1) C (some d))) (hp.objs.size + 1)) d (.xd [(("what" : Str), v)]) = upd H1 d (.xd [(("what" : Str), v)]) := by
        funext b
        by_cases z : b = d
        · rw [z, upd_same, upd_same]
        · rw [upd_ne z, upd_ne z]
          by_cases z2 : b = hp.objs.size + 1
          · rw [z2, del_same, fresh]
          · rw [del_ne z2, upd_ne z2, upd_ne z, upd_ne z2]
      rw [e2]
      exact q1 d hd
  have r2 : Vals [V.ref (hp.objs.size + 1), v] [Value.ref (hp.objs.size + 1), u] := .cons rfl (.cons ru .nil)
  have bnd := hb _ [Value.ref (hp.objs.size + 1), u] I2.kIn rfl
  refine wpAny_call (PySem.HandSPX.call_own FB hcont hC (PySem.W.looks_findIn I1.kIn T.iC) (fun self => PySem.W.bind_fn I1.kIn self T.tI) (by rw [sizeLine_eq]; simp) ?_)
  refine codeAny_mono (F1.run _ X.stack _ _ ⟨[Value.ref (hp.objs.size + 1), u], []⟩ _ _ _ _ (hr.make C [u] []) (I2.env0.make C [u] []) bnd r2 prom) fun r s' hq' => ?_
  rcases r with er | fl
  · exact hq'.elim
  rcases fl with _ | _ | _ | z
  · exact hq'.elim
  · exact hq'.elim
  · exact hq'.elim
  obtain ⟨zv, H2, os2, bare2, un2, hok2, rv, ev, d, fs, ea, ed, hd1, q2⟩ := hq'
  subst ev
  obtain ⟨h2, g2, d2, t2, os'⟩ := s'
  exact ⟨rv, mk_end (raises_own T.exC T.tyC) I1 big kept un2 hok2 os2 bare2 ea ed hd1 q2⟩
end
end Lw
namespace Lw
open PySem PySem.Spec PyProof.Rows L2
/-! ### statements that may raise an exception of the program's own -/
inductive OutX where
  | nrm (o : Out)
  | exc (nm : Str) (d : D) (ς : En)
abbrev MX := En → Option OutX
/-- what is wished of an exception nm that keeps d -/
def ExcOk (K : PySem.W.Frag) (F : Fx) (G : Hp) (W : WX) (nm : Str) (d : D) (ς' : En) : Prop :=
  ∀ σ' H' G' dd v, Rel K F ς' G' σ' H' → Same G G' → G' dd = some (.xd [(("what" : Str), v)]) → Dp K G' v d → W (.ref (nmAt K nm)) (some dd) σ' H'
theorem ExcOk.mono {K : PySem.W.Frag} {F : Fx} {G G1 : Hp} {W : WX} {nm : Str} {d : D} {ς' : En} (s : Same G G1) (h : ExcOk K F G W nm d ς') : ExcOk K F G1 W nm d ς' :=
  fun σ' H' G' dd v rl s1 => h σ' H' G' dd v rl (s.trans s1)
def EndsX (K : PySem.W.Frag) (F : Fx) (G : Hp) (W : WX) (D : Ends) : OutX → Prop
  | .nrm o => EndsOk K F G D o
  | .exc nm d ς' => ExcOk K F G W nm d ς'
theorem EndsX.mono {K : PySem.W.Frag} {F : Fx} {G G1 : Hp} {W : WX} {D : Ends} {o : OutX} (s : Same G G1) (h : EndsX K F G W D o) : EndsX K F G1 W D o := by
  cases o with
  | nrm o => exact EndsOk.mono s h
  | exc nm d ς' => exact ExcOk.mono s h
def tSx (K : PySem.W.Frag) (F : Fx) (W : WX) (g : MX) : TS := fun D σ H => ∃ ς G, Rel K F ς G σ H ∧ ∃ o, g ς = some o ∧ EndsX K F G W D o
abbrev PSx (X : Cx) (st : Stmt) (g : MX) : Prop := ∀ (F : Fx) (W : WX), Takes X W → PS X st (tSx X.K F W g)
abbrev PSsx (X : Cx) (st : List Stmt) (g : MX) : Prop := ∀ (F : Fx) (W : WX), Takes X W → PSs X st (tSx X.K F W g)
/-- an expression that may raise one -/
inductive RX where
  | val (r : R) (ς : En)
  | exc (nm : Str) (d : D) (ς : En)
abbrev MRX := En → Option RX
def tEx' (K : PySem.W.Frag) (F : Fx) (W : WX) (f : MRX) : TE := fun σ H Q => ∃ ς G, Rel K F ς G σ H ∧ ∃ o, f ς = some o ∧ match o with
  | .val r ς' => ∀ v H' G', Rel K F ς' G' σ H' → Same G G' → RepR K F ς' G' σ H' r v → Q v H'
  | .exc nm d ς' => ExcOk K F G W nm d ς'
abbrev PEx (X : Cx) (e : Expr) (f : MRX) : Prop := ∀ (F : Fx) (W : WX), Takes X W → PE X e (tEx' X.K F W f)
section
variable {X : Cx} {c e : Expr} {fa f : M R} {fx : MRX} {ta : M Bool} {pos p : Pos} {x : Str} {st : Stmt} {sts rest : List Stmt} {g g1 g2 : MS} {gx gx1 gx2 : MX}
def nS (g : MS) : MX := fun ς => (g ς).map .nrm
theorem nS_some {g : MS} {ς : En} {o : OutX} (h : nS g ς = some o) : ∃ o', g ς = some o' ∧ o = .nrm o' := by
  unfold nS at h
  cases q : g ς with
  | none => rw [q] at h; cases h
  | some o' => rw [q] at h; cases h; exact ⟨o', rfl, rfl⟩
theorem t_nS {F : Fx} {W : WX} : ∀ D σ H, tSx X.K F W (nS g) D σ H → tSt X.K F g D σ H := fun D σ H hq => by
  obtain ⟨ς, G, rl, o, e, k⟩ := hq
  obtain ⟨o', e', rfl⟩ := nS_some e
  exact ⟨ς, G, rl, o', e', k⟩
theorem x_of (h : PSd X st g) : PSx X st (nS g) := fun F W _ => PS.mono (h F) t_nS
theorem x_ofs (h : PSsd X sts g) : PSsx X sts (nS g) := fun F W _ => PSs.mono (h F) t_nS
def sqX (g1 g2 : MX) : MX := fun ς => match g1 ς with
  | some (.nrm (.nx ς')) => g2 ς'
  | o => o
theorem x_cons (h1 : PSx X st gx1) (h2 : PSsx X rest gx2) : PSsx X (st :: rest) (sqX gx1 gx2) := fun F W tk => PSs.mono (pss_cons (h1 F W tk) (h2 F W tk)) fun D σ H hq => by
  obtain ⟨ς, G, rl, o, e, k⟩ := hq
  unfold sqX at e
  split at e
  · rename_i ς1 q
    exact ⟨ς, G, rl, _, q, fun σ' H' G' rl' s => ⟨ς1, G', rl', o, e, k.mono s⟩⟩
  · rename_i q
    refine ⟨ς, G, rl, o, e, ?_⟩
    rcases o with o | ⟨nm, d, ς1⟩
    · cases o with
      | nx ς1 => exact absurd e (q ς1)
      | rt r ς1 => exact k
      | bk ς1 => exact k
      | ct ς1 => exact k
    · exact k
theorem x_one (h : PSx X st gx) : PSsx X [st] gx := fun F W tk => pss_one (h F W tk)
def ifX (t : M Bool) (g1 g2 : MX) : MX := fun ς => match t ς with
  | some (true, ς') => g1 ς'
  | some (false, ς') => g2 ς'
  | none => none
theorem x_if (hc : PTd X c ta) (h1 : PSsx X sts gx1) (h2 : PSsx X rest gx2) : PSx X (.If c sts rest pos) (ifX ta gx1 gx2) := fun F W tk => PS.mono (ps_if (hc F) (h1 F W tk) (h2 F W tk)) fun D σ H hq => by
  obtain ⟨ς, G, rl, o, e, k⟩ := hq
  unfold ifX at e
  split at e
  · rename_i ς1 q
    exact ⟨ς, G, rl, true, ς1, q, fun H' G' rl' s => iteT ⟨ς1, G', rl', o, e, k.mono s⟩⟩
  · rename_i ς1 q
    exact ⟨ς, G, rl, false, ς1, q, fun H' G' rl' s => iteF ⟨ς1, G', rl', o, e, k.mono s⟩⟩
  · cases e
/-! ### raise -/
def raX (nm : Str) (f : M R) : MX := fun ς => match esc f ς with
  | some (d, ς') => some (.exc nm d ς')
  | none => none
theorem x_raise {nm : Str} {C : Addr} (hc : X.calm = true) (hC : C = nmAt X.K nm) (hp : ∀ te : TE, PE X e te → PMk X (.Call (.Name x p) [e] [] pos) (tMkW C te)) (he : PEd X e f) {p2 : Pos} : PSx X (.Raise (some (.Call (.Name x p) [e] [] pos)) none p2) (raX nm f) := fun F W tk =>
  PS.mono (ps_raise hc tk (hp _ (d_esc he F))) fun D σ H hq => by
    obtain ⟨ς, G, rl, o, e1, k⟩ := hq
    unfold raX at e1
    split at e1
    · rename_i d ς1 q
      cases e1
      refine ⟨ς, G, rl, d, ς1, q, fun v H1 G1 rl1 s1 dp dd hd => ?_⟩
      subst hC
      exact k σ _ _ dd v (rl1.lay hd) (s1.trans (same_upd (rl1.gnone hd))) upd_same (dp_same (same_upd (rl1.gnone hd)) dp)
    · cases e1
/-! ### a statement over a call that may raise -/
def exX (f : MRX) : MX := fun ς => match f ς with
  | some (.val _ ς') => some (.nrm (.nx ς'))
  | some (.exc nm d ς') => some (.exc nm d ς')
  | none => none
def asX (f : MRX) (tg : Tg) : MX := fun ς => match f ς with
  | some (.val r ς') => match toD r ς' with
    | some (d, ς2) => match tg d ς2 with
      | some ς3 => some (.nrm (.nx ς3))
      | none => none
    | none => none
  | some (.exc nm d ς') => some (.exc nm d ς')
  | none => none
theorem x_asg {tg : Expr} {vs : List Nat} {t : Tg} (he : PEx X e fx) (hg : PGd X tg vs t) (hs : swapsWithSole [tg] e pos.line X.env = pure false := by rfl) (hw : swappedStores [tg] e X.env = pure none := by rfl) (h1 : (assignEach [tg] X.env).map (·.2) = [assign tg X.env] := by rfl) :
    PSx X (.Assign [tg] e pos) (asX fx t) := fun F W tk => PS.mono (ps_asg (he F W tk) (hg F) hs hw h1) fun D σ H hq => by
  obtain ⟨ς, G, rl, o, e1, k⟩ := hq
  unfold asX at e1
  split at e1
  · rename_i r ς1 q
    split at e1
    · rename_i d ς2 q2
      split at e1
      · rename_i ς3 q3
        cases e1
        refine ⟨ς, G, rl, _, q, fun v H' G' rl' s rep => ?_⟩
        obtain ⟨G2, rl2, s2, dp⟩ := toD_ok rl' rep q2
        exact ⟨ς2, G2, d, rl2, dp, ς3, q3, fun σ2 H2 G3 rl3 s3 _ => k σ2 H2 G3 rl3 (s.trans (s2.trans s3))⟩
      · cases e1
    · cases e1
  · rename_i nm d ς1 q
    cases e1
    exact ⟨ς, G, rl, _, q, k⟩
  · cases e1
/-! ### for -/
def loopX (tg : Tg) (body : MX) : List D → MX
  | [], ς => some (.nrm (.nx ς))
  | d :: ds, ς => match tg d ς with
    | some ς1 => match body ς1 with
      | some (.nrm (.nx ς2)) => loopX tg body ds ς2
      | some (.nrm (.ct ς2)) => loopX tg body ds ς2
      | some (.nrm (.bk ς2)) => some (.nrm (.nx ς2))
      | some (.nrm (.rt r ς2)) => some (.nrm (.rt r ς2))
      | some (.exc nm d ς2) => some (.exc nm d ς2)
      | none => none
    | none => none
def forX (f : M (List D)) (tg : Tg) (body : MX) : MX := fun ς => match f ς with
  | some (ds, ς1) => loopX tg body ds ς1
  | none => none
end
end Lw
namespace Lw
open PySem PySem.Spec PyProof.Rows L2
/-! ### defs that may raise -/
inductive FX where
  | ret (r : R) (outs : List S)
  | exc (nm : Str) (d : D) (outs : List S)
abbrev FsemX := List S → Option FX
/-- the promise of such a def -/
def spX (K : PySem.W.Frag) (n : Nat) (m : FsemX) : Sp := fun vs H Q E => ∃ ss G, ss.length = n ∧ ArgsOk K ss G vs H ∧ ∃ o, m ss = some o ∧ match o with
  | .ret r outs => ∀ v H' G', RetOk K ss G vs H r outs v H' G' → Q v H'
  | .exc nm d outs => ∀ H' G' dd u, RetOk K ss G vs H (.pure .none) outs .non H' G' → G' dd = some (.xd [(("what" : Str), u)]) → Dp K G' u d → E (.ref (nmAt K nm)) (some dd) H'
/-- such a def, by its name -/
def FoX (P : Program) (w : World) (K : PySem.W.Frag) (mg : Str → Option Value) (base : Heap) (x : Str) (ps : List Str) (m : FsemX) (k : Nat) : Prop :=
  ∃ (f : Addr) (fd : FuncData), FnG P w K mg base (L2.CX P w) k f fd ps (spX K ps.length m) ∧ mg x = some (.ref f) ∧ PySem.W.keepIn K (.ref f) = true ∧ Binds K fd ps []
def callX (m : FsemX) (ga : M (List Ar)) : MRX := fun ς => match ga ς with
  | some (as, ς1) => match argS as ς1 with
    | some ss => match m ss with
      | some (.ret (.ref _) _) => none
      | some (.ret r outs) => if (refsOf as).Nodup then some (.val r (putBack as outs ς1)) else none
      | some (.exc nm d outs) => if (refsOf as).Nodup then some (.exc nm d (putBack as outs ς1)) else none
      | none => none
    | none => none
  | none => none
section
variable {X : Cx} {k j : Nat} {f : Addr} {fd : FuncData} {ps : List Str} {sp : Sp} {x : Str} {p pos : Pos} {e : Expr} {es : List Expr} {m : FsemX} {ga : M (List Ar)} {t : TA} {E : L2.St → XK} {CX : CXT}
/-- a call by name; what it lets out may speak of the slots -/
theorem pe_callY (F : FnG X.prog X.w X.K X.mg X.base CX k f fd ps sp) (hgd : X.A.guards = some []) (hr : Room k X.A) (hg : Gl X x) (hm : X.mg x = some (.ref f)) (hk : PySem.W.keepIn X.K (.ref f) = true) (hb : Binds X.K fd ps []) (hx : ∀ σ, PassesAt CX X σ (E σ))
    (ha : PA X (e :: es) t) (hdb : (x == ("__debug__" : Str)) = false := by decide) (he : starEach (e :: es) X.env = (false, eval e X.env) :: starEach es X.env := by rfl) (hpl : (backTo pos (starEach es X.env)).any (·.1) = false := by rfl) :
    PE X (.Call (.Name x p) (e :: es) [] pos) (fun σ H Q => t σ H fun vs H1 => sp vs H1 Q (E σ)) :=
  ⟨fun pins s σ H Q I h => wpAny_Call_Name_kw (ld_glob I hg hm
    (PySem.W.callWith_K (h₀ := X.base) I.ok.mod.kin hk (thn (ha.run pos pins s σ H _ I h) fun us s1 ⟨vs, H1, I1, r, q⟩ => ⟨I1.kIn, by
      have b := hb s1 us I1.kIn (by rw [List.append_nil, ← r.length]; exact F.len _ _ _ _ q)
      rw [List.append_nil] at b
      refine wpAny_call (codeAny_mono (F.run X.A X.stack s1 H1 ⟨us, []⟩ us vs Q (E σ) hgd hr I1.env0 b r q) ?_)
      rintro (er | (_ | _ | _ | u)) s' hq
      · exact hx σ pins H1 s1 er s' I1 hq
      · exact hq.elim
      · exact hq.elim
      · exact hq.elim
      · exact I1.after hq⟩) he hpl) hdb)⟩
theorem FoX.call (h : FoX X.prog X.w X.K X.mg X.base x ps m j) (hgd : X.A.guards = some []) (hr : Room k X.A) (hj : j ≤ k) (hg : Gl X x) (hn : (e :: es).length = ps.length) (ha : PAd X (e :: es) ga) (hla : ∀ ς as ς', ga ς = some (as, ς') → as.length = (e :: es).length)
    (hdb : (x == ("__debug__" : Str)) = false := by decide) (he : starEach (e :: es) X.env = (false, eval e X.env) :: starEach es X.env := by rfl) (hpl : (backTo pos (starEach es X.env)).any (·.1) = false := by rfl) :
    PEx X (.Call (.Name x p) (e :: es) [] pos) (callX m ga) := by
  obtain ⟨f, fd, Gf, hm, hk, hb⟩ := h
  intro F W tk
  refine PE.mono (pe_callY Gf hgd (hr.mono hj) hg hm hk hb (passAt tk) (ha F) hdb he hpl) fun σ H Q hq => ?_
  obtain ⟨ς, G, rl, o, e', kq⟩ := hq
  unfold callX at e'
  split at e'
  · rename_i as ς1 e1
    refine ⟨ς, G, rl, as, ς1, e1, fun vs H1 G1 rl1 s1 pr => ?_⟩
    split at e'
    · rename_i ss q2
      have hl : ss.length = ps.length := by rw [argS_len q2, hla _ _ _ e1, hn]
      split at e'
      · cases e'
      · rename_i r outs hne q3
        split at e'
        · rename_i nd
          cases e'
          refine ⟨ss, G1, hl, rl1.args q2 pr nd, _, q3, fun v H' G' t => kq v H' G' (rl1.called q2 pr nd t) (s1.trans t.same) ?_⟩
          cases r with
          | pure d => exact t.rep
          | vx x =>
            cases x with
            | exc nm d => exact t.rep
            | odc kvs =>
              obtain ⟨a, o, rfl, h1, h2, h3, h4, hp⟩ := t.rep
              refine ⟨a, o, rfl, h1, h2, h3, rl1.new h4, hp, fun i kws z1 z2 => ?_⟩
              obtain ⟨kvs', y1, _⟩ := putBack_odc z1
              obtain ⟨a', _, f1, f2, _⟩ := rl1.od i _ y1
              rw [z2] at f1; cases f1
              rw [h4] at f2; cases f2
          | ref i => exact t.rep.elim
          | fresh ds =>
            obtain ⟨a, xs, rfl, h1, h2, h3, h4⟩ := t.rep
            refine ⟨a, xs, rfl, h1, h2, h3, rl1.new h4, fun i b es' z1 z2 => ?_⟩
            obtain ⟨es'', hq⟩ := putBack_own z1
            obtain ⟨a', _, f1, f2, _⟩ := rl1.ow i b es'' hq
            rw [z2] at f1; cases f1
            rw [h4] at f2; cases f2
        · cases e'
      · rename_i nm d outs q3
        split at e'
        · rename_i nd
          cases e'
          exact ⟨ss, G1, hl, rl1.args q2 pr nd, _, q3, fun H' G' dd u t h1 h2 => kq σ H' G' dd u (rl1.called q2 pr nd t) (s1.trans t.same) h1 h2⟩
        · cases e'
      · cases e'
    · cases e'
  · cases e'
end
/-! ### the def -/
def runX (g : MX) (n : Nat) : FsemX := fun ss => match g (ent n ss) with
  | some (.nrm (.rt (.ref _) _)) => none
  | some (.nrm (.rt r ς)) => some (.ret r (outsOf ς ss.length))
  | some (.nrm (.nx ς)) => some (.ret (.pure .none) (outsOf ς ss.length))
  | some (.exc nm d ς) => some (.exc nm d (outsOf ς ss.length))
  | _ => none
theorem fn_bodyX {X : Cx} {n : Nat} {N : List Str} {g : MX} {body : List Stmt} {vs : List V} {H : Hp} {Q : VK} {E : XK} (tk : Takes X fun cls d _ H' => E cls d H') (hb : PSsx X body g) (h : spX X.K n (runX g N.length) vs H Q E) :
    ∃ t, PSs X body t ∧ t { nx := fun _ H' => Q .non H', rt := Q } (L2.start N vs) H := by
  obtain ⟨ss, G, hl, a, o, e2, q⟩ := h
  refine ⟨_, hb (fxOf ss vs G H) _ tk, ?_⟩
  unfold runX at e2
  split at e2
  · cases e2
  · rename_i r' ς' hne q2
    cases e2
    exact ⟨ent N.length ss, G, rel_start a, _, q2, fun v σ' H' G' rl s rep => q v H' G' (ret_ok a rl s (fun i z => hne i z) rep)⟩
  · rename_i ς' q2
    cases e2
    exact ⟨ent N.length ss, G, rel_start a, _, q2, fun σ' H' G' rl s => q .non H' G' (ret_ok a rl s (fun i z => by cases z) .non)⟩
  · rename_i nm d ς' q2
    cases e2
    exact ⟨ent N.length ss, G, rel_start a, _, q2, fun σ' H' G' dd u rl s h1 h2 => q H' G' dd u (ret_ok a rl s (fun i z => by cases z) .non) h1 h2⟩
  · cases e2
theorem FunD.mkX {P : Program} {w : World} {K : PySem.W.Frag} {mg : Str → Option Value} {base : Heap} {k : Nat} {f : Addr} {fd : FuncData} {ps : List Str} {x : Str} {params : Arguments} {body : List Stmt} {scope : Scope} {dvs : List V} {kws : List (Str × V)} {N : List Str} {g : MX}
    (F : FunD K x x params body scope dvs kws f fd) (S : FnScope N ps scope)
    (hbody : ∀ (cdv : Value) (A : Around) (outer : List Env) (s : Shared) (H : Hp) (E : XK), A.guards = some [] → Room k (A.deeper (envOfC x scope s.heap.objs.size f cdv)) →
      PSsx (cxOf (L2.CX P w) P w K mg base N x scope f cdv A outer s H E) body g) (hm : mg x = some (.ref f)) (hb : Binds K fd ps []) : FoX P w K mg base x ps (runX g N.length) (k + 1) := by
  refine ⟨f, fd, ?_, hm, F.kp, hb⟩
  obtain ⟨oc, od, dV, kV, doc, pm, an, cdv, ct, osl, rfl, lk, hcd, _, _⟩ := F.ex
  refine fnG_of lk hcd S (fun vs H Q E h => ?_) (fun A outer s H vs Q E hgd hr h => ?_)
  · obtain ⟨ss, G, hl, a, _⟩ := h
    rw [a.len, hl]
  · exact fn_bodyX (takes_of rfl rfl rfl rfl) (hbody cdv A outer s H E hgd hr) h
end Lw
namespace Lw
open PySem PySem.Spec PyProof.Rows L2
/-! ### an exception held against the classes of a clause, however many -/
section
variable {M : Model} {A : Around} {E : Value → Shared → Prop} {s : Shared} {K : PySem.W.Frag}
theorem loop_thru {β : Type} {z : β} {f : Value → β → Sem (ForInStep β)} {Q : β → Shared → Prop} : ∀ {cs : List Value}, (∀ c ∈ cs, ∀ Q' : ForInStep β → Shared → Prop, Q' (.yield z) s → wpAny M A (f c z) Q' E s) → Q z s → wpAny M A (forIn cs z f) Q E s
  | [], _, q => by rw [List.forIn_nil]; exact wpAny_pure q
  | c :: cs, h, q => by
    rw [List.forIn_cons]
    refine wpAny_bind (h c List.mem_cons_self _ ?_)
    exact loop_thru (fun c' m => h c' (List.mem_cons_of_mem _ m)) q
theorem loop_find {β : Type} {z z1 : β} {b : Value → Bool} {f : Value → β → Sem (ForInStep β)} {Q : β → Shared → Prop} : ∀ {cs : List Value}, (∀ c ∈ cs, ∀ Q' : ForInStep β → Shared → Prop, Q' (if b c = true then .done z1 else .yield z) s → wpAny M A (f c z) Q' E s) → Q (if cs.any b = true then z1 else z) s → wpAny M A (forIn cs z f) Q E s
  | [], _, q => by rw [List.forIn_nil]; exact wpAny_pure q
  | c :: cs, h, q => by
    rw [List.forIn_cons]
    refine wpAny_bind (h c List.mem_cons_self _ ?_)
    rw [List.any_cons] at q
    cases e : b c with
    | true =>
      rw [e, Bool.true_or, if_pos rfl] at q
      rw [if_pos rfl]
      exact wpAny_pure q
    | false =>
      rw [e, Bool.false_or] at q
      rw [if_neg Bool.false_ne_true]
      exact loop_find (fun c' m => h c' (List.mem_cons_of_mem _ m)) q
def isB (K : PySem.W.Frag) (cls c : Value) : Bool := PySem.W.exmOne K cls c == some true
theorem exm_list {cs : List Value} {cls : Value} {tp e : Addr} {h : Heap} (X : K.In h) (LT : PySem.W.Looks M h (typeOf (.ref e)) cls) (hp : h.get? tp = some { cls := .type "tuple", data := .seq cs.toArray }) (hx : ∀ c ∈ cs, (PySem.W.exmOne K cls c).isSome = true) :
    PySem.W.Looks M h (excMatches (.ref e) (.ref tp)) (cs.any (isB K cls)) := by
  intro A Q E s k0 q
  obtain ⟨hh, g, d, tk, os⟩ := s
  have k : ∀ b o, h.get? b = some o → hh.get? b = some o := k0
  have isT : PySem.W.Looks M h (isInstance (.ref tp) (.type "tuple")) true := ((PySem.W.Looks.ld hp).andThen .now).andThen (PySem.W.Looks.of_pure PySem.isSubtype_tuple_tuple)
  have one : ∀ c ∈ cs, PySem.W.Looks M hh (isExcClass c) true ∧ PySem.W.Looks M hh (isSubtype cls c) (isB K cls c) := fun c m => by
    obtain ⟨v, hv⟩ := Option.isSome_iff_exists.mp (hx c m)
    obtain ⟨l1, l2⟩ := PySem.W.exm_cls (M := M) X hv
    have : isB K cls c = v := by unfold isB; rw [hv]; cases v <;> rfl
    rw [this]
    exact ⟨l1.keeps k, l2.keeps k⟩
  unfold excMatches
  refine wpAny_bind ((isT.keeps k).at ?_)
  dsimp only
  rw [if_pos rfl]
  first
    | refine wpAny_bind (wpAny_seqItems (k _ _ hp) rfl ?_)
    | refine wpAny_bind (wpAny_bind (wpAny_seqItems (k _ _ hp) rfl (wpAny_pure ?_)))
  refine wpAny_bind (wpAny_pure ?_)
  refine wpAny_bind (loop_thru (fun c m Q' q' => ?_) ?_)
  · refine wpAny_bind ((one c (by simpa using m)).1.at ?_)
    rw [if_neg (by decide)]
    first | exact wpAny_pure q' | exact wpAny_bind (wpAny_pure (wpAny_pure q'))
  refine wpAny_bind ((LT.keeps k).at ?_)
  refine wpAny_bind (loop_find (b := isB K cls) (z1 := (some true, ())) (fun c m Q' q' => ?_) ?_)
  · refine wpAny_bind ((one c (by simpa using m)).2.at ?_)
    cases e : isB K cls c with
    | true =>
      rw [e, if_pos rfl] at q'
      rw [if_pos rfl]
      exact wpAny_pure q'
    | false =>
      rw [e, if_neg Bool.false_ne_true] at q'
      rw [if_neg Bool.false_ne_true]
      exact wpAny_pure q'
  have ee : ((some cs.toArray).getD #[]).toList = cs := by simp
  rw [ee]
  cases e : cs.any (isB K cls) with
  | true =>
    rw [e] at q
    rw [if_pos rfl]
    exact wpAny_pure q
  | false =>
    rw [e] at q
    rw [if_neg Bool.false_ne_true]
    exact wpAny_pure q
end
end Lw
namespace Lw
open PySem PySem.Spec PyProof.Rows L2
section
variable {X : Cx} {pins : List (Addr × Obj)} {σ : L2.St} {H : Hp} {s : Shared}
/-- an exception's object, made since the entry, may be told of in the words of the heap -/
theorem track (I : Inv X pins σ H s) {a dd C : Addr} {oe : Obj} {vs : Array Value} (ha : s.heap.get? a = some oe) (hc : oe.cls = .ref C) (hdd : oe.dict = some dd) (hd : oe.data = .fields vs) (na : H a = none) (nl : a ≠ X.env.locals) (np : ∀ p ∈ X.pn ++ pins, p.1 ≠ a) (n0 : X.s_0.heap.get? a = none) :
    Inv X pins σ (upd H a (ExT a C dd)) s := by
  have off : ∀ {b : Addr} {u : HO}, H b = some u → b ≠ a := fun {b u} e z => by rw [z, na] at e; cases e
  have old : ∀ {b : Addr} {o : Obj}, X.s_0.heap.get? b = some o → b ≠ a := fun {b o} e z => by rw [z, n0] at e; cases e
  have keep : ∀ {b : Addr} {u : HO}, H b = some u → upd H a (ExT a C dd) b = some u := fun {b u} e => by rw [upd_ne (off e)]; exact e
  have cel : ∀ {x : Str} {c : Addr}, X.env.cells.lookup x = some c → c ≠ a := fun {x c} e z => by
    obtain ⟨v, o, ho, hv⟩ := I.cell x c e
    rw [z, ha] at ho
    cases ho
    rw [hd] at hv
    cases hv
  refine ⟨I.ok, I.os, I.bare, ⟨I.base.keep, I.base.slot, fun b o e n hx => ?_, I.base.there, fun b xs e => keep (I.base.tups b xs e), fun b o u e => keep (I.base.frzs b o u e), fun b ps e => ?_⟩, I.loc, I.cell, ?_, fun x c e => ?_, fun p hp => ?_, fun b u e => ?_, I.len⟩
  · rw [upd_ne (old e)]
    exact I.base.free b o e n hx
  · obtain ⟨more, e'⟩ := I.base.tbls b ps e
    exact ⟨more, keep e'⟩
  · rw [upd_ne nl.symm]
    exact I.free
  · rw [upd_ne (cel e)]
    exact I.freeC x c e
  · obtain ⟨e, n, r⟩ := I.pin p hp
    exact ⟨e, by rw [upd_ne (np p hp)]; exact n, r⟩
  · by_cases z : b = a
    · subst z
      rw [upd_same] at e
      cases e
      exact ⟨⟨oe, vs, ha, hc, hdd, hd⟩, ⟨oe, ha⟩, fun h1 h2 ⟨o1, v1, e1, r⟩ k => ⟨o1, v1, k _ e1, r⟩⟩
    · rw [upd_ne z] at e
      exact (I.hok b u e).stay (fun _ _ _ r => r) (fun _ r => keep r) fun _ _ r => keep r
/-! ### the test of a clause -/
inductive LdN (X : Cx) : List Expr → List Value → Prop
  | nil : LdN X [] []
  | cons {x : Str} {p : Pos} {c : Value} {es : List Expr} {cs : List Value} (h : Names X x c) (t : LdN X es cs) (hs : starEach (.Name x p :: es) X.env = (false, eval (.Name x p) X.env) :: starEach es X.env) : LdN X (.Name x p :: es) (c :: cs)
theorem load_name {E : Value → Shared → Prop} {Q : Value → Shared → Prop} {x : Str} {p : Pos} {c : Value} (I : Inv X pins σ H s) (h : Names X x c) (q : Q c s) : wpAny (model X.prog X.w) X.A (eval (.Name x p) X.env) Q E s := by
  obtain ⟨hg, hdb, hm | ⟨hm, hv, hn⟩⟩ := h
  · exact ld_glob I hg hm q hdb
  · exact ld_blt I hg hm hv q hn hdb
theorem load_names {E : Value → Shared → Prop} {pos : Pos} (I : Inv X pins σ H s) {es : List Expr} {cs : List Value} (h : LdN X es cs) : ∀ {Q : List Value → Shared → Prop}, Q cs s → wpAny (model X.prog X.w) X.A (spliced (backTo pos (starEach es X.env))) Q E s := by
  induction h with
  | nil => exact fun q => Calls.spliced_nil q
  | @cons x p c es cs h t hs ih =>
    intro Q q
    rw [hs]
    exact Calls.spliced_cons (load_name I h (ih q))
inductive ClsT (X : Cx) : Expr → List Value → Prop
  | one {x : Str} {p : Pos} {c : Value} (h : Names X x c) : ClsT X (.Name x p) [c]
  | tup {es : List Expr} {cs : List Value} {n p} (h : LdN X es cs) (hl : cs.length ≤ sizeLine) : ClsT X (.Tuple es n p) cs
theorem cls_test {E : Value → Shared → Prop} {T : Expr} {cs : List Value} {a : Addr} {cls : Value} {Q : Bool → Shared → Prop} (I : Inv X pins σ H s) (h : ClsT X T cs) (LT : PySem.W.Looks (model X.prog X.w) s.heap (typeOf (.ref a)) cls) (hx : ∀ c ∈ cs, (PySem.W.exmOne X.K cls c).isSome = true)
    (q : ∀ h', (∀ b o, s.heap.get? b = some o → h'.get? b = some o) → Q (cs.any (isB X.K cls)) { s with heap := h' }) :
    wpAny (model X.prog X.w) X.A (eval T X.env) (fun t s1 => wpAny (model X.prog X.w) X.A (excMatches (.ref a) t) Q E s1) E s := by
  cases h with
  | @one x p c h =>
    refine load_name I h ?_
    obtain ⟨b, hb⟩ := Option.isSome_iff_exists.mp (hx c List.mem_cons_self)
    have e : [c].any (isB X.K cls) = b := by
      rw [List.any_cons, List.any_nil, Bool.or_false]
      unfold isB
      rw [hb]
      cases b <;> rfl
    rw [e] at q
    exact (PySem.W.exm_one I.kIn LT hb).here (q s.heap fun _ _ r => r)
  | @tup es cs n p h hl =>
    refine wpAny_Tuple_spliced (load_names I h ⟨hl, ?_⟩)
    have k : ∀ b o, s.heap.get? b = some o → (s.heap.push { cls := .type "tuple", data := .seq cs.toArray }).get? b = some o := fun b o e => Heap.get?_push_of_some _ e
    exact (exm_list (I.kIn.keeps k) (LT.keeps k) (Heap.get?_push_size _ rfl) hx).here (q _ k)
end
end Lw
namespace Lw
open PySem PySem.Spec PyProof.Rows L2
/-- the suite `y = n` -/
theorem ps_keep {Y : Cx} {y n : Str} {iN iY : Nat} {q1 q2 q3 : Pos} (hN : Y.N.Nodup) (hi : Y.N[iN]? = some n) (hln : Y.env.kindOf n = some .local) (hj : Y.N[iY]? = some y) (hly : Y.env.kindOf y = some .local) (hd1 : (n == ("__debug__" : Str)) = false) (hd2 : (n == ("__classdict__" : Str)) = false)
    (hs : swapsWith (.Name n q2) (some (.Name y q1)) q3.line Y.env = pure false) : PSs Y [.Assign [.Name y q1] (.Name n q2) q3] (fun D σ H => ∃ v, σ[iN]? = some (some v) ∧ D.nx (σ.set iY (some v)) H) :=
  PSs.mono (pss_one (ps_set hN hj (.inl hly) (pe_var hi (.inl hln) hd1 hd2) hs (.inr hly))) fun D σ H ⟨v, h1, h2⟩ => ⟨v, h1, h2⟩
/-- what a clause of this kind wishes -/
def wKeep (K : PySem.W.Frag) (cs : List Value) (iN iY : Nat) (D : Ends) : WX := fun cls d σ H => ∃ C dd, cls = .ref C ∧ d = some dd ∧ (∀ c ∈ cs, (PySem.W.exmOne K cls c).isSome = true) ∧ cs.any (isB K cls) = true ∧
  ∀ a, H a = none → D.nx (((σ.set iN (some (.ref a))).set iY (some (.ref a))).set iN none) (upd H a (ExT a C dd))
section
variable {X : Cx} {pins : List (Addr × Obj)} {σ : L2.St} {H : Hp} {s : Shared} {T : Expr} {cs : List Value} {y n : Str} {iN iY : Nat} {q1 q2 q3 q4 : Pos} {D : Ends}
theorem catch_keep (ok : X.Ok) (hs : X.stack = X.env :: X.outer) (hf : X.env.frame = some X.env.locals) (hex : X.ex = []) (hN : X.N.Nodup) (hi : X.N[iN]? = some n) (hln : X.env.kindOf n = some .local) (hj : X.N[iY]? = some y) (hly : X.env.kindOf y = some .local) (hne : iN ≠ iY)
    (hT : ∀ a oe pn, ClsT (X.suite a ((a, oe) :: pn)) T cs) (hd1 : (n == ("__debug__" : Str)) = false) (hd2 : (n == ("__classdict__" : Str)) = false) (hsw : swapsWith (.Name n q2) (some (.Name y q1)) q3.line X.env = pure false)
    {u : Value} {s' : Shared} {xe : Value → Shared → Prop} (xx : XE (X.tr (X.pn ++ pins) xe) (wKeep X.K cs iN iY D) u s') :
    wpAny (model X.prog X.w) X.A (noteFrame u X.env) (fun _ s2 => wpAny (model X.prog X.w) X.A (setFlight u none) (fun _ s3 =>
      wpAny (model X.prog X.w) X.A (handleBy u X.env [.ExceptHandler (some T) (some n) [.Assign [.Name y q1] (.Name n q2) q3] q4]) (SP X pins D) X.xe s3) X.xe s2) X.xe s' := by
  obtain ⟨a, B, sI, ps, σ', H', cls, d, rfl, JT, nb, up, sky, na, os, ag, C, dd, rfl, rfl, hcx, hany, hgo⟩ := xx
  have J : Inv X pins σ' H' sI := JT.ofTry ok
  have fr : X.A.frames = some (X.env :: X.outer) := by rw [ok.frames, hs]
  have skyE : Sky B (X.env :: X.outer) a (Zc (.ref C) (some dd)) X.env.locals s'.heap := by
    have z := sky
    rw [show (X.tr (X.pn ++ pins) xe).stack = X.env :: X.outer from hs] at z
    exact z
  refine Sky.land Zc.steady fr hf skyE fun h3 fl3 up3 => ?_
  -- the exception's object is no frame, and new
  have Ba : B.get? a = none := fl3.2.1
  have notIn : a ∉ frs (X.env :: X.outer) := fun m => by
    obtain ⟨oe, vs, e1, _, e3⟩ := fl3.there
    obtain ⟨_, o2, e2, ne⟩ := fl3.2.2.1.mem m
    rw [e1] at e2
    cases e2
    exact ne _ e3
  have nl : a ≠ X.env.locals := fun z => notIn (List.mem_filterMap.mpr ⟨X.env, List.mem_cons_self, by rw [hf, z]⟩)
  have nfs : a ∉ X.fs := fun m => by
    obtain ⟨e, he, q⟩ := List.mem_filterMap.mp m
    exact notIn (List.mem_filterMap.mpr ⟨e, List.mem_cons_of_mem _ he, q⟩)
  have sIa : sI.heap.get? a = none := by
    cases q : sI.heap.get? a with
    | none => rfl
    | some o =>
      have := nb a o q (by rw [hs]; exact notIn)
      rw [Ba] at this
      cases this
  have s0a : X.s_0.heap.get? a = none := by
    cases q : X.s_0.heap.get? a with
    | none => rfl
    | some o =>
      obtain ⟨o', e⟩ := J.base.there a o q (by rw [hex]; simp)
      rw [sIa] at e
      cases e
  have pins_ne : ∀ p ∈ X.pn ++ pins, p.1 ≠ a := fun p hp z => by
    obtain ⟨e, _⟩ := J.pin p hp
    rw [z, sIa] at e
    cases e
  have J3 : Inv X pins σ' H' { s' with heap := h3 } := J.landed nb fl3.1 (up.trans up3) os ag
  obtain ⟨oe3, vs3, he3, hz3, hd3⟩ := fl3.there
  have S3 := J3.suite he3 hd3 na nl nfs
  have LT : PySem.W.Looks (model X.prog X.w) h3 (typeOf (.ref a)) (.ref C) := fun A Q E s k q => wpAny_typeOf_ref (k _ _ he3) (by rw [hz3.1]; exact q)
  refine wpAny_handleBy_cons (codeAny_handlers_test ?_) (by intro q; cases q)
  refine cls_test (X := X.suite a ((a, oe3) :: (X.pn ++ pins))) S3 (hT a oe3 _) LT hcx fun h5 k5 => ?_
  have fl5 : HandSPX.FlyingZ B (X.env :: X.outer) a (Zc (.ref C) (some dd)) h5 := by
    obtain ⟨k1, k2, kf, oe, vs, tb, ob, ts, e1, z1, e2, e3, e4, e5, e6, r⟩ := id fl3
    exact ⟨fun b o q => k5 _ _ (k1 b o q), k2, kf.of_keeps (fun b o q _ => ⟨o, k5 _ _ q, rfl⟩), oe, vs, tb, ob, ts, k5 _ _ e1, z1, e2, e3, e4, e5, k5 _ _ e6, r⟩
  have up5 : Heap.UpToSlots h3 h5 := fun b o q _ => ⟨o.slots, k5 _ _ q⟩
  rw [hany]
  refine codeAny_handlers_suite_as ?_
  refine HandSPX.lands_againZ fl5 fun h4 fl4 up4 => ?_
  have J4 : Inv X pins σ' H' { s' with heap := h4 } := J.landed nb fl4.1 (((up.trans up3).trans up5).trans up4) os ag
  obtain ⟨oe4, vs4, he4, hz4, hd4⟩ := fl4.there
  have S4 := J4.suite he4 hd4 na nl nfs
  refine store_ok (X := X.suite a ((a, oe4) :: (X.pn ++ pins))) (v := .ref a) S4 hN hi (.inl hln) rfl (fun s5 S5 => ?_) (.inr hln)
  have hlt : iN < σ'.length := by rw [J.len]; exact (List.getElem?_eq_some_iff.mp hi).1
  have suite := ps_keep (Y := X.suite a ((a, oe4) :: (X.pn ++ pins))) (q1 := q1) (q2 := q2) (q3 := q3) hN hi hln hj hly hd1 hd2 hsw
  refine wpAny_mono (suite.run [] s5 _ H' { nx := fun σ6 H6 => σ6 = (σ'.set iN (some (.ref a))).set iY (some (.ref a)) ∧ H6 = H', rt := fun _ _ => False } S5 ⟨.ref a, List.getElem?_set_self hlt, rfl, rfl⟩) (fun fl s6 h6 => ?_) (fun _ _ z => z.elim)
  rcases fl with _ | _ | _ | v
  · obtain ⟨σ6, H6, S6, rfl, rfl⟩ := h6
    have pinA := S6.pin (a, oe4) (List.mem_append_left _ List.mem_cons_self)
    have U6 : Inv X pins _ H6 s6 := S6.unsuite ok
    have T6 := track U6 pinA.1 hz4.1 hz4.2 hd4 na nl pins_ne s0a
    exact gone_ok T6 hN hi hln fun s7 J7 => ⟨_, _, J7, hgo a na⟩
  · obtain ⟨_, _, _, z⟩ := h6; exact z.elim
  · obtain ⟨_, _, _, z⟩ := h6; exact z.elim
  · obtain ⟨_, _, _, _, _, z⟩ := h6; exact z.elim
/-- try: body / except T as n: y = n -/
def tryS (gx : MX) (nms : List Str) (iN iY : Nat) : MS := fun ς => match gx ς with
  | some (.nrm o) => some o
  | some (.exc nm d ς') => if nms.contains nm = true ∧ free ς' iN = true ∧ free ς' iY = true then some (.nx ((ς'.set iN none).set iY (some (.vx (.exc nm d))))) else none
  | none => none
theorem s_try {body : List Stmt} {gx : MX} {nms : List Str} {p : Pos} (hs : X.stack = X.env :: X.outer) (hf : X.env.frame = some X.env.locals) (hex : X.ex = []) (hN : X.N.Nodup) (hi : X.N[iN]? = some n) (hln : X.env.kindOf n = some .local) (hj : X.N[iY]? = some y) (hly : X.env.kindOf y = some .local) (hne : iN ≠ iY)
    (hT : ∀ a oe pn, ClsT (X.suite a ((a, oe) :: pn)) T cs) (hd1 : (n == ("__debug__" : Str)) = false) (hd2 : (n == ("__classdict__" : Str)) = false) (hsw : swapsWith (.Name n q2) (some (.Name y q1)) q3.line X.env = pure false)
    (hm : ∀ nm ∈ nms, (∀ c ∈ cs, (PySem.W.exmOne X.K (.ref (nmAt X.K nm)) c).isSome = true) ∧ cs.any (isB X.K (.ref (nmAt X.K nm))) = true)
    (hb : ∀ (pn : List (Addr × Obj)) (xe : Value → Shared → Prop), PassesOwn (model X.prog X.w) X.A X.env xe → PSsx (X.tr pn xe) body gx) :
    PSd X (.Try body [.ExceptHandler (some T) (some n) [.Assign [.Name y q1] (.Name n q2) q3] q4] [] [] p) (tryS gx nms iN iY) := fun F => ⟨fun pins s σ H D I h => by
  obtain ⟨ς, G, rl, o, e, k⟩ := h
  have wish : tSx X.K F (wKeep X.K cs iN iY D) gx D σ H := by
    unfold tryS at e
    split at e
    · rename_i o' q
      cases e
      exact ⟨ς, G, rl, _, q, k⟩
    · rename_i nm d ς' q
      split at e
      · rename_i cnd
        cases e
        refine ⟨ς, G, rl, _, q, fun σ' H' G' dd v rl' s1 hv hd => ?_⟩
        obtain ⟨c1, c2, c3⟩ := cnd
        obtain ⟨m1, m2⟩ := hm nm (by simpa using c1)
        refine ⟨_, dd, rfl, rfl, m1, m2, fun a na => ?_⟩
        have r1 := rl'.lay (o := ExT a (nmAt X.K nm) dd) na
        have s2 : Same G' (upd G' a (ExT a (nmAt X.K nm) dd)) := same_upd (rl'.gnone na)
        have c4 : free (ς'.set iN none) iY = true := by
          unfold free at c3 ⊢
          rw [List.getElem?_set_ne hne]
          exact c3
        have r2 := (r1.setN (i := iN) (o := none) c2).setX (i := iY) (v := .ref a) (x := .exc nm d) c4 ⟨a, dd, v, rfl, upd_same, s2 _ _ hv, dp_same s2 hd⟩ (fun _ z => by cases z)
        have es : ((σ'.set iN (some (.ref a))).set iY (some (.ref a))).set iN none = (σ'.set iN none).set iY (some (.ref a)) := by
          rw [List.set_comm _ _ hne.symm, List.set_set]
        rw [es]
        exact k _ _ _ r2 (s1.trans s2)
      · cases e
    · cases e
  have ok := I.ok
  refine wpAny_Try_except ?_
  refine wpAny_mono ((hb (X.pn ++ pins) (fun u s1 => wpAny (model X.prog X.w) X.A (noteFrame u X.env) (fun _ s2 => wpAny (model X.prog X.w) X.A (setFlight u none) (fun _ s3 =>
    wpAny (model X.prog X.w) X.A (handleBy u X.env [.ExceptHandler (some T) (some n) [.Assign [.Name y q1] (.Name n q2) q3] q4]) (SP X pins D) X.xe s3) X.xe s2) X.xe s1) PassesOwn.looking F (wKeep X.K cs iN iY D) fun u s1 xx =>
      catch_keep ok hs hf hex hN hi hln hj hly hne hT hd1 hd2 hsw xx).run [] s σ H D (I.toTry _) wish) (fun fl s1 hsp => ?_) fun _ _ z => z
  rcases fl with _ | _ | _ | v
  · obtain ⟨σ', H', J', q⟩ := hsp
    exact wpAny_execs_nil ⟨σ', H', J'.ofTry ok, q⟩
  · obtain ⟨σ', H', J', q⟩ := hsp
    exact ⟨σ', H', J'.ofTry ok, q⟩
  · obtain ⟨σ', H', J', q⟩ := hsp
    exact ⟨σ', H', J'.ofTry ok, q⟩
  · obtain ⟨w, σ', H', J', r, q⟩ := hsp
    exact ⟨w, σ', H', J'.ofTry ok, r, q⟩⟩
end
end Lw
namespace Lw
open PySem PySem.Spec PyProof.Rows L2
/-! ### an exception that has been caught: is None, isinstance, .what -/
structure XI (K : PySem.W.Frag) (C : Addr) : Prop where
  xf : XfC K C
  no : PySem.W.findIn K (.ref C) "what" = some none
  hcl : (PySem.W.clsIn K C).isSome = true
  ha : PySem.W.findIn K (.ref C) "__class__" = some (some (.builtin "object.__class__"))
  hn : PySem.W.specialIn K (.builtin "object.__class__") "__get__" = some (some (.builtin "getset_descriptor.__get__"))
  ht : PySem.W.takesIn K (.builtin "object.__class__") = some true
  hm : PySem.W.mroIn K C (.type "object") = some true
/-- such an object in the heap -/
def Cgt (H : Hp) (a C : Addr) (u : V) : Prop := ∃ dd, H a = some (ExT a C dd) ∧ H dd = some (.xd [(("what" : Str), u)])
section
variable {X : Cx} {pins : List (Addr × Obj)} {σ : L2.St} {H : Hp} {s : Shared} {a C : Addr} {u : V}
theorem cgt_at (I : Inv X pins σ H s) (h : Cgt H a C u) : ∃ oe od u', PySem.W.InstAt s.heap a oe C (some od) ∧ PySem.W.lookIn "what" od = some (some u') ∧ RelV u u' := by
  obtain ⟨dd, h1, h2⟩ := h
  obtain ⟨⟨oe, vs, e1, e2, e3, e4⟩, _⟩ := I.hok a _ h1
  obtain ⟨mA, hns, hr⟩ := (show ObjOk X.prog X.w H s.heap dd (.xd [(("what" : Str), u)]) from I.hok dd _ h2)
  obtain ⟨od, ho, hl⟩ := lookIn_ns hns
  obtain ⟨u', hu, ru⟩ := RelO.some_of (v := u) (o := mA "what") (hr "what")
  exact ⟨oe, od, u', ⟨e1, e2, by unfold PySem.W.notCls; rw [e4], by rw [e3]; exact ho⟩, by rw [hl, hu], ru⟩
def rIsV (K : PySem.W.Frag) : List V → Hp → VK → Prop := fun xs H Q => ∃ (a C : Addr) (w c : V) (u : Value) (b : Bool), xs = [.ref a, c] ∧ Cgt H a C w ∧ XI K C ∧ ClsV c u ∧ PySem.W.kitOne K (.ref C) u = some b ∧ Q (.bl b) H
theorem call_isV : CallR X (.builtin "isinstance") (rIsV X.K) := by
  intro pins s σ H xs us Q I r h
  obtain ⟨a, C, w, c, u, b, rfl, hc, T, k, e, q⟩ := h
  obtain ⟨u1, u2, rfl, r1, r2⟩ := vals2 r
  have e1 : u1 = .ref a := r1
  have e2 := k.eq r2
  subst e1 e2
  obtain ⟨oe, od, _, J, _⟩ := cgt_at I hc
  exact PySem.W.kia_one (PySem.W.kitx_exc T.hcl T.xf.ga T.xf.gg T.xf.exC T.ha T.hn T.ht T.hm) I.kIn J e (fun z => nomatch z) fun tk => ⟨.bl b, H, I.tok tk, rfl, q⟩
def rIsVT (K : PySem.W.Frag) : List V → Hp → VK → Prop := fun xs H Q => ∃ (a C tp : Addr) (w : V) (cs : List V) (us : List Value) (b : Bool), xs = [.ref a, .ref tp] ∧ Cgt H a C w ∧ XI K C ∧ H tp = some (.tup cs) ∧ Paired ClsV cs us ∧ PySem.W.kitAny K (.ref C) us = some b ∧ Q (.bl b) H
theorem call_isVT : CallR X (.builtin "isinstance") (rIsVT X.K) := by
  intro pins s σ H xs us Q I r h
  obtain ⟨a, C, tp, w, cs, ws, b, rfl, hc, T, hT, k, e, q⟩ := h
  obtain ⟨u1, u2, rfl, r1, r2⟩ := vals2 r
  have e1 : u1 = .ref a := r1
  have e2 : u2 = .ref tp := r2
  subst e1 e2
  obtain ⟨oe, od, _, J, _⟩ := cgt_at I hc
  have ht : ObjOk X.prog X.w H s.heap tp (.tup cs) := I.hok tp _ hT
  obtain ⟨_, its, rv, ⟨oc, odt, dt, sl⟩, g1, g2, m, g3⟩ := ht
  have e3 := ClsV.all k rv
  subst e3
  simp only at g2 g3
  subst g2 g3
  exact PySem.W.kia_tup (PySem.W.kitx_exc T.hcl T.xf.ga T.xf.gg T.xf.exC T.ha T.hn T.ht T.hm) I.kIn J g1 e (fun z => nomatch z) fun tk => ⟨.bl b, H, I.tok tk, rfl, q⟩
theorem what_of {e : Expr} {te : TE} {pos : Pos} (he : PE X e te) (hb : attributeBase e "what" X.env (eval e X.env) = eval e X.env := by rfl) :
    PE X (.Attribute e "what" pos) (fun σ H Q => te σ H fun x H1 => ∃ a C w, x = .ref a ∧ Cgt H1 a C w ∧ XI X.K C ∧ Q w H1) := by
  refine ⟨fun pins s σ H Q I h => attr_of hb (thn (he.run pins s σ H _ I h) fun u s1 hh => ?_)⟩
  obtain ⟨x, H1, I1, rx, a, C, w, rfl, hc, T, q⟩ := hh
  have eu : u = .ref a := rx
  subst eu
  obtain ⟨oe, od, u', J, l, ru⟩ := cgt_at I1 hc
  exact HandSPX.exc_get I1.kIn J T.xf.ga T.xf.gg T.xf.exC (PySem.W.findObj_own T.xf.hdC T.no rfl l) (handed_of ru) ⟨w, H1, I1.tok _, ru, q⟩
end
/-! ### the expressions over a slot that holds a caught one -/
section
variable {X : Cx} {F : Fx} {ς : En} {G H : Hp} {σ : L2.St} {x y : Str} {i : Nat} {p p1 p2 pos : Pos}
theorem Rel.cgt (rl : Rel X.K F ς G σ H) {nm : Str} {d : D} (e : ς[i]? = some (some (.vx (.exc nm d)))) : ∃ a u, σ[i]? = some (some (.ref a)) ∧ Cgt G a (nmAt X.K nm) u ∧ Dp X.K G u d := by
  obtain ⟨v, h1, a, dd, u, rfl, h2, h3, h4⟩ := rl.vx i _ e
  exact ⟨a, u, h1, ⟨dd, h2, h3⟩, h4⟩
theorem Cgt.same {G H : Hp} (s : Same G H) {a C : Addr} {u : V} (h : Cgt G a C u) : Cgt H a C u := by
  obtain ⟨dd, h1, h2⟩ := h
  exact ⟨dd, s _ _ h1, s _ _ h2⟩
/-- slot i is None -/
def isX (i : Nat) : M R := fun ς => match ς[i]? with
  | some (some (.vx (.exc _ _))) => some (.pure (.bool false), ς)
  | some (some (.pure d)) => some (.pure (.bool (isNone d)), ς)
  | _ => none
/-- isinstance of what slot i holds, by a table of the classes' names -/
def isiX (i : Nat) (tab : List (Str × Bool)) : M R := fun ς => match ς[i]? with
  | some (some (.vx (.exc nm _))) => match tab.lookup nm with
    | some b => some (.pure (.bool b), ς)
    | none => none
  | _ => none
theorem d_isiX1 {tab : List (Str × Bool)} {c : V} {u : Value} (hg : Gl X "isinstance") (hm : X.mg "isinstance" = none) (h : PE X (.Name x p1) (tVar i)) (hy : PE X (.Name y p2) (tC c)) (hc : ClsV c u)
    (ht : ∀ nm b, tab.lookup nm = some b → XI X.K (nmAt X.K nm) ∧ PySem.W.kitOne X.K (.ref (nmAt X.K nm)) u = some b) (he : starEach [.Name x p1, .Name y p2] X.env = (false, eval (.Name x p1) X.env) :: starEach [.Name y p2] X.env := by rfl) :
    PEd X (.Call (.Name "isinstance" p) [.Name x p1, .Name y p2] [] pos) (isiX i tab) := fun F => PE.mono (pe_callB call_isV hg hm (by decide +kernel) (pa_cons h (pa_cons hy pa_nil) he) (he := he) (hpl := rfl)) fun σ H Q hq => by
  obtain ⟨ς, G, rl, r, ς', e, k⟩ := hq
  unfold isiX at e
  split at e
  · rename_i nm d q
    split at e
    · rename_i b q2
      cases e
      obtain ⟨a, w, h1, h2, _⟩ := rl.cgt q
      obtain ⟨t1, t2⟩ := ht nm b q2
      exact ⟨.ref a, h1, a, _, w, c, u, b, rfl, h2.same rl.sub, t1, hc, t2, k _ H G rl (Same.refl _) (.bl b)⟩
    · cases e
  · cases e
theorem d_isiXN {tab : List (Str × Bool)} {tys : List Expr} {cs : List V} {us : List Value} {n} (hg : Gl X "isinstance") (hm : X.mg "isinstance" = none) (h : PE X (.Name x p1) (tVar i)) (hy : PA X tys (fun σ H Q => Q cs H)) (hl : cs.length ≤ sizeLine) (hc : Paired ClsV cs us)
    (ht : ∀ nm b, tab.lookup nm = some b → XI X.K (nmAt X.K nm) ∧ PySem.W.kitAny X.K (.ref (nmAt X.K nm)) us = some b) (he : starEach [.Name x p1, .Tuple tys n p2] X.env = (false, eval (.Name x p1) X.env) :: starEach [.Tuple tys n p2] X.env := by rfl) :
    PEd X (.Call (.Name "isinstance" p) [.Name x p1, .Tuple tys n p2] [] pos) (isiX i tab) := fun F => PE.mono (pe_callB call_isVT hg hm (by decide +kernel) (pa_cons h (pa_cons (pe_tup hy) pa_nil) he) (he := he) (hpl := rfl)) fun σ H Q hq => by
  obtain ⟨ς, G, rl, r, ς', e, k⟩ := hq
  unfold isiX at e
  split at e
  · rename_i nm d q
    split at e
    · rename_i b q2
      cases e
      obtain ⟨a, w, h1, h2, _⟩ := rl.cgt q
      obtain ⟨t1, t2⟩ := ht nm b q2
      refine ⟨.ref a, h1, hl, fun tp hz => ?_⟩
      have sm : Same H (upd H tp (.tup cs)) := same_upd hz
      exact ⟨a, _, tp, w, cs, us, b, rfl, (h2.same rl.sub).same sm, t1, upd_same, hc, t2, k _ _ _ (rl.lay hz) (same_upd (rl.gnone hz)) (.bl b)⟩
    · cases e
  · cases e
/-- what the caught one keeps -/
def whX (i : Nat) (nms : List Str) : M R := fun ς => match ς[i]? with
  | some (some (.vx (.exc nm d))) => if nms.contains nm = true then some (.pure d, ς) else none
  | _ => none
theorem d_whX {nms : List Str} (h : PE X (.Name x p) (tVar i)) (ht : ∀ nm ∈ nms, XI X.K (nmAt X.K nm)) (hb : attributeBase (.Name x p) "what" X.env (eval (.Name x p) X.env) = eval (.Name x p) X.env := by rfl) : PEd X (.Attribute (.Name x p) "what" pos) (whX i nms) := fun F => PE.mono (what_of h hb) fun σ H Q hq => by
  obtain ⟨ς, G, rl, r, ς', e, k⟩ := hq
  unfold whX at e
  split at e
  · rename_i nm d q
    split at e
    · rename_i c
      cases e
      obtain ⟨a, w, h1, h2, h3⟩ := rl.cgt q
      exact ⟨.ref a, h1, a, _, w, rfl, h2.same rl.sub, ht nm (by simpa using c), k w H G rl (Same.refl _) h3⟩
    · cases e
  · cases e
end
end Lw
namespace Lw
open PySem PySem.Spec PyProof.Rows L2
/-! ### the facts of a class, looked up -/
theorem xcB_ok {nm : Str} {bmB : List Value} {newId : String} {K : PySem.W.Frag} (h : xcB nm bmB newId K = true) : XC K (nmAt K nm) (iniA K nm) bmB newId := by
  unfold xcB at h
  simp only [Bool.and_eq_true, decide_eq_true_eq] at h
  obtain ⟨h1, h2, h3, h4, h5, h6, h7, h8, h9, h10⟩ := h
  exact ⟨h1, h2, h3, h4, h5, h6, h7, h8, h9, h10⟩
theorem xiB_ok {nm : Str} {K : PySem.W.Frag} (h : xiB nm K = true) : XI K (nmAt K nm) := by
  unfold xiB at h
  simp only [Bool.and_eq_true, decide_eq_true_eq] at h
  obtain ⟨h1, h2, h3, h4, h5, h6, h7⟩ := h
  exact ⟨xfB_ok h1, h2, h3, h4, h5, h6, h7⟩
/-- a class as the text names it -/
theorem Cn.cls (K : PySem.W.Frag) (c : Cn) : ClsV (c.v K) (c.u K) := by
  cases c with
  | own nm => exact .own _
  | ty n => exact .ty n
theorem Cn.clss (K : PySem.W.Frag) : ∀ cs : List Cn, Paired ClsV (cs.map fun c => c.v K) (cs.map fun c => c.u K)
  | [] => .nil
  | c :: cs => .cons (c.cls K) (Cn.clss K cs)
/-- each of nms is caught by the clause of these classes -/
theorem hmB_ok {nms : List Str} {cs : List Cn} {K : PySem.W.Frag} (h : hmB nms cs K = true) : ∀ nm ∈ nms, (∀ c ∈ cs.map fun c => c.u K, (PySem.W.exmOne K (.ref (nmAt K nm)) c).isSome = true) ∧ (cs.map fun c => c.u K).any (isB K (.ref (nmAt K nm))) = true := fun nm m => by
  have := List.all_eq_true.mp h nm m
  rw [Bool.and_eq_true] at this
  exact ⟨fun c hc => List.all_eq_true.mp this.1 c hc, this.2⟩
theorem lookup_in {β : Type} {nm : Str} {b : β} : ∀ {l : List (Str × β)}, l.lookup nm = some b → (nm, b) ∈ l
  | [], h => by cases h
  | (a, c) :: l, h => by
    rw [List.lookup_cons] at h
    split at h
    · rename_i e
      cases h
      rw [beq_iff_eq] at e
      subst e
      exact List.mem_cons_self
    · exact List.mem_cons_of_mem _ (lookup_in h)
/-- what isinstance answers for each of the table's classes -/
theorem tabB1_ok {tab : List (Str × Bool)} {c : Cn} {K : PySem.W.Frag} (h : tabB1 tab c K = true) : ∀ nm b, tab.lookup nm = some b → XI K (nmAt K nm) ∧ PySem.W.kitOne K (.ref (nmAt K nm)) (c.u K) = some b := fun nm b e => by
  have := List.all_eq_true.mp h _ (lookup_in e)
  rw [Bool.and_eq_true, decide_eq_true_eq] at this
  exact ⟨xiB_ok this.1, this.2⟩
theorem tabBN_ok {tab : List (Str × Bool)} {cs : List Cn} {K : PySem.W.Frag} (h : tabBN tab cs K = true) : ∀ nm b, tab.lookup nm = some b → XI K (nmAt K nm) ∧ PySem.W.kitAny K (.ref (nmAt K nm)) (cs.map fun c => c.u K) = some b := fun nm b e => by
  have := List.all_eq_true.mp h _ (lookup_in e)
  rw [Bool.and_eq_true, decide_eq_true_eq] at this
  exact ⟨xiB_ok this.1, this.2⟩
theorem xisB_ok {nms : List Str} {K : PySem.W.Frag} (h : xisB nms K = true) : ∀ nm ∈ nms, XI K (nmAt K nm) := fun nm m => xiB_ok (List.all_eq_true.mp h nm m)
/-! ### the Hook: defs, facts, and closed looks of one's own -/
section
variable {fa : List He.Fa} {fn : List He.DefD} {xs : List (PySem.W.Frag → Bool)} {K : PySem.W.Frag}
theorem SaysX.base (c : SaysX fa fn xs K) : He.SaysD fa fn K := by
  have e1 : ((He.obsD fa fn K).1 && xs.all fun f => f K) = true := congrArg (fun z : He.AlD => z.1) c
  have e2 : (obsX fa fn xs K).2 = (He.valD fn).2 := congrArg (fun z : He.AlD => z.2) (show obsX fa fn xs K = He.valD fn from c)
  rw [Bool.and_eq_true] at e1
  exact Prod.ext e1.1 e2
theorem SaysX.look (c : SaysX fa fn xs K) (i : Nat) {f : PySem.W.Frag → Bool} (h : xs[i]? = some f := by rfl) : f K = true := by
  have e1 : ((He.obsD fa fn K).1 && xs.all fun f => f K) = true := congrArg (fun z : He.AlD => z.1) c
  rw [Bool.and_eq_true] at e1
  exact List.all_eq_true.mp e1.2 f (List.mem_of_getElem? h)
end
/-! ### a class of the program's own that may be raised -/
def XCls (P : Program) (w : World) (K : PySem.W.Frag) (mg : Str → Option Value) (base : Heap) (x : Str) : Prop :=
  ∃ (B newId initId : String) (bmB : List Value) (fI : Addr) (fd : FuncData), ExcBaseFacts B newId initId bmB ∧ XC K (nmAt K x) fI bmB newId ∧ FnOk P w K mg base CX0 1 fI fd ["self", "what"] (spW (nmAt K x)) ∧ Binds K fd ["self", "what"] [] ∧ mg x = some (.ref (nmAt K x))
theorem xcls_of {P : Program} {w : World} {K : PySem.W.Frag} {mg : Str → Option Value} {base : Heap} {nm : Str} {B newId initId : String} {bmB : List Value} {fd : FuncData} {qual x : Str} {params : Arguments} {scope : Scope} {p1 p2 p3 p4 : Pos}
    (FB : ExcBaseFacts B newId initId bmB) (SF : StoreFacts B bmB "object.__setattr__" "object") (hl : xcB nm bmB newId K = true) (hm : mg nm = some (.ref (nmAt K nm)))
    (F : FunD K x qual params [.Assign [.Attribute (.Name "self" p1) "what" p2] (.Name "what" p3) p4] scope [] [] (iniA K nm) fd) (S : FnScope ["self", "what"] ["self", "what"] scope) (h0 : Vis scope "self") (h1 : Vis scope "what") (hb : Binds K fd ["self", "what"] []) : XCls P w K mg base nm :=
  ⟨B, newId, initId, bmB, iniA K nm, fd, FB, xcB_ok hl, init_ok (k := 0) SF (xcB_ok hl) F S h0 h1, hb, hm⟩
section
variable {X : Cx} {x : Str} {e : Expr} {f : M R} {k : Nat} {p p2 pos : Pos}
theorem XCls.raise (c : XCls X.prog X.w X.K X.mg X.base x) (hc : X.calm = true) (hr : Room k X.A) (hk : 2 ≤ k) (hg : Gl X x) (he : PEd X e f) (hdb : (x == ("__debug__" : Str)) = false := by decide) (hst : starEach [e] X.env = (false, eval e X.env) :: starEach [] X.env := by rfl) (hpl : (backTo pos (starEach [] X.env)).any (·.1) = false := by rfl) :
    PSx X (.Raise (some (.Call (.Name x p) [e] [] pos)) none p2) (raX x f) := by
  obtain ⟨B, newId, initId, bmB, fI, fd, FB, T, F1, hb, hm⟩ := c
  exact x_raise hc rfl (fun te h => pmk_what FB T F1 (hr.mono hk) hb hg hm h hdb hst hpl) he
end
end Lw
namespace Lw
open PySem PySem.Spec PyProof.Rows L2
theorem cn_lenU (K : PySem.W.Frag) (cs : List Cn) (h : cs.length ≤ 100 := by decide) : (cs.map fun c => c.u K).length ≤ sizeLine := by
  rw [List.length_map, sizeLine_eq]
  omega
theorem cn_lenV (K : PySem.W.Frag) (cs : List Cn) (h : cs.length ≤ 100 := by decide) : (cs.map fun c => c.v K).length ≤ sizeLine := by
  rw [List.length_map, sizeLine_eq]
  omega
/-! ### what a program that may raise is worth -/
abbrev XE' := Str → D → En → Prop
def wpx (g : MX) (ς : En) (Q : Out → Prop) (E : XE') : Prop := ∃ o, g ς = some o ∧ match o with
  | .nrm o => Q o
  | .exc nm d ς' => E nm d ς'
def wpe (f : MRX) (ς : En) (Q : R → En → Prop) (E : XE') : Prop := ∃ o, f ς = some o ∧ match o with
  | .val r ς' => Q r ς'
  | .exc nm d ς' => E nm d ς'
def wpm (m : FsemX) (ss : List S) (Q : R → List S → Prop) (E : Str → D → List S → Prop) : Prop := ∃ o, m ss = some o ∧ match o with
  | .ret r outs => Q r outs
  | .exc nm d outs => E nm d outs
def andThenX (g : MX) (Q : Out → Prop) (E : XE') : Out → Prop
  | .nx ς => wpx g ς Q E
  | o => Q o
namespace Sm
section
variable {ς : En} {i iN iY : Nat} {d : D} {g : MS} {gx gx1 gx2 : MX} {fx : MRX} {m : FsemX} {f : M R} {t : M Bool} {Q : Out → Prop} {E : XE'} {nm : Str} {nms : List Str} {tg : Tg}
theorem mmono {ss : List S} {Q Q' : R → List S → Prop} {E E' : Str → D → List S → Prop} (h : wpm m ss Q E) (k : ∀ r o, Q r o → Q' r o) (l : ∀ nm d o, E nm d o → E' nm d o) : wpm m ss Q' E' := by
  obtain ⟨o, e, q⟩ := h
  refine ⟨o, e, ?_⟩
  cases o with
  | ret r o => exact k r o q
  | exc nm d o => exact l nm d o q
theorem nS (h : wps g ς Q) : wpx (Lw.nS g) ς Q E := by
  obtain ⟨o, e, q⟩ := h
  exact ⟨.nrm o, by unfold Lw.nS; rw [e]; rfl, q⟩
theorem sqX (h : wpx gx1 ς (andThenX gx2 Q E) E) : wpx (Lw.sqX gx1 gx2) ς Q E := by
  obtain ⟨o, e, q⟩ := h
  rcases o with o | ⟨nm, d, ς'⟩
  · cases o with
    | nx ς' =>
      obtain ⟨o2, e2, q2⟩ := q
      exact ⟨o2, by unfold Lw.sqX; rw [e]; exact e2, q2⟩
    | rt r ς' => exact ⟨.nrm (.rt r ς'), by unfold Lw.sqX; rw [e], q⟩
    | bk ς' => exact ⟨.nrm (.bk ς'), by unfold Lw.sqX; rw [e], q⟩
    | ct ς' => exact ⟨.nrm (.ct ς'), by unfold Lw.sqX; rw [e], q⟩
  · exact ⟨.exc nm d ς', by unfold Lw.sqX; rw [e], q⟩
theorem ifX (h : wp t ς fun b ς1 => if b = true then wpx gx1 ς1 Q E else wpx gx2 ς1 Q E) : wpx (Lw.ifX t gx1 gx2) ς Q E := by
  obtain ⟨b, ς1, e, q⟩ := h
  cases b with
  | true =>
    rw [if_pos rfl] at q
    obtain ⟨o, e2, q2⟩ := q
    exact ⟨o, by unfold Lw.ifX; rw [e]; exact e2, q2⟩
  | false =>
    rw [if_neg Bool.false_ne_true] at q
    obtain ⟨o, e2, q2⟩ := q
    exact ⟨o, by unfold Lw.ifX; rw [e]; exact e2, q2⟩
theorem raX (h : wp f ς fun r ς1 => ∃ d ς2, toD r ς1 = some (d, ς2) ∧ E nm d ς2) : wpx (Lw.raX nm f) ς Q E := by
  obtain ⟨d, ς1, e, q⟩ := esc (Q := fun d ς1 => E nm d ς1) h
  exact ⟨.exc nm d ς1, by unfold Lw.raX; rw [e], q⟩
theorem exX (h : wpe fx ς (fun _ ς1 => Q (.nx ς1)) E) : wpx (Lw.exX fx) ς Q E := by
  obtain ⟨o, e, q⟩ := h
  cases o with
  | val r ς1 => exact ⟨.nrm (.nx ς1), by unfold Lw.exX; rw [e], q⟩
  | exc nm d ς1 => exact ⟨.exc nm d ς1, by unfold Lw.exX; rw [e], q⟩
theorem asX (h : wpe fx ς (fun r ς1 => ∃ d ς2 ς3, toD r ς1 = some (d, ς2) ∧ tg d ς2 = some ς3 ∧ Q (.nx ς3)) E) : wpx (Lw.asX fx tg) ς Q E := by
  obtain ⟨o, e, q⟩ := h
  cases o with
  | val r ς1 =>
    obtain ⟨d, ς2, ς3, e2, e3, q⟩ := q
    exact ⟨.nrm (.nx ς3), by unfold Lw.asX; rw [e]; simp only [e2, e3], q⟩
  | exc nm d ς1 => exact ⟨.exc nm d ς1, by unfold Lw.asX; rw [e], q⟩
theorem callX {ga : M (List Ar)} {Q : R → En → Prop} (h : wp ga ς fun as ς1 => ∃ ss, argS as ς1 = some ss ∧ (refsOf as).Nodup ∧ wpm m ss (fun r outs => (∀ i, r ≠ .ref i) ∧ Q r (putBack as outs ς1)) fun nm d outs => E nm d (putBack as outs ς1)) : wpe (Lw.callX m ga) ς Q E := by
  obtain ⟨as, ς1, e, ss, e2, nd, o, e3, q⟩ := h
  cases o with
  | ret r outs =>
    obtain ⟨hr, q⟩ := q
    refine ⟨.val r (putBack as outs ς1), ?_, q⟩
    unfold Lw.callX
    simp only [e, e2, e3]
    cases r with
    | ref i => exact absurd rfl (hr i)
    | pure d => exact if_pos nd
    | vx x => exact if_pos nd
    | fresh ds => exact if_pos nd
  | exc nm d outs =>
    refine ⟨.exc nm d (putBack as outs ς1), ?_, q⟩
    unfold Lw.callX
    simp only [e, e2, e3]
    exact if_pos nd
theorem forX {fi : M (List D)} (h : wp fi ς fun ds ς1 => wpx (loopX tg gx ds) ς1 Q E) : wpx (Lw.forX fi tg gx) ς Q E := by
  obtain ⟨ds, ς1, e, o, e2, q⟩ := h
  exact ⟨o, by unfold Lw.forX; rw [e]; exact e2, q⟩
theorem tryS (h : wpx gx ς Q fun nm d ς' => nms.contains nm = true ∧ free ς' iN = true ∧ free ς' iY = true ∧ Q (.nx ((ς'.set iN none).set iY (some (.vx (.exc nm d)))))) : wps (Lw.tryS gx nms iN iY) ς Q := by
  obtain ⟨o, e, q⟩ := h
  rcases o with o | ⟨nm, d, ς'⟩
  · exact ⟨o, by unfold Lw.tryS; rw [e], q⟩
  · obtain ⟨h1, h2, h3, q⟩ := q
    exact ⟨_, by unfold Lw.tryS; rw [e]; exact if_pos ⟨h1, h2, h3⟩, q⟩
end
end Sm
def isXv (i : Nat) (ς : En) : Option Bool := match ς[i]? with
  | some (some (.vx (.exc _ _))) => some false
  | some (some (.pure d)) => some (isNone d)
  | _ => none
def isiXv (i : Nat) (tab : List (Str × Bool)) (ς : En) : Option Bool := match ς[i]? with
  | some (some (.vx (.exc nm _))) => tab.lookup nm
  | _ => none
def whXv (i : Nat) (nms : List Str) (ς : En) : Option D := match ς[i]? with
  | some (some (.vx (.exc nm d))) => if nms.contains nm = true then some d else none
  | _ => none
/-- slot i is None, as a test -/
def isT (i : Nat) : M Bool := fun ς => match isXv i ς with
  | some b => some (b, ς)
  | none => none
theorem relRef (a : Addr) : L2.RelV (.ref a) (.ref a) := rfl
theorem d_isT {X : Cx} {x : Str} {i : Nat} {p pos : Pos} {e : Expr} (h : PE X (.Name x p) (tVar i)) (hn : PE X e (tC .non)) (hm : behindInMarks .Is e = false) : PTd X (.Compare (.Name x p) [.Is] [e] pos) (isT i) := fun F => PT.mono (pt_cmpR op_isN h hn hm) fun σ H Q hq => by
  obtain ⟨ς, G, rl, b, ς', e, k⟩ := hq
  unfold isT isXv at e
  split at e
  · rename_i b' q
    cases e
    split at q
    · rename_i nm d q2
      cases q
      obtain ⟨a, u, h1, _⟩ := rl.cgt q2
      exact ⟨.ref a, h1, rfl, false, rfl, k H G rl (Same.refl _)⟩
    · rename_i d q2
      cases q
      obtain ⟨v, h1, h2⟩ := rl.pu i d q2
      have hv := isNone_V (.inl h2 : RdV X.K G H v d)
      refine ⟨v, h1, rfl, isNone d, ?_, k H G rl (Same.refl _)⟩
      rw [hv]
    · cases q
  · cases e
namespace Sm
section
variable {ς : En} {i n : Nat} {nms : List Str} {tab : List (Str × Bool)} {Q : R → En → Prop}
theorem isX (h : ∃ b, isXv i ς = some b ∧ Q (.pure (.bool b)) ς) : wp (Lw.isX i) ς Q := by
  obtain ⟨b, e, q⟩ := h
  refine ⟨.pure (.bool b), ς, ?_, q⟩
  unfold isXv at e
  unfold Lw.isX
  split at e
  · rename_i h1; cases e; first | rfl | rw [h1]
  · rename_i h1; cases e; first | rfl | rw [h1]
  · cases e
theorem isT {Q : Bool → En → Prop} (h : ∃ b, isXv i ς = some b ∧ Q b ς) : wp (Lw.isT i) ς Q := by
  obtain ⟨b, e, q⟩ := h
  exact ⟨b, ς, by unfold Lw.isT; rw [e], q⟩
theorem isiX (h : ∃ b, isiXv i tab ς = some b ∧ Q (.pure (.bool b)) ς) : wp (Lw.isiX i tab) ς Q := by
  obtain ⟨b, e, q⟩ := h
  refine ⟨.pure (.bool b), ς, ?_, q⟩
  unfold isiXv at e
  unfold Lw.isiX
  split at e
  · rename_i h1; first | (rw [h1]; simp only [e]) | simp only [e]
  · cases e
theorem whX (h : ∃ d, whXv i nms ς = some d ∧ Q (.pure d) ς) : wp (Lw.whX i nms) ς Q := by
  obtain ⟨d, e, q⟩ := h
  refine ⟨.pure d, ς, ?_, q⟩
  unfold whXv at e
  unfold Lw.whX
  split at e
  · rename_i h1
    split at e
    · rename_i h2; cases e; first | (rw [h1]; exact if_pos h2) | exact if_pos h2
    · cases e
  · cases e
theorem runX {g : MX} {ss : List S} {Q : R → List S → Prop} {E : Str → D → List S → Prop} (h : wpx g (ent n ss) (outF ss.length Q) fun nm d ς => E nm d (outsOf ς ss.length)) : wpm (Lw.runX g n) ss Q E := by
  obtain ⟨o, e, q⟩ := h
  rcases o with o | ⟨nm, d, ς'⟩
  · cases o with
    | nx ς' => exact ⟨_, by unfold Lw.runX; rw [e], q⟩
    | rt r ς' =>
      cases r with
      | ref i => exact absurd rfl (q.1 i)
      | pure d => exact ⟨.ret (.pure d) (outsOf ς' ss.length), by unfold Lw.runX; rw [e], q.2⟩
      | vx x => exact ⟨.ret (.vx x) (outsOf ς' ss.length), by unfold Lw.runX; rw [e], q.2⟩
      | fresh ds => exact ⟨.ret (.fresh ds) (outsOf ς' ss.length), by unfold Lw.runX; rw [e], q.2⟩
    | bk ς' => exact q.elim
    | ct ς' => exact q.elim
  · exact ⟨_, by unfold Lw.runX; rw [e], q⟩
end
section
variable {ς : En} {i n iN iY : Nat} {d : D} {g : MS} {gx gx1 gx2 : MX} {fx : MRX} {m : FsemX} {f : M R} {t : M Bool} {Q : Out → Prop} {E : XE'} {nm : Str} {nms : List Str} {tg : Tg} {tab : List (Str × Bool)}
instance stp_nS : Stp (wpx (Lw.nS g) ς Q E) (wps g ς Q) := ⟨Sm.nS⟩
instance stp_sqX : Stp (wpx (Lw.sqX gx1 gx2) ς Q E) (wpx gx1 ς (andThenX gx2 Q E) E) := ⟨Sm.sqX⟩
instance stp_ifX : Stp (wpx (Lw.ifX t gx1 gx2) ς Q E) (wp t ς fun b ς1 => if b = true then wpx gx1 ς1 Q E else wpx gx2 ς1 Q E) := ⟨Sm.ifX⟩
instance stp_raX : Stp (wpx (Lw.raX nm f) ς Q E) (wp f ς fun r ς1 => ∃ d ς2, toD r ς1 = some (d, ς2) ∧ E nm d ς2) := ⟨Sm.raX⟩
instance stp_exX : Stp (wpx (Lw.exX fx) ς Q E) (wpe fx ς (fun _ ς1 => Q (.nx ς1)) E) := ⟨Sm.exX⟩
instance stp_asX : Stp (wpx (Lw.asX fx tg) ς Q E) (wpe fx ς (fun r ς1 => ∃ d ς2 ς3, toD r ς1 = some (d, ς2) ∧ tg d ς2 = some ς3 ∧ Q (.nx ς3)) E) := ⟨Sm.asX⟩
instance stp_callX {ga : M (List Ar)} {Q : R → En → Prop} : Stp (wpe (Lw.callX m ga) ς Q E) (wp ga ς fun as ς1 => ∃ ss, argS as ς1 = some ss ∧ (refsOf as).Nodup ∧ wpm m ss (fun r outs => (∀ i, r ≠ .ref i) ∧ Q r (putBack as outs ς1)) fun nm d outs => E nm d (putBack as outs ς1)) := ⟨Sm.callX⟩
instance stp_forX {fi : M (List D)} : Stp (wpx (Lw.forX fi tg gx) ς Q E) (wp fi ς fun ds ς1 => wpx (loopX tg gx ds) ς1 Q E) := ⟨Sm.forX⟩
instance stp_tryS : Stp (wps (Lw.tryS gx nms iN iY) ς Q) (wpx gx ς Q fun nm d ς' => nms.contains nm = true ∧ free ς' iN = true ∧ free ς' iY = true ∧ Q (.nx ((ς'.set iN none).set iY (some (.vx (.exc nm d)))))) := ⟨Sm.tryS⟩
instance stp_isX {Q : R → En → Prop} : Stp (wp (Lw.isX i) ς Q) (∃ b, isXv i ς = some b ∧ Q (.pure (.bool b)) ς) := ⟨Sm.isX⟩
instance stp_isT {Q : Bool → En → Prop} : Stp (wp (Lw.isT i) ς Q) (∃ b, isXv i ς = some b ∧ Q b ς) := ⟨Sm.isT⟩
instance stp_isiX {Q : R → En → Prop} : Stp (wp (Lw.isiX i tab) ς Q) (∃ b, isiXv i tab ς = some b ∧ Q (.pure (.bool b)) ς) := ⟨Sm.isiX⟩
instance stp_whX {Q : R → En → Prop} : Stp (wp (Lw.whX i nms) ς Q) (∃ d, whXv i nms ς = some d ∧ Q (.pure d) ς) := ⟨Sm.whX⟩
instance stp_ax_nx : Stp (andThenX gx Q E (.nx ς)) (wpx gx ς Q E) := ⟨id⟩
instance stp_ax_rt {r : R} : Stp (andThenX gx Q E (.rt r ς)) (Q (.rt r ς)) := ⟨id⟩
end
end Sm
end Lw
namespace Lw
open PySem PySem.Spec PyProof.Rows L2
/-! ### a def that may raise, called where it does not -/
def clm (m : FsemX) : Fsem := fun ss => match m ss with
  | some (.ret r outs) => some (r, outs)
  | _ => none
theorem FoX.calm {P : Program} {w : World} {K : PySem.W.Frag} {mg : Str → Option Value} {base : Heap} {x : Str} {ps : List Str} {m : FsemX} {k : Nat} (h : FoX P w K mg base x ps m k) : Fo P w K mg base x ps (clm m) k := by
  obtain ⟨f, fd, G, hm, hk, hb⟩ := h
  have key : ∀ vs H (Q : VK) (E : XK), spF K ps.length (clm m) vs H Q E → spX K ps.length m vs H Q (fun _ _ _ => False) := by
    intro vs H Q E h
    obtain ⟨ss, G1, hl, a, r, outs, e, q⟩ := h
    unfold clm at e
    split at e
    · rename_i r' outs' e2
      cases e
      exact ⟨ss, G1, hl, a, _, e2, q⟩
    · cases e
  refine ⟨f, fd, ⟨fun vs H Q E h => G.len _ _ _ _ (key vs H Q E h), fun A outer s H args us vs Q E hgd hr he hb' hv h => ?_⟩, hm, hk, hb⟩
  refine codeAny_mono (G.run A outer s H args us vs Q _ hgd hr he hb' hv (key vs H Q E h)) ?_
  rintro (er | fl) s' hq
  · obtain ⟨_, _, _, _, _, _, _, _, _, _, _, _, z⟩ := hq
    exact z.elim
  · rcases fl with _ | _ | _ | u <;> exact hq
end Lw
namespace Lw
open PySem PySem.Spec PyProof.Rows L2
end Lw
namespace Lw
open PySem PySem.Spec PyProof.Rows L2
/-! ### sum(range(a, b)) -/
def rsum (a b : Int) : Int := preSum (fun i => a + (i : Int)) (b - a).toNat
section
variable {X : Cx} {pos p1 p2 p3 : Pos} {a b : Expr} {fa fb : M R}
def sumRE (fa fb : M R) : M R := bd (sub fa) fun r => bd (sub fb) fun r2 => bd (rd r) fun d => bd (rd r2) fun d2 => match d, d2 with
  | .int m, .int n => if Lw.inR m = true ∧ Lw.inR n = true then ret (.pure (.int (rsum m n))) else lift none
  | _, _ => lift none
end
namespace Sm
section
variable {fa fb : M R} {ς : En} {Q : R → En → Prop}
theorem sumRE (h : wp fa ς fun r ς1 => wp fb ς1 fun r2 ς2 => ∃ m n, rdD r ς2 = some (.int m) ∧ rdD r2 ς2 = some (.int n) ∧ Lw.inR m = true ∧ Lw.inR n = true ∧ Q (.pure (.int (rsum m n))) ς2) : wp (Lw.sumRE fa fb) ς Q := by
  refine bd (sub (mono h fun a ς1 h => bd (sub (mono h fun b ς2 h => ?_))))
  obtain ⟨m, n, e1, e2, h1, h2, q⟩ := h
  refine bd (rd (rd_nf e1) (bd (rd (rd_nf e2) ?_)))
  show wp (if Lw.inR m = true ∧ Lw.inR n = true then Lw.ret (.pure (.int (rsum m n))) else Lw.lift none) ς2 Q
  rw [if_pos ⟨h1, h2⟩]
  exact ret q
instance stp_sumRE : Stp (wp (Lw.sumRE fa fb) ς Q) (wp fa ς fun r ς1 => wp fb ς1 fun r2 ς2 => ∃ m n, rdD r ς2 = some (.int m) ∧ rdD r2 ς2 = some (.int n) ∧ Lw.inR m = true ∧ Lw.inR n = true ∧ Q (.pure (.int (rsum m n))) ς2) := ⟨sumRE⟩
end
end Sm
end Lw
namespace Lw
open PySem PySem.Spec PyProof.Rows L2
/-! ### a lambda of one parameter: its making -/
section
variable {X : Cx} {pins : List (Addr × Obj)} {σ : L2.St} {H : Hp} {s : Shared}
/-- what the making does to what is tracked -/
def Made (G H H1 : Hp) (P : Addr) (q : Str) (c' : Addr) : Prop := (H1 = H ∧ G c' = some (LamX.CodeO c' q)) ∨ (H c' = none ∧ ∃ ps more : Array Value, H P = some (.tbl ps) ∧ H1 = upd (upd H P (.tbl (ps ++ more))) c' (LamX.CodeO c' q) ∧ TriplesOk (ps ++ more).toList ∧
  ∀ (pos : Pos) (cv : Value), codeAmong pos (ps ++ more).toList = some cv → codeAmong pos ps.toList = some cv ∨ cv = .ref c')
end
/-! ### its names, its frame -/
/-! ### the least number that suits -/
/-! ### least_such(a, b, lambda x: body) -/
end Lw
namespace Lw
open PySem PySem.Spec PyProof.Rows L2
theorem tabs_of {fa : List He.Fa} {fn : List He.DefD} {xs : List (PySem.W.Frag → Bool)} {tf : List Str} {h : Heap} {K : PySem.W.Frag} (hK : K.In h) (c : SaysL fa fn xs tf h K) : TabsAt0 K h := by
  have hl : lamIn K = tf := c.lam
  have key : ∀ q ∈ csOf K, ∃ x ∈ tf, q = He.cT K (x, none) := fun q hq => by
    obtain ⟨x, hx, rfl⟩ := List.mem_map.1 hq
    rw [hl] at hx
    exact ⟨x, hx, rfl⟩
  refine ⟨fun q hq => ?_, fun q hq => ?_, fun q hq => ?_⟩
  · obtain ⟨x, hx, rfl⟩ := key q hq; exact c.empty x hx
  · obtain ⟨x, hx, rfl⟩ := key q hq; exact c.out x hx
  · obtain ⟨x, hx, rfl⟩ := key q hq; exact PySem.W.codeHd_of_K hK (c.hd x hx)
end Lw
namespace Lw
open PySem PySem.Spec PyProof.Rows L2
/-! ### rows of new tuples out of one, two or three sequences, each a list or a tuple -/
inductive Kd where
  | L
  | T
namespace Kd
def Sq (k : Kd) (K : PySem.W.Frag) (H : Hp) (a : Addr) (xs : List V) : Prop := match k with
  | L => SqL K H a xs
  | T => SqT K H a xs
def Is (k : Kd) (h : Heap) (a : Addr) (its : Array Value) : Prop := match k with
  | L => h.IsList a its
  | T => h.IsTuple a its
def ob (k : Kd) (a : Addr) : Obj := match k with
  | L => { cls := .type "list_iterator", data := .fields #[.ref a, .int 0 0] }
  | T => { cls := .type "tuple_iterator", data := .fields #[.ref a, .int 0 0] }
theorem same (k : Kd) {K : PySem.W.Frag} {H H' : Hp} {a : Addr} {xs : List V} (s : Same H H') (h : k.Sq K H a xs) : k.Sq K H' a xs := by
  cases k
  · exact s.seq h
  · exact same_seqT s h
end Kd
end Lw
namespace Lw
open PySem PySem.Spec PyProof.Rows L2
/-- three at once -/
def zipD3 : List D → List D → List D → List D
  | a :: as, b :: bs, c :: cs => .tuple [a, b, c] :: zipD3 as bs cs
  | _, _, _ => []
section
variable {X : Cx} {a b c : Expr} {fa fb fc : M R} {p pos p2 : Pos} {elts : List Expr} {kk : Nat}
def itZ2 (fa fb : M R) : M (List D) := bd (esc fa) fun d => bd (esc fb) fun d2 => bd (lift (items d)) fun xs => bd (lift (items d2)) fun ys => ret (zipD xs ys)
def itZ3 (fa fb fc : M R) : M (List D) := bd (esc fa) fun d => bd (esc fb) fun d2 => bd (esc fc) fun d3 => bd (lift (items d)) fun xs => bd (lift (items d2)) fun ys => bd (lift (items d3)) fun zs => ret (zipD3 xs ys zs)
def itEn (fa : M R) : M (List D) := bd (esc fa) fun d => bd (lift (items d)) fun xs => ret (enumD 0 xs)
end
namespace Sm
variable {ς : En}
theorem itZ2 {fa fb : M R} {Q : List D → En → Prop} (h : wp fa ς fun r ς1 => ∃ d ς2, toD r ς1 = some (d, ς2) ∧ wp fb ς2 fun r2 ς3 => ∃ d2 ς4, toD r2 ς3 = some (d2, ς4) ∧ ∃ xs ys, items d = some xs ∧ items d2 = some ys ∧ Q (zipD xs ys) ς4) : wp (Lw.itZ2 fa fb) ς Q := by
  refine bd (esc (mono h fun r ς1 h => ?_))
  obtain ⟨d, ς2, e, h⟩ := h
  refine ⟨d, ς2, e, bd (esc (mono h fun r2 ς3 h => ?_))⟩
  obtain ⟨d2, ς4, e2, xs, ys, i1, i2, q⟩ := h
  exact ⟨d2, ς4, e2, bd (lift i1 (bd (lift i2 (ret q))))⟩
theorem itZ3 {fa fb fc : M R} {Q : List D → En → Prop} (h : wp fa ς fun r ς1 => ∃ d ς2, toD r ς1 = some (d, ς2) ∧ wp fb ς2 fun r2 ς3 => ∃ d2 ς4, toD r2 ς3 = some (d2, ς4) ∧ wp fc ς4 fun r3 ς5 => ∃ d3 ς6, toD r3 ς5 = some (d3, ς6) ∧ ∃ xs ys zs, items d = some xs ∧ items d2 = some ys ∧ items d3 = some zs ∧ Q (zipD3 xs ys zs) ς6) : wp (Lw.itZ3 fa fb fc) ς Q := by
  refine bd (esc (mono h fun r ς1 h => ?_))
  obtain ⟨d, ς2, e, h⟩ := h
  refine ⟨d, ς2, e, bd (esc (mono h fun r2 ς3 h => ?_))⟩
  obtain ⟨d2, ς4, e2, h⟩ := h
  refine ⟨d2, ς4, e2, bd (esc (mono h fun r3 ς5 h => ?_))⟩
  obtain ⟨d3, ς6, e3, xs, ys, zs, i1, i2, i3, q⟩ := h
  exact ⟨d3, ς6, e3, bd (lift i1 (bd (lift i2 (bd (lift i3 (ret q))))))⟩
theorem itEn {f : M R} {Q : List D → En → Prop} (h : wp f ς fun r ς1 => ∃ d ς2, toD r ς1 = some (d, ς2) ∧ ∃ xs, items d = some xs ∧ Q (enumD 0 xs) ς2) : wp (Lw.itEn f) ς Q :=
  bd (esc (mono h fun r ς1 ⟨d, ς2, e, xs, i1, q⟩ => ⟨d, ς2, e, bd (lift i1 (ret q))⟩))
end Sm
namespace Sm
section
variable {ς : En}
instance stp_itZ2 {fa fb : M R} {Q : List D → En → Prop} : Stp (wp (Lw.itZ2 fa fb) ς Q) (wp fa ς fun r ς1 => ∃ d ς2, toD r ς1 = some (d, ς2) ∧ wp fb ς2 fun r2 ς3 => ∃ d2 ς4, toD r2 ς3 = some (d2, ς4) ∧ ∃ xs ys, items d = some xs ∧ items d2 = some ys ∧ Q (zipD xs ys) ς4) := ⟨Sm.itZ2⟩
instance stp_itZ3 {fa fb fc : M R} {Q : List D → En → Prop} : Stp (wp (Lw.itZ3 fa fb fc) ς Q) (wp fa ς fun r ς1 => ∃ d ς2, toD r ς1 = some (d, ς2) ∧ wp fb ς2 fun r2 ς3 => ∃ d2 ς4, toD r2 ς3 = some (d2, ς4) ∧ wp fc ς4 fun r3 ς5 => ∃ d3 ς6, toD r3 ς5 = some (d3, ς6) ∧ ∃ xs ys zs, items d = some xs ∧ items d2 = some ys ∧ items d3 = some zs ∧ Q (zipD3 xs ys zs) ς6) := ⟨Sm.itZ3⟩
instance stp_itEn {f : M R} {Q : List D → En → Prop} : Stp (wp (Lw.itEn f) ς Q) (wp f ς fun r ς1 => ∃ d ς2, toD r ς1 = some (d, ς2) ∧ ∃ xs, items d = some xs ∧ Q (enumD 0 xs) ς2) := ⟨Sm.itEn⟩
end
end Sm
end Lw
namespace Lw
open PySem PySem.Spec PyProof.Rows L2
/-! ### t[::-1] of a tuple -/
section
variable {X : Cx}
theorem _root_.L2.PE.or {e : Expr} {t t' : TE} (h : PE X e t) (h' : PE X e t') : PE X e (fun σ H Q => t σ H Q ∨ t' σ H Q) := ⟨fun pins s σ H Q I hw => by
  rcases hw with hw | hw
  · exact h.run pins s σ H Q I hw
  · exact h'.run pins s σ H Q I hw⟩
variable {a b c e : Expr} {fa fb fc f : M R} {pos p p1 p2 p3 : Pos} {x : Str}
/-! ### sum, min, max of a list or tuple -/
end
end Lw
namespace Lw
open PySem PySem.Spec PyProof.Rows L2
section
variable {X : Cx} {a b c e tg : Expr} {es : List Expr} {fa fb fc f : M R} {ta : M Bool} {pos p p1 p2 p3 : Pos} {x : Str} {st : Stmt} {sts rest : List Stmt} {g g1 g2 : MS}
theorem relab_look {c : Str → NameKind → Bool} : ∀ {names : List (Str × NameKind)} {y : Str}, (names.lookup y = some .cell ∨ names.lookup y = some .free) → ((names.map fun (n, k) => if (k == NameKind.free && c n k) = true then (n, NameKind.cell) else (n, k)).lookup y = some .cell ∨ (names.map fun (n, k) => if (k == NameKind.free && c n k) = true then (n, NameKind.cell) else (n, k)).lookup y = some .free)
  | [], _, h => by simp at h
  | (n, k) :: r, y, h => by
    have ih := @relab_look c r y
    rw [List.map_cons]
    dsimp only
    by_cases e : (y == n) = true
    · simp only [List.lookup_cons, e] at h
      by_cases q : (k == NameKind.free && c n k) = true
      · rw [if_pos q]; simp [List.lookup_cons, e]
      · rw [if_neg q]; simpa [List.lookup_cons, e] using h
    · have e' : (y == n) = false := by simpa using e
      simp only [List.lookup_cons, e'] at h
      by_cases q : (k == NameKind.free && c n k) = true
      · rw [if_pos q]; simpa [List.lookup_cons, e'] using ih h
      · rw [if_neg q]; simpa [List.lookup_cons, e'] using ih h
theorem blkOk_n {N : List Str} {sc scope : Scope} {own : List (Str × Nat)} {cl : List (Str × Addr)} {C : Addr} {env0 : Env} (h : blkC N sc scope own = true) : BlkOk N (compEnvC sc cl C env0).scope scope own := by
  have o := blkOk_by h
  refine ⟨o.kind, o.uniq, o.ix, fun y hy hf => ?_, o.own⟩
  have := relab_look (c := fun n k => env0.scope.kind == .function && env0.kindOf n == some .cell) (o.free y hy hf)
  simpa [compEnvC, relabel, Bool.and_assoc] using this
/-! ### [*a, b, ..] -/
def argX (f : M R) (g : M (List Ar)) : M (List Ar) := bd (esc f) fun d => bd (lift (items d)) fun ds => bd g fun as => ret (avs ds ++ as)
theorem Sm.argX {ς : En} {Q : List Ar → En → Prop} {f : M R} {g : M (List Ar)} (h : wp f ς fun r ς1 => ∃ d ς2, toD r ς1 = some (d, ς2) ∧ ∃ ds, items d = some ds ∧ wp g ς2 fun as ς3 => Q (avs ds ++ as) ς3) : wp (Lw.argX f g) ς Q :=
  Sm.bd (Sm.esc (Sm.mono h fun r ς1 ⟨d, ς2, e, ds, e2, q⟩ => ⟨d, ς2, e, Sm.bd (Sm.lift e2 (Sm.bd (Sm.mono q fun as ς3 q => Sm.ret q)))⟩))
/-! ### x += e, of numbers -/
def augI (i : Nat) (h : Int → Int → Int) (f : M R) : MS := fun ς => match ς[i]? with
  | some (some (.pure (.int m))) => match esc f ς with
    | some (.int n, ς1) => if free ς1 i = true then some (.nx (ς1.set i (some (.pure (.int (h m n)))))) else none
    | _ => none
  | _ => none
theorem Sm.augI {ς : En} {Q : Out → Prop} {i : Nat} {h : Int → Int → Int} {m : Int} (e : ς[i]? = some (some (.pure (.int m)))) (hh : wp f ς fun r ς1 => ∃ n ς2, toD r ς1 = some (.int n, ς2) ∧ free ς2 i = true ∧ Q (.nx (ς2.set i (some (.pure (.int (h m n))))))) : wps (Lw.augI i h f) ς Q := by
  obtain ⟨r, ς1, e1, n, ς2, e2, hf, q⟩ := hh
  refine ⟨_, ?_, q⟩
  have ee : Lw.esc f ς = some (.int n, ς2) := by unfold Lw.esc Lw.bd; rw [e1]; exact e2
  unfold Lw.augI
  simp only [e, ee]
  exact if_pos hf
/-! ### [..] * n -/
theorem _root_.L2.PE.ex {t : Fx → TE} (h : ∀ F, PE X e (t F)) : PE X e (fun σ H Q => ∃ F, t F σ H Q) := ⟨fun pins s σ H Q I ⟨F, hw⟩ => (h F).run pins s σ H Q I hw⟩
def repE (fa : M R) (n : Nat) : M R := bd fa fun r => match r with
  | .fresh ds => if ds.length * n ≤ 1000 ∧ n ≤ 1000 then ret (.fresh (List.replicate n ds).flatten) else lift none
  | _ => lift none
theorem Sm.repE {ς : En} {Q : R → En → Prop} {n : Nat} (h : wp fa ς fun r ς1 => ∃ ds, r = .fresh ds ∧ (ds.length * n ≤ 1000 ∧ n ≤ 1000) ∧ Q (.fresh (List.replicate n ds).flatten) ς1) : wp (Lw.repE fa n) ς Q := by
  refine Sm.bd (Sm.mono h fun r ς1 ⟨ds, e, hl, q⟩ => ?_)
  subst e
  show wp (if ds.length * n ≤ 1000 ∧ n ≤ 1000 then Lw.ret (R.fresh (List.replicate n ds).flatten) else Lw.lift none) ς1 Q
  rw [if_pos hl]
  exact Sm.ret q
/-! ### {text: a, text: b}[x] -/
def dicE (s t : Str) (fa fb fi : M R) : M R := bd (esc fa) fun x => bd (esc fb) fun y => bd (esc fi) fun z => match z with
  | .str w => if w = s ∧ s ≠ t then ret (.pure x) else if w = t ∧ s ≠ t then ret (.pure y) else lift none
  | _ => lift none
/-- no slot's own thing is at q -/
def NoS (ς : En) (σ : L2.St) (q : Addr) : Prop := (∀ (i : Nat) b ds, ς[i]? = some (some (.own b ds)) → σ[i]? ≠ some (some (.ref q))) ∧ ∀ (i : Nat) kvs, ς[i]? = some (some (.vx (.odc kvs))) → σ[i]? ≠ some (some (.ref q))
/-- an object that nobody touches -/
def Fx.pin (F : Fx) (p : Addr) (o : HO) : Fx := ⟨F.A, F.L, F.G0, upd F.H0 p o⟩
section
variable {K : PySem.W.Frag} {F : Fx} {ς : En} {G H : Hp} {σ : L2.St} {q : Addr} {o : HO}
theorem Rel.pin (r : Rel K F ς G σ H) (h : H q = some o) (hg : G q = none) (h0 : F.H0 q = none) (ho : NoS ς σ q) : Rel K (F.pin q o) ς G σ H where
  len := r.len
  sub := r.sub
  g0 := r.g0
  pu := r.pu
  ow := fun i b ds e => by
    obtain ⟨a, vs, e1, e2, e3, e4, e5, e6⟩ := r.ow i b ds e
    have ne : a ≠ q := fun z => ho.1 i b ds e (by rw [e1, z])
    exact ⟨a, vs, e1, e2, e3, e4, e5, fun z => by show upd F.H0 q o a = none; rw [upd_ne ne]; exact e6 z⟩
  ap := r.ap
  par := r.par
  fr := ⟨fun a u e nt na => by
    by_cases z : a = q
    · subst z
      replace e : upd F.H0 a o a = some u := e
      rw [upd_same] at e
      cases e
      exact h
    · replace e : upd F.H0 q o a = some u := e
      rw [upd_ne z] at e
      exact r.fr.fr a u e nt na, fun a ps e => by
    by_cases z : a = q
    · subst z
      replace e : upd F.H0 a o a = some (.tbl ps) := e
      rw [upd_same] at e
      cases e
      exact ⟨ps, h⟩
    · replace e : upd F.H0 q o a = some (.tbl ps) := e
      rw [upd_ne z] at e
      exact r.fr.tn a ps e, fun p hp => by
    obtain ⟨ps, e⟩ := r.fr.t0 p hp
    have ne : p.1 ≠ q := fun z => by rw [z, h0] at e; cases e
    exact ⟨ps, (upd_ne ne).trans e⟩, r.fr.tb⟩
  nw := fun a e => by
    rcases r.nw a e with z | z
    · exact .inl z
    · have ne : a ≠ q := fun w => by subst w; exact e hg
      exact .inr (by show Nw (upd F.H0 q o a); rw [upd_ne ne]; exact z)
  vx := r.vx
  od := fun i kvs e => by
    obtain ⟨a, u, e1, e2, e3, e4, e5⟩ := r.od i kvs e
    have ne : a ≠ q := fun z => ho.2 i kvs e (by rw [e1, z])
    exact ⟨a, u, e1, e2, e3, e4, fun z => by show upd F.H0 q o a = none; rw [upd_ne ne]; exact e5.1 z, e5.2⟩
  oa := r.oa
end
variable {s t : Str}
theorem Sm.dicE {ς : En} {Q : R → En → Prop} (hst : s ≠ t) (h : wp fa ς fun r ς1 => ∃ x ς1', toD r ς1 = some (x, ς1') ∧ wp fb ς1' fun r2 ς2 => ∃ y ς2', toD r2 ς2 = some (y, ς2') ∧ wp fc ς2' fun r3 ς3 => ∃ w ς3', toD r3 ς3 = some (.str w, ς3') ∧ ((w = s ∧ Q (.pure x) ς3') ∨ (w = t ∧ Q (.pure y) ς3'))) : wp (Lw.dicE s t fa fb fc) ς Q := by
  refine Sm.bd (Sm.esc (Sm.mono h fun r ς1 ⟨x, ς1', e1, h⟩ => ⟨x, ς1', e1, Sm.bd (Sm.esc (Sm.mono h fun r2 ς2 ⟨y, ς2', e2, h⟩ => ⟨y, ς2', e2, Sm.bd (Sm.esc (Sm.mono h fun r3 ς3 ⟨w, ς3', e3, h⟩ => ⟨_, ς3', e3, ?_⟩))⟩))⟩))
  show wp (if w = s ∧ s ≠ t then Lw.ret (R.pure x) else if w = t ∧ s ≠ t then Lw.ret (R.pure y) else Lw.lift none) ς3' Q
  rcases h with ⟨rfl, q⟩ | ⟨rfl, q⟩
  · rw [if_pos ⟨rfl, hst⟩]; exact Sm.ret q
  · rw [if_neg (fun z => hst z.1.symm), if_pos ⟨rfl, hst⟩]; exact Sm.ret q
end
namespace Sm
section
variable {ς : En}
instance stp_argX {ς : En} {Q : List Ar → En → Prop} {f : M R} {g : M (List Ar)} : Stp (wp (Lw.argX f g) ς Q) (wp f ς fun r ς1 => ∃ d ς2, toD r ς1 = some (d, ς2) ∧ ∃ ds, items d = some ds ∧ wp g ς2 fun as ς3 => Q (avs ds ++ as) ς3) := ⟨Sm.argX⟩
instance stp_repE {ς : En} {Q : R → En → Prop} {n : Nat} : Stp (wp (Lw.repE fa n) ς Q) (wp fa ς fun r ς1 => ∃ ds, r = .fresh ds ∧ (ds.length * n ≤ 1000 ∧ n ≤ 1000) ∧ Q (.fresh (List.replicate n ds).flatten) ς1) := ⟨Sm.repE⟩
end
end Sm
end Lw
namespace Lw
open PySem PySem.Spec PyProof.Rows L2
/-! ### list(zip(a, b)) -/
end Lw
namespace Lw
open PySem PySem.Spec PyProof.Rows L2
variable {X : Cx} {e a b : Expr} {f fa fb : M R} {p p2 pos pos2 : Pos}
/-! ### list(zip(a, b)) -/
def lzE (fa fb : M R) : M R := bd (itZ2 fa fb) fun zs => if small zs.length = true then ret (.fresh zs) else lift none
theorem Sm.lzE {ς : En} {Q : R → En → Prop} (h : wp fa ς fun r ς1 => ∃ d ς2, toD r ς1 = some (d, ς2) ∧ wp fb ς2 fun r2 ς3 => ∃ d2 ς4, toD r2 ς3 = some (d2, ς4) ∧ ∃ xs ys, items d = some xs ∧ items d2 = some ys ∧ (zipD xs ys).length ≤ sizeLine ∧ Q (.fresh (zipD xs ys)) ς4) : wp (Lw.lzE fa fb) ς Q := by
  refine Sm.bd (Sm.itZ2 (Sm.mono h fun r ς1 ⟨d, ς2, e, q⟩ => ⟨d, ς2, e, Sm.mono q fun r2 ς3 ⟨d2, ς4, e2, xs, ys, e3, e4, hl, q⟩ => ⟨d2, ς4, e2, xs, ys, e3, e4, ?_⟩⟩))
  rw [if_pos (show small (zipD xs ys).length = true from decide_eq_true hl)]
  exact Sm.ret q
/-! ### reversed(a list or tuple) -/
section
variable {tg c : Expr} {fc : M R} {K : PySem.W.Frag} {G : Hp}
def itV (f : M R) : M (List D) := bd (esc f) fun d => bd (lift (items d)) fun xs => ret xs.reverse
theorem Sm.itV {ς : En} {Q : List D → En → Prop} (h : wp f ς fun r ς1 => ∃ d ς2, toD r ς1 = some (d, ς2) ∧ ∃ xs, items d = some xs ∧ Q xs.reverse ς2) : wp (Lw.itV f) ς Q :=
  Sm.bd (Sm.esc (Sm.mono h fun r ς1 ⟨d, ς2, e, xs, e2, q⟩ => ⟨d, ς2, e, Sm.bd (Sm.lift e2 (Sm.ret q))⟩))
/-! ### range(a, b, -1), reversed(range(..)) -/
def gDn : D → D → D → Option (List D)
  | .int m, .int n, .int k => if k = -1 ∧ inR m = true ∧ inR n = true then some (rngD (n + 1) (m - n).toNat).reverse else none
  | _, _, _ => none
def itR3 (fa fb fc : M R) : M (List D) := bd (esc fa) fun x => bd (esc fb) fun y => bd (esc fc) fun z => lift (gDn x y z)
theorem Sm.itR3 {ς : En} {Q : List D → En → Prop} {fc : M R} (h : wp fa ς fun r ς1 => ∃ d ς2, toD r ς1 = some (d, ς2) ∧ wp fb ς2 fun r2 ς3 => ∃ d2 ς4, toD r2 ς3 = some (d2, ς4) ∧ wp fc ς4 fun r3 ς5 => ∃ d3 ς6, toD r3 ς5 = some (d3, ς6) ∧ ∃ xs, gDn d d2 d3 = some xs ∧ Q xs ς6) : wp (Lw.itR3 fa fb fc) ς Q :=
  Sm.bd (Sm.esc (Sm.mono h fun r ς1 ⟨d, ς2, e, q⟩ => ⟨d, ς2, e, Sm.bd (Sm.esc (Sm.mono q fun r2 ς3 ⟨d2, ς4, e2, q2⟩ => ⟨d2, ς4, e2, Sm.bd (Sm.esc (Sm.mono q2 fun r3 ς5 ⟨d3, ς6, e3, xs, e4, q3⟩ => ⟨d3, ς6, e3, Sm.lift e4 q3⟩))⟩))⟩))
def gRn1 : D → Option (List D)
  | .int n => if inR n = true then some (rngD 0 n.toNat).reverse else none
  | _ => none
def itRv1 (f : M R) : M (List D) := bd (esc f) fun x => lift (gRn1 x)
theorem Sm.itRv1 {ς : En} {Q : List D → En → Prop} (h : wp fa ς fun r ς1 => ∃ d ς2, toD r ς1 = some (d, ς2) ∧ ∃ xs, gRn1 d = some xs ∧ Q xs ς2) : wp (Lw.itRv1 fa) ς Q :=
  Sm.bd (Sm.esc (Sm.mono h fun r ς1 ⟨d, ς2, e, xs, e2, q⟩ => ⟨d, ς2, e, Sm.lift e2 q⟩))
def gRn2 : D → D → Option (List D)
  | .int m, .int n => if inR m = true ∧ inR n = true then some (rngD m (n - m).toNat).reverse else none
  | _, _ => none
def itRv2 (fa fb : M R) : M (List D) := bd (esc fa) fun x => bd (esc fb) fun y => lift (gRn2 x y)
theorem Sm.itRv2 {ς : En} {Q : List D → En → Prop} (h : wp fa ς fun r ς1 => ∃ d ς2, toD r ς1 = some (d, ς2) ∧ wp fb ς2 fun r2 ς3 => ∃ d2 ς4, toD r2 ς3 = some (d2, ς4) ∧ ∃ xs, gRn2 d d2 = some xs ∧ Q xs ς4) : wp (Lw.itRv2 fa fb) ς Q :=
  Sm.bd (Sm.esc (Sm.mono h fun r ς1 ⟨d, ς2, e, q⟩ => ⟨d, ς2, e, Sm.bd (Sm.esc (Sm.mono q fun r2 ς3 ⟨d2, ς4, e2, xs, e3, q2⟩ => ⟨d2, ς4, e2, Sm.lift e3 q2⟩))⟩))
end
/-! ### xs[i] += e, of a list of one's own -/
def augS (n : Nat) (fi : M R) (h : Int → Int → Int) (fe : M R) : MS := fun ς => match vr n ς with
  | some (.ref i, ς1) => match ptS fi ς1 with
    | some (some j, ς2) => match ς2[i]? with
      | some (some (.own _ ds)) => match ixN ds.length j with
        | some m => match ds[m]? with
          | some (.int x) => match esc fe ς2 with
            | some (.int y, ς3) => match ς3[i]? with
              | some (some (.own b ds')) => if ds'.length = ds.length then some (.nx (ς3.set i (some (.own b (ds'.set m (.int (h x y))))))) else none
              | _ => none
            | _ => none
          | _ => none
        | none => none
      | _ => none
    | _ => none
  | _ => none
theorem Sm.augS {ς : En} {Q : Out → Prop} {n : Nat} {fi fe : M R} {h : Int → Int → Int} {b : Bool} {ds : List D} (e0 : ς[n]? = some (some (.own b ds))) (hi : wp fi ς fun r ς1 => ∃ (j : Int) (m : Nat) (x : Int), rdD r ς1 = some (.int j) ∧ ς1[n]? = some (some (.own b ds)) ∧ ixN ds.length j = some m ∧ ds[m]? = some (.int x) ∧ wp fe ς1 fun r2 ς2 => ∃ (y : Int) (ς3 : En), toD r2 ς2 = some (.int y, ς3) ∧ ς3[n]? = some (some (.own b ds)) ∧ Q (.nx (ς3.set n (some (.own b (ds.set m (.int (h x y)))))))) : wps (Lw.augS n fi h fe) ς Q := by
  have hp : wp (Lw.ptS fi) ς fun r ς1 => ∃ (j : Int), r = some j ∧ ∃ (m : Nat) (x : Int), ς1[n]? = some (some (.own b ds)) ∧ ixN ds.length j = some m ∧ ds[m]? = some (.int x) ∧ wp fe ς1 fun r2 ς2 => ∃ (y : Int) (ς3 : En), toD r2 ς2 = some (.int y, ς3) ∧ ς3[n]? = some (some (.own b ds)) ∧ Q (.nx (ς3.set n (some (.own b (ds.set m (.int (h x y))))))) :=
    Sm.ptS (Sm.mono hi fun r ς1 ⟨j, m, x, e1, e2, e3, e4, e5⟩ => ⟨j, e1, j, rfl, m, x, e2, e3, e4, e5⟩)
  obtain ⟨r, ς1, e1, j, rfl, m, x, e2, e3, e4, r2, ς2, e5, y, ς3, e6, e7, q⟩ := hp
  refine ⟨_, ?_, q⟩
  have ee : Lw.esc fe ς1 = some (.int y, ς3) := by unfold Lw.esc Lw.bd; rw [e5]; exact e6
  have ev : Lw.vr n ς = some (.ref n, ς) := by unfold Lw.vr; rw [e0]
  unfold Lw.augS
  simp only [ev, e1, e2, e3, e4, ee, e7, if_true]
namespace Sm
section
variable {ς : En}
instance stp_lzE {ς : En} {Q : R → En → Prop} : Stp (wp (Lw.lzE fa fb) ς Q) (wp fa ς fun r ς1 => ∃ d ς2, toD r ς1 = some (d, ς2) ∧ wp fb ς2 fun r2 ς3 => ∃ d2 ς4, toD r2 ς3 = some (d2, ς4) ∧ ∃ xs ys, items d = some xs ∧ items d2 = some ys ∧ (zipD xs ys).length ≤ sizeLine ∧ Q (.fresh (zipD xs ys)) ς4) := ⟨Sm.lzE⟩
instance stp_itV {ς : En} {Q : List D → En → Prop} : Stp (wp (Lw.itV f) ς Q) (wp f ς fun r ς1 => ∃ d ς2, toD r ς1 = some (d, ς2) ∧ ∃ xs, items d = some xs ∧ Q xs.reverse ς2) := ⟨Sm.itV⟩
instance stp_itR3 {ς : En} {Q : List D → En → Prop} {fc : M R} : Stp (wp (Lw.itR3 fa fb fc) ς Q) (wp fa ς fun r ς1 => ∃ d ς2, toD r ς1 = some (d, ς2) ∧ wp fb ς2 fun r2 ς3 => ∃ d2 ς4, toD r2 ς3 = some (d2, ς4) ∧ wp fc ς4 fun r3 ς5 => ∃ d3 ς6, toD r3 ς5 = some (d3, ς6) ∧ ∃ xs, gDn d d2 d3 = some xs ∧ Q xs ς6) := ⟨Sm.itR3⟩
instance stp_itRv1 {ς : En} {Q : List D → En → Prop} : Stp (wp (Lw.itRv1 fa) ς Q) (wp fa ς fun r ς1 => ∃ d ς2, toD r ς1 = some (d, ς2) ∧ ∃ xs, gRn1 d = some xs ∧ Q xs ς2) := ⟨Sm.itRv1⟩
instance stp_itRv2 {ς : En} {Q : List D → En → Prop} : Stp (wp (Lw.itRv2 fa fb) ς Q) (wp fa ς fun r ς1 => ∃ d ς2, toD r ς1 = some (d, ς2) ∧ wp fb ς2 fun r2 ς3 => ∃ d2 ς4, toD r2 ς3 = some (d2, ς4) ∧ ∃ xs, gRn2 d d2 = some xs ∧ Q xs ς4) := ⟨Sm.itRv2⟩
end
end Sm
end Lw
namespace Lw
open PySem PySem.Spec PyProof.Rows L2
def g_l_box : MS :=
  (sq (asg (ife (tst (op2 gLt (vr 1) (cal1 gLen (vr 0)))) (op2 gIx (vr 0) (vr 1)) (cn (.int 0))) (tgN 2))
  (retS (lstE (argV (op2 gMulA (cal1 gAbs (vr 2)) (cal1 gInt (op2 gGe (cal1 gAbs (vr 2)) (op2 gPowA (cn (.int 10)) (cn (.int 18)))))) (argV (op2 gModA (op2 gMulA (op2 gAddA (op2 gAddA (op2 gModA (vr 2) (cn (.int 2147483629))) (op2 gMulA (cn (.int 15485863)) (vr 1))) (cn (.int 43))) (cn (.int 48271))) (cn (.int 2147483647))) (argV (cn (.int 0)) argN))))))
def m_l_box : Fsem := runFn g_l_box 3
def g_l_take (self : Fsem) : MS :=
  (sq (ifS (tst (op2 gGt (op2 gIx (vr 0) (cn (.int 0))) (cn (.int 0)))) (sq (asg (op2 gDm (op2 gIx (vr 0) (cn (.int 0))) (vr 1)) (tgT 2 (tgsC (tgS (vr 0) (cn (.int 0))) (tgsC (tgN 2) tgsN))))
  (retS (vr 2))) skip)
  (sq (ifS (tst (op2 gGt (vr 1) (op2 gPowA (cn (.int 10)) (cn (.int 7))))) (retS (op2 gModA (op2 gAddA (callE self (argR (vr 0) (argV (op2 gPowA (cn (.int 10)) (cn (.int 7))) argN))) (op2 gMulA (op2 gPowA (cn (.int 10)) (cn (.int 7))) (callE self (argR (vr 0) (argV (op2 gAddA (op2 gDivA (op2 gSubA (vr 1) (cn (.int 1))) (op2 gPowA (cn (.int 10)) (cn (.int 7)))) (cn (.int 1))) argN))))) (vr 1))) skip)
  (sq (asg (op2 gAddA (op2 gIx (vr 0) (cn (.int 2))) (cn (.int 1))) (tgS (vr 0) (cn (.int 2))))
  (sq (asg (op2 gAddA (cn (.int 69621)) (op2 gMulA (op2 gIx (vr 0) (cn (.int 2))) (op2 gIx (vr 0) (cn (.int 2))))) (tgN 3))
  (sq (asg (op2 gModA (op2 gMulA (op2 gAddA (op2 gIx (vr 0) (cn (.int 1))) (op2 gMulA (cn (.int 39373)) (op2 gIx (vr 0) (cn (.int 2))))) (vr 3)) (cn (.int 2147483587))) (tgN 4))
  (sq (asg (op2 gModA (op2 gAddA (op2 gMulA (vr 4) (op2 gAddA (op2 gModA (vr 4) (cn (.int 30011))) (cn (.int 5)))) (op2 gIx (vr 0) (cn (.int 2)))) (cn (.int 2147483563))) (tgN 5))
  (retS (op2 gModA (op2 gDivA (op2 gModA (op2 gMulA (vr 5) (op2 gAddA (op2 gModA (vr 5) (cn (.int 1013))) (cn (.int 3)))) (cn (.int 998244353))) (cn (.int 16))) (vr 1)))))))))
def m_l_take : Nat → Fsem
  | 0 => fun _ => none
  | n + 1 => runFn (g_l_take (m_l_take n)) 6
def g_l_folded : MS :=
  (sq (asgO 2 (cal1 gList (slE (vr 0) ptN (ptS (vr 1)))))
  (sq (forS (itE (slE (vr 0) (ptS (vr 1)) (ptS (cn (.int 63))))) (tgT 2 (tgsC (tgN 3) (tgsC (tgN 4) tgsN))) (asg (op2 gAddA (op2 gIx (vr 2) (op2 gModA (vr 3) (vr 1))) (op2 gMulA (vr 4) (op2 gAddA (vr 3) (cn (.int 2))))) (tgS (vr 2) (op2 gModA (vr 3) (vr 1)))))
  (retS (vr 2))))
def m_l_folded : Fsem := runFn g_l_folded 5
def g_l_cells : MS :=
  (sq (asg (callE m_l_folded (argV (vr 0) (argV (vr 1) argN))) (tgN 2))
  (retS (ife (tst (op2 gNe (vr 2) (lstE argN))) (vr 2) (lstE (argV (cn (.int 0)) argN)))))
def m_l_cells : Fsem := runFn g_l_cells 3
def g_l_of : MS :=
  (retS (op2 gIx (vr 1) (callE (m_l_take 4) (argR (vr 0) (argV (cal1 gLen (vr 1)) argN)))))
def m_l_of : Fsem := runFn g_l_of 2
def g_l_same (self : Fsem) : MS :=
  (sq (ifS (tru (isE (vr 1) [.list, .tuple])) (sq (ifS (orT (tst (op2 gNe (isE (vr 0) [.list]) (isE (vr 1) [.list]))) (tst (op2 gNe (isE (vr 0) [.tuple]) (isE (vr 1) [.tuple])))) (retS (cn (.bool false))) skip)
  (retS (andV (op2 gEq (cal1 gLen (vr 0)) (cal1 gLen (vr 1))) (cal1 gAll (lcE (itZ (vr 0) (vr 1)) [2, 3] (tgT 2 (tgsC (tgN 2) (tgsC (tgN 3) tgsN))) (ret true) (callE self (argV (vr 2) (argV (vr 3) argN)))))))) skip)
  (sq (ifS (orT (tst (op2 gIs (vr 1) (cn .none))) (tru (isE (vr 1) [.str]))) (retS (andV (op2 gEq (vr 0) (vr 1)) (op2 gEq (isE (vr 0) [.str]) (isE (vr 1) [.str])))) skip)
  (retS (andV (isE (vr 0) [.int]) (andV (op2 gEq (isE (vr 0) [.bool]) (isE (vr 1) [.bool])) (op2 gEq (vr 0) (vr 1)))))))
def m_l_same : Nat → Fsem
  | 0 => fun _ => none
  | n + 1 => runFn (g_l_same (m_l_same n)) 4
def g_l_odd : MS :=
  (sq (asg (lstE (argV (cn .none) (argV (cn (.bool true)) (argV (cn (.bool false)) (argV (cn (.int 0)) (argV (cn (.int 1)) (argV (negV (cn (.int 1))) (argV (cn (.int 7)) (argV (cn (.str "")) (argV (cn (.str "a")) (argV (cn (.str "low")) (argV (cn (.str "fill")) (argV (tupE argN) (argV (lstE argN) (argV (tupE (argV (cn (.int 1)) argN)) (argV (lstE (argV (cn (.int 0)) argN)) (argV (tupE (argV (cn (.str "fill")) (argV (cn (.int 1)) argN))) (argV (tupE (argV (tupE (argV (cn (.int 0)) (argV (cn (.int 1)) (argV (cn (.int 1)) argN)))) argN)) argN)))))))))))))))))) (tgN 1))
  (retS (callE m_l_of (argR (vr 0) (argV (vr 1) argN)))))
def m_l_odd : Fsem := runFn g_l_odd 2
def g_l_bent (self : Fsem) : MS :=
  (sq (asg (callE (m_l_take 4) (argR (vr 0) (argV (cn (.int 12)) argN))) (tgN 2))
  (sq (ifS (orT (notT (tru (isE (vr 1) [.list, .tuple]))) (orT (tst (op2 gEq (cal1 gLen (vr 1)) (cn (.int 0)))) (tst (op2 gEq (vr 2) (cn (.int 0)))))) (sq (ifS (andT (tru (isE (vr 1) [.int])) (tst (op2 gGt (vr 2) (cn (.int 3))))) (retS (op2 gIx (lstE (argV (cn (.int 0)) (argV (op2 gSubA (cn (.int 0)) (vr 1)) (argV (op2 gAddA (vr 1) (cn (.int 1))) (argV (op2 gSubA (vr 1) (cn (.int 1))) (argV (op2 gEq (vr 1) (cn (.int 1))) (argV (cal1 gStrOf (vr 1)) (argV (cn .none) (argV (op2 gAddA (vr 1) (op2 gPowA (cn (.int 10)) (cn (.int 19)))) argN))))))))) (op2 gSubA (vr 2) (cn (.int 4))))) skip)
  (retS (callE m_l_odd (argR (vr 0) argN)))) skip)
  (sq (par2 3 4 true false (cal1 gList (vr 1)) (callE (m_l_take 4) (argR (vr 0) (argV (cal1 gLen (vr 1)) argN))))
  (sq (ifS (tst (op2 gLt (vr 2) (cn (.int 7)))) (asg (callE self (argR (vr 0) (argV (op2 gIx (vr 3) (vr 4)) argN))) (tgS (vr 3) (vr 4))) (ifS (tst (op2 gEq (vr 2) (cn (.int 7)))) (exS (mth hPopAt (vr 3) (argV (vr 4) argN))) (ifS (tst (op2 gEq (vr 2) (cn (.int 8)))) (exS (mth hIns (vr 3) (argV (vr 4) (argV (op2 gIx (vr 3) (vr 4)) argN)))) (ifS (tst (op2 gEq (vr 2) (cn (.int 9)))) (asgO 3 (op2 gAddA (op2 gAddA (slE (vr 3) ptN (ptS (vr 4))) (revE (slE (vr 3) (ptS (vr 4)) (ptS (op2 gAddA (vr 4) (cn (.int 2))))))) (slE (vr 3) (ptS (op2 gAddA (vr 4) (cn (.int 2)))) ptN))) (ifS (tst (op2 gEq (vr 2) (cn (.int 10)))) (exS (mth hIns (vr 3) (argV (callE (m_l_take 4) (argR (vr 0) (argV (op2 gAddA (cal1 gLen (vr 3)) (cn (.int 1))) argN))) (argV (callE m_l_odd (argR (vr 0) argN)) argN)))) (retS (ife (tru (isE (vr 1) [.list])) (cal1 gTuple (vr 3)) (vr 3))))))))
  (retS (ife (tru (isE (vr 1) [.list])) (vr 3) (cal1 gTuple (vr 3))))))))
def m_l_bent : Nat → Fsem
  | 0 => fun _ => none
  | n + 1 => runFn (g_l_bent (m_l_bent n)) 5
def g_l_great : MS :=
  (retS (op2 gIx (lstE (argV (cn (.int 1)) (argV (cn (.int 1)) (argV (cn (.int 1)) (argV (op2 gPowA (cn (.int 10)) (cn (.int 6))) (argV (op2 gPowA (cn (.int 10)) (cn (.int 15))) argN)))))) (callE (m_l_take 4) (argR (vr 0) (argV (cn (.int 5)) argN)))))
def m_l_great : Fsem := runFn g_l_great 1
def g_l_stair : MS :=
  (sq (asgO 3 (lstE argN))
  (sq (forS (itR1 (op2 gAddA (cn (.int 1)) (callE (m_l_take 4) (argR (vr 0) (argV (vr 1) argN))))) (tgN 4) (sq (par3 5 6 7 (callE (m_l_take 4) (argR (vr 0) (argV (cn (.int 4)) argN))) (callE (m_l_take 4) (argR (vr 0) (argV (op2 gIx (lstE (argV (cn (.int 2)) (argV (cn (.int 8)) (argV (cn (.int 30)) argN)))) (callE (m_l_take 4) (argR (vr 0) (argV (cn (.int 3)) argN)))) argN))) (op2 gAddA (cn (.int 1)) (callE (m_l_take 4) (argR (vr 0) (argV (cn (.int 4)) argN)))))
  (exS (mth hApp (vr 3) (argV (tupE (argV (op2 gMulA (vr 5) (vr 2)) (argV (op2 gMulA (op2 gAddA (vr 5) (vr 6)) (vr 2)) (argV (op2 gMulA (vr 7) (vr 2)) argN)))) argN)))))
  (retS (cal1 gTuple (vr 3)))))
def m_l_stair : Fsem := runFn g_l_stair 8
def g_l_lists (self : Fsem) : MS :=
  (retS (ife (tru (isE (vr 0) [.list, .tuple])) (lcE (itS (vr 0)) [1] (tgN 1) (ret true) (callE self (argV (vr 1) argN))) (vr 0)))
def m_l_lists : Nat → Fsem
  | 0 => fun _ => none
  | n + 1 => runFn (g_l_lists (m_l_lists n)) 2
end Lw
namespace Lw
open PySem PySem.Spec PyProof.Rows L2
end Lw
namespace Lw
open PySem PySem.Spec PyProof.Rows L2
end Lw
namespace Lw
open PySem PySem.Spec PyProof.Rows L2
section
variable {X : Cx} {a b c e tg : Expr} {es : List Expr} {fa fb fc f : M R} {pos p : Pos} {st : Stmt}
/-! ### x, y = a, b by the pair itself -/
theorem RepR.layF {K : PySem.W.Frag} {F : Fx} {ς : En} {G : Hp} {σ : L2.St} {H : Hp} {x : R} {v : V} {q : Addr} {o : HO} (h : RepR K F ς G σ H x v) (hq : H q = none) : RepR K F ς G σ (upd H q o) x v := by
  cases x with
  | pure d => exact h
  | vx x =>
    cases x with
    | exc nm d => exact h
    | odc kvs =>
      obtain ⟨a, o', rfl, h1, h2⟩ := h
      have ne : a ≠ q := fun z => by subst z; rw [h1] at hq; cases hq
      exact ⟨a, o', rfl, by rw [upd_ne ne]; exact h1, h2⟩
  | ref i => exact h
  | fresh ds =>
    obtain ⟨a, vs, rfl, h1, h2⟩ := h
    have ne : a ≠ q := fun z => by subst z; rw [h1] at hq; cases hq
    exact ⟨a, vs, rfl, by rw [upd_ne ne]; exact h1, h2⟩
/-! ### x, y, z = a, b, [..] -/
def parL3 (i j l : Nat) (fa fb fc : M R) : MS := fun ς => match bd (esc fa) (fun x => bd (esc fb) fun y => bd fc fun z => ret (x, y, z)) ς with
  | some ((x, y, .fresh zs), ς') => if free ς' i = true ∧ free (ς'.set i (some (.pure x))) j = true ∧ free ((ς'.set i (some (.pure x))).set j (some (.pure y))) l = true then some (.nx (((ς'.set i (some (.pure x))).set j (some (.pure y))).set l (some (.own false zs)))) else none
  | _ => none
theorem Sm.parL3 {ς : En} {Q : Out → Prop} {i j l : Nat} (h : wp fa ς fun a ς1 => ∃ x ς1', toD a ς1 = some (x, ς1') ∧ wp fb ς1' fun b ς2 => ∃ y ς2', toD b ς2 = some (y, ς2') ∧ wp fc ς2' fun c ς3 => ∃ zs, c = .fresh zs ∧
    (free ς3 i = true ∧ free (ς3.set i (some (.pure x))) j = true ∧ free ((ς3.set i (some (.pure x))).set j (some (.pure y))) l = true) ∧ Q (.nx (((ς3.set i (some (.pure x))).set j (some (.pure y))).set l (some (.own false zs))))) : wps (Lw.parL3 i j l fa fb fc) ς Q := by
  obtain ⟨a, ς1, e1, x, ς1', t1, b, ς2, e2, y, ς2', t2, c, ς3, e3, zs, rfl, hf, q⟩ := h
  refine ⟨_, ?_, q⟩
  unfold Lw.parL3
  have h1 : Lw.esc fa ς = some (x, ς1') := by unfold Lw.esc Lw.bd; rw [e1]; exact t1
  have h2 : Lw.esc fb ς1' = some (y, ς2') := by unfold Lw.esc Lw.bd; rw [e2]; exact t2
  have : Lw.bd (Lw.esc fa) (fun x => Lw.bd (Lw.esc fb) fun y => Lw.bd fc fun z => Lw.ret (x, y, z)) ς = some ((x, y, .fresh zs), ς3) := by
    unfold Lw.bd
    rw [h1]
    simp only [h2, e3, Lw.ret]
  rw [this]
  simp only
  rw [if_pos hf]
/-! ### x is True, x is not True, of truths -/
end
namespace Sm
section
variable {ς : En}
instance stp_parL3 {ς : En} {Q : Out → Prop} {i j l : Nat} : Stp (wps (Lw.parL3 i j l fa fb fc) ς Q) (wp fa ς fun a ς1 => ∃ x ς1', toD a ς1 = some (x, ς1') ∧ wp fb ς1' fun b ς2 => ∃ y ς2', toD b ς2 = some (y, ς2') ∧ wp fc ς2' fun c ς3 => ∃ zs, c = .fresh zs ∧     (free ς3 i = true ∧ free (ς3.set i (some (.pure x))) j = true ∧ free ((ς3.set i (some (.pure x))).set j (some (.pure y))) l = true) ∧ Q (.nx (((ς3.set i (some (.pure x))).set j (some (.pure y))).set l (some (.own false zs))))) := ⟨Sm.parL3⟩
end
end Sm
end Lw
namespace Lw
open PySem PySem.Spec PyProof.Rows L2
def g_p_is_number : MS :=
  (retS (andV (isE (vr 0) [.int]) (notV (isE (vr 0) [.bool]))))
def m_p_is_number : Fsem := runFn g_p_is_number 1
def g_p_is_tuple_of : MS :=
  (retS (andV (isE (vr 1) [.tuple]) (op2 gEq (cal1 gLen (vr 1)) (vr 0))))
def m_p_is_tuple_of : Fsem := runFn g_p_is_tuple_of 2
end Lw
namespace Lw
open PySem PySem.Spec PyProof.Rows L2
end Lw
namespace Lw
open PySem PySem.Spec PyProof.Rows L2
end Lw
namespace Lw
open PySem PySem.Spec PyProof.Rows L2
end Lw
namespace Lw
open PySem PySem.Spec PyProof.Rows L2
/-! ### while -/
/-! ### two generators -/
theorem wipeE_own {ς : En} {n : Nat} {b : Bool} {es : List D} : ∀ us : List Nat, (wipeE ς us)[n]? = some (some (.own b es)) → ς[n]? = some (some (.own b es))
  | [], h => h
  | u :: us, h => by
    have h' : ((wipeE ς us).set u none)[n]? = some (some (.own b es)) := h
    replace h' := get_set h'; rcases h' with ⟨rfl, h'⟩ | ⟨_, h'⟩
    · cases h'
    · exact wipeE_own us h'
section
variable {K : PySem.W.Frag} {F : Fx} {L : Addr} {ς ς' : En} {G G' : Hp} {σ σ' : L2.St} {H H' : Hp} {acc : List D}
/-- the list that a comprehension fills, nobody's yet -/
structure LcI (K : PySem.W.Frag) (F : Fx) (L : Addr) (ς : En) (G : Hp) (σ : L2.St) (H : Hp) (acc : List D) : Prop where
  rel : Rel K F ς G σ H
  h0 : F.H0 L = none
  gn : G L = none
  ns : ∀ (n : Nat) b es, ς[n]? = some (some (.own b es)) → σ[n]? ≠ some (some (.ref L))
  ac : ∃ accV, H L = some (.lst accV) ∧ DpAll K G accV acc
theorem LcI.step (h : LcI K F L ς G σ H acc) (r : Rel K (F.now ς G σ H) ς' G' σ' H') (s : Same G G') : LcI K F L ς' G' σ' H' acc := by
  obtain ⟨accV, e, d⟩ := h.ac
  obtain ⟨k1, k2, k3⟩ := h.rel.keepF r e h.gn h.ns
  exact ⟨h.rel.back r, h.h0, k2, k3, accV, k1, dpa_same s d⟩
theorem LcI.wiped (h : LcI K F L ς G σ H acc) (vs : List Nat) (hf : freeAll ς vs = true) : LcI K F L (wipeE ς vs) G (wipe σ vs) H acc :=
  ⟨h.rel.wiped vs hf, h.h0, h.gn, fun n b es z1 z2 => h.ns n b es (wipeE_own vs z1) (wipe_some z2).1, h.ac⟩
theorem LcI.push (h : LcI K F L ς G σ H acc) {accV : List V} {u : V} {y : D} (e : H L = some (.lst accV)) (d : DpAll K G accV acc) (dp : Dp K G u y) : LcI K F L ς G σ (upd H L (.lst (accV ++ [u]))) (acc ++ [y]) :=
  ⟨h.rel.touch h.gn h.h0 h.ns e, h.h0, h.gn, h.ns, _, upd_same, dpa_app d (.cons dp .nil)⟩
end
end Lw
namespace Lw
open PySem PySem.Spec PyProof.Rows L2
end Lw
namespace Lw
open PySem PySem.Spec PyProof.Rows L2
end Lw
namespace Lw
open PySem PySem.Spec PyProof.Rows L2
/-! ### min(xs, default = e) -/
end Lw
namespace Lw
open PySem PySem.Spec PyProof.Rows L2
/-! ### a list of lists of one's own, in one slot -/
def NoOwn (ς : En) (σ : L2.St) (x : Addr) : Prop := ∀ (n : Nat) b es, ς[n]? = some (some (.own b es)) → σ[n]? ≠ some (some (.ref x))
structure Priv (F : Fx) (ς : En) (G : Hp) (σ : L2.St) (x : Addr) : Prop where
  g : G x = none
  h0 : F.H0 x = none
  no : NoOwn ς σ x
structure Nest (K : PySem.W.Frag) (F : Fx) (i : Nat) (ς : En) (G : Hp) (σ : L2.St) (H : Hp) (a : Addr) (as : List Addr) (dss : List (List D)) : Prop where
  rel : Rel K F ς G σ H
  sg : σ[i]? = some (some (.ref a))
  ha : H a = some (.lst (as.map V.ref))
  pa : Priv F ς G σ a
  na : a ∉ as
  nd : as.Nodup
  len : as.length = dss.length
  inn : ∀ (k : Nat) b ds, as[k]? = some b → dss[k]? = some ds → ∃ vs, H b = some (.lst vs) ∧ Priv F ς G σ b ∧ DpAll K G vs ds
def emp (ς : En) (i : Nat) : Bool := match ς[i]? with
  | some none => true
  | _ => false
section
variable {K : PySem.W.Frag} {F : Fx} {i : Nat} {ς ς' : En} {G G' : Hp} {σ σ' : L2.St} {H H' : Hp} {a : Addr} {as : List Addr} {dss : List (List D)}
theorem Nest.step (h : Nest K F i ς G σ H a as dss) (r : Rel K (F.now ς G σ H) ς' G' σ' H') (s : Same G G') (e1 : σ'[i]? = σ[i]?) : Nest K F i ς' G' σ' H' a as dss := by
  have ka := h.rel.keepF r h.ha h.pa.g h.pa.no
  refine ⟨h.rel.back r, e1.trans h.sg, ka.1, ⟨ka.2.1, h.pa.h0, ka.2.2⟩, h.na, h.nd, h.len, fun k b ds h1 h2 => ?_⟩
  obtain ⟨vs, u1, u2, u3⟩ := h.inn k b ds h1 h2
  have kb := h.rel.keepF r u1 u2.g u2.no
  exact ⟨vs, kb.1, ⟨kb.2.1, u2.h0, kb.2.2⟩, dpa_same s u3⟩
theorem nodup_ix {α : Type} : ∀ {l : List α} {i j : Nat} {x : α}, l.Nodup → l[i]? = some x → l[j]? = some x → i = j
  | [], i, j, x, _, h, _ => by simp at h
  | y :: l, 0, 0, x, _, _, _ => rfl
  | y :: l, 0, j + 1, x, nd, h1, h2 => by
    have h1 : some y = some x := h1
    cases h1
    exact absurd (List.mem_of_getElem? (l := l) (i := j) h2) (List.nodup_cons.1 nd).1
  | y :: l, i + 1, 0, x, nd, h1, h2 => by
    have h2 : some y = some x := h2
    cases h2
    exact absurd (List.mem_of_getElem? (l := l) (i := i) h1) (List.nodup_cons.1 nd).1
  | y :: l, i + 1, j + 1, x, nd, h1, h2 => congrArg (· + 1) (nodup_ix (List.nodup_cons.1 nd).2 h1 h2)
theorem Nest.push (h : Nest K F i ς G σ H a as dss) {k : Nat} {b : Addr} {ds : List D} {vs : List V} {u : V} {d : D} (h1 : as[k]? = some b) (h2 : dss[k]? = some ds) (hv : H b = some (.lst vs)) (dp : Dp K G u d) : Nest K F i ς G σ (upd H b (.lst (vs ++ [u]))) a as (dss.set k (ds ++ [d])) := by
  have hm := List.mem_of_getElem? h1
  have hab : a ≠ b := fun e => h.na (e ▸ hm)
  obtain ⟨vs', w1, w2, w3⟩ := h.inn k b ds h1 h2
  rw [hv] at w1
  cases w1
  refine ⟨h.rel.touch w2.g w2.h0 w2.no hv, h.sg, by rw [upd_ne hab]; exact h.ha, h.pa, h.na, h.nd, by rw [List.length_set]; exact h.len, fun k' b' ds' q1 q2 => ?_⟩
  by_cases e : k' = k
  · subst e
    rw [h1] at q1
    cases q1
    have hk : k' < dss.length := (List.getElem?_eq_some_iff.mp h2).1
    rw [List.getElem?_set_self hk] at q2
    cases q2
    exact ⟨_, upd_same, w2, dpa_app w3 (.cons dp .nil)⟩
  · rw [List.getElem?_set_ne (fun z => e z.symm)] at q2
    obtain ⟨ws, x1, x2, x3⟩ := h.inn k' b' ds' q1 q2
    have hbb : b' ≠ b := fun z => e (nodup_ix h.nd (z ▸ q1) h1)
    exact ⟨ws, by rw [upd_ne hbb]; exact x1, x2, x3⟩
theorem Rel.frzX (r : Rel K F ς G σ H) {b : Addr} {vs : List V} {ds : List D} (h1 : H b = some (.lst vs)) (h2 : G b = none) (h3 : DpAll K G vs ds) (h4 : F.H0 b = none) (h5 : NoOwn ς σ b) : Rel K F ς (upd G b (.lst vs)) σ H ∧ Dp K (upd G b (.lst vs)) (.ref b) (.list ds) := by
  refine ⟨⟨r.len, ?_, r.g0.trans (same_upd h2), ?_, ?_, r.ap, r.par, r.fr.grow h2 (fun ps z => by rw [h1] at z; cases z), ?_, fun i x e => by
    obtain ⟨v, e1, e2⟩ := r.vx i x e
    exact ⟨v, e1, xp_same (same_upd h2) e2⟩, fun i kvs e => (r.od i kvs e).keep rfl (same_upd h2) fun c o e1 nl e2 => by
    have ne : c ≠ b := fun z => by subst z; rw [h1] at e1; cases e1; exact (nl _).1 rfl
    exact ⟨e1, by rw [upd_ne ne]; exact e2⟩, r.oa⟩, .lst (.inl (.inl upd_same)) (dpa_same (same_upd h2) h3)⟩
  · intro c x e
    by_cases hb : c = b
    · subst hb; rw [upd_same] at e; rw [h1, e]
    · rw [upd_ne hb] at e; exact r.sub _ _ e
  · intro i d e
    obtain ⟨v, e1, e2⟩ := r.pu i d e
    exact ⟨v, e1, dp_same (same_upd h2) e2⟩
  · intro i b' es e
    obtain ⟨c, ws, e1, e2, e3, e4, e5⟩ := r.ow i b' es e
    have ne : c ≠ b := fun z => by subst z; exact h5 i b' es e e1
    exact ⟨c, ws, e1, e2, by rw [upd_ne ne]; exact e3, dpa_same (same_upd h2) e4, e5⟩
  · intro c e
    by_cases hc : c = b
    · subst hc; exact .inr (.inl h4)
    · rw [upd_ne hc] at e; exact r.nw c e
/-- all are data from now on -/
theorem Nest.frz (h : Nest K F i ς G σ H a as dss) : ∃ G', Rel K F ς G' σ H ∧ Same G G' ∧ RepR K F ς G' σ H (.fresh (dss.map PyData.list)) (.ref a) := by
  have main : ∀ k, k ≤ as.length → ∃ G', Rel K F ς G' σ H ∧ Same G G' ∧ G' a = none ∧ (∀ b ∈ as.drop k, G' b = none) ∧ DpAll K G' ((as.take k).map V.ref) ((dss.take k).map PyData.list) := by
    intro k
    induction k with
    | zero => intro _; exact ⟨G, h.rel, Same.refl _, h.pa.g, fun b hb => by
        obtain ⟨j, hj⟩ := List.mem_iff_getElem?.1 hb
        rw [List.drop_zero] at hj
        have hjl : j < dss.length := by have := (List.getElem?_eq_some_iff.mp hj).1; have := h.len; omega
        obtain ⟨vs, _, p, _⟩ := h.inn j b _ hj (List.getElem?_eq_getElem hjl)
        exact p.g, .nil⟩
    | succ k ih =>
      intro hk
      obtain ⟨G1, r1, s1, ga, gd, dp⟩ := ih (by omega)
      have hkl : k < as.length := by omega
      have hkd : k < dss.length := by have := h.len; omega
      have hak := List.getElem?_eq_getElem hkl
      obtain ⟨vs, u1, u2, u3⟩ := h.inn k as[k] dss[k] hak (List.getElem?_eq_getElem hkd)
      have hdr : as.drop k = as[k] :: as.drop (k + 1) := List.drop_eq_getElem_cons hkl
      have gk : G1 as[k] = none := gd _ (hdr ▸ List.mem_cons_self)
      obtain ⟨r2, d2⟩ := r1.frzX u1 gk (dpa_same s1 u3) u2.h0 u2.no
      have hnd : as[k] ∉ as.drop (k + 1) := by
        have := (h.nd.sublist (List.drop_sublist k as))
        rw [hdr] at this
        exact (List.nodup_cons.1 this).1
      have s2 : Same G1 (upd G1 as[k] (.lst vs)) := same_upd gk
      have hak2 : a ≠ as[k] := fun e => h.na (e ▸ List.getElem_mem hkl)
      refine ⟨_, r2, s1.trans s2, by rw [upd_ne hak2]; exact ga, fun b hb => ?_, ?_⟩
      · have : b ≠ as[k] := fun e => hnd (e ▸ hb)
        rw [upd_ne this]
        exact gd b (by rw [hdr]; exact List.mem_cons_of_mem _ hb)
      · rw [List.take_add_one, hak, List.take_add_one, List.getElem?_eq_getElem hkd, List.map_append, List.map_append]
        exact dpa_app (dpa_same s2 dp) (.cons d2 .nil)
  obtain ⟨G1, r1, s1, ga, _, dp⟩ := main as.length (Nat.le_refl _)
  rw [List.take_length, h.len, List.take_length] at dp
  exact ⟨G1, r1, s1, a, as.map V.ref, rfl, h.ha, ga, dp, h.pa.h0, h.pa.no⟩
/-! ### statements over it -/
end
/-! ### xs = [[] for .. in ..]; ..; return xs -/
structure PL (K : PySem.W.Frag) (F : Fx) (L : Addr) (ς : En) (G : Hp) (σ : L2.St) (H : Hp) (as : List Addr) : Prop where
  rel : Rel K F ς G σ H
  ha : H L = some (.lst (as.map V.ref))
  pa : Priv F ς G σ L
  na : L ∉ as
  nd : as.Nodup
  inn : ∀ b ∈ as, H b = some (.lst []) ∧ Priv F ς G σ b
section
variable {K : PySem.W.Frag} {F : Fx} {L : Addr} {ς ς' : En} {G G' : Hp} {σ σ' : L2.St} {H H' : Hp} {as : List Addr}
theorem PL.step (h : PL K F L ς G σ H as) (r : Rel K (F.now ς G σ H) ς' G' σ' H') : PL K F L ς' G' σ' H' as := by
  have ka := h.rel.keepF r h.ha h.pa.g h.pa.no
  refine ⟨h.rel.back r, ka.1, ⟨ka.2.1, h.pa.h0, ka.2.2⟩, h.na, h.nd, fun b hb => ?_⟩
  obtain ⟨u1, u2⟩ := h.inn b hb
  have kb := h.rel.keepF r u1 u2.g u2.no
  exact ⟨kb.1, kb.2.1, u2.h0, kb.2.2⟩
theorem Priv.wiped (h : Priv F ς G σ L) (vs : List Nat) : Priv F (wipeE ς vs) G (wipe σ vs) L := ⟨h.g, h.h0, fun n b es z1 z2 => h.no n b es (wipeE_own vs z1) (wipe_some z2).1⟩
theorem PL.wiped (h : PL K F L ς G σ H as) (vs : List Nat) (hf : freeAll ς vs = true) : PL K F L (wipeE ς vs) G (wipe σ vs) H as :=
  ⟨h.rel.wiped vs hf, h.ha, h.pa.wiped vs, h.na, h.nd, fun b hb => ⟨(h.inn b hb).1, (h.inn b hb).2.wiped vs⟩⟩
theorem PL.push (h : PL K F L ς G σ H as) {p : Addr} (hp : H p = none) : PL K F L ς G σ (upd (upd H p (.lst [])) L (.lst (as.map V.ref ++ [.ref p]))) (as ++ [p]) := by
  have hpL : L ≠ p := fun e => by rw [← e, h.ha] at hp; cases hp
  have hpa : p ∉ as := fun m => by rw [(h.inn p m).1] at hp; cases hp
  have pp : Priv F ς G σ p := ⟨h.rel.gnone hp, h.rel.new hp, fun n b es z w => by
    obtain ⟨c, ws, f1, f2, _⟩ := h.rel.ow n b es z
    rw [w] at f1; cases f1
    rw [hp] at f2; cases f2⟩
  refine ⟨(h.rel.layF hp).touch h.pa.g h.pa.h0 h.pa.no (by rw [upd_ne hpL]; exact h.ha), by rw [upd_same, List.map_append]; rfl, h.pa, fun m => ?_, ?_, fun b hb => ?_⟩
  · rcases List.mem_append.1 m with m | m
    · exact h.na m
    · exact hpL (List.mem_singleton.1 m)
  · rw [List.nodup_append]
    exact ⟨h.nd, by simp, fun a ha b hb => by rw [List.mem_singleton.1 hb]; exact fun e => hpa (e ▸ ha)⟩
  · rcases List.mem_append.1 hb with hb | hb
    · have hbL : b ≠ L := fun e => h.na (e ▸ hb)
      have hbp : b ≠ p := fun e => hpa (e ▸ hb)
      rw [upd_ne hbL, upd_ne hbp]
      exact h.inn b hb
    · rw [List.mem_singleton.1 hb, upd_ne (fun e => hpL e.symm), upd_same]
      exact ⟨rfl, pp⟩
end
end Lw
namespace Lw
open PySem PySem.Spec PyProof.Rows L2
/-! ### a, rows = x, [list(row) for row in ..]; rows[k][a] = rows[k][a] - y -/
structure PQ (K : PySem.W.Frag) (F : Fx) (L : Addr) (ς : En) (G : Hp) (σ : L2.St) (H : Hp) (as : List Addr) (dss : List (List D)) : Prop where
  rel : Rel K F ς G σ H
  ha : H L = some (.lst (as.map V.ref))
  pa : Priv F ς G σ L
  na : L ∉ as
  nd : as.Nodup
  len : as.length = dss.length
  inn : ∀ (k : Nat) b ds, as[k]? = some b → dss[k]? = some ds → ∃ vs, H b = some (.lst vs) ∧ Priv F ς G σ b ∧ DpAll K G vs ds
section
variable {K : PySem.W.Frag} {F : Fx} {L : Addr} {ς ς' : En} {G G' : Hp} {σ σ' : L2.St} {H H' : Hp} {as : List Addr} {dss : List (List D)}
theorem PQ.step (h : PQ K F L ς G σ H as dss) (r : Rel K (F.now ς G σ H) ς' G' σ' H') : PQ K F L ς' G' σ' H' as dss := by
  have ka := h.rel.keepF r h.ha h.pa.g h.pa.no
  refine ⟨h.rel.back r, ka.1, ⟨ka.2.1, h.pa.h0, ka.2.2⟩, h.na, h.nd, h.len, fun k b ds h1 h2 => ?_⟩
  obtain ⟨vs, u1, u2, u3⟩ := h.inn k b ds h1 h2
  have kb := h.rel.keepF r u1 u2.g u2.no
  exact ⟨vs, kb.1, ⟨kb.2.1, u2.h0, kb.2.2⟩, dpa_same r.g0 u3⟩
theorem PQ.wiped (h : PQ K F L ς G σ H as dss) (vs : List Nat) (hf : freeAll ς vs = true) : PQ K F L (wipeE ς vs) G (wipe σ vs) H as dss :=
  ⟨h.rel.wiped vs hf, h.ha, h.pa.wiped vs, h.na, h.nd, h.len, fun k b ds h1 h2 => by
    obtain ⟨ws, u1, u2, u3⟩ := h.inn k b ds h1 h2
    exact ⟨ws, u1, u2.wiped vs, u3⟩⟩
theorem PQ.push (h : PQ K F L ς G σ H as dss) (r : Rel K (F.now ς G σ H) ς' G' σ' H') {es : List D} {v : V} (rep : RepR K (F.now ς G σ H) ς' G' σ' H' (.fresh es) v) :
    ∃ p, v = .ref p ∧ H' L = some (.lst (as.map V.ref)) ∧ PQ K F L ς' G' σ' (upd H' L (.lst (as.map V.ref ++ [.ref p]))) (as ++ [p]) (dss ++ [es]) := by
  obtain ⟨p, vs, rfl, f1, f2, f3, f4, f5⟩ := rep
  have hh := h.step r
  have hL : L ≠ p := fun e => by
    rw [← e, now_some h.rel h.ha h.pa.no] at f4
    cases f4
  have hpa : p ∉ as := fun m => by
    obtain ⟨k, hk⟩ := List.mem_iff_getElem?.1 m
    have hkl : k < dss.length := by have := (List.getElem?_eq_some_iff.mp hk).1; have := h.len; omega
    obtain ⟨ws, u1, u2, u3⟩ := h.inn k p _ hk (List.getElem?_eq_getElem hkl)
    rw [now_some h.rel u1 u2.no] at f4
    cases f4
  have pp : Priv F ς' G' σ' p := ⟨f2, now_none h.rel f4, f5⟩
  refine ⟨p, rfl, hh.ha, hh.rel.touch hh.pa.g hh.pa.h0 hh.pa.no hh.ha, by rw [upd_same, List.map_append]; rfl, hh.pa, fun m => ?_, ?_, by rw [List.length_append, List.length_append, hh.len]; rfl, fun k b ds h1 h2 => ?_⟩
  · rcases List.mem_append.1 m with m | m
    · exact h.na m
    · exact hL (List.mem_singleton.1 m)
  · rw [List.nodup_append]
    exact ⟨h.nd, by simp, fun a ha b hb => by rw [List.mem_singleton.1 hb]; exact fun e => hpa (e ▸ ha)⟩
  · by_cases hk : k < as.length
    · rw [List.getElem?_append_left hk] at h1
      rw [List.getElem?_append_left (by rw [← h.len]; exact hk)] at h2
      have hbL : b ≠ L := fun e => h.na (e ▸ List.mem_of_getElem? h1)
      rw [upd_ne hbL]
      exact hh.inn k b ds h1 h2
    · rw [List.getElem?_append_right (by omega)] at h1
      rw [List.getElem?_append_right (by rw [← h.len]; omega)] at h2
      have e0 : k - as.length = 0 := by
        have := (List.getElem?_eq_some_iff.mp h1).1
        simp at this
        omega
      rw [e0] at h1
      rw [← h.len, e0] at h2
      cases h1
      cases h2
      rw [upd_ne (fun e => hL e.symm)]
      exact ⟨vs, f1, pp, f3⟩
theorem NoOwn.set {s : Option S} {w : Option V} {x : Addr} {i : Nat} (hs : ∀ b es, s ≠ some (.own b es)) (h : NoOwn ς σ x) : NoOwn (ς.set i s) (σ.set i w) x := fun n b es z1 z2 => by
  rcases get_set z1 with ⟨_, e⟩ | ⟨ni, e⟩
  · exact hs b es e
  · rw [List.getElem?_set_ne ni] at z2
    exact h n b es e z2
theorem NoOwn.unwipe {vs : List Nat} {x : Addr} (r : Rel K F ς G (wipe σ vs) H) (h : NoOwn ς (wipe σ vs) x) : NoOwn ς σ x := fun n b es z1 z2 => by
  obtain ⟨c, ws, f1, _⟩ := r.ow n b es z1
  have f2 := (wipe_some f1).1
  rw [z2] at f2; cases f2
  exact h n b es z1 f1
end
end Lw
namespace Lw
open PySem PySem.Spec PyProof.Rows L2
/-! ### a dict of one's own, numbers by numbers, in one slot -/
abbrev KI := List (Int × Int)
def kvD (kv : KI) : List (Key × V) := kv.map fun p => (.inl p.1, V.int p.2)
structure Dic (K : PySem.W.Frag) (F : Fx) (i : Nat) (ς : En) (G : Hp) (σ : L2.St) (H : Hp) (a : Addr) (kv : KI) : Prop where
  rel : Rel K F ς G σ H
  sg : σ[i]? = some (some (.ref a))
  ha : H a = some (.dK (kvD kv))
  pa : Priv F ς G σ a
  nod : ∀ (n : Nat) kvs, ς[n]? = some (some (.vx (.odc kvs))) → σ[n]? ≠ some (some (.ref a))
section
variable {K : PySem.W.Frag} {F : Fx} {i : Nat} {ς ς' : En} {G G' : Hp} {σ σ' : L2.St} {H H' : Hp} {a : Addr} {kv : KI}
theorem Dic.step (h : Dic K F i ς G σ H a kv) (r : Rel K (F.now ς G σ H) ς' G' σ' H') (s : Same G G') (e1 : σ'[i]? = σ[i]?) : Dic K F i ς' G' σ' H' a kv := by
  have ka := h.rel.keepG r h.ha h.pa.g h.pa.no h.nod (fun _ z => by cases z)
  exact ⟨h.rel.back r, e1.trans h.sg, ka.1, ⟨ka.2.1, h.pa.h0, ka.2.2.1⟩, ka.2.2.2⟩
end
/-! ### d[k] = min(m, d.get(k, m)) -/
def putI (kv : KI) (k v : Int) : KI := if (kv.any fun p => decide (p.1 = k)) = true then kv.map (fun p => if p.1 = k then (p.1, v) else p) else kv ++ [(k, v)]
theorem putK_kv (k v : Int) (kv : KI) : putK (kvD kv) (Sum.inl k : Key) (V.int v) = kvD (putI kv k v) := by
  have e0 : (kvD kv).any (fun q => decide (q.1 = (Sum.inl k : Key))) = kv.any fun p => decide (p.1 = k) := by
    unfold kvD
    rw [List.any_map]
    congr 1
    funext p
    show decide ((Sum.inl p.1 : Key) = Sum.inl k) = decide (p.1 = k)
    by_cases h : p.1 = k
    · rw [h]; simp
    · rw [decide_eq_false h, decide_eq_false (fun e => h (Sum.inl.inj e))]
  unfold putK putI
  rw [e0]
  split
  · unfold kvD
    rw [List.map_map, List.map_map]
    refine List.map_congr_left fun p _ => ?_
    show (if (Sum.inl p.1 : Key) = Sum.inl k then ((Sum.inl p.1 : Key), V.int v) else (Sum.inl p.1, V.int p.2)) = _
    by_cases h : p.1 = k
    · rw [if_pos (by rw [h])]
      show _ = (Sum.inl (if p.1 = k then (p.1, v) else p).1, V.int (if p.1 = k then (p.1, v) else p).2)
      rw [if_pos h]
    · rw [if_neg (fun e => h (Sum.inl.inj e))]
      show _ = (Sum.inl (if p.1 = k then (p.1, v) else p).1, V.int (if p.1 = k then (p.1, v) else p).2)
      rw [if_neg h]
  · unfold kvD
    rw [List.map_append]
    rfl
theorem Dic.put {K : PySem.W.Frag} {F : Fx} {i : Nat} {ς : En} {G : Hp} {σ : L2.St} {H : Hp} {a : Addr} {kv : KI} (h : Dic K F i ς G σ H a kv) (k v : Int) : Dic K F i ς G σ (upd H a (.dK (putK (kvD kv) (Sum.inl k) (V.int v)))) a (putI kv k v) :=
  ⟨h.rel.touchG h.pa.g h.pa.h0 h.pa.no h.nod, h.sg, by rw [upd_same, putK_kv], h.pa, h.nod⟩
end Lw
namespace Lw
open PySem PySem.Spec PyProof.Rows L2
/-! ### d = {}; ..; return list(d.items()) -/
section
variable {K : PySem.W.Frag} {F : Fx} {ς : En} {G H H' : Hp} {σ : L2.St}
theorem Rel.ext (r : Rel K F ς G σ H) (s : ∀ b o, H b = some o → H' b = some o) : Rel K F ς G σ H' :=
  ⟨r.len, fun b o e => s b o (r.sub b o e), r.g0, r.pu, fun i b ds e => by
    obtain ⟨a, vs, e1, e2, e3⟩ := r.ow i b ds e
    exact ⟨a, vs, e1, s _ _ e2, e3⟩, r.ap, r.par, r.fr.ext s, r.nw, r.vx, fun i kvs e => (r.od i kvs e).keep rfl (Same.refl _) fun c o e1 _ e2 => ⟨s _ _ e1, e2⟩, r.oa⟩
end
end Lw
namespace Lw
open PySem PySem.Spec PyProof.Rows L2
end Lw
namespace Lw
open PySem PySem.Spec PyProof.Rows L2
end Lw
namespace Lw
open PySem PySem.Spec PyProof.Rows L2
/-! ### sorted(set(xs)) of a list of ints -/
end Lw
namespace Lw
open PySem PySem.Spec PyProof.Rows L2
/-! ### in numbers -/
def insU (k : Int) : List Int → List Int
  | [] => [k]
  | x :: xs => if k < x then k :: x :: xs else if k = x then x :: xs else x :: insU k xs
def sortU (ns : List Int) : List Int := ns.foldr insU []
def gSoSe : D → Option R
  | .list ds => match intsD ds with
    | some ns => if ns.length < 60 then some (.fresh ((sortU ns).map PyData.int)) else none
    | none => none
  | _ => none
def soseE (f : M R) : M R := bd (esc f) fun d => lift (gSoSe d)
theorem Sm.soseE {ς : En} {f : M R} {Q : R → En → Prop} (h : wp f ς fun r ς1 => ∃ d ς2, toD r ς1 = some (d, ς2) ∧ ∃ r2, gSoSe d = some r2 ∧ Q r2 ς2) : wp (Lw.soseE f) ς Q :=
  Sm.bd (Sm.esc (Sm.mono h fun r ς1 ⟨d, ς2, e, r2, e2, q⟩ => ⟨d, ς2, e, Sm.lift e2 q⟩))
namespace Sm
section
variable {ς : En}
instance stp_soseE {ς : En} {f : M R} {Q : R → En → Prop} : Stp (wp (Lw.soseE f) ς Q) (wp f ς fun r ς1 => ∃ d ς2, toD r ς1 = some (d, ς2) ∧ ∃ r2, gSoSe d = some r2 ∧ Q r2 ς2) := ⟨Sm.soseE⟩
end
end Sm
end Lw
namespace Lw
open PySem PySem.Spec PyProof.Rows L2
/-! ### xs += [..], of a list of one's own -/
def augL (i : Nat) (f : M R) : MS := fun ς => match ς[i]? with
  | some (some (.own _ _)) => match f ς with
    | some (.fresh es, ς1) => match ς1[i]? with
      | some (some (.own b ds)) => if ds.length + es.length ≤ sizeLine then some (.nx (ς1.set i (some (.own b (ds ++ es))))) else none
      | _ => none
    | _ => none
  | _ => none
theorem Sm.augL {ς : En} {Q : Out → Prop} {i : Nat} {f : M R} {b0 : Bool} {ds0 : List D} (e0 : ς[i]? = some (some (.own b0 ds0))) (h : wp f ς fun r ς1 => ∃ es b ds, r = .fresh es ∧ ς1[i]? = some (some (.own b ds)) ∧ ds.length + es.length ≤ sizeLine ∧ Q (.nx (ς1.set i (some (.own b (ds ++ es)))))) : wps (Lw.augL i f) ς Q := by
  obtain ⟨r, ς1, e1, es, b, ds, rfl, e2, hl, q⟩ := h
  exact ⟨_, by unfold Lw.augL; simp only [e0, e1, e2]; exact if_pos hl, q⟩
/-! ### t < u, tuples of ints -/
end Lw
namespace Lw
open PySem PySem.Spec PyProof.Rows L2
end Lw
namespace Lw
open PySem PySem.Spec PyProof.Rows L2
def g_p_is_number_from : MS :=
  (retS (andV (callE m_p_is_number (argV (vr 1) argN)) (op2 gGe (vr 1) (vr 0))))
def m_p_is_number_from : Fsem := runFn g_p_is_number_from 2
end Lw
namespace Lw
open PySem PySem.Spec PyProof.Rows L2
/-! ### dicts: keys -/
def kq1 : D → D → Bool
  | .int a, .int b => decide (a = b)
  | .str a, .str b => decide (a = b)
  | _, _ => false
def kqs : List D → List D → Bool
  | [], [] => true
  | a :: as, b :: bs => kq1 a b && kqs as bs
  | _, _ => false
def kq : D → D → Bool
  | .tuple as, .tuple bs => kqs as bs
  | a, b => kq1 a b
abbrev KVs := List (D × D)
def getKv (kvs : KVs) (k : D) : Option D := (kvs.find? fun p => kq p.1 k).map (·.2)
def putKv (kvs : KVs) (k v : D) : KVs := if (kvs.any fun p => kq p.1 k) = true then kvs.map (fun p => if kq p.1 k = true then (p.1, v) else p) else kvs ++ [(k, v)]
def keysOf : List D → Option (List L2.Key)
  | [] => some []
  | .int a :: ds => (keysOf ds).map (Sum.inl a :: ·)
  | .str a :: ds => (keysOf ds).map (Sum.inr a :: ·)
  | _ :: _ => none
def isTp : D → Bool
  | .tuple _ => true
  | _ => false
def kdOk (kvs : KVs) (k : D) : Bool := match kvs with
  | (.bool t, _) :: _ => t == isTp k
  | _ => false
/-- a key: a number or text, or a tuple of these laid out -/
def KeyAt (G : Hp) (v : V) (k : D) : Prop := (∃ c : L2.Key, k = keyD c ∧ v = kV c) ∨ ∃ (cs : List L2.Key) (b : Addr), k = .tuple (cs.map keyD) ∧ v = .ref b ∧ G b = some (.tup (cs.map kV))
theorem KeyAt.same {G G' : Hp} (s : Same G G') {v : V} {k : D} (h : KeyAt G v k) : KeyAt G' v k := by
  rcases h with h | ⟨cs, b, h1, h2, h3⟩
  · exact .inl h
  · exact .inr ⟨cs, b, h1, h2, s _ _ h3⟩
theorem kq_mark (b : Bool) (c : L2.Key) : kq (.bool b) (keyD c) = false := by cases c <;> rfl
theorem putKv_mark (b : Bool) (x : D) (ks : KVs) {k v : D} (h : (∃ c, k = keyD c) ∨ ∃ ds, k = .tuple ds) : putKv ((.bool b, x) :: ks) k v = (.bool b, x) :: putKv ks k v := by
  have e : kq (.bool b) k = false := by
    rcases h with ⟨c, rfl⟩ | ⟨ds, rfl⟩
    · exact kq_mark b c
    · rfl
  unfold putKv
  rw [List.any_cons, show kq ((PyData.bool b, x) : D × D).1 k = false from e, Bool.false_or]
  split
  · rw [List.map_cons, if_neg (by rw [show kq ((PyData.bool b, x) : D × D).1 k = false from e]; exact Bool.false_ne_true)]
  · rfl
/-! ### x = {} -/
section
variable {X : Cx} {F : Fx} {i : Nat} {st : Stmt} {fv fd : M R} {fk : M D} {es : List Expr} {x : Str} {p pos p2 p3 apos : Pos} {value key e1 e2 : Expr} {ga : M (List Ar)}
def dnew (t : Bool) (i : Nat) : MS := fun ς => if free ς i = true then some (.nx (ς.set i (some (.vx (.odc [(.bool t, .none)]))))) else none
theorem Rel.noOd {K : PySem.W.Frag} {F : Fx} {ς : En} {G H : Hp} {σ : L2.St} (r : Rel K F ς G σ H) {p : Addr} (h : H p = none) : ∀ (n : Nat) kvs, ς[n]? = some (some (.vx (.odc kvs))) → σ[n]? ≠ some (some (.ref p)) := fun n kvs z1 z2 => by
  obtain ⟨c, o, f1, f2, _⟩ := r.od n kvs z1
  rw [z2] at f1; cases f1
  rw [h] at f2; cases f2
/-! ### the dict at a slot -/
def dcOf (ς : En) (i : Nat) : Option KVs := match ς[i]? with
  | some (some (.vx (.odc kvs))) => some kvs
  | some (some (.pure (.dict kvs))) => some kvs
  | _ => none
/-! ### keys -/
def keyT (g : M (List Ar)) : M D := bd g fun as => bd (lift (vals as)) fun ds => if small ds.length = true ∧ (keysOf ds).isSome = true then ret (.tuple ds) else lift none
def isKy : D → Bool
  | .int _ => true
  | .str _ => true
  | _ => false
def keyK (f : M R) : M D := bd (esc f) fun d => if isKy d = true then ret d else lift none
/-! ### x[k], x.get(k, d), k in x -/
def dget (i : Nat) (fk : M D) : M R := fun ς => match dcOf ς i with
  | some _ => match fk ς with
    | some (k, ς1) => match dcOf ς1 i with
      | some kvs => if kdOk kvs k = true then (getKv kvs k).map fun d => (.pure d, ς1) else none
      | none => none
    | none => none
  | none => none
def isDk (ς : En) (i : Nat) : Bool := match dcOf ς i with
  | some kvs => !isOb kvs
  | none => false
def dget2 (i : Nat) (fk : M D) (fd : M R) : M R := fun ς => if isDk ς i = true then match fk ς with
    | some (k, ς1) => match esc fd ς1 with
      | some (d, ς2) => match dcOf ς2 i with
        | some kvs => if kdOk kvs k = true then some (.pure ((getKv kvs k).getD d), ς2) else none
        | none => none
      | none => none
    | none => none
  else none
/-! ### x[k] = v -/
def dput (i : Nat) (fk : M D) (fv : M R) : MS := fun ς => match esc fv ς with
  | some (d, ς1) => match dcOf ς1 i with
    | some _ => match fk ς1 with
      | some (k, ς2) => match ς2[i]? with
        | some (some (.vx (.odc kvs))) => if kdOk kvs k = true ∧ small kvs.length = true then some (.nx (ς2.set i (some (.vx (.odc (putKv kvs k d)))))) else none
        | _ => none
      | none => none
    | none => none
  | none => none
end
namespace Sm
section
variable {ς : En} {i : Nat} {fk : M D} {fv fd f : M R} {ga : M (List Ar)} {t : Bool} {Q : R → En → Prop} {P : Out → Prop}
theorem dnew (h : free ς i = true ∧ P (.nx (ς.set i (some (.vx (.odc [(.bool t, .none)])))))) : wps (Lw.dnew t i) ς P := ⟨_, by unfold Lw.dnew; exact if_pos h.1, h.2⟩
theorem keyT {Q : D → En → Prop} (h : wp ga ς fun as ς1 => ∃ ds, vals as = some ds ∧ ds.length ≤ sizeLine ∧ (keysOf ds).isSome = true ∧ Q (.tuple ds) ς1) : wp (Lw.keyT ga) ς Q := by
  refine bd (mono h fun as ς1 h => ?_)
  obtain ⟨ds, h1, h2, h3, q⟩ := h
  refine bd (lift h1 ?_)
  rw [if_pos ⟨(decide_eq_true h2 : small ds.length = true), h3⟩]
  exact ret q
theorem keyK {Q : D → En → Prop} (h : wp f ς fun r ς1 => ∃ d ς2, toD r ς1 = some (d, ς2) ∧ isKy d = true ∧ Q d ς2) : wp (Lw.keyK f) ς Q := by
  refine bd (esc (mono h fun r ς1 ⟨d, ς2, h1, h2, q⟩ => ⟨d, ς2, h1, ?_⟩))
  rw [if_pos h2]
  exact ret q
theorem dget (h : (dcOf ς i).isSome = true ∧ wp fk ς fun k ς1 => ∃ kvs d, dcOf ς1 i = some kvs ∧ kdOk kvs k = true ∧ getKv kvs k = some d ∧ Q (.pure d) ς1) : wp (Lw.dget i fk) ς Q := by
  obtain ⟨h0, k, ς1, e, kvs, d, h1, h2, h3, q⟩ := h
  obtain ⟨kv0, h0⟩ := Option.isSome_iff_exists.mp h0
  refine ⟨_, _, ?_, q⟩
  unfold Lw.dget
  simp only [h0, e, h1]
  rw [if_pos h2, h3]
  rfl
theorem dget2 (h : isDk ς i = true ∧ wp fk ς fun k ς1 => wp fd ς1 fun r ς2 => ∃ d ς3, toD r ς2 = some (d, ς3) ∧ ∃ kvs, dcOf ς3 i = some kvs ∧ kdOk kvs k = true ∧ Q (.pure ((getKv kvs k).getD d)) ς3) : wp (Lw.dget2 i fk fd) ς Q := by
  obtain ⟨h0, k, ς1, e, hh⟩ := h
  obtain ⟨d, ς3, e3, kvs, h1, h2, q⟩ := esc (Q := fun d ς3 => ∃ kvs, dcOf ς3 i = some kvs ∧ kdOk kvs k = true ∧ Q (.pure ((getKv kvs k).getD d)) ς3) hh
  refine ⟨_, _, ?_, q⟩
  unfold Lw.dget2
  rw [if_pos h0]
  simp only [e, e3, h1]
  exact if_pos h2
theorem dput (h : wp fv ς fun r ς1 => ∃ d ς2, toD r ς1 = some (d, ς2) ∧ (dcOf ς2 i).isSome = true ∧ wp fk ς2 fun k ς3 => ∃ kvs, ς3[i]? = some (some (.vx (.odc kvs))) ∧ kdOk kvs k = true ∧ kvs.length ≤ sizeLine ∧ P (.nx (ς3.set i (some (.vx (.odc (putKv kvs k d))))))) : wps (Lw.dput i fk fv) ς P := by
  obtain ⟨d, ς2, e2, h0, k, ς3, e3, kvs, h1, h2, h3, q⟩ := esc (Q := fun d ς2 => (dcOf ς2 i).isSome = true ∧ wp fk ς2 fun k ς3 => ∃ kvs, ς3[i]? = some (some (.vx (.odc kvs))) ∧ kdOk kvs k = true ∧ kvs.length ≤ sizeLine ∧ P (.nx (ς3.set i (some (.vx (.odc (putKv kvs k d))))))) h
  obtain ⟨kv0, h0⟩ := Option.isSome_iff_exists.mp h0
  refine ⟨_, ?_, q⟩
  unfold Lw.dput
  simp only [e2, h0, e3, h1]
  exact if_pos ⟨h2, (decide_eq_true h3 : small kvs.length = true)⟩
instance stp_dnew : Stp (wps (Lw.dnew t i) ς P) (free ς i = true ∧ P (.nx (ς.set i (some (.vx (.odc [(.bool t, .none)])))))) := ⟨Sm.dnew⟩
instance stp_keyT {Q : D → En → Prop} : Stp (wp (Lw.keyT ga) ς Q) (wp ga ς fun as ς1 => ∃ ds, vals as = some ds ∧ ds.length ≤ sizeLine ∧ (keysOf ds).isSome = true ∧ Q (.tuple ds) ς1) := ⟨Sm.keyT⟩
instance stp_keyK {Q : D → En → Prop} : Stp (wp (Lw.keyK f) ς Q) (wp f ς fun r ς1 => ∃ d ς2, toD r ς1 = some (d, ς2) ∧ isKy d = true ∧ Q d ς2) := ⟨Sm.keyK⟩
instance stp_dget : Stp (wp (Lw.dget i fk) ς Q) ((dcOf ς i).isSome = true ∧ wp fk ς fun k ς1 => ∃ kvs d, dcOf ς1 i = some kvs ∧ kdOk kvs k = true ∧ getKv kvs k = some d ∧ Q (.pure d) ς1) := ⟨Sm.dget⟩
instance stp_dget2 : Stp (wp (Lw.dget2 i fk fd) ς Q) (isDk ς i = true ∧ wp fk ς fun k ς1 => wp fd ς1 fun r ς2 => ∃ d ς3, toD r ς2 = some (d, ς3) ∧ ∃ kvs, dcOf ς3 i = some kvs ∧ kdOk kvs k = true ∧ Q (.pure ((getKv kvs k).getD d)) ς3) := ⟨Sm.dget2⟩
instance stp_dput : Stp (wps (Lw.dput i fk fv) ς P) (wp fv ς fun r ς1 => ∃ d ς2, toD r ς1 = some (d, ς2) ∧ (dcOf ς2 i).isSome = true ∧ wp fk ς2 fun k ς3 => ∃ kvs, ς3[i]? = some (some (.vx (.odc kvs))) ∧ kdOk kvs k = true ∧ kvs.length ≤ sizeLine ∧ P (.nx (ς3.set i (some (.vx (.odc (putKv kvs k d))))))) := ⟨Sm.dput⟩
end
end Sm
end Lw
namespace Lw
open PySem PySem.Spec PyProof.Rows L2
/-! ### a def that is handed a new list ahead of others -/
def noOwnS : S → Bool
  | .own _ _ => false
  | .vx (.odc _) => false
  | _ => true
def callF2 (m : Fsem) (fe : M R) (gb : M (List Ar)) : M R := bd fe fun r => match r with
  | .fresh ds => bd gb fun as => fun ς => match argS as ς with
    | some ss => if (refsOf as).Nodup ∧ ss.all noOwnS = true then finF (m (.own true ds :: ss)) ς else none
    | none => none
  | _ => lift none
namespace Sm
theorem callF2 {ς : En} {m : Fsem} {fe : M R} {gb : M (List Ar)} {Q : R → En → Prop} (h : wp fe ς fun r ς1 => ∃ ds, r = .fresh ds ∧ wp gb ς1 fun as ς2 => ∃ ss, argS as ς2 = some ss ∧ (refsOf as).Nodup ∧ ss.all noOwnS = true ∧ wpf m (.own true ds :: ss) fun r outs => (∀ i, r ≠ .ref i) ∧ Q r ς2) : wp (Lw.callF2 m fe gb) ς Q := by
  refine bd (mono h fun r ς1 h => ?_)
  obtain ⟨ds, rfl, h⟩ := h
  refine bd (mono h fun as ς2 h => ?_)
  obtain ⟨ss, e, nd, no, r, outs, e2, hr, q⟩ := h
  refine ⟨r, ς2, ?_, q⟩
  simp only [e]
  rw [if_pos ⟨nd, no⟩, e2]
  cases r with
  | ref i => exact absurd rfl (hr i)
  | pure d => rfl
  | vx x => rfl
  | fresh ds => rfl
instance stp_callF2 {ς : En} {m : Fsem} {fe : M R} {gb : M (List Ar)} {Q : R → En → Prop} : Stp (wp (Lw.callF2 m fe gb) ς Q) (wp fe ς fun r ς1 => ∃ ds, r = .fresh ds ∧ wp gb ς1 fun as ς2 => ∃ ss, argS as ς2 = some ss ∧ (refsOf as).Nodup ∧ ss.all noOwnS = true ∧ wpf m (.own true ds :: ss) fun r outs => (∀ i, r ≠ .ref i) ∧ Q r ς2) := ⟨Sm.callF2⟩
end Sm
end Lw
namespace Lw
open PySem PySem.Spec PyProof.Rows L2
/-! ### what a dict holds behind a store -/
/-- tuples for keys -/
def KdT (kvs : KVs) : Prop := ∃ ks, kvs = (.bool true, .none) :: ks
theorem KdT.ok {kvs : KVs} (h : KdT kvs) (ds : List D) : kdOk kvs (.tuple ds) = true := by
  obtain ⟨ks, rfl⟩ := h
  rfl
theorem KdT.put {kvs : KVs} (h : KdT kvs) (ds : List D) (v : D) : KdT (putKv kvs (.tuple ds) v) := by
  obtain ⟨ks, rfl⟩ := h
  rw [putKv_mark _ _ _ (.inr ⟨ds, rfl⟩)]
  exact ⟨_, rfl⟩
namespace Sm
instance stp_oX {ς : En} {x : XD} {Q : Out → Prop} : Stp (outR Q (.vx x) ς) (Q (.rt (.vx x) ς)) := ⟨fun h => h⟩
end Sm
end Lw
namespace Lw
open PySem PySem.Spec PyProof.Rows L2
/-! ### a dict is locked while it is walked -/
section
variable {K : PySem.W.Frag} {F : Fx} {ς ς' : En} {G G' H H' : Hp} {σ σ' : L2.St} {d : Addr} {od : Obj} {u : HO}
/-- a dict -/
def DU (u : HO) : Prop := (∃ es, u = .dK es) ∨ ∃ es, u = .dT es
theorem DU.tbl {u : HO} (h : DU u) {ps : Array Value} : u ≠ .tbl ps := fun z => by
  rcases h with ⟨es, rfl⟩ | ⟨es, rfl⟩ <;> cases z
theorem DU.ext {u : HO} (h : DU u) {c : Addr} {q : Str} : u ≠ LamX.CodeO c q := fun z => by
  unfold LamX.CodeO at z
  rcases h with ⟨es, rfl⟩ | ⟨es, rfl⟩ <;> cases z
end
end Lw
namespace Lw
open PySem PySem.Spec PyProof.Rows L2
/-! ### dict(list of pairs) -/
section
variable {X : Cx} {fa : M R} {p pos : Pos} {a : Expr}
/-- a new dict -/
def dnE (t : Bool) : M R := fun ς => some (.vx (.odc [(.bool t, .none)]), ς)
/-- a name takes what is new as its own -/
def asgU (i : Nat) (f : M R) : MS := fun ς => match f ς with
  | some (r, ς') => match put i r with
    | some s => if free ς' i = true then some (.nx (ς'.set i s)) else none
    | none => none
  | none => none
end
namespace Sm
theorem dnE {ς : En} {t : Bool} {Q : R → En → Prop} (h : Q (.vx (.odc [(.bool t, .none)])) ς) : wp (Lw.dnE t) ς Q := ⟨_, ς, rfl, h⟩
theorem asgU {ς : En} {f : M R} {i : Nat} {P : Out → Prop} (h : wp f ς fun r ς1 => ∃ s, put i r = some s ∧ free ς1 i = true ∧ P (.nx (ς1.set i s))) : wps (Lw.asgU i f) ς P := by
  obtain ⟨r, ς1, e, s, h1, h2, q⟩ := h
  refine ⟨_, ?_, q⟩
  unfold Lw.asgU
  simp only [e, h1]
  exact if_pos h2
instance stp_dnE {ς : En} {t : Bool} {Q : R → En → Prop} : Stp (wp (Lw.dnE t) ς Q) (Q (.vx (.odc [(.bool t, .none)])) ς) := ⟨Sm.dnE⟩
instance stp_asgU {ς : En} {f : M R} {i : Nat} {P : Out → Prop} : Stp (wps (Lw.asgU i f) ς P) (wp f ς fun r ς1 => ∃ s, put i r = some s ∧ free ς1 i = true ∧ P (.nx (ς1.set i s))) := ⟨Sm.asgU⟩
end Sm
end Lw
namespace Lw
open PySem PySem.Spec PyProof.Rows L2
/-! ### dict(list of pairs), tuples for keys -/
/-! ### dict([(p, e) for p in d]), tuples for keys -/
/-- a pair that was laid for a key -/
def PkE (K : PySem.W.Frag) (G : Hp) (v : V) (e : D × D) : Prop := ∃ (a q : Addr) (cs : List L2.Key) (w : V), v = .ref a ∧ G a = some (.tup [.ref q, w]) ∧ G q = some (.tup (cs.map kV)) ∧ e.1 = .tuple (cs.map keyD) ∧ Dp K G w e.2
theorem PkE.same {K : PySem.W.Frag} {G G' : Hp} (s : Same G G') {v : V} {e : D × D} (h : PkE K G v e) : PkE K G' v e := by
  obtain ⟨a, q, cs, w, e1, e2, e3, e4, e5⟩ := h
  exact ⟨a, q, cs, w, e1, s _ _ e2, s _ _ e3, e4, dp_same s e5⟩
/-! ### d[e], e a tuple that is held -/
end Lw
namespace Lw
open PySem PySem.Spec PyProof.Rows L2
/-! ### instances of the program's own classes: attributes -/
def fGet : List (D × D) → Str → Option D
  | (.str g, d) :: ks, f => if f = g then some d else fGet ks f
  | _, _ => none
/-- the content of what an expression gives, where it is an instance -/
def obAt : R → En → Option (List (D × D))
  | .ref i, ς => match ς[i]? with
    | some (some (.vx (.odc kvs))) => some kvs
    | some (some (.pure (.dict kvs))) => some kvs
    | _ => none
  | .pure (.dict kvs), _ => some kvs
  | .vx (.odc kvs), _ => some kvs
  | _, _ => none
section
variable {K : PySem.W.Frag} {F : Fx} {ς : En} {G H : Hp} {σ : L2.St}
theorem fs_none {fs : List (Str × V)} {ks : List (D × D)} (h : Paired (fun (e : Str × V) (p : D × D) => PyData.str e.1 = p.1 ∧ Dp K G e.2 p.2) fs ks) {f : Str} (e : fGet ks f = none) : fs.lookup f = none := by
  induction h with
  | nil => rfl
  | @cons a p as ps q t ih =>
    obtain ⟨g, v⟩ := a
    obtain ⟨k, x⟩ := p
    obtain ⟨q1, q2⟩ := q
    have q1 : PyData.str g = k := q1
    subst q1
    rw [fGet] at e
    rw [List.lookup_cons]
    by_cases hg : f = g
    · rw [if_pos hg] at e
      cases e
    · rw [if_neg hg] at e
      rw [beq_eq_false_iff_ne.mpr hg]
      exact ih e
/-- an instance stands in the heap -/
theorem dc_ins {o : HO} {nm : Str} {x : D} {ks : List (D × D)} (h : DcAt K G o ((.str nm, x) :: ks)) : ∃ dx fs, o = .ins (nmAt K nm) dx fs ∧ ObC K (nmAt K nm) ∧ Paired (fun (e : Str × V) (p : D × D) => PyData.str e.1 = p.1 ∧ Dp K G e.2 p.2) fs ks := by
  rcases h with ⟨es, ks', _, e, _⟩ | ⟨es, ks', _, e, _⟩ | ⟨nm', fl2, dx, fs, ks', h1, e, hc, h2⟩
  · cases e
  · cases e
  · cases e; exact ⟨dx, fs, h1, hc, h2⟩
theorem ob_at (rl : Rel K F ς G σ H) {r : R} {v : V} (rep : RepR K F ς G σ H r v) {nm : Str} {x : D} {ks : List (D × D)} (e : obAt r ς = some ((.str nm, x) :: ks)) :
    ∃ a dx fs, v = .ref a ∧ H a = some (.ins (nmAt K nm) dx fs) ∧ ObC K (nmAt K nm) ∧ Paired (fun (e : Str × V) (p : D × D) => PyData.str e.1 = p.1 ∧ Dp K G e.2 p.2) fs ks := by
  have pure : ∀ {kvs : List (D × D)}, Dp K G v (.dict kvs) → kvs = (.str nm, x) :: ks → ∃ a dx fs, v = .ref a ∧ H a = some (.ins (nmAt K nm) dx fs) ∧ ObC K (nmAt K nm) ∧ Paired (fun (e : Str × V) (p : D × D) => PyData.str e.1 = p.1 ∧ Dp K G e.2 p.2) fs ks := fun hd hk => by
    subst hk
    cases hd with
    | @obj a dx nm fl fs ks h hc hs => exact ⟨a, dx, fs, rfl, rl.sub _ _ h, hc, kv_paired (f := fun c : Str => PyData.str c) hs⟩
  cases r with
  | pure d =>
    cases d with
    | dict kvs => cases e; exact pure rep rfl
    | _ => cases e
  | ref i =>
    unfold obAt at e
    simp only at e
    split at e
    · rename_i kvs q
      cases e
      obtain ⟨a, o, h1, h2, h3, _⟩ := rl.od i _ q
      rw [show σ[i]? = some (some v) from rep] at h1
      cases h1
      obtain ⟨dx, fs, rfl, hc, hp⟩ := dc_ins h3
      exact ⟨a, dx, fs, rfl, h2, hc, hp⟩
    · rename_i kvs q
      cases e
      obtain ⟨w, h1, h2⟩ := rl.pu i _ q
      rw [show σ[i]? = some (some v) from rep] at h1
      cases h1
      exact pure h2 rfl
    · cases e
  | fresh ds => cases e
  | vx y =>
    cases y with
    | exc nm d => cases e
    | odc kvs =>
      cases e
      obtain ⟨a, o, rfl, h1, h2, _⟩ := rep
      obtain ⟨dx, fs, rfl, hc, hp⟩ := dc_ins h2
      exact ⟨a, dx, fs, rfl, h1, hc, hp⟩
end
/-! ### methods -/
/-- a method, by its class's name and its own -/
def FoM (P : Program) (w : World) (K : PySem.W.Frag) (mg : Str → Option Value) (base : Heap) (nm m : Str) (ps : List Str) (sem : Fsem) (k : Nat) : Prop :=
  ∃ (f : Addr) (fd : FuncData), Meth K (nmAt K nm) m f ∧ FnG P w K mg base CX0 k f fd ps (spF K ps.length sem) ∧ Binds K fd ps []
def FoMX (P : Program) (w : World) (K : PySem.W.Frag) (mg : Str → Option Value) (base : Heap) (nm m : Str) (ps : List Str) (sem : FsemX) (k : Nat) : Prop :=
  ∃ (f : Addr) (fd : FuncData), Meth K (nmAt K nm) m f ∧ FnG P w K mg base (L2.CX P w) k f fd ps (spX K ps.length sem) ∧ Binds K fd ps []
theorem calmG {P : Program} {w : World} {K : PySem.W.Frag} {mg : Str → Option Value} {base : Heap} {f : Addr} {fd : FuncData} {ps : List Str} {m : FsemX} {k n : Nat} (G : FnG P w K mg base (L2.CX P w) k f fd ps (spX K n m)) : FnG P w K mg base CX0 k f fd ps (spF K n (clm m)) := by
  have key : ∀ vs H (Q : VK) (E : XK), spF K n (clm m) vs H Q E → spX K n m vs H Q (fun _ _ _ => False) := by
    intro vs H Q E h
    obtain ⟨ss, G1, hl, a, r, outs, e, q⟩ := h
    unfold clm at e
    split at e
    · rename_i r' outs' e2
      cases e
      exact ⟨ss, G1, hl, a, _, e2, q⟩
    · cases e
  refine ⟨fun vs H Q E h => G.len _ _ _ _ (key vs H Q E h), fun A outer s H args us vs Q E hgd hr he hb' hv h => ?_⟩
  refine codeAny_mono (G.run A outer s H args us vs Q _ hgd hr he hb' hv (key vs H Q E h)) ?_
  rintro (er | fl) s' hq
  · obtain ⟨_, _, _, _, _, _, _, _, _, _, _, _, z⟩ := hq
    exact z.elim
  · rcases fl with _ | _ | _ | u <;> exact hq
theorem FoMX.calm {P : Program} {w : World} {K : PySem.W.Frag} {mg : Str → Option Value} {base : Heap} {nm x : Str} {ps : List Str} {m : FsemX} {k : Nat} (h : FoMX P w K mg base nm x ps m k) : FoM P w K mg base nm x ps (clm m) k := by
  obtain ⟨f, fd, hM, G, hb⟩ := h
  exact ⟨f, fd, hM, calmG G, hb⟩
section
variable {X : Cx} {k j : Nat} {f C : Addr} {fd : FuncData} {ps : List Str} {sp : Sp} {nm m : Str} {apos pos : Pos} {o e : Expr} {es : List Expr} {t : TA} {ta : TE} {E : L2.St → XK} {CX : CXT}
theorem run_fnGY {pins : List (Addr × Obj)} {σ : L2.St} {H : Hp} {s : Shared} {Q : VK} {us : List Value} {vs : List V} (F : FnG X.prog X.w X.K X.mg X.base CX k f fd ps sp) (hgd : X.A.guards = some []) (hr : Room k X.A) (hb : Binds X.K fd ps []) (hx : PassesAt CX X σ (E σ))
    (I : Inv X pins σ H s) (r : Vals vs us) (q : sp vs H Q (E σ)) : wpAny (model X.prog X.w) X.A (call (.ref f) us) (EP X pins σ Q) X.xe s := by
  have b := hb s us I.kIn (by rw [List.append_nil, ← r.length]; exact F.len _ _ _ _ q)
  rw [List.append_nil] at b
  refine wpAny_call (codeAny_mono (F.run X.A X.stack s H ⟨us, []⟩ us vs Q (E σ) hgd hr I.env0 b r q) ?_)
  rintro (er | (_ | _ | _ | u)) s' hq
  · exact hx pins H s er s' I hq
  · exact hq.elim
  · exact hq.elim
  · exact hq.elim
  · exact I.after hq
/-- o.m(e, ..) -/
def tMethY (C : Addr) (m : Str) (sp : Sp) (E : L2.St → XK) (ta : TE) (t : TA) : TE := fun σ H Q => ta σ H fun x H1 => ∃ a dx fs, x = .ref a ∧ H1 a = some (.ins C dx fs) ∧ fs.lookup m = none ∧ t σ H1 fun vs H2 => sp (x :: vs) H2 Q (E σ)
theorem pe_methY {pl : Sem Bool} (he : PE X o ta) (c : Cls X.K C) (hm : Meth X.K C m f) (F : FnG X.prog X.w X.K X.mg X.base CX k f fd ps sp) (hgd : X.A.guards = some []) (hr : Room k X.A) (hb : Binds X.K fd ps []) (hx : ∀ σ, PassesAt CX X σ (E σ)) (ha : PA X (e :: es) t)
    (hst : starEach (e :: es) X.env = (false, eval e X.env) :: starEach es X.env := by rfl) (hpl : (backTo pos (starEach es X.env)).any (·.1) = false := by rfl)
    (ht : eval (.Call (.Attribute o m apos) (e :: es) [] pos) X.env = (do
      let ov ← eval o X.env
      standAt apos.atName
      let (f, first) ← holding [ov] (getMethod ov m pl)
      callWith pos f first (backTo pos (starEach (e :: es) X.env)) (backToKw pos (keywordEach [] X.env))) := by rfl) :
    PE X (.Call (.Attribute o m apos) (e :: es) [] pos) (tMethY C m sp E ta t) := by
  refine ⟨fun pins s σ H Q I h => ?_⟩
  refine PySem.W.methodCall_KW (pl := pl) (thn (he.run pins s σ H _ I h) fun u s1 ⟨x, H1, I1, rx, a, dx, fs, ex, ea, l, q⟩ => ?_) ht
  subst ex
  obtain rfl : u = Value.ref a := rx
  refine getmeth_ok I1 ea c hm l ?_
  refine PySem.W.callWith_K (first := [.ref a]) (h₀ := X.base) I.ok.mod.kin hm.kp (thn (ha.run pos pins s1 σ H1 _ I1 q) fun us s2 ⟨vs, H2, I2, r, q2⟩ => ⟨I2.kIn, ?_⟩) hst hpl
  exact run_fnGY (E := E) (us := .ref a :: us) (vs := .ref a :: vs) F hgd hr hb (hx σ) I2 (.cons rfl r) q2
end
/-! ### the promise of a call, from what its arguments are -/
def callT (m : Fsem) (as : List Ar) : M R := fun ς => match argS as ς with
  | some ss => match m ss with
    | some (.ref _, _) => none
    | some (r, outs) => if (refsOf as).Nodup then some (r, putBack as outs ς) else none
    | none => none
  | none => none
def callTX (m : FsemX) (as : List Ar) : MRX := fun ς => match argS as ς with
  | some ss => match m ss with
    | some (.ret (.ref _) _) => none
    | some (.ret r outs) => if (refsOf as).Nodup then some (.val r (putBack as outs ς)) else none
    | some (.exc nm d outs) => if (refsOf as).Nodup then some (.exc nm d (putBack as outs ς)) else none
    | none => none
  | none => none
section
variable {K : PySem.W.Frag} {F : Fx} {ς ς' : En} {G H : Hp} {σ : L2.St} {as : List Ar} {vs : List V} {n : Nat}
theorem called_rep (rl : Rel K F ς G σ H) {ss outs : List S} {r : R} {v : V} {H' G' : Hp} (hne : ∀ i, r ≠ .ref i) (t : RetOk K ss G vs H r outs v H' G') : RepR K F (putBack as outs ς) G' σ H' r v := by
  cases r with
  | pure d => exact t.rep
  | vx x =>
    cases x with
    | exc nm d => exact t.rep
    | odc kvs =>
      obtain ⟨a, o, rfl, h1, h2, h3, h4, hp⟩ := t.rep
      refine ⟨a, o, rfl, h1, h2, h3, rl.new h4, hp, fun i kws z1 z2 => ?_⟩
      obtain ⟨kvs', y1, _⟩ := putBack_odc z1
      obtain ⟨a', _, f1, f2, _⟩ := rl.od i _ y1
      rw [z2] at f1; cases f1
      rw [h4] at f2; cases f2
  | ref i => exact absurd rfl (hne i)
  | fresh ds =>
    obtain ⟨a, xs, rfl, h1, h2, h3, h4⟩ := t.rep
    refine ⟨a, xs, rfl, h1, h2, h3, rl.new h4, fun i b es' z1 z2 => ?_⟩
    obtain ⟨es'', hq⟩ := putBack_own z1
    obtain ⟨a', _, f1, f2, _⟩ := rl.ow i b es'' hq
    rw [z2] at f1; cases f1
    rw [h4] at f2; cases f2
theorem callT_sp {m : Fsem} {r : R} {Q : VK} {E : XK} (rl : Rel K F ς G σ H) (pr : Paired (RepAr K G σ) as vs) (hl : as.length = n) (e : callT m as ς = some (r, ς')) (kq : ∀ v H' G', Rel K F ς' G' σ H' → Same G G' → RepR K F ς' G' σ H' r v → Q v H') : spF K n m vs H Q E := by
  unfold callT at e
  split at e
  · rename_i ss q2
    split at e
    · cases e
    · rename_i r' outs hne q3
      split at e
      · rename_i nd
        cases e
        exact ⟨ss, G, by rw [argS_len q2, hl], rl.args q2 pr nd, _, _, q3, fun v H' G' t => kq v H' G' (rl.called q2 pr nd t) t.same (called_rep rl (fun i z => by first | exact hne i z | (subst z; exact hne _ rfl) | (subst z; exact hne rfl)) t)⟩
      · cases e
    · cases e
  · cases e
theorem callTX_sp {m : FsemX} {o : RX} {Q : VK} {W : WX} (rl : Rel K F ς G σ H) (pr : Paired (RepAr K G σ) as vs) (hl : as.length = n) (e : callTX m as ς = some o)
    (kq : match o with
      | .val r ς' => ∀ v H' G', Rel K F ς' G' σ H' → Same G G' → RepR K F ς' G' σ H' r v → Q v H'
      | .exc nm d ς' => ExcOk K F G W nm d ς') : spX K n m vs H Q (WE W σ) := by
  unfold callTX at e
  split at e
  · rename_i ss q2
    split at e
    · cases e
    · rename_i r' outs hne q3
      split at e
      · rename_i nd
        cases e
        exact ⟨ss, G, by rw [argS_len q2, hl], rl.args q2 pr nd, _, q3, fun v H' G' t => kq v H' G' (rl.called q2 pr nd t) t.same (called_rep rl (fun i z => by first | exact hne i z | (subst z; exact hne _ rfl) | (subst z; exact hne rfl)) t)⟩
      · cases e
    · rename_i nm d outs q3
      split at e
      · rename_i nd
        cases e
        exact ⟨ss, G, by rw [argS_len q2, hl], rl.args q2 pr nd, _, q3, fun H' G' dd u t h1 h2 => kq σ H' G' dd u (rl.called q2 pr nd t) t.same h1 h2⟩
      · cases e
    · cases e
  · cases e
end
/-! ### method calls of what a slot holds -/
def obIs (nm m : Str) : Option (List (D × D)) → Bool
  | some ((.str n, _) :: ks) => decide (n = nm) && (fGet ks m).isNone
  | _ => false
theorem obIs_some {nm m : Str} {o : Option (List (D × D))} (h : obIs nm m o = true) : ∃ x ks, o = some ((.str nm, x) :: ks) ∧ fGet ks m = none := by
  unfold obIs at h
  split at h
  · rename_i n x ks
    rw [Bool.and_eq_true, decide_eq_true_eq] at h
    obtain ⟨rfl, h2⟩ := h
    exact ⟨x, ks, rfl, Option.isNone_iff_eq_none.mp h2⟩
  · cases h
def argI (i : Nat) (ga : M (List Ar)) : M (List Ar) := bd ga fun as => ret (.ref i :: as)
def methE (nm m : Str) (sem : Fsem) (i : Nat) (ga : M (List Ar)) : M R := fun ς => if obIs nm m (obAt (.ref i) ς) = true then callE sem (argI i ga) ς else none
def methX (nm m : Str) (sem : FsemX) (i : Nat) (ga : M (List Ar)) : MRX := fun ς => if obIs nm m (obAt (.ref i) ς) = true then callX sem (argI i ga) ς else none
theorem slot_ob {K : PySem.W.Frag} {F : Fx} {ς : En} {G H : Hp} {σ : L2.St} (rl : Rel K F ς G σ H) {i : Nat} {nm m : Str} (h : obIs nm m (obAt (.ref i) ς) = true) :
    ∃ a dx fs, σ[i]? = some (some (.ref a)) ∧ H a = some (.ins (nmAt K nm) dx fs) ∧ ObC K (nmAt K nm) ∧ fs.lookup m = none := by
  obtain ⟨x, ks, e, e2⟩ := obIs_some h
  have hs : ∃ v, σ[i]? = some (some v) := by
    unfold obAt at e
    simp only at e
    split at e
    · rename_i kvs q
      obtain ⟨a, o, h1, _⟩ := rl.od i _ q
      exact ⟨_, h1⟩
    · rename_i kvs q
      obtain ⟨w, h1, _⟩ := rl.pu i _ q
      exact ⟨_, h1⟩
    · cases e
  obtain ⟨v, hv⟩ := hs
  obtain ⟨a, dx, fs, rfl, h1, hc, hp⟩ := ob_at rl (r := .ref i) hv e
  exact ⟨a, dx, fs, hv, h1, hc, fs_none hp e2⟩
section
variable {X : Cx} {k j i : Nat} {ps : List Str} {nm m x : Str} {apos pos p : Pos} {e : Expr} {es : List Expr} {ga : M (List Ar)} {sem : Fsem} {semX : FsemX}
theorem FoM.call (h : FoM X.prog X.w X.K X.mg X.base nm m ps sem j) (hC : ObC X.K (nmAt X.K nm)) (hgd : X.A.guards = some []) (hr : Room k X.A) (hj : j ≤ k) (ho : PE X (.Name x p) (tVar i)) (hn : (e :: es).length + 1 = ps.length) (ha : PAd X (e :: es) ga) (hla : ∀ ς as ς', ga ς = some (as, ς') → as.length = (e :: es).length)
    (hst : starEach (e :: es) X.env = (false, eval e X.env) :: starEach es X.env := by rfl) (hpl : (backTo pos (starEach es X.env)).any (·.1) = false := by rfl) {pl : Sem Bool}
    (ht : eval (.Call (.Attribute (.Name x p) m apos) (e :: es) [] pos) X.env = (do
      let ov ← eval (.Name x p) X.env
      standAt apos.atName
      let (f, first) ← holding [ov] (getMethod ov m pl)
      callWith pos f first (backTo pos (starEach (e :: es) X.env)) (backToKw pos (keywordEach [] X.env))) := by rfl) :
    PEd X (.Call (.Attribute (.Name x p) m apos) (e :: es) [] pos) (methE nm m sem i ga) := by
  obtain ⟨f, fd, hM, Gf, hb⟩ := h
  intro F
  refine PE.mono (pe_methY (pl := pl) (E := fun _ _ _ _ => False) ho hC.1 hM Gf hgd (hr.mono hj) hb (fun _ _ _ _ _ _ _ z => z.elim) (ha F) hst hpl ht) fun σ H Q hq => ?_
  obtain ⟨ς, G, rl, r, ς', e', kq⟩ := hq
  unfold methE at e'
  split at e'
  · rename_i hob
    obtain ⟨a, dx, fs, h1, h2, _, h4⟩ := slot_ob rl hob
    obtain ⟨as0, ς1, e1, q1⟩ := bd_some e'
    obtain ⟨as, ς2, e2, q2⟩ := bd_some e1
    cases q2
    refine ⟨.ref a, h1, a, dx, fs, rfl, h2, h4, ς, G, rl, as, _, e2, fun vs H1 G1 rl1 s1 pr => ?_⟩
    exact callT_sp rl1 (as := .ref i :: as) (.cons h1 pr) (by rw [List.length_cons, hla _ _ _ e2, hn]) q1 fun v H' G' rl' s rep => kq v H' G' rl' (s1.trans s) rep
  · cases e'
theorem FoMX.call (h : FoMX X.prog X.w X.K X.mg X.base nm m ps semX j) (hC : ObC X.K (nmAt X.K nm)) (hgd : X.A.guards = some []) (hr : Room k X.A) (hj : j ≤ k) (ho : PE X (.Name x p) (tVar i)) (hn : (e :: es).length + 1 = ps.length) (ha : PAd X (e :: es) ga) (hla : ∀ ς as ς', ga ς = some (as, ς') → as.length = (e :: es).length)
    (hst : starEach (e :: es) X.env = (false, eval e X.env) :: starEach es X.env := by rfl) (hpl : (backTo pos (starEach es X.env)).any (·.1) = false := by rfl) {pl : Sem Bool}
    (ht : eval (.Call (.Attribute (.Name x p) m apos) (e :: es) [] pos) X.env = (do
      let ov ← eval (.Name x p) X.env
      standAt apos.atName
      let (f, first) ← holding [ov] (getMethod ov m pl)
      callWith pos f first (backTo pos (starEach (e :: es) X.env)) (backToKw pos (keywordEach [] X.env))) := by rfl) :
    PEx X (.Call (.Attribute (.Name x p) m apos) (e :: es) [] pos) (methX nm m semX i ga) := by
  obtain ⟨f, fd, hM, Gf, hb⟩ := h
  intro F W tk
  refine PE.mono (pe_methY (pl := pl) (E := WE W) ho hC.1 hM Gf hgd (hr.mono hj) hb (passAt tk) (ha F) hst hpl ht) fun σ H Q hq => ?_
  obtain ⟨ς, G, rl, o, e', kq⟩ := hq
  unfold methX at e'
  split at e'
  · rename_i hob
    obtain ⟨a, dx, fs, h1, h2, _, h4⟩ := slot_ob rl hob
    unfold callX at e'
    split at e'
    · rename_i as0 ς1 e1
      obtain ⟨as, ς2, e2, q2⟩ := bd_some e1
      cases q2
      refine ⟨.ref a, h1, a, dx, fs, rfl, h2, h4, ς, G, rl, as, _, e2, fun vs H1 G1 rl1 s1 pr => ?_⟩
      refine callTX_sp rl1 (as := .ref i :: as) (.cons h1 pr) (by rw [List.length_cons, hla _ _ _ e2, hn]) e' ?_
      cases o with
      | val r ς' => exact fun v H' G' rl' s rep => kq v H' G' rl' (s1.trans s) rep
      | exc nm d ς' => exact ExcOk.mono s1 kq
    · cases e'
  · cases e'
end
end Lw
namespace Lw
open PySem PySem.Spec PyProof.Rows L2
/-! ### a method, a new instance -/
section
variable {K : PySem.W.Frag} {F : Fx} {ς : En} {G H G' H' : Hp} {σ : L2.St}
/-- a call that is lent a thing of nobody's -/
theorem Rel.calledN (r : Rel K F ς G σ H) {x : Addr} {w : V} {res : R} {outs ss : List S} {vs : List V} (h4 : F.H0 x = none) (h5 : ∀ (i : Nat) b es, ς[i]? = some (some (.own b es)) → σ[i]? ≠ some (some (.ref x))) (h6 : ∀ (i : Nat) kvs, ς[i]? = some (some (.vx (.odc kvs))) → σ[i]? ≠ some (some (.ref x)))
    (only : ∀ (i : Nat) s y, ss[i]? = some s → sPar s = true → vs[i]? = some (.ref y) → y = x) (t : RetOk K ss G vs H res outs w H' G') : Rel K F ς G' σ H' := by
  have away : ∀ b, b ≠ x → ∀ (i : Nat) s, ss[i]? = some s → sPar s = true → vs[i]? ≠ some (.ref b) := fun b ne i s q1 hs q2 => ne (only i s b q1 hs q2)
  refine ⟨r.len, t.sub, r.g0.trans t.same, ?_, ?_, r.ap, r.par, ?_, ?_, fun i x e => by
    obtain ⟨u, e1, e2⟩ := r.vx i x e
    exact ⟨u, e1, xp_same t.same e2⟩, fun i kvs e => ?_, r.oa⟩
  · intro i d e
    obtain ⟨u, e1, e2⟩ := r.pu i d e
    exact ⟨u, e1, dp_same t.same e2⟩
  · intro i b es e
    obtain ⟨c, ws, e1, e2, e3, e4, e5⟩ := r.ow i b es e
    have ne : c ≠ x := fun z => by subst z; exact h5 i b es e e1
    refine ⟨c, ws, e1, t.fr c _ e2 (fun ps z => by cases z) (away c ne), ?_, dpa_same t.same e4, e5⟩
    cases z : G' c with
    | none => rfl
    | some y =>
      rcases t.nw c (by rw [z]; simp) with q | q
      · exact absurd e3 q
      · exact (q.lst e2).elim
  · refine ⟨fun c o e nt na => ?_, fun c ps e => by
      obtain ⟨ps', z⟩ := r.fr.tn c ps e
      exact t.tn c ps' z, r.fr.t0, t.tb⟩
    have ne : c ≠ x := fun z => by subst z; rw [h4] at e; cases e
    exact t.fr c o (r.fr.fr c o e nt na) nt (away c ne)
  · intro c e
    rcases t.nw c e with q | q
    · exact r.nw c q
    · exact .inr (r.newN q)
  · obtain ⟨a, o, l1, l2, l3, l4, l5⟩ := r.od i kvs e
    have ne : a ≠ x := fun z => by subst z; exact h6 i kvs e l1
    refine ⟨a, o, l1, t.fr a o l2 (fun ps z => by subst z; exact DcAt.tbl l3) (away a ne), dc_same t.same l3, ?_, l5⟩
    cases z : G' a with
    | none => rfl
    | some y =>
      rcases t.nw a (by rw [z]; simp) with w | w
      · exact absurd l4 w
      · exact (w.no l2 fun xs z => by subst z; exact DcAt.tup l3).elim
end
theorem make_gd {A : Around} {C : Addr} {us : List Value} (h : A.guards = some []) : (A.under (.builtin "type.__call__" ⟨.ref C :: us, []⟩)).guards = some [] := by
  first | exact h | simp [Around.under, h, pushGuards, Code.guards, guardIds]
section
variable {X : Cx} {k : Nat} {f C : Addr} {fd : FuncData} {ps : List Str} {sp : Sp} {E : XK} {x : Str} {p pos : Pos} {e : Expr} {es : List Expr} {t : TA} {CX : CXT}
theorem run_makeG {pins : List (Addr × Obj)} {σ : L2.St} {H : Hp} {s : Shared} {Q : VK} {us : List Value} {vs : List V} (M : Mk X.K C f) (F : FnG X.prog X.w X.K X.mg X.base CX k f fd ps sp) (hgd : X.A.guards = some []) (hr : Room (k + 1) X.A) (hb : Binds X.K fd ps [])
    (hx : Passes CX X E) (I : Inv X pins σ H s) (r : Vals vs us)
    (h : ∀ x dx, H x = none → H dx = none → dx ≠ x → sp (.ref x :: vs) (upd (upd H dx (.own x)) x (.ins C dx [])) (fun v H2 => v = .non ∧ Q (.ref x) H2) E) :
    wpAny (model X.prog X.w) X.A (call (.ref C) us) (EP X pins σ Q) X.xe s := by
  have hq := h (s.heap.objs.size + 1) s.heap.objs.size (I.hok.fresh (Nat.le_succ _)) (I.hok.fresh (Nat.le_refl _)) (Nat.ne_of_lt (Nat.lt_succ_self _))
  have I2 := Inv.made (C := C) I
  have r2 : Vals (V.ref (s.heap.objs.size + 1) :: vs) (Value.ref (s.heap.objs.size + 1) :: us) := .cons rfl r
  have hl : ((Value.ref (s.heap.objs.size + 1) :: us) ++ []).length = ps.length := by
    have e := r2.length
    rw [F.len _ _ _ _ hq] at e
    rw [List.append_nil]
    exact e.symm
  have b := hb { s with heap := (s.heap.push PySem.W.emptyDict).push (PySem.W.instObj C s.heap.objs.size) } (Value.ref (s.heap.objs.size + 1) :: us) I2.kIn hl
  rw [List.append_nil] at b
  refine wpAny_call (make_map (f := f) I.kIn M.makes M.init (beq_iff_eq.mp M.fn) (codeAny_mono (F.run _ X.stack _ _ ⟨Value.ref (s.heap.objs.size + 1) :: us, []⟩ (Value.ref (s.heap.objs.size + 1) :: us) _ _ E (make_gd hgd) (hr.make C us [])
    (I2.env0.make C us []) b r2 hq) fun r s' hq' => ?_))
  cases r with
  | error e => exact hx pins σ _ _ e s' I2 hq'
  | ok fl =>
    cases fl with
    | ret u =>
      obtain ⟨v, H', I3, rv, ev, q3⟩ := I2.after hq'
      subst ev
      exact ⟨rv, ⟨V.ref (s.heap.objs.size + 1), H', I3, rfl, q3⟩⟩
    | next => exact False.elim hq'
    | brk => exact False.elim hq'
    | cont => exact False.elim hq'
def tMakeG (C : Addr) (sp : Sp) (E : XK) (t : TA) : TE := fun σ H Q => t σ H fun vs H1 => ∀ x dx, H1 x = none → H1 dx = none → dx ≠ x →
  sp (.ref x :: vs) (upd (upd H1 dx (.own x)) x (.ins C dx [])) (fun v H2 => v = .non ∧ Q (.ref x) H2) E
theorem pe_makeG (M : Mk X.K C f) (F : FnG X.prog X.w X.K X.mg X.base CX k f fd ps sp) (hgd : X.A.guards = some []) (hr : Room (k + 1) X.A) (hg : Gl X x) (hm : X.mg x = some (.ref C)) (hb : Binds X.K fd ps []) (hx : Passes CX X E)
    (ha : PA X (e :: es) t) (hdb : (x == ("__debug__" : Str)) = false := by decide) (he : starEach (e :: es) X.env = (false, eval e X.env) :: starEach es X.env := by rfl) (hpl : (backTo pos (starEach es X.env)).any (·.1) = false := by rfl) :
    PE X (.Call (.Name x p) (e :: es) [] pos) (tMakeG C sp E t) := by
  refine ⟨fun pins s σ H Q I h => ?_⟩
  refine wpAny_Call_Name_kw (ld_glob I hg hm ?_ hdb)
  refine PySem.W.callWith_K (h₀ := X.base) I.ok.mod.kin M.kp (thn (ha.run pos pins s σ H _ I h) fun us s1 ⟨vs, H1, I1, r, q⟩ => ⟨I1.kIn, ?_⟩) he hpl
  exact run_makeG M F hgd hr hb hx I1 r q
end
def mkO : Option (R × List S) → Option R
  | some (.pure .none, .vx (.odc ((.str n, .bool _) :: ks)) :: _) => some (.vx (.odc ((.str n, .bool false) :: ks)))
  | _ => none
def mkE (nm : Str) (m : Fsem) (ga : M (List Ar)) : M R := bd ga fun as => bd (lift (vals as)) fun ds => lift (mkO (m (.vx (.odc [(.str nm, .bool true)]) :: ds.map S.pure)))
/-- a class whose instances are made -/
def FoC (P : Program) (w : World) (K : PySem.W.Frag) (mg : Str → Option Value) (base : Heap) (nm : Str) (ps : List Str) (sem : Fsem) (k : Nat) : Prop :=
  ObC K (nmAt K nm) ∧ mg nm = some (.ref (nmAt K nm)) ∧ ∃ (f : Addr) (fd : FuncData), Mk K (nmAt K nm) f ∧ FnG P w K mg base CX0 k f fd ps (spF K ps.length sem) ∧ Binds K fd ps []
theorem vals_len {as : List Ar} {ds : List D} (h : vals as = some ds) : ds.length = as.length := by
  induction as generalizing ds with
  | nil => cases h; rfl
  | cons a as ih =>
    cases a with
    | val d =>
      unfold vals at h
      split at h
      · rename_i ds' q
        cases h
        rw [List.length_cons, List.length_cons, ih q]
      · cases h
    | ref i => cases h
theorem FoC.make {X : Cx} {k j : Nat} {ps : List Str} {nm : Str} {pos p : Pos} {e : Expr} {es : List Expr} {ga : M (List Ar)} {sem : Fsem} (h : FoC X.prog X.w X.K X.mg X.base nm ps sem j) (hgd : X.A.guards = some []) (hr : Room k X.A) (hj : j + 1 ≤ k) (hg : Gl X nm) (hn : (e :: es).length + 1 = ps.length) (ha : PAd X (e :: es) ga) (hla : ∀ ς as ς', ga ς = some (as, ς') → as.length = (e :: es).length)
    (hdb : (nm == ("__debug__" : Str)) = false := by decide) (he : starEach (e :: es) X.env = (false, eval e X.env) :: starEach es X.env := by rfl) (hpl : (backTo pos (starEach es X.env)).any (·.1) = false := by rfl) :
    PEd X (.Call (.Name nm p) (e :: es) [] pos) (mkE nm sem ga) := by
  obtain ⟨hC, hm, f, fd, hM, Gf, hb⟩ := h
  intro F
  refine PE.mono (pe_makeG hM Gf hgd (hr.mono hj) hg hm hb (E := fun _ _ _ => False) (fun _ _ _ _ _ _ _ z => z.elim) (ha F) hdb he hpl) fun σ H Q hq => ?_
  obtain ⟨ς, G, rl, r, ς', e', kq⟩ := hq
  obtain ⟨as, ς1, e1, q1⟩ := bd_some e'
  obtain ⟨ds, ς2, e2', q2⟩ := bd_some q1
  obtain ⟨e2, h2⟩ := lift_some e2'
  subst h2
  obtain ⟨e3, h3⟩ := lift_some q2
  subst h3
  refine ⟨ς, G, rl, as, _, e1, fun vs H1 G1 rl1 s1 pr x dx nx nd ne => ?_⟩
  have da := vals_ok pr e2
  unfold mkO at e3
  split at e3
  · rename_i n fl ks outs0 q3
    cases e3
    have rlA := (rl1.layF (o := .own x) nd).layF (p := x) (o := .ins (nmAt X.K nm) dx []) (by rw [upd_ne (Ne.symm ne)]; exact nx)
    refine ⟨_, G1, by rw [List.length_cons, List.length_map, vals_len e2, hla _ _ _ e1, hn], ⟨?_, rlA.sub, fun i d q => ?_, fun i b es q => ?_, fun i j b c es fs z q1 q2 _ _ => ?_, fun i y q => ?_, fun i kvs q => ?_, fun i j kvs kws z q1 q2 _ _ => ?_, rlA.fr.tb⟩, _, _, q3, fun v H' G' t => ?_⟩
    · rw [List.length_cons, List.length_cons, List.length_map, dpa_len da]
    · cases i with
      | zero => cases q
      | succ i =>
        rw [List.getElem?_cons_succ, List.getElem?_map] at q
        cases hd : ds[i]? with
        | none => rw [hd] at q; cases q
        | some d' =>
          rw [hd] at q
          cases q
          obtain ⟨v, h1, h2⟩ := dpa_get da hd
          exact ⟨v, h1, h2⟩
    · cases i with
      | zero => cases q
      | succ i =>
        rw [List.getElem?_cons_succ, List.getElem?_map] at q
        cases hd : ds[i]? with
        | none => rw [hd] at q; cases q
        | some d' => rw [hd] at q; cases q
    · cases i with
      | zero => cases q1
      | succ i =>
        rw [List.getElem?_cons_succ, List.getElem?_map] at q1
        cases hd : ds[i]? with
        | none => rw [hd] at q1; cases q1
        | some d' => rw [hd] at q1; cases q1
    · cases i with
      | zero => cases q; exact ⟨_, rfl, trivial⟩
      | succ i =>
        rw [List.getElem?_cons_succ, List.getElem?_map] at q
        cases hd : ds[i]? with
        | none => rw [hd] at q; cases q
        | some d' => rw [hd] at q; cases q
    · cases i with
      | zero =>
        cases q
        exact ⟨rfl, x, _, rfl, upd_same, .inr (.inr ⟨nm, true, dx, [], [], rfl, rfl, hC, .nil⟩), rl1.gnone nx⟩
      | succ i =>
        rw [List.getElem?_cons_succ, List.getElem?_map] at q
        cases hd : ds[i]? with
        | none => rw [hd] at q; cases q
        | some d' => rw [hd] at q; cases q
    · cases i with
      | zero =>
        cases j with
        | zero => rfl
        | succ j =>
          rw [List.getElem?_cons_succ, List.getElem?_map] at q2
          cases hd : ds[j]? with
          | none => rw [hd] at q2; cases q2
          | some d' => rw [hd] at q2; cases q2
      | succ i =>
        rw [List.getElem?_cons_succ, List.getElem?_map] at q1
        cases hd : ds[i]? with
        | none => rw [hd] at q1; cases q1
        | some d' => rw [hd] at q1; cases q1
    · have hv : v = .non := dp_none t.rep
      refine ⟨hv, ?_⟩
      obtain ⟨kws, o, o1, o2, o3, o4, o5⟩ := t.ob 0 _ x rfl rfl
      have o1 : some (S.vx (.odc ((.str n, .bool fl) :: ks))) = some (S.vx (.odc kws)) := o1
      cases o1
      have hno : ∀ (i : Nat) b es, ς'[i]? = some (some (.own b es)) → σ[i]? ≠ some (some (.ref x)) := fun i b es z1 z2 => by
        obtain ⟨a', ws, f1, f2, _⟩ := rl1.ow i b es z1
        rw [z2] at f1; cases f1
        rw [nx] at f2; cases f2
      have rl3 := rlA.calledN (x := x) (rl1.new nx) hno (rl1.noOd nx) (fun i s y q1 hs q2 => by
        cases i with
        | zero => cases q2; rfl
        | succ i =>
          rw [List.getElem?_cons_succ, List.getElem?_map] at q1
          cases hd : ds[i]? with
          | none => rw [hd] at q1; cases q1
          | some d' => rw [hd] at q1; cases q1; cases hs) t
      exact kq _ H' G' rl3 (s1.trans t.same) ⟨x, o, rfl, o3, dc_flag o4, o5, rl1.new nx, rfl, rl1.noOd nx⟩
  · cases e3
end Lw
/-! sorted(d.items()), d a dict with texts for keys, values tuples of numbers and texts -/
namespace Lw
open PySem PySem.Spec PyProof.Rows L2 L2.DX
end Lw
namespace Lw
open PySem PySem.Spec PyProof.Rows L2
/-! ### a dict that an expression gives -/
/-! ### k in d -/
end Lw
namespace Lw
open PySem PySem.Spec PyProof.Rows L2 L2.DX
/-! ### {k: e for x in xs} -/
/-! ### dict(d), a copy -/
/-! ### sorted(d.items()) -/
def ltS (x y : Str) : Bool := decide (x.cps.toList < y.cps.toList)
def insS (e : Str × List D) : List (Str × List D) → List (Str × List D)
  | [] => [e]
  | f :: es => if ltS e.1 f.1 = true then e :: f :: es else f :: insS e es
def srtS : List (Str × List D) → List (Str × List D)
  | [] => []
  | e :: es => insS e (srtS es)
/-! the order of texts -/
end Lw
namespace Lw
open PySem PySem.Spec PyProof.Rows L2
section
variable {X : Cx} {a b c d e : Expr} {fa fb fc fd : M R} {p pos apos : Pos} {s t : Str} {st : Stmt}
/-! ### x, y, z = [..], b, c -/
def parF3 (i j l : Nat) (fa fb fc : M R) : MS := fun ς => match bd fa (fun x => bd (esc fb) fun y => bd (esc fc) fun z => ret (x, y, z)) ς with
  | some ((.fresh xs, y, z), ς') => if free ς' i = true ∧ free (ς'.set i (some (.own false xs))) j = true ∧ free ((ς'.set i (some (.own false xs))).set j (some (.pure y))) l = true then some (.nx (((ς'.set i (some (.own false xs))).set j (some (.pure y))).set l (some (.pure z)))) else none
  | _ => none
theorem Sm.parF3 {ς : En} {Q : Out → Prop} {i j l : Nat} (h : wp fa ς fun a ς1 => ∃ xs, a = .fresh xs ∧ wp fb ς1 fun b ς2 => ∃ y ς2', toD b ς2 = some (y, ς2') ∧ wp fc ς2' fun c ς3 => ∃ z ς3', toD c ς3 = some (z, ς3') ∧
    (free ς3' i = true ∧ free (ς3'.set i (some (.own false xs))) j = true ∧ free ((ς3'.set i (some (.own false xs))).set j (some (.pure y))) l = true) ∧ Q (.nx (((ς3'.set i (some (.own false xs))).set j (some (.pure y))).set l (some (.pure z))))) : wps (Lw.parF3 i j l fa fb fc) ς Q := by
  obtain ⟨a, ς1, e1, xs, rfl, b, ς2, e2, y, ς2', t2, c, ς3, e3, z, ς3', t3, hf, q⟩ := h
  refine ⟨_, ?_, q⟩
  unfold Lw.parF3
  have h2 : Lw.esc fb ς1 = some (y, ς2') := by unfold Lw.esc Lw.bd; rw [e2]; exact t2
  have h3 : Lw.esc fc ς2' = some (z, ς3') := by unfold Lw.esc Lw.bd; rw [e3]; exact t3
  have : Lw.bd fa (fun x => Lw.bd (Lw.esc fb) fun y => Lw.bd (Lw.esc fc) fun z => Lw.ret (x, y, z)) ς = some ((.fresh xs, y, z), ς3') := by
    unfold Lw.bd
    rw [e1]
    simp only [h2, h3, Lw.ret]
  rw [this]
  simp only
  rw [if_pos hf]
instance stp_parF3 {ς : En} {Q : Out → Prop} {i j l : Nat} : Stp (wps (Lw.parF3 i j l fa fb fc) ς Q) (wp fa ς fun a ς1 => ∃ xs, a = .fresh xs ∧ wp fb ς1 fun b ς2 => ∃ y ς2', toD b ς2 = some (y, ς2') ∧ wp fc ς2' fun c ς3 => ∃ z ς3', toD c ς3 = some (z, ς3') ∧
    (free ς3' i = true ∧ free (ς3'.set i (some (.own false xs))) j = true ∧ free ((ς3'.set i (some (.own false xs))).set j (some (.pure y))) l = true) ∧ Q (.nx (((ς3'.set i (some (.own false xs))).set j (some (.pure y))).set l (some (.pure z))))) := ⟨Sm.parF3⟩
/-! ### min(list), data that are alike -/
end
end Lw
namespace Lw
open PySem PySem.Spec PyProof.Rows L2 L2.DX
/-! ### {s: a, t: b, ..}: a dict's display, texts for keys -/
def escKV : List (Str × M R) → M KVs
  | [] => ret []
  | (s, f) :: r => bd (esc f) fun x => bd (escKV r) fun ps => ret ((.str s, x) :: ps)
def dspE (l : List (Str × M R)) : M R := fun ς => if (l.map (·.1)).Nodup then (match escKV l ς with
  | some (kvs, ς') => some (.vx (.odc ((.bool false, .none) :: kvs)), ς')
  | none => none) else none
def wpKV : List (Str × M R) → En → (KVs → En → Prop) → Prop
  | [], ς, Q => Q [] ς
  | (s, f) :: r, ς, Q => wp f ς fun a ς1 => ∃ x ς2, toD a ς1 = some (x, ς2) ∧ wpKV r ς2 fun ps ς3 => Q ((.str s, x) :: ps) ς3
theorem wpKV_ok : ∀ {l : List (Str × M R)} {ς : En} {Q : KVs → En → Prop}, wpKV l ς Q → ∃ kvs ς', escKV l ς = some (kvs, ς') ∧ Q kvs ς'
  | [], ς, Q, h => ⟨[], ς, rfl, h⟩
  | (s, f) :: r, ς, Q, h => by
    obtain ⟨a, ς1, e1, x, ς2, e2, h2⟩ := h
    obtain ⟨kvs, ς3, e3, q⟩ := wpKV_ok h2
    refine ⟨(.str s, x) :: kvs, ς3, ?_, q⟩
    have e4 : esc f ς = some (x, ς2) := by
      unfold esc
      simp only [bd, e1, e2]
    show (bd (esc f) fun x => bd (escKV r) fun ps => ret ((.str s, x) :: ps)) ς = _
    simp only [bd, e4, e3]
    rfl
theorem Sm.dspE {l : List (Str × M R)} {ς : En} {Q : R → En → Prop} (h : (l.map (·.1)).Nodup ∧ wpKV l ς fun kvs ς' => Q (.vx (.odc ((.bool false, .none) :: kvs))) ς') : wp (Lw.dspE l) ς Q := by
  obtain ⟨hn, h⟩ := h
  obtain ⟨kvs, ς', e, q⟩ := wpKV_ok h
  exact ⟨_, ς', by unfold Lw.dspE; rw [if_pos hn, e], q⟩
instance stp_dspE {l : List (Str × M R)} {ς : En} {Q : R → En → Prop} : Stp (wp (Lw.dspE l) ς Q) ((l.map (·.1)).Nodup ∧ wpKV l ς fun kvs ς' => Q (.vx (.odc ((.bool false, .none) :: kvs))) ς') := ⟨Sm.dspE⟩
instance stp_wpKV0 {ς : En} {Q : KVs → En → Prop} : Stp (wpKV [] ς Q) (Q [] ς) := ⟨id⟩
instance stp_wpKV1 {s : Str} {f : M R} {r : List (Str × M R)} {ς : En} {Q : KVs → En → Prop} : Stp (wpKV ((s, f) :: r) ς Q) (wp f ς fun a ς1 => ∃ x ς2, toD a ς1 = some (x, ς2) ∧ wpKV r ς2 fun ps ς3 => Q ((.str s, x) :: ps) ς3) := ⟨id⟩
end Lw
namespace Lw
open PySem PySem.Spec PyProof.Rows L2
/-! ### several names take what is new, each its own: x, y, z, w = [], [], a, {} -/
def isNew : R → Bool
  | .fresh _ => true
  | .vx (.odc _) => true
  | _ => false
def RepsU (K : PySem.W.Frag) (F : Fx) (ς : En) (G : Hp) (σ : L2.St) (H : Hp) : List R → List V → Prop
  | [], [] => True
  | x :: xs, v :: vs => RepR K F ς G σ H x v ∧ (∀ (k : Nat) y w, xs[k]? = some y → vs[k]? = some w → isNew x = true → isNew y = true → v ≠ w) ∧ RepsU K F ς G σ H xs vs
  | _, _ => False
section
variable {K : PySem.W.Frag} {F : Fx} {ς ς' : En} {G G' H H' : Hp} {σ σ' : L2.St}
theorem RepsU.layF {q : Addr} {o : HO} (hq : H q = none) : ∀ {xs : List R} {vs : List V}, RepsU K F ς G σ H xs vs → RepsU K F ς G σ (upd H q o) xs vs
  | [], [], _ => trivial
  | x :: xs, v :: vs, h => ⟨RepR.layF h.1 hq, h.2.1, RepsU.layF hq h.2.2⟩
  | [], _ :: _, h => h.elim
  | _ :: _, [], h => h.elim
end
def putsU : List Nat → List R → En → Option En
  | [], [], ς => some ς
  | i :: is, x :: xs, ς => match put i x with
    | some s => if free ς i = true then putsU is xs (ς.set i s) else none
    | none => none
  | _, _, _ => none
def usN : M (List R) := ret []
def usC (f : M R) (g : M (List R)) : M (List R) := bd f fun x => bd g fun xs => ret (x :: xs)
def parU (is : List Nat) (g : M (List R)) : MS := fun ς => match g ς with
  | some (rs, ς') => if small rs.length = true then match putsU is rs ς' with
      | some ς2 => some (.nx ς2)
      | none => none
    else none
  | none => none
namespace Sm
theorem usN {ς : En} {Q : List R → En → Prop} (h : Q [] ς) : wp Lw.usN ς Q := ⟨_, ς, rfl, h⟩
theorem usC {ς : En} {f : M R} {g : M (List R)} {Q : List R → En → Prop} (h : wp f ς fun x ς1 => wp g ς1 fun xs ς2 => Q (x :: xs) ς2) : wp (Lw.usC f g) ς Q := bd (mono h fun x ς1 h => bd (mono h fun xs ς2 q => ret q))
theorem parU {ς : En} {is : List Nat} {g : M (List R)} {P : Out → Prop} (h : wp g ς fun rs ς1 => rs.length ≤ sizeLine ∧ ∃ ς2, putsU is rs ς1 = some ς2 ∧ P (.nx ς2)) : wps (Lw.parU is g) ς P := by
  obtain ⟨rs, ς1, e, h1, ς2, h2, q⟩ := h
  refine ⟨_, ?_, q⟩
  unfold Lw.parU
  simp only [e, h2]
  exact if_pos (decide_eq_true h1 : small rs.length = true)
instance stp_usN {ς : En} {Q : List R → En → Prop} : Stp (wp Lw.usN ς Q) (Q [] ς) := ⟨Sm.usN⟩
instance stp_usC {ς : En} {f : M R} {g : M (List R)} {Q : List R → En → Prop} : Stp (wp (Lw.usC f g) ς Q) (wp f ς fun x ς1 => wp g ς1 fun xs ς2 => Q (x :: xs) ς2) := ⟨Sm.usC⟩
instance stp_parU {ς : En} {is : List Nat} {g : M (List R)} {P : Out → Prop} : Stp (wps (Lw.parU is g) ς P) (wp g ς fun rs ς1 => rs.length ≤ sizeLine ∧ ∃ ς2, putsU is rs ς1 = some ς2 ∧ P (.nx ς2)) := ⟨Sm.parU⟩
end Sm
end Lw
namespace Lw
open PySem PySem.Spec PyProof.Rows L2 L2.DX
section
variable {X : Cx} {F : Fx} {a b c e : Expr} {fa fb fc fe fd : M R} {p pos apos : Pos} {st : Stmt} {g : M (List R)} {es : List Expr}
/-! ### a text's sign -/
def gIxS : D → D → Option R
  | .str z, .int i => if z.length ≤ sizeLine then (atI z.cps.toList i).map fun c => R.pure (.str ⟨#[c]⟩) else none
  | _, _ => none
theorem op2_ixS : Op2 X F rIxS gIxS := ⟨fun ς G σ H x y dx dy r Q rl hx hy e k => by
  cases dx with
  | str z =>
    cases dy with
    | int i =>
      unfold gIxS at e
      simp only at e
      split at e
      · rename_i hz
        cases q : atI z.cps.toList i with
        | none => rw [q] at e; cases e
        | some c => rw [q] at e; cases e; exact ⟨z, i, c, hx.str, hy.int, hz, q, k _ H G rl (Same.refl _) (.str _)⟩
      · cases e
    | _ => cases e
  | _ => cases e⟩
theorem d_ixS (ha : PEd X a fa) (hb : PEd X b fb) (hs : PlainIx b := by exact fun _ _ => rfl) : PEd X (.Subscript a b pos) (op2 gIxS fa fb) := fun F => PE.mono (pe_ix ix_str (d_sub ha F) (d_sub hb F) hs) (t_op2 op2_ixS)
/-! ### a text, once or not at all -/
theorem op_mulStr : OpR X (binaryOp .Mult) (fun x y H Q => ∃ z n, x = .str z ∧ y = .int n ∧ MulOk z n ∧ Q (.str (Txt.mul z n)) H) := by
  intro pins s σ H x y u v Q I rx ry h
  obtain ⟨z, n, rfl, rfl, ok, q⟩ := h
  obtain ⟨t, rfl⟩ := rx
  obtain ⟨t2, rfl⟩ := ry
  exact PySem.SB.mul ok fun t' k => ⟨.str _, H, I.tok k, ⟨t', rfl⟩, q⟩
/-! ### join -/
def strsOf : List D → Option (List Str)
  | [] => some []
  | .str z :: ds => (strsOf ds).map (z :: ·)
  | _ :: _ => none
theorem strsOf_eq : ∀ {ds : List D} {ys : List Str}, strsOf ds = some ys → ds = ys.map PyData.str
  | [], ys, h => by cases h; rfl
  | d :: ds, ys, h => by
    cases d with
    | str z =>
      replace h : (strsOf ds).map (z :: ·) = some ys := h
      cases e : strsOf ds with
      | none => rw [e] at h; cases h
      | some ks => rw [e] at h; cases h; rw [strsOf_eq e]; rfl
    | _ => cases h
theorem strsOf_map : ∀ ys : List Str, strsOf (ys.map PyData.str) = some ys
  | [] => rfl
  | y :: ys => by rw [List.map_cons, strsOf, strsOf_map ys]; rfl
theorem dpa_strs {K : PySem.W.Frag} {G : Hp} : ∀ {ys : List Str} {vs : List V}, DpAll K G vs (ys.map PyData.str) → vs = ys.map V.str
  | [], _, .nil => rfl
  | y :: ys, _, .cons h t => by rw [dp_str h, dpa_strs t]; rfl
theorem dpa_strsI {K : PySem.W.Frag} {G : Hp} : ∀ ys : List Str, DpAll K G (ys.map V.str) (ys.map PyData.str)
  | [] => .nil
  | y :: ys => .cons (.str y) (dpa_strsI ys)
def gJoin (a : Str) : D → Option R
  | .list ds => match strsOf ds with
    | some ys => if (ys.map (·.length)).sum + ys.length * a.length ≤ 16777216 then some (.pure (.str (Txt.join a ys))) else none
    | none => none
  | _ => none
theorem d_join {z : Str} {j : Nat} {q1 : Pos} (hb : PEd X b fb) (hs : starEach [b] X.env = [(false, eval b X.env)] := by rfl) (hbase : attributeBase (.Constant (.str z) j q1) "join" X.env (eval (.Constant (.str z) j q1) X.env) = eval (.Constant (.str z) j q1) X.env := by rfl) (hline : (apos.endLine == pos.line) = true := by rfl) :
    PEd X (.Call (.Attribute (.Constant (.str z) j q1) "join" apos) [b] [] pos) (cal1 (gJoin z) fb) := fun F => PE.mono (pe_join (pe_str (x := z)) (d_sub hb F) hs hbase hline) fun σ H Q hq => by
  obtain ⟨ς, G, rl, r, ς', e, k⟩ := hq
  obtain ⟨a, ς1, e1, q1⟩ := bd_some e
  obtain ⟨y, ς4, e4', q4⟩ := bd_some q1
  obtain ⟨e4, rfl⟩ := rd_some e4'
  obtain ⟨e5, rfl⟩ := lift_some q4
  refine ⟨⟨z, rfl⟩, ς, G, rl, a, _, e1, fun w H2 G2 rl2 s2 rep2 => ?_⟩
  have rv := rdD_ok rl2 rep2 e4
  unfold gJoin at e5
  split at e5
  · rename_i ds
    split at e5
    · rename_i ys hy
      split at e5
      · rename_i hl
        cases e5
        obtain ⟨p, vs, rfl, h1, h2⟩ := rv.list rl2.sub
        rw [strsOf_eq hy] at h2
        have h2 := dpa_strs h2
        subst h2
        exact ⟨z, p, ys, rfl, rfl, .inl h1, hl, k _ H2 G2 rl2 s2 (.str _)⟩
      · cases e5
    · cases e5
  · cases e5
/-! ### d.update(a new dict) -/
/-! ### sorted(a dict with texts for keys) -/
def txtK : KVs → Option (List Str)
  | [] => some []
  | (.str x, _) :: ks => (txtK ks).map (x :: ·)
  | _ :: _ => none
def srtT (xs : List Str) : List Str := (srtS (xs.map fun x => (x, []))).map (·.1)
end
end Lw
namespace Lw
open PySem PySem.Calls PySem.Spec PyProof.Rows L2 L2.DX
/-! ### sorted(d) -/
def srtKE (fd : M R) : M R := bd fd fun r => fun ς => match obAt r ς with
  | some ((.bool false, _) :: ks) => match txtK ks with
    | some xs => if xs.length < 64 ∧ xs.Nodup then some (.fresh ((srtT xs).map PyData.str), ς) else none
    | none => none
  | _ => none
namespace Sm
theorem srtKE {ς : En} {fd : M R} {Q : R → En → Prop} (h : wp fd ς fun r ς1 => ∃ x ks xs, obAt r ς1 = some ((.bool false, x) :: ks) ∧ txtK ks = some xs ∧ xs.length < 64 ∧ xs.Nodup ∧ Q (.fresh ((srtT xs).map PyData.str)) ς1) : wp (Lw.srtKE fd) ς Q := by
  refine Sm.bd (Sm.mono h fun r ς1 ⟨x, ks, xs, e1, e2, h1, h2, q⟩ => ⟨_, ς1, ?_, q⟩)
  simp only [e1, e2]
  exact if_pos ⟨h1, h2⟩
instance stp_srtKE {ς : En} {fd : M R} {Q : R → En → Prop} : Stp (wp (Lw.srtKE fd) ς Q) (wp fd ς fun r ς1 => ∃ x ks xs, obAt r ς1 = some ((.bool false, x) :: ks) ∧ txtK ks = some xs ∧ xs.length < 64 ∧ xs.Nodup ∧ Q (.fresh ((srtT xs).map PyData.str)) ς1) := ⟨Sm.srtKE⟩
end Sm
end Lw
namespace Lw
open PySem PySem.Spec PyProof.Rows L2
section
variable {X : Cx} {F : Fx} {a b c e tg : Expr} {fa fb fc fe f : M R} {p pos p2 : Pos} {elts : List Expr} {kk : Nat}
/-! ### a sign in a text; texts in a row -/
def sgE (c : Nat) : D := .str ⟨#[c]⟩
def sgns (z : Str) : List D := z.cps.toList.map sgE
def gInS : D → D → Option R
  | .str x, .str z => match x.cps.toList with
    | [c] => some (.pure (.bool (decide (c ∈ z.cps.toList))))
    | _ => none
  | _, _ => none
theorem op2_inS : Op2 X F (fun x y H Q => ∃ (c : Nat) (z : Str), x = .str ⟨#[c]⟩ ∧ y = .str z ∧ Q (.bl (decide (c ∈ z.cps.toList))) H) gInS := ⟨fun ς G σ H x y dx dy r Q rl hx hy e k => by
  cases dx with
  | str x' =>
    cases dy with
    | str z =>
      unfold gInS at e
      simp only at e
      split at e
      · rename_i c hc
        cases e
        have hx' : x' = ⟨#[c]⟩ := by
          cases x' with | mk q => exact congrArg Str.mk (Array.toList_inj.1 hc)
        subst hx'
        exact ⟨c, z, hx.str, hy.str, k _ H G rl (Same.refl _) (.bl _)⟩
      · cases e
    | _ => cases e
  | _ => cases e⟩
def gLeS : D → D → Option R
  | .str x, .str y => some (.pure (.bool (!decide (y.cps.toList < x.cps.toList))))
  | _, _ => none
/-! ### over a text -/
theorem sgns_len (z : Str) : (sgns z).length = z.cps.size := by rw [sgns, List.length_map, Array.length_toList]
theorem sgns_get {z : Str} {i : Nat} {d : D} (e : (sgns z)[i]? = some d) : ∃ c, z.cps[i]? = some c ∧ d = sgE c := by
  rw [sgns, List.getElem?_map] at e
  cases q : z.cps.toList[i]? with
  | none => rw [q] at e; cases e
  | some c => rw [q] at e; cases e; exact ⟨c, by simpa using q, rfl⟩
def itSt (f : M R) : M (List D) := bd (esc f) fun d => match d with
  | .str z => ret (sgns z)
  | _ => lift none
theorem i_str (he : PEd X e f) : PId X tg e (itSt f) := fun F => PI.mono (pi_str (d_esc he F)) fun σ H R hq => by
  obtain ⟨ς, G, rl, ds, ς', e, k⟩ := hq
  obtain ⟨d, ς1, e1, q1⟩ := bd_some e
  cases d with
  | str z =>
    cases q1
    refine ⟨ς, G, rl, _, _, e1, fun v H' G' rl' s dp => ?_⟩
    cases dp_str dp
    refine ⟨z, rfl, k _ H' G' rl' s ?_⟩
    constructor
    · exact fun H s => by rw [sgns_len]; exact Nat.le_refl _
    · exact fun i H hl s => by rw [sgns_len] at hl; exact hl
    · intro i H x H' d s y e
      obtain ⟨y1, c, h1, rfl⟩ := y
      obtain ⟨c', h2, rfl⟩ := sgns_get e
      rw [h1] at h2
      cases h2
      exact .inl ⟨y1, .str _⟩
  | _ => cases q1
/-! ### zip(text, list or tuple) -/
end
namespace Sm
variable {ς : En} {f fa fb : M R}
theorem itSt {Q : List D → En → Prop} (h : wp f ς fun r ς1 => ∃ z ς2, toD r ς1 = some (.str z, ς2) ∧ Q (sgns z) ς2) : wp (Lw.itSt f) ς Q :=
  bd (esc (mono h fun r ς1 ⟨z, ς2, e, q⟩ => ⟨_, ς2, e, ret q⟩))
end Sm
instance {a b : D} {x : Option R} : Gd (gInS a b = x) := ⟨id⟩
instance {a b : D} {x : Option R} : Gd (gLeS a b = x) := ⟨id⟩
instance stp_itSt {ς : En} {f : M R} {Q : List D → En → Prop} : Stp (wp (Lw.itSt f) ς Q) (wp f ς fun r ς1 => ∃ z ς2, toD r ς1 = some (.str z, ς2) ∧ Q (sgns z) ς2) := ⟨Sm.itSt⟩
end Lw
namespace Lw
open PySem PySem.Spec PyProof.Rows L2
section
variable {X : Cx} {F : Fx} {a b c e : Expr} {fa fb fc fe f : M R} {p pos p2 apos : Pos}
/-! ### text.split(text) -/
def gSplit : D → D → Option R
  | .str x, .str y => if (y.length == 0) = false ∧ x.length + 2 ≤ sizeLine then some (.fresh ((Txt.split x y).map PyData.str)) else none
  | _, _ => none
def splE (fa fb : M R) : M R := bd (sub fa) fun a => bd (sub fb) fun b => bd (rd b) fun y => match a with
  | .pure (.str z) => lift (gSplit (.str z) y)
  | _ => lift none
theorem d_split (ha : PEd X a fa) (hb : PEd X b fb) (hs : starEach [b] X.env = [(false, eval b X.env)] := by rfl) (hbase : attributeBase a "split" X.env (eval a X.env) = eval a X.env := by rfl) (hline : (apos.endLine == pos.line) = true := by rfl) :
    PEd X (.Call (.Attribute a "split" apos) [b] [] pos) (splE fa fb) := fun F => PE.mono (pe_split (d_sub ha F) (d_sub hb F) hs hbase hline) fun σ H Q hq => by
  obtain ⟨ς, G, rl, r, ς', e, k⟩ := hq
  obtain ⟨r1, ς1, e1, q1⟩ := bd_some e
  obtain ⟨r2, ς2, e2, q2⟩ := bd_some q1
  obtain ⟨y, ς4, e4', q4⟩ := bd_some q2
  obtain ⟨e4, rfl⟩ := rd_some e4'
  split at q4
  · rename_i z
    obtain ⟨e5, rfl⟩ := lift_some q4
    cases y with
    | str w =>
      refine ⟨ς, G, rl, .pure (.str z), _, e1, fun v H1 G1 rl1 s1 rep1 => ?_⟩
      have hz : v = .str z := dp_str rep1
      refine ⟨⟨z, hz⟩, ς1, G1, rl1, r2, _, e2, fun v2 H2 G2 rl2 s2 rep2 => ?_⟩
      have rv := rdD_ok rl2 rep2 e4
      replace e5 : (if (w.length == 0) = false ∧ z.length + 2 ≤ sizeLine then some (R.fresh ((Txt.split z w).map PyData.str)) else none) = some r := e5
      by_cases q : (w.length == 0) = false ∧ z.length + 2 ≤ sizeLine
      · rw [if_pos q] at e5
        cases e5
        refine ⟨z, w, hz, by rw [rv.str], q.1, q.2, fun p hp => ?_⟩
        exact k _ _ G2 (rl2.layF hp) (s1.trans s2) (rl2.repF hp (dpa_strsI _))
      · rw [if_neg q] at e5; cases e5
    | _ => cases e5
  · cases q4
/-! ### int(text) -/
def gIntS : D → Option R
  | .str x => match PySem.intText? x with
    | some n => if x.length ≤ 640 then some (.pure (.int n)) else none
    | none => none
  | _ => none
theorem d_intS (hg : Gl X "int") (hm : X.mg "int" = none) (ha : PEd X a fa) (he : starEach [a] X.env = (false, eval a X.env) :: starEach [] X.env := by rfl) : PEd X (.Call (.Name "int" p) [a] [] pos) (cal1 gIntS fa) := d_callT1 call_int_str (fun F => ⟨fun ς G σ H x dx res Q rl hx e k => by
  cases dx with
  | str z =>
    unfold gIntS at e
    simp only at e
    split at e
    · rename_i n hn
      split at e
      · rename_i hl
        cases e
        exact ⟨z, n, by rw [hx.str], hn, hl, k _ H G rl (Same.refl _) (.int _)⟩
      · cases e
    · cases e
  | _ => cases e⟩) hg hm (by decide +kernel) ha (he := he) (hpl := rfl)
/-! ### text[a:b], text[::-1], text * int -/
def gSlS (x : D) (lo hi : Option Int) : Option R := match x with
  | .str z => if z.length ≤ sizeLine then some (.pure (.str (cutS z lo hi))) else none
  | _ => none
def slS (fa : M R) (fl fh : M (Option Int)) : M R := bd (sub fa) fun a => bd fl fun l => bd fh fun h => bd (rd a) fun x => lift (gSlS x l h)
theorem d_slS {lo hi : Option Expr} {fl fh : M (Option Int)} (ha : PEd X a fa) (hl : POd X lo fl) (hh : POd X hi fh) : PEd X (.Subscript a (.Slice lo hi none p2) pos) (slS fa fl fh) :=
  fun F => PE.mono (pe_slice sl_str (d_sub ha F) (hl F) (hh F)) fun σ H Q hq => by
    obtain ⟨ς, G, rl, r, ς', e, k⟩ := hq
    obtain ⟨a, ς1, e1, q1⟩ := bd_some e
    obtain ⟨l, ς2, e2, q2⟩ := bd_some q1
    obtain ⟨h, ς3, e3, q3⟩ := bd_some q2
    obtain ⟨x, ς4, e4', q4⟩ := bd_some q3
    obtain ⟨e4, h4⟩ := rd_some e4'
    obtain ⟨e5, h5⟩ := lift_some q4
    subst h4 h5
    refine ⟨ς, G, rl, a, ς1, e1, fun v H1 G1 rl1 s1 rep1 => ⟨ς1, G1, rl1, l, ς2, e2, fun H2 G2 rl2 s2 => ⟨ς2, G2, rl2, h, _, e3, fun H3 G3 rl3 s3 => ?_⟩⟩⟩
    have rep1' := rep_keep (ς' := ς') (H' := H3) rep1 (sub_nf e1) (s2.trans s3)
    have rv := rdD_ok rl3 rep1' e4
    cases x with
    | str z =>
      replace e5 : (if z.length ≤ sizeLine then some (R.pure (.str (cutS z l h))) else none) = some r := e5
      by_cases q : z.length ≤ sizeLine
      · rw [if_pos q] at e5; cases e5
        exact ⟨z, rv.str, q, k _ _ G3 rl3 (s1.trans (s2.trans s3)) (.str _)⟩
      · rw [if_neg q] at e5; cases e5
    | _ => cases e5
def revT (z : Str) : Str := ⟨((Builtin.Str.strSliceIndices none none (-1) z.length).filterMap (z.cps[·]?)).toArray⟩
theorem revT_len (z : Str) : (revT z).length ≤ z.length := by
  show (((Builtin.Str.strSliceIndices none none (-1) z.length).filterMap (z.cps[·]?)).toArray).size ≤ _
  rw [List.size_toArray]
  refine Nat.le_trans (List.length_filterMap_le _ _) ?_
  rw [picked_rev, List.length_map, List.length_range]
  exact Nat.le_refl _
def tRevS (te : TE) : TE := fun σ H Q => te σ H fun x H1 => ∃ z, x = .str z ∧ z.length ≤ sizeLine ∧ Q (.str (revT z)) H1
theorem pe_revS {te : TE} {k : Nat} {p1 p2 p3 pos : Pos} (he : PE X e te) : PE X (.Subscript e (.Slice none none (some (.UnaryOp .USub (.Constant (.int 1) k p1) p2)) p3) pos) (tRevS te) := by
  refine ⟨fun pins s σ H Q I h => ?_⟩
  refine Subscript_ (thn (he.run pins s σ H _ I h) fun v s1 ⟨x, H1, I1, r1, q1⟩ => ?_)
  obtain ⟨z, ex, hz, q⟩ := q1
  subst ex
  obtain ⟨t, rfl⟩ := r1
  have hst : PO X (some (.UnaryOp .USub (.Constant (.int 1) k p1) p2)) (tPart (tUn (rU fun i => .int (-i)) (tC (.int 1)))) := po_some (pe_un un_neg pe_int)
  refine wpAny_Slice (thn (po_none.run pins s1 σ H1 (fun o H2 => o = none ∧ H2 = H1) I1 ⟨rfl, rfl⟩) fun vl s2 ⟨l, H2, I2, pl, el, e2⟩ => ?_)
  subst el e2
  refine thn (po_none.run pins s2 σ H2 (fun o H3 => o = none ∧ H3 = H2) I2 ⟨rfl, rfl⟩) fun vu s3 ⟨u, H3, I3, pu, eu, e3⟩ => ?_
  subst eu e3
  refine thn (hst.run pins s3 σ H3 (fun o H4 => o = some (-1) ∧ H4 = H3) I3 ⟨1, rfl, -1, rfl, rfl, rfl⟩) fun vs s4 ⟨o, H4, I4, ps, eo, e4⟩ => ?_
  subst eo e4
  have I5 : Inv X pins σ H4 { s4 with heap := s4.heap.push { cls := .type "slice", data := .fields #[vl, vu, vs] } } := I4.kept (t' := s4.toks) fun b ob q => Heap.get?_push_of_some _ q
  obtain ⟨l', rfl, hl'⟩ := IsPart.raw pl
  obtain ⟨u', rfl, hu'⟩ := IsPart.raw pu
  obtain ⟨st, es', hs'⟩ := IsPart.raw ps
  subst es'
  have hst2 : st.map (·.1) = some (-1) := hs'
  have hl2 : l'.map (·.1) = none := hl'
  have hu2 : u'.map (·.1) = none := hu'
  show wpAny (model X.prog X.w) X.A (subscriptTail e (.Slice none none (some (.UnaryOp .USub (.Constant (.int 1) k p1) p2)) p3) (.str z t) (.ref s4.heap.objs.size)) (EP X pins σ Q) X.xe _
  refine tail_any (ops := [.str z t, .ref s4.heap.objs.size]) (typeIs_str _ _ _) (F.slot_str_getitem.lookup) ?_ (by with_unfolding_all rfl)
  refine wpAny_getItem_str_slice (l := l') (u := u') (st := st) (Heap.IsSliceOf.new _ _ _ _) (by rw [hst2]; rfl) ?_
  unfold sliceMade slicePicked
  rw [hst2, hl2, hu2]
  show Made.post (if (((-1 : Int) == 1) && _) = true then Made.val (.str z t) else Made.str (revT z)) (EP X pins σ Q) _
  rw [if_neg (by rw [show ((-1 : Int) == 1) = false from rfl, Bool.false_and]; decide)]
  exact ⟨Nat.le_trans (revT_len z) hz, .str _, H4, I5.tok _, ⟨_, rfl⟩, q⟩
def gRevS : D → Option R
  | .str z => if z.length ≤ sizeLine then some (.pure (.str (revT z))) else none
  | _ => none
theorem d_revS {k : Nat} {p1 p2 p3 : Pos} (ha : PEd X a fa) : PEd X (.Subscript a (.Slice none none (some (.UnaryOp .USub (.Constant (.int 1) k p1) p2)) p3) pos) (cal1 gRevS fa) := fun F => PE.mono (pe_revS (d_sub ha F)) fun σ H Q hq => by
  obtain ⟨ς, G, rl, r, ς', e, k⟩ := hq
  obtain ⟨a, ς1, e1, q1⟩ := bd_some e
  obtain ⟨y, ς4, e4', q4⟩ := bd_some q1
  obtain ⟨e4, rfl⟩ := rd_some e4'
  obtain ⟨e5, rfl⟩ := lift_some q4
  refine ⟨ς, G, rl, a, _, e1, fun w H2 G2 rl2 s2 rep2 => ?_⟩
  have rv := rdD_ok rl2 rep2 e4
  cases y with
  | str z =>
    replace e5 : (if z.length ≤ sizeLine then some (R.pure (.str (revT z))) else none) = some r := e5
    by_cases q : z.length ≤ sizeLine
    · rw [if_pos q] at e5; cases e5
      exact ⟨z, rv.str, q, k _ H2 G2 rl2 s2 (.str _)⟩
    · rw [if_neg q] at e5; cases e5
  | _ => cases e5
def gMulT : D → D → Option R
  | .str z, .int n => if 2 ≤ n ∧ n ≤ 1000 ∧ z.length ≤ 1000 then some (.pure (.str (Txt.mul z n))) else none
  | _, _ => none
theorem op2_mulT : Op2 X F (fun x y H Q => ∃ z n, x = .str z ∧ y = .int n ∧ MulOk z n ∧ Q (.str (Txt.mul z n)) H) gMulT := ⟨fun ς G σ H x y dx dy r Q rl hx hy e k => by
  cases dx with
  | str z =>
    cases dy with
    | int n =>
      unfold gMulT at e
      simp only at e
      split at e
      · rename_i h0
        obtain ⟨h1, h2, h3⟩ := h0
        cases e
        refine ⟨z, n, hx.str, hy.int, ⟨?_, ?_, ?_⟩, k _ H G rl (Same.refl _) (.str _)⟩
        · rw [Bool.or_eq_false_iff]
          exact ⟨decide_eq_false (by omega), decide_eq_false (by omega)⟩
        · intro _ _ h
          have : (2 ^ 63 - 1 : Int) / n ≥ 9223372036854775 := by
            refine Int.le_ediv_of_mul_le (by omega) ?_
            have := Int.mul_le_mul_of_nonneg_left h2 (show (0 : Int) ≤ 9223372036854775 by decide)
            omega
          omega
        · intro _ _
          have : z.length * n.toNat ≤ 1000 * 1000 := Nat.mul_le_mul h3 (by omega)
          unfold Builtin.Str.tooLong
          exact decide_eq_false (by have hsl : sizeLine = 16777216 := rfl; omega)
      · cases e
    | _ => cases e
  | _ => cases e⟩
theorem d_mulT (ha : PEd X a fa) (hb : PEd X b fb) : PEd X (.BinOp a .Mult b pos) (op2 gMulT fa fb) := d_op op_mulStr (fun _ => op2_mulT) ha hb
end
namespace Sm
theorem splE {ς : En} {fa fb : M R} {Q : R → En → Prop} (h : wp fa ς fun r ς1 => ∃ z, r = .pure (.str z) ∧ wp fb ς1 fun r2 ς2 => ∃ w, rdD r2 ς2 = some w ∧ ∃ res, gSplit (.str z) w = some res ∧ Q res ς2) : wp (Lw.splE fa fb) ς Q := by
  refine bd (sub (mono h fun r ς1 h => ?_))
  obtain ⟨z, rfl, h⟩ := h
  refine bd (sub (mono h fun r2 ς2 h => ?_))
  obtain ⟨w, e1, res, e2, q⟩ := h
  exact bd (rd (rd_nf e1) (lift e2 q))
theorem slS {ς : En} {fa : M R} {fl fh : M (Option Int)} {Q : R → En → Prop} (h : wp fa ς fun r ς1 => ∃ z, r = .pure (.str z) ∧ wp fl ς1 fun l ς2 => wp fh ς2 fun k ς3 => z.length ≤ sizeLine ∧ Q (.pure (.str (cutS z l k))) ς3) : wp (Lw.slS fa fl fh) ς Q := by
  refine bd (sub (mono h fun r ς1 h => ?_))
  obtain ⟨z, rfl, h⟩ := h
  refine bd (mono h fun l ς2 h => bd (mono h fun k ς3 h => ?_))
  obtain ⟨hz, q⟩ := h
  refine bd (rd (d := .str z) rfl ?_)
  exact ⟨_, _, by show Lw.lift (if z.length ≤ sizeLine then some (R.pure (.str (cutS z l k))) else none) ς3 = _; rw [if_pos hz]; rfl, q⟩
end Sm
instance stp_splE {ς : En} {fa fb : M R} {Q : R → En → Prop} : Stp (wp (Lw.splE fa fb) ς Q) (wp fa ς fun r ς1 => ∃ z, r = .pure (.str z) ∧ wp fb ς1 fun r2 ς2 => ∃ w, rdD r2 ς2 = some w ∧ ∃ res, gSplit (.str z) w = some res ∧ Q res ς2) := ⟨Sm.splE⟩
instance stp_slS {ς : En} {fa : M R} {fl fh : M (Option Int)} {Q : R → En → Prop} : Stp (wp (Lw.slS fa fl fh) ς Q) (wp fa ς fun r ς1 => ∃ z, r = .pure (.str z) ∧ wp fl ς1 fun l ς2 => wp fh ς2 fun k ς3 => z.length ≤ sizeLine ∧ Q (.pure (.str (cutS z l k))) ς3) := ⟨Sm.slS⟩
instance {a b : D} {x : Option R} : Gd (gSplit a b = x) := ⟨id⟩
end Lw
namespace Lw
open PySem PySem.Spec PyProof.Rows L2
local macro_rules | `(tactic| walk_at "lw e") => `(tactic| (repeat (first | (with_reducible refine Stp.go ?_) | (with_reducible apply Exists.intro) | ((with_reducible refine And.intro ?_ ?_); · (first | (with_reducible exact Evl.ev) | ((fail_if_success (with_reducible refine Gd.keep ?_)); rfl) | ((with_reducible apply mul_r); decide) | ((with_reducible apply mul_l); decide) | ((with_reducible apply div_i); decide) | ((with_reducible apply in_R); decide) | (exact Nat.le_of_ble_eq_true rfl) | (simp [refsOf]; done) | (exact ⟨rfl, rfl, by decide⟩) | (exact ⟨rfl, rfl, rfl⟩))) | ((with_reducible apply Sm.vrP); (focus rfl)) | ((with_reducible apply Sm.vrO); (focus rfl)) | (with_reducible refine iteTT ?_) | (with_reducible refine iteT ?_) | (with_reducible refine iteF ?_) | ((with_reducible refine iteB1 ?_ ?_); (focus rfl)) | ((with_reducible refine iteB0 ?_ ?_); (focus rfl)))))
local macro_rules | `(tactic| walk_at "lw n") => `(tactic| (try dsimp only [ent, List.map, Nat.reduceAdd, Nat.reduceSub, List.length_cons, List.length_nil, List.replicate_succ, List.replicate_zero, List.cons_append, List.nil_append, putBack, setOwn, List.getElem?_cons_zero, List.getElem?_cons_succ, List.set_cons_zero, List.set_cons_succ, Sm.nf]))
local macro_rules | `(tactic| walk_at "lw v") => `(tactic| (try simp only [pb1, pb2, pb3, pb4]))
theorem pw_6 : gPowA (.int 10) (.int 6) = some (.pure (.int 1000000)) := rfl
theorem pw_7 : gPowA (.int 10) (.int 7) = some (.pure (.int 10000000)) := rfl
theorem pw_15 : gPowA (.int 10) (.int 15) = some (.pure (.int 1000000000000000)) := rfl
theorem pw_18 : gPowA (.int 10) (.int 18) = some (.pure (.int 1000000000000000000)) := rfl
theorem pw_19 : gPowA (.int 10) (.int 19) = some (.pure (.int 10000000000000000000)) := rfl
theorem pw_30 : gPowA (.int 10) (.int 30) = some (.pure (.int 1000000000000000000000000000000)) := rfl
theorem pw_40 : gPowA (.int 10) (.int 40) = some (.pure (.int 10000000000000000000000000000000000000000)) := rfl
instance : Evl (gPowA (.int 10) (.int 6)) (.pure (.int 1000000)) := ⟨pw_6⟩
instance : Evl (gPowA (.int 10) (.int 7)) (.pure (.int 10000000)) := ⟨pw_7⟩
instance : Evl (gPowA (.int 10) (.int 15)) (.pure (.int 1000000000000000)) := ⟨pw_15⟩
instance : Evl (gPowA (.int 10) (.int 18)) (.pure (.int 1000000000000000000)) := ⟨pw_18⟩
instance : Evl (gPowA (.int 10) (.int 19)) (.pure (.int 10000000000000000000)) := ⟨pw_19⟩
instance : Evl (gPowA (.int 10) (.int 30)) (.pure (.int 1000000000000000000000000000000)) := ⟨pw_30⟩
instance : Evl (gPowA (.int 10) (.int 40)) (.pure (.int 10000000000000000000000000000000000000000)) := ⟨pw_40⟩
theorem iteDT {p A B : Prop} [Decidable p] (hp : p) (h : A) : if decide p = true then A else B := by rw [if_pos (decide_eq_true hp)]; exact h
theorem iteDF {p A B : Prop} [Decidable p] (hp : ¬ p) (h : B) : if decide p = true then A else B := by rw [if_neg (by rw [decide_eq_false hp]; decide)]; exact h
theorem dm_int {i j : Int} (h : 0 < j ∧ j < 2 ^ 200) : gDm (.int i) (.int j) = some (.pure (.tuple [.int (i / j), .int (i % j)])) := if_pos h
theorem mul_i {i j : Int} (h : cMul i j = true) : gMulA (.int i) (.int j) = some (.pure (.int (i * j))) := by
  unfold gMulA orG gI; simp only [h, if_true]
theorem cMul_r {i j : Int} (h : -18446744073709551616 < j ∧ j < 18446744073709551616) : cMul i j = true := by
  unfold cMul
  rw [Bool.or_eq_true]
  exact .inr (by rw [Bool.and_eq_true]; exact ⟨decide_eq_true h.1, decide_eq_true h.2⟩)
theorem cMul_l {i j : Int} (h : -18446744073709551616 < i ∧ i < 18446744073709551616) : cMul i j = true := by
  unfold cMul
  rw [Bool.or_eq_true]
  exact .inl (by rw [Bool.and_eq_true]; exact ⟨decide_eq_true h.1, decide_eq_true h.2⟩)
theorem mul_r {i j : Int} (h : -18446744073709551616 < j ∧ j < 18446744073709551616) : gMulA (.int i) (.int j) = some (.pure (.int (i * j))) := mul_i (cMul_r h)
theorem mul_l {i j : Int} (h : -18446744073709551616 < i ∧ i < 18446744073709551616) : gMulA (.int i) (.int j) = some (.pure (.int (i * j))) := mul_i (cMul_l h)
theorem mod_i {i j : Int} (h : 0 < j) : gModA (.int i) (.int j) = some (.pure (.int (i % j))) := if_pos (decide_eq_true h)
theorem div_i {i j : Int} (h : 0 < j ∧ j < 2 ^ 200) : gDivA (.int i) (.int j) = some (.pure (.int (i / j))) := if_pos (by unfold cDiv; rw [Bool.and_eq_true]; exact ⟨decide_eq_true h.1, decide_eq_true h.2⟩)
local macro_rules | `(tactic| walk_at "lw e") => `(tactic| (repeat (first | (with_reducible refine Stp.go ?_) | (with_reducible apply Exists.intro) | ((with_reducible refine And.intro ?_ ?_); · (first | (with_reducible exact Evl.ev) | ((fail_if_success (with_reducible refine Gd.keep ?_)); rfl) | ((with_reducible apply mul_r); decide) | ((with_reducible apply mul_l); decide) | ((with_reducible apply div_i); decide) | ((with_reducible apply in_R); decide) | (exact Nat.le_of_ble_eq_true rfl) | (simp [refsOf]; done) | (exact ⟨rfl, rfl, by decide⟩) | (exact ⟨rfl, rfl, rfl⟩))) | ((with_reducible apply Sm.vrP); (focus rfl)) | ((with_reducible apply Sm.vrO); (focus rfl)) | (with_reducible refine iteTT ?_) | (with_reducible refine iteT ?_) | (with_reducible refine iteF ?_) | ((with_reducible refine iteB1 ?_ ?_); (focus rfl)) | ((with_reducible refine iteB0 ?_ ?_); (focus rfl)))))
local macro_rules | `(tactic| walk_at "lw n") => `(tactic| (try dsimp only [ent, List.map, Nat.reduceAdd, Nat.reduceSub, List.length_cons, List.length_nil, List.replicate_succ, List.replicate_zero, List.cons_append, List.nil_append, putBack, setOwn, List.getElem?_cons_zero, List.getElem?_cons_succ, List.set_cons_zero, List.set_cons_succ, Sm.nf]))
local macro_rules | `(tactic| walk_at "lw v") => `(tactic| (try simp only [pb1, pb2, pb3, pb4]))
/-- what is drawn from -/
def Box (c : Nat) (ds : List D) : Prop := ∃ x y z : Int, ds = [.int x, .int y, .int z] ∧ 0 ≤ x ∧ 0 ≤ y ∧ y < 2147483647 ∧ 0 ≤ z ∧ z + c ≤ 1000000
theorem Box.less {c c' : Nat} {ds : List D} (h : Box c ds) (k : c' ≤ c) : Box c' ds := by
  obtain ⟨x, y, z, e, h1, h2, h3, h4, h5⟩ := h
  exact ⟨x, y, z, e, h1, h2, h3, h4, by omega⟩
def TakeQ (c : Nat) (k : Int) (r : R) (outs : List S) : Prop := ∃ v ds', r = .pure (.int v) ∧ 0 ≤ v ∧ v < k ∧ Box c ds' ∧ outs = [.own true ds', .pure (.int k)]
theorem take_one {c : Nat} {ds : List D} {k : Int} (hb : Box (c + 1) ds) (h1 : 1 ≤ k) (h2 : k ≤ 10000000) (ms : Fsem) : wpf (runFn (g_l_take ms) 6) [.own true ds, .pure (.int k)] (TakeQ c k) := by
  obtain ⟨x, y, z, rfl, hx, hy, hy2, hz, hz2⟩ := hb
  refine Sm.run ?_
  unfold g_l_take
  walk_at "lw e"
  by_cases hx0 : 0 < x
  · refine iteDT hx0 ?_
    walk_at "lw e"
    refine ⟨dm_int ⟨by omega, by omega⟩, ?_⟩
    walk_at "lw e"
    refine ⟨x % k, [.int (x / k), .int y, .int z], rfl, Int.emod_nonneg _ (by omega), Int.emod_lt_of_pos _ (by omega), ⟨_, _, _, rfl, Int.ediv_nonneg hx (by omega), hy, hy2, hz, by omega⟩, rfl⟩
  · refine iteDF hx0 ?_
    walk_at "lw e"
    refine iteDF (by omega) ?_
    walk_at "lw e"
    have hz1 : (z + 1) * (z + 1) ≤ 1000001 * 1000001 := Int.mul_le_mul (by omega) (by omega) (by omega) (by omega)
    have hz0 : 0 ≤ (z + 1) * (z + 1) := Int.mul_nonneg (by omega) (by omega)
    refine ⟨mul_r (j := z + 1) ⟨by omega, by omega⟩, ?_⟩
    walk_at "lw e"
    refine ⟨mul_l (i := y + 39373 * (z + 1)) ⟨by omega, by omega⟩, ?_⟩
    walk_at "lw e"
    refine ⟨mul_l ⟨by omega, by omega⟩, ?_⟩
    walk_at "lw e"
    refine ⟨mul_l ⟨by omega, by omega⟩, ?_⟩
    walk_at "lw e"
    refine ⟨mod_i (by omega), ?_⟩
    walk_at "lw e"
    refine ⟨_, [.int x, .int y, .int (z + 1)], rfl, Int.emod_nonneg _ (by omega), Int.emod_lt_of_pos _ (by omega), ⟨_, _, _, rfl, hx, hy, hy2, by omega, by omega⟩, rfl⟩
theorem nref {d : D} : ∀ i, R.pure d ≠ .ref i := fun i z => by cases z
theorem nfr {ds : List D} : ∀ i, R.fresh ds ≠ .ref i := fun i z => by cases z
theorem pow7_pos (n : Nat) : (1 : Int) ≤ 10000000 ^ n := by
  induction n with
  | zero => decide
  | succ n ih => rw [Int.pow_succ]; omega
theorem take_ok (n : Nat) : ∀ (c : Nat) (ds : List D) (k : Int), Box (c + 2 ^ (n + 1)) ds → 1 ≤ k → k ≤ 10000000 ^ (n + 1) → k < 1000000000000000000000000000000 → wpf (m_l_take (n + 1)) [.own true ds, .pure (.int k)] (TakeQ c k) := by
  induction n with
  | zero =>
    intro c ds k hb h1 h2 _
    exact take_one (hb.less (by omega)) h1 (by omega) _
  | succ n ih =>
    intro c ds k hb h1 h2 h3
    by_cases hk : k ≤ 10000000
    · exact take_one (hb.less (by have : 0 < 2 ^ (n + 1 + 1) := Nat.two_pow_pos _; omega)) h1 hk _
    · obtain ⟨x, y, z, rfl, hx, hy, hy2, hz, hz2⟩ := hb
      have hq : 0 < (2 : Nat) ^ n := Nat.two_pow_pos n
      have hp : (2 : Nat) ^ (n + 1 + 1) = 2 ^ (n + 1) + 2 ^ (n + 1) := by rw [Nat.pow_succ]; omega
      have hk2 : (k - 1) / 10000000 + 1 ≤ 10000000 ^ (n + 1) := by
        have e : (10000000 : Int) ^ (n + 1 + 1) = 10000000 ^ (n + 1) * 10000000 := Int.pow_succ _ _
        rw [e] at h2
        omega
      have h7 : (10000000 : Int) ≤ 10000000 ^ (n + 1) := by
        have e : (10000000 : Int) ^ (n + 1) = 10000000 ^ n * 10000000 := Int.pow_succ _ _
        have : (1 : Int) ≤ 10000000 ^ n := pow7_pos n
        omega
      show wpf (runFn (g_l_take (m_l_take (n + 1))) 6) _ _
      refine Sm.run ?_
      unfold g_l_take
      walk_at "lw e"
      by_cases hx0 : 0 < x
      · refine iteDT hx0 ?_
        walk_at "lw e"
        refine ⟨dm_int ⟨by omega, by omega⟩, ?_⟩
        walk_at "lw e"
        exact ⟨x % k, [.int (x / k), .int y, .int z], rfl, Int.emod_nonneg _ (by omega), Int.emod_lt_of_pos _ (by omega), ⟨_, _, _, rfl, Int.ediv_nonneg hx (by omega), hy, hy2, hz, by omega⟩, rfl⟩
      · refine iteDF hx0 ?_
        walk_at "lw e"
        refine iteDT (by omega) ?_
        walk_at "lw e"
        refine Sm.fmono (ih (c + 2 ^ (n + 1)) _ 10000000 ⟨x, y, z, rfl, hx, hy, hy2, hz, by omega⟩ (by decide) h7 (by decide)) fun r o h => ?_
        obtain ⟨v1, ds1, rfl, a1, a2, hb1, rfl⟩ := h
        refine ⟨nref, ?_⟩
        walk_at "lw e"
        refine Sm.fmono (ih c _ ((k - 1) / 10000000 + 1) hb1 (by omega) hk2 (by omega)) fun r o h => ?_
        obtain ⟨v2, ds2, rfl, b1, b2, hb2, rfl⟩ := h
        refine ⟨nref, ?_⟩
        walk_at "lw e"
        refine ⟨mod_i (by omega), ?_⟩
        walk_at "lw e"
        exact ⟨_, ds2, rfl, Int.emod_nonneg _ (by omega), Int.emod_lt_of_pos _ (by omega), hb2, rfl⟩
theorem take4 {c : Nat} {ds : List D} {k : Int} (hb : Box (c + 16) ds) (h1 : 1 ≤ k) (h2 : k ≤ 10000000000000000000000000000) : wpf (m_l_take 4) [.own true ds, .pure (.int k)] (TakeQ c k) := take_ok 3 c ds k hb h1 h2 (by omega)
end Lw
namespace Lw
open PySem PySem.Spec PyProof.Rows L2
local macro_rules | `(tactic| walk_at "lw e") => `(tactic| (repeat (first | (with_reducible refine Stp.go ?_) | (with_reducible apply Exists.intro) | ((with_reducible refine And.intro ?_ ?_); · (first | (with_reducible exact Evl.ev) | ((fail_if_success (with_reducible refine Gd.keep ?_)); rfl) | ((with_reducible apply mul_r); decide) | ((with_reducible apply mul_l); decide) | ((with_reducible apply div_i); decide) | ((with_reducible apply in_R); decide) | (exact Nat.le_of_ble_eq_true rfl) | (simp [refsOf]; done) | (exact ⟨rfl, rfl, by decide⟩) | (exact ⟨rfl, rfl, rfl⟩))) | ((with_reducible apply Sm.vrP); (focus rfl)) | ((with_reducible apply Sm.vrO); (focus rfl)) | (with_reducible refine iteTT ?_) | (with_reducible refine iteT ?_) | (with_reducible refine iteF ?_) | ((with_reducible refine iteB1 ?_ ?_); (focus rfl)) | ((with_reducible refine iteB0 ?_ ?_); (focus rfl)))))
local macro_rules | `(tactic| walk_at "lw n") => `(tactic| (try dsimp only [ent, List.map, Nat.reduceAdd, Nat.reduceSub, List.length_cons, List.length_nil, List.replicate_succ, List.replicate_zero, List.cons_append, List.nil_append, putBack, setOwn, List.getElem?_cons_zero, List.getElem?_cons_succ, List.set_cons_zero, List.set_cons_succ, Sm.nf]))
local macro_rules | `(tactic| walk_at "lw v") => `(tactic| (try simp only [pb1, pb2, pb3, pb4]))
abbrev ilist (ns : List Int) : D := .list (ns.map PyData.int)
def cutI (ns : List Int) (lo hi : Option Int) : List Int := (ns.drop (HT.sIx ns.length 0 lo)).take (HT.sIx ns.length ns.length hi - HT.sIx ns.length 0 lo)
theorem cutD_ints (ns : List Int) (lo hi : Option Int) : cutD (ns.map PyData.int) lo hi = (cutI ns lo hi).map PyData.int := by
  unfold cutD cutI
  rw [List.length_map, List.map_take, List.map_drop]
theorem atI_ints {ns : List Int} {i : Int} (h0 : 0 ≤ i) (h1 : i < ns.length) : gIx (ilist ns) (.int i) = some (.pure (.int (ns.getD i.toNat 0))) := by
  have hl : i.toNat < ns.length := by omega
  have : atI (ns.map PyData.int) i = some (.int (ns.getD i.toNat 0)) := by
    unfold atI ixN
    rw [List.length_map]
    simp only [h0, if_true]
    rw [if_pos (by omega)]
    simp [hl]
  show (atI (ns.map PyData.int) i).map R.pure = _
  rw [this]; rfl
def BoxQ (r : R) (_ : List S) : Prop := ∃ ds, r = .fresh ds ∧ Box 1000000 ds
def IntQ (ς0 : En) (r : R) (ς1 : En) : Prop := ∃ i : Int, r = .pure (.int i) ∧ ς1 = ς0
def IntsQ (n : Nat) (r : R) (_ : List S) : Prop := ∃ cs : List Int, r = .fresh (cs.map PyData.int) ∧ cs.length ≤ n
theorem box_ok {ns : List Int} {k : Nat} (hk : k ≤ 100) : wpf m_l_box [.pure (ilist ns), .pure (.int k)] BoxQ := by
  refine Sm.run ?_
  unfold g_l_box
  refine Sm.sq (Sm.asg (Sm.mono (Q := IntQ (ent 3 [.pure (ilist ns), .pure (.int k)])) ?_ ?_))
  · walk_at "lw e"
    rw [List.length_map]
    by_cases h : (k : Int) < ns.length
    · refine iteDT h ?_
      walk_at "lw e"
      exact ⟨atI_ints (by omega) h, _, rfl, rfl⟩
    · refine iteDF h ?_
      walk_at "lw e"
      exact ⟨_, rfl, rfl⟩
  · rintro r ς1 ⟨cell, rfl, rfl⟩
    walk_at "lw e"
    refine ⟨mul_r (by split <;> omega), ?_⟩
    walk_at "lw e"
    refine ⟨_, rfl, _, _, _, rfl, ?_, Int.emod_nonneg _ (by decide), Int.emod_lt_of_pos _ (by decide), by decide, by decide⟩
    have h1 : 0 ≤ (if cell < 0 then -cell else cell) := by split <;> omega
    exact Int.mul_nonneg h1 (by split <;> omega)
theorem enum_ints {ns : List Int} : ∀ {i j : Nat} {d : D}, (enumD i (ns.map PyData.int))[j]? = some d → ∃ n, ns[j]? = some n ∧ d = .tuple [.int ((i + j : Nat) : Int), .int n] := by
  intro i j d h
  rw [enumD_get, List.getElem?_map] at h
  cases q : ns[j]? with
  | none => rw [q] at h; cases h
  | some n => rw [q] at h; cases h; exact ⟨n, rfl, rfl⟩
theorem set_ints (ns : List Int) (i : Nat) (n : Int) : (ns.map PyData.int).set i (.int n) = (ns.set i n).map PyData.int := by rw [List.map_set]
/-- a slot that may be written -/
def Fr : Option S → Prop
  | some (.own true _) => False
  | some (.vx _) => False
  | _ => True
theorem tgN_o {i : Nat} {x : D} {ς : En} {o : Option S} (h : ς[i]? = some o) (f : Fr o) : tgN i x ς = some (ς.set i (some (.pure x))) := by
  unfold tgN free
  rw [h]
  rcases o with _ | _ | ⟨_ | _, _⟩ | _
  · rfl
  · rfl
  · rfl
  · exact f.elim
  · exact f.elim
theorem tgsC_o {i : Nat} {x : D} {xs : List D} {u : Tgs} {ς : En} {o : Option S} (h : ς[i]? = some o) (f : Fr o) : tgsC (tgN i) u (x :: xs) ς = u xs (ς.set i (some (.pure x))) := by
  unfold tgsC
  simp only [tgN_o h f]
theorem tgT2_o {i j : Nat} {x y : D} {ς : En} {a b : Option S} (h1 : ς[i]? = some a) (f1 : Fr a) (h2 : (ς.set i (some (.pure x)))[j]? = some b) (f2 : Fr b) : tgT 2 (tgsC (tgN i) (tgsC (tgN j) tgsN)) (.tuple [x, y]) ς = some ((ς.set i (some (.pure x))).set j (some (.pure y))) := by
  show tgsC (tgN i) (tgsC (tgN j) tgsN) [x, y] ς = _
  rw [tgsC_o h1 f1, tgsC_o h2 f2]
  rfl
theorem Sm.asgS {ς : En} {Q : Out → Prop} {f fo fi : M R} (h : wp f ς fun r ς1 => ∃ d ς2, toD r ς1 = some (d, ς2) ∧ wp fo ς2 fun r ς3 => ∃ i, r = .ref i ∧ wp fi ς3 fun r2 ς4 => ∃ j n b ds, rdD r2 ς4 = some (.int j) ∧ ς4[i]? = some (some (.own b ds)) ∧ ixN ds.length j = some n ∧ Q (.nx (ς4.set i (some (.own b (ds.set n d)))))) : wps (Lw.asg f (tgS fo fi)) ς Q := by
  refine Sm.asg (Sm.mono h fun r ς1 h => ?_)
  obtain ⟨d, ς2, e, r2, ς3, e2, i, rfl, r3, ς4, e3, j, n, b, ds, e4, e5, e6, q⟩ := h
  refine ⟨d, ς2, _, e, ?_, q⟩
  have hp : Lw.ptS fi ς3 = some (some j, ς4) := by
    obtain ⟨a, ς', ee, qq⟩ : wp (Lw.ptS fi) ς3 (fun a ς' => a = some j ∧ ς' = ς4) := Sm.ptS ⟨r3, ς4, e3, j, e4, rfl, rfl⟩
    obtain ⟨rfl, rfl⟩ := qq
    exact ee
  unfold tgS
  rw [e2]
  simp only [hp, e5, e6]
namespace Sm
section
variable {ς : En}
instance stp_asgS {ς : En} {Q : Out → Prop} {f fo fi : M R} : Stp (wps (Lw.asg f (tgS fo fi)) ς Q) (wp f ς fun r ς1 => ∃ d ς2, toD r ς1 = some (d, ς2) ∧ wp fo ς2 fun r ς3 => ∃ i, r = .ref i ∧ wp fi ς3 fun r2 ς4 => ∃ j n b ds, rdD r2 ς4 = some (.int j) ∧ ς4[i]? = some (some (.own b ds)) ∧ ixN ds.length j = some n ∧ Q (.nx (ς4.set i (some (.own b (ds.set n d)))))) := ⟨Sm.asgS⟩
end
end Sm
theorem ix_in {n : Nat} {i : Int} (h0 : 0 ≤ i) (h1 : i < n) : ixN n i = some i.toNat := by
  unfold ixN
  rw [if_pos h0, if_pos (by omega)]
local macro_rules | `(tactic| walk_at "lw e") => `(tactic| (repeat (first | (with_reducible refine Stp.go ?_) | (with_reducible apply Exists.intro) | ((with_reducible refine And.intro ?_ ?_); · (first | (with_reducible exact Evl.ev) | ((fail_if_success (with_reducible refine Gd.keep ?_)); rfl) | ((with_reducible apply mul_r); decide) | ((with_reducible apply mul_l); decide) | ((with_reducible apply div_i); decide) | ((with_reducible apply in_R); decide) | (exact Nat.le_of_ble_eq_true rfl) | (simp [refsOf]; done) | (exact ⟨rfl, rfl, by decide⟩) | (exact ⟨rfl, rfl, rfl⟩))) | ((with_reducible apply Sm.vrP); (focus rfl)) | ((with_reducible apply Sm.vrO); (focus rfl)) | (with_reducible refine iteTT ?_) | (with_reducible refine iteT ?_) | (with_reducible refine iteF ?_) | ((with_reducible refine iteB1 ?_ ?_); (focus rfl)) | ((with_reducible refine iteB0 ?_ ?_); (focus rfl)))))
local macro_rules | `(tactic| walk_at "lw n") => `(tactic| (try dsimp only [ent, List.map, Nat.reduceAdd, Nat.reduceSub, List.length_cons, List.length_nil, List.replicate_succ, List.replicate_zero, List.cons_append, List.nil_append, putBack, setOwn, List.getElem?_cons_zero, List.getElem?_cons_succ, List.set_cons_zero, List.set_cons_succ, Sm.nf]))
local macro_rules | `(tactic| walk_at "lw v") => `(tactic| (try simp only [pb1, pb2, pb3, pb4]))
theorem cut_lt {ns : List Int} {s : Nat} (h : 0 < (cutI ns (some (s : Int)) (some 63)).length) (hl : ns.length ≤ 63) : (cutI ns none (some (s : Int))).length = s := by
  unfold cutI at h ⊢
  simp only [List.length_take, List.length_drop] at h ⊢
  have e : ∀ d, HT.sIx ns.length d (some (s : Int)) = min s ns.length := by
    intro d
    unfold HT.sIx
    simp only
    split <;> omega
  rw [e] at h ⊢
  have e0 : HT.sIx ns.length 0 none = 0 := rfl
  rw [e0] at *
  omega
theorem folded_ok {ns : List Int} {s : Nat} (hl : ns.length ≤ 63) (h1 : 1 ≤ s) (h2 : s ≤ 60) : wpf m_l_folded [.pure (ilist ns), .pure (.int s)] (IntsQ s) := by
  refine Sm.run ?_
  unfold g_l_folded
  walk_at "lw e"
  rw [cutD_ints, cutD_ints]
  refine Sm.loopInv (fun _ ς => ∃ cs : List Int, ∃ a b, ς = [some (.pure (ilist ns)), some (.pure (.int s)), some (.own false (cs.map PyData.int)), a, b] ∧ cs.length = (cutI ns none (some (s : Int))).length ∧ Fr a ∧ Fr b) ⟨_, _, _, rfl, rfl, trivial, trivial⟩ ?_ ?_
  · rintro i d ς hd ⟨cs, a, b, rfl, hc, fa, fb⟩
    obtain ⟨n, hn, rfl⟩ := enum_ints hd
    refine ⟨_, tgT2_o rfl fa rfl fb, ?_⟩
    have hi : i < (cutI ns (some (s : Int)) (some 63)).length := by
      obtain ⟨h, -⟩ := List.getElem?_eq_some_iff.1 hn
      exact h
    have hlt : 0 < (cutI ns (some (s : Int)) (some 63)).length := by omega
    have hi63 : i < 63 := by
      unfold cutI at hi
      rw [List.length_take, List.length_drop] at hi
      omega
    have hcs : cs.length = s := hc.trans (cut_lt hlt hl)
    have hm : ((0 + i : Nat) : Int) % (s : Int) < s := Int.emod_lt_of_pos _ (by omega)
    have hm0 : 0 ≤ ((0 + i : Nat) : Int) % (s : Int) := Int.emod_nonneg _ (by omega)
    walk_at "lw e"
    refine ⟨mod_i (by omega), ?_⟩
    walk_at "lw e"
    refine ⟨atI_ints hm0 (by omega), ?_⟩
    walk_at "lw e"
    refine ⟨mul_r (by omega), ?_⟩
    walk_at "lw e"
    refine ⟨mod_i (by omega), ?_⟩
    walk_at "lw e"
    refine ⟨ix_in hm0 (by rw [List.length_map]; omega), ?_⟩
    dsimp only
    rw [set_ints]
    exact ⟨_, _, _, rfl, by rw [List.length_set]; exact hc, trivial, trivial⟩
  · rintro ς ⟨cs, a, b, rfl, hc, fa, fb⟩
    walk_at "lw e"
    refine Sm.oM rfl (Sm.fF ⟨cs, rfl, ?_⟩)
    rw [hc]
    unfold cutI
    rw [List.length_take, HT.sIx_nat]
    omega
end Lw
namespace Lw
open PySem PySem.Spec PyProof.Rows L2
local macro_rules | `(tactic| walk_at "lw e") => `(tactic| (repeat (first | (with_reducible refine Stp.go ?_) | (with_reducible apply Exists.intro) | ((with_reducible refine And.intro ?_ ?_); · (first | (with_reducible exact Evl.ev) | ((fail_if_success (with_reducible refine Gd.keep ?_)); rfl) | ((with_reducible apply mul_r); decide) | ((with_reducible apply mul_l); decide) | ((with_reducible apply div_i); decide) | ((with_reducible apply in_R); decide) | (exact Nat.le_of_ble_eq_true rfl) | (simp [refsOf]; done) | (exact ⟨rfl, rfl, by decide⟩) | (exact ⟨rfl, rfl, rfl⟩))) | ((with_reducible apply Sm.vrP); (focus rfl)) | ((with_reducible apply Sm.vrO); (focus rfl)) | (with_reducible refine iteTT ?_) | (with_reducible refine iteT ?_) | (with_reducible refine iteF ?_) | ((with_reducible refine iteB1 ?_ ?_); (focus rfl)) | ((with_reducible refine iteB0 ?_ ?_); (focus rfl)))))
local macro_rules | `(tactic| walk_at "lw n") => `(tactic| (try dsimp only [ent, List.map, Nat.reduceAdd, Nat.reduceSub, List.length_cons, List.length_nil, List.replicate_succ, List.replicate_zero, List.cons_append, List.nil_append, putBack, setOwn, List.getElem?_cons_zero, List.getElem?_cons_succ, List.set_cons_zero, List.set_cons_succ, Sm.nf]))
local macro_rules | `(tactic| walk_at "lw v") => `(tactic| (try simp only [pb1, pb2, pb3, pb4]))
/-- a leaf whose numbers are at most B -/
def lfb (B : Nat) : D → Bool
  | .none => true
  | .bool _ => true
  | .int i => decide (i.natAbs ≤ B)
  | .str x => PyData.strOk x
  | _ => false
/-- a thing at most e deep, its numbers at most B -/
def fnb (B : Nat) : Nat → D → Bool
  | 0, d => lfb B d
  | e + 1, d => match d with
    | .list xs => xs.all (fnb B e)
    | .tuple xs => xs.all (fnb B e)
    | d => lfb B d
theorem lfb_fnb {B e : Nat} {d : D} (h : lfb B d = true) : fnb B e d = true := by
  cases e with
  | zero => exact h
  | succ e => cases d <;> first | exact h | cases h
theorem lay_all {xs : List D} (h : ∀ x ∈ xs, PyData.canLay0 x = true) : PyData.canLayAll0 xs = true := by
  induction xs with
  | nil => rfl
  | cons x xs ih => rw [PyData.canLayAll0, h x (by simp), ih fun y hy => h y (by simp [hy])]; rfl
theorem show_all {xs : List D} (h : ∀ x ∈ xs, PyData.showable x = true) : PyData.showableAll xs = true := by
  induction xs with
  | nil => rfl
  | cons x xs ih => rw [PyData.showableAll, h x (by simp), ih fun y hy => h y (by simp [hy])]; rfl
theorem short_all {B : Nat} {xs : List D} (h : ∀ x ∈ xs, PyData.leavesShort B x = true) : PyData.leavesShortAll B xs = true := by
  induction xs with
  | nil => rfl
  | cons x xs ih => rw [PyData.leavesShortAll, h x (by simp), ih fun y hy => h y (by simp [hy])]; rfl
theorem depth_all {e : Nat} {xs : List D} (h : ∀ x ∈ xs, PyData.depth x ≤ e) : PyData.depthAll xs ≤ e := by
  induction xs with
  | nil => exact Nat.zero_le _
  | cons x xs ih => rw [PyData.depthAll]; exact Nat.max_le.2 ⟨h x (by simp), ih fun y hy => h y (by simp [hy])⟩
theorem lf_facts {B : Nat} (hB : B < 10 ^ 90) {d : D} (h : lfb B d = true) : d.canLay0 = true ∧ d.showable = true ∧ d.leavesShort 100 = true ∧ d.depth = 0 := by
  cases d with
  | none => exact ⟨rfl, rfl, rfl, rfl⟩
  | bool b => exact ⟨rfl, rfl, rfl, rfl⟩
  | int i =>
    have hi : i.natAbs < 10 ^ 90 := Nat.lt_of_le_of_lt (of_decide_eq_true h) hB
    refine ⟨rfl, decide_eq_true ?_, decide_eq_true ?_, rfl⟩
    · by_cases h0 : i.natAbs = 0
      · rw [h0]; decide
      · exact (Nat.log2_lt h0).2 (Nat.lt_trans hi (by decide +kernel))
    · have := int_text_length_le10 (k := 90) (by decide) hi
      show (Str.ofString (toString i)).length ≤ 100
      rw [PySem.ofString_length]
      omega
  | str x =>
    refine ⟨h, rfl, ?_, rfl⟩
    have h' : PyData.strOk x = true := h
    unfold PyData.strOk at h'
    rw [Array.all_eq_true_iff_forall_mem] at h'
    simp only [PyData.leavesShort, List.all_eq_true, decide_eq_true_eq]
    intro c hc
    have := h' c (by simpa using hc)
    have : c < 0x110000 := of_decide_eq_true this
    omega
  | list xs => cases h
  | tuple xs => cases h
  | dict xs => cases h
theorem fn_facts {B : Nat} (hB : B < 10 ^ 90) : ∀ (e : Nat) (d : D), fnb B e d = true → d.canLay0 = true ∧ d.showable = true ∧ d.leavesShort 100 = true ∧ d.depth ≤ e
  | 0, d, h => by obtain ⟨a, b, c, q⟩ := lf_facts hB h; exact ⟨a, b, c, by omega⟩
  | e + 1, d, h => by
    have key : ∀ xs : List D, xs.all (fnb B e) = true → PyData.canLayAll0 xs = true ∧ PyData.showableAll xs = true ∧ PyData.leavesShortAll 100 xs = true ∧ PyData.depthAll xs ≤ e := fun xs hx => by
      rw [List.all_eq_true] at hx
      exact ⟨lay_all fun x m => (fn_facts hB e x (hx x m)).1, show_all fun x m => (fn_facts hB e x (hx x m)).2.1, short_all fun x m => (fn_facts hB e x (hx x m)).2.2.1, depth_all fun x m => (fn_facts hB e x (hx x m)).2.2.2⟩
    cases d with
    | list xs =>
      obtain ⟨a, b, c, q⟩ := key xs h
      refine ⟨by rw [PyData.canLay0]; exact a, by rw [PyData.showable]; exact b, by rw [PyData.leavesShort]; exact c, by rw [PyData.depth]; omega⟩
    | tuple xs =>
      obtain ⟨a, b, c, q⟩ := key xs h
      refine ⟨by rw [PyData.canLay0]; exact a, by rw [PyData.showable]; exact b, by rw [PyData.leavesShort]; exact c, by rw [PyData.depth]; omega⟩
    | dict xs => cases h
    | none => exact ⟨rfl, rfl, rfl, Nat.zero_le _⟩
    | bool b => exact ⟨rfl, rfl, rfl, Nat.zero_le _⟩
    | int i => obtain ⟨a, b, c, q⟩ := lf_facts hB (d := .int i) h; exact ⟨a, b, c, by omega⟩
    | str i => obtain ⟨a, b, c, q⟩ := lf_facts hB (d := .str i) h; exact ⟨a, b, c, by omega⟩
theorem fn_shaped {B e : Nat} {d : D} (h : fnb B e d = true) (hB : B < 10 ^ 90) (he : e ≤ 64) : SeqAt.shaped d = true := by
  obtain ⟨a, b, c, q⟩ := fn_facts hB e d h
  unfold SeqAt.shaped
  rw [a, Bool.true_and]
  exact decide_eq_true (by omega)
theorem fn_mono {B B' : Nat} (hB : B ≤ B') : ∀ (e e' : Nat) (d : D), e ≤ e' → fnb B e d = true → fnb B' e' d = true := by
  have hl : ∀ d, lfb B d = true → lfb B' d = true := fun d h => by
    cases d <;> first | exact h | (exact decide_eq_true (Nat.le_trans (of_decide_eq_true h) hB))
  intro e
  induction e with
  | zero => intro e' d _ h; exact lfb_fnb (hl d h)
  | succ e ih =>
    intro e' d he h
    obtain ⟨f, rfl⟩ : ∃ f, e' = f + 1 := ⟨e' - 1, by omega⟩
    cases d with
    | list xs =>
      have h' : xs.all (fnb B e) = true := h
      show xs.all (fnb B' f) = true
      rw [List.all_eq_true] at h' ⊢
      exact fun x m => ih f x (by omega) (h' x m)
    | tuple xs =>
      have h' : xs.all (fnb B e) = true := h
      show xs.all (fnb B' f) = true
      rw [List.all_eq_true] at h' ⊢
      exact fun x m => ih f x (by omega) (h' x m)
    | none => rfl
    | bool b => rfl
    | int i => exact hl (.int i) h
    | str i => exact hl (.str i) h
    | dict kv => cases h
theorem wAll_sum : ∀ xs : List D, PyData.weightAll xs = (xs.map fun x => PyData.weight x + 1).sum
  | [] => rfl
  | x :: xs => by rw [PyData.weightAll, wAll_sum xs, List.map_cons, List.sum_cons]
theorem eqv_str {a b : Str} : PyData.eqv (.str a) (.str b) = decide (a = b) := by
  show (a == b) = decide (a = b)
  by_cases h : a = b <;> simp [h]
theorem ne_ok {x y : D} (hx : SeqAt.shaped x = true) (hy : SeqAt.shaped y = true) : gNe x y = some (.pure (.bool (!PyData.eqv x y))) := by
  have h0 : gNe0 x y = some (.pure (.bool (!PyData.eqv x y))) := if_pos ⟨hx, hy⟩
  cases x with
  | str a =>
    cases y with
    | str b => rw [eqv_str]; rfl
    | _ => exact h0
  | _ => exact h0
end Lw
namespace Lw
open PySem PySem.Spec PyProof.Rows L2
local macro_rules | `(tactic| walk_at "lw e") => `(tactic| (repeat (first | (with_reducible refine Stp.go ?_) | (with_reducible apply Exists.intro) | ((with_reducible refine And.intro ?_ ?_); · (first | (with_reducible exact Evl.ev) | ((fail_if_success (with_reducible refine Gd.keep ?_)); rfl) | ((with_reducible apply mul_r); decide) | ((with_reducible apply mul_l); decide) | ((with_reducible apply div_i); decide) | ((with_reducible apply in_R); decide) | (exact Nat.le_of_ble_eq_true rfl) | (simp [refsOf]; done) | (exact ⟨rfl, rfl, by decide⟩) | (exact ⟨rfl, rfl, rfl⟩))) | ((with_reducible apply Sm.vrP); (focus rfl)) | ((with_reducible apply Sm.vrO); (focus rfl)) | (with_reducible refine iteTT ?_) | (with_reducible refine iteT ?_) | (with_reducible refine iteF ?_) | ((with_reducible refine iteB1 ?_ ?_); (focus rfl)) | ((with_reducible refine iteB0 ?_ ?_); (focus rfl)))))
local macro_rules | `(tactic| walk_at "lw n") => `(tactic| (try dsimp only [ent, List.map, Nat.reduceAdd, Nat.reduceSub, List.length_cons, List.length_nil, List.replicate_succ, List.replicate_zero, List.cons_append, List.nil_append, putBack, setOwn, List.getElem?_cons_zero, List.getElem?_cons_succ, List.set_cons_zero, List.set_cons_succ, Sm.nf]))
local macro_rules | `(tactic| walk_at "lw v") => `(tactic| (try simp only [pb1, pb2, pb3, pb4]))
theorem at_list {xs : List D} {i : Int} (h0 : 0 ≤ i) (h1 : i < xs.length) : gIx (.list xs) (.int i) = some (.pure (xs.getD i.toNat .none)) := by
  have hl : i.toNat < xs.length := by omega
  have : atI xs i = some (xs.getD i.toNat .none) := by
    unfold atI ixN
    simp only [h0, if_true]
    rw [if_pos (by omega)]
    simp [hl]
  show (atI xs i).map R.pure = _
  rw [this]; rfl
theorem at_tup {xs : List D} {i : Int} (h0 : 0 ≤ i) (h1 : i < xs.length) : gIx (.tuple xs) (.int i) = some (.pure (xs.getD i.toNat .none)) := at_list h0 h1
theorem getD_mem {xs : List D} {i : Int} (h0 : 0 ≤ i) (h1 : i < xs.length) : xs.getD i.toNat .none ∈ xs := by
  have hl : i.toNat < xs.length := by omega
  rw [List.getD_eq_getElem?_getD, List.getElem?_eq_getElem hl]
  exact List.getElem_mem hl
/-- something was drawn: P holds of it -/
def DrawQ (c : Nat) (P : D → Prop) (rest : List S) (r : R) (outs : List S) : Prop := ∃ d ds', r = .pure d ∧ P d ∧ Box c ds' ∧ outs = .own true ds' :: rest
theorem of_ok {c : Nat} {ds xs : List D} (hb : Box (c + 16) ds) (h1 : 1 ≤ xs.length) (h2 : xs.length ≤ 10000) : wpf m_l_of [.own true ds, .pure (.list xs)] (DrawQ c (· ∈ xs) [.pure (.list xs)]) := by
  refine Sm.run ?_
  unfold g_l_of
  walk_at "lw e"
  refine Sm.fmono (take4 hb (by omega) (by omega)) fun r o h => ?_
  obtain ⟨v, ds', rfl, a1, a2, hb', rfl⟩ := h
  refine ⟨nref, ?_⟩
  walk_at "lw e"
  refine ⟨at_list a1 a2, ?_⟩
  walk_at "lw e"
  exact ⟨_, ds', rfl, getD_mem a1 a2, hb', rfl⟩
def oddP (d : D) : Prop := fnb 10 2 d = true ∧ d.weight ≤ 60
theorem odd_ok {c : Nat} {ds : List D} (hb : Box (c + 16) ds) : wpf m_l_odd [.own true ds] (DrawQ c oddP []) := by
  refine Sm.run ?_
  unfold g_l_odd
  walk_at "lw e"
  refine Sm.fmono (of_ok hb (by decide) (by decide)) fun r o h => ?_
  obtain ⟨d, ds', rfl, hm, hb', rfl⟩ := h
  refine ⟨nref, ?_⟩
  walk_at "lw e"
  refine ⟨d, ds', rfl, ?_, hb', rfl⟩
  have : ∀ x ∈ ([.none, .bool true, .bool false, .int 0, .int 1, .int (-1), .int 7, .str "", .str "a", .str "low", .str "fill", .tuple [], .list [], .tuple [.int 1], .list [.int 0], .tuple [.str "fill", .int 1], .tuple [.tuple [.int 0, .int 1, .int 1]]] : List D), (fnb 10 2 x && decide (x.weight ≤ 60)) = true := by decide +kernel
  have := this d hm
  rw [Bool.and_eq_true] at this
  exact ⟨this.1, of_decide_eq_true this.2⟩
theorem great_ok {c : Nat} {ds : List D} (hb : Box (c + 16) ds) : wpf m_l_great [.own true ds] (DrawQ c (fun d => ∃ g : Nat, d = .int g ∧ 1 ≤ g ∧ g ≤ 1000000000000000) []) := by
  refine Sm.run ?_
  unfold g_l_great
  walk_at "lw e"
  refine Sm.fmono (take4 hb (by decide) (by decide)) fun r o h => ?_
  obtain ⟨v, ds', rfl, a1, a2, hb', rfl⟩ := h
  refine ⟨nref, ?_⟩
  walk_at "lw e"
  refine ⟨at_list a1 (by exact a2), ?_⟩
  walk_at "lw e"
  refine ⟨_, ds', rfl, ?_, hb', rfl⟩
  have hv : v = 0 ∨ v = 1 ∨ v = 2 ∨ v = 3 ∨ v = 4 := by omega
  rcases hv with rfl | rfl | rfl | rfl | rfl
  · exact ⟨1, rfl, by decide, by decide⟩
  · exact ⟨1, rfl, by decide, by decide⟩
  · exact ⟨1, rfl, by decide, by decide⟩
  · exact ⟨1000000, rfl, by decide, by decide⟩
  · exact ⟨1000000000000000, rfl, by decide, by decide⟩
/-- a pound by draws -/
def Pound (g : Nat) (d : D) : Prop := ∃ a b s : Int, d = .tuple [.int (a * g), .int ((a + b) * g), .int (s * g)] ∧ 0 ≤ a ∧ a < 4 ∧ 0 ≤ b ∧ b < 30 ∧ 1 ≤ s ∧ s < 5
def StairP (g cap : Nat) (d : D) : Prop := ∃ xs, d = .tuple xs ∧ 1 ≤ xs.length ∧ xs.length ≤ cap ∧ ∀ x ∈ xs, Pound g x
def pk3 (v : Int) : Int := if v = 0 then 2 else if v = 1 then 8 else 30
theorem pk3_b (v : Int) : 1 ≤ pk3 v ∧ pk3 v ≤ 30 := by unfold pk3; split; decide; split <;> decide
theorem pick3 {v : Int} (h0 : 0 ≤ v) (h1 : v < 3) : gIx (.list [.int 2, .int 8, .int 30]) (.int v) = some (.pure (.int (pk3 v))) := by
  have hv : v = 0 ∨ v = 1 ∨ v = 2 := by omega
  rcases hv with rfl | rfl | rfl <;> rfl
theorem rng_at {n i : Nat} {d : D} (h : (rngD 0 n)[i]? = some d) : i < n ∧ d = .int i := by
  have hl : i < n := by
    obtain ⟨h1, -⟩ := List.getElem?_eq_some_iff.1 h
    rw [rngD_len] at h1
    exact h1
  rw [rngD_get n 0 i hl] at h
  cases h
  exact ⟨hl, by rw [Int.zero_add]⟩
theorem in_R {i : Int} (h : -1000 ≤ i ∧ i ≤ 100000) : inR i = true := by
  unfold inR
  rw [Bool.and_eq_true]
  exact ⟨decide_eq_true (by omega), decide_eq_true (by omega)⟩
theorem app_ok {ds : List D} {d : D} (h : ds.length < 10000) : hApp ds [d] = some (.none, ds ++ [d]) := by
  unfold hApp
  have hs : sizeLine = 16777216 := rfl
  exact if_pos (by omega)
theorem fr_free {ς : En} {i : Nat} {o : Option S} (h : ς[i]? = some o) (f : Fr o) : free ς i = true := by
  unfold free
  rw [h]
  rcases o with _ | _ | ⟨_ | _, _⟩ | _
  · rfl
  · rfl
  · rfl
  · exact f.elim
  · exact f.elim
theorem stair_ok {c cap g : Nat} {ds : List D} (hc : 1 ≤ cap) (hc2 : cap ≤ 100) (hg : g ≤ 1000000000000000) (hb : Box (c + 64 * cap + 16) ds) : wpf m_l_stair [.own true ds, .pure (.int cap), .pure (.int g)] (DrawQ c (StairP g cap) [.pure (.int cap), .pure (.int g)]) := by
  refine Sm.run ?_
  unfold g_l_stair
  walk_at "lw e"
  refine Sm.fmono (take4 hb (by omega) (by omega)) fun r o h => ?_
  obtain ⟨v, ds', rfl, a1, a2, hb', rfl⟩ := h
  refine ⟨nref, ?_⟩
  walk_at "lw e"
  refine ⟨in_R (by omega), ?_⟩
  refine Sm.loopInv (fun i ς => ∃ bs ys : List D, ∃ o4 o5 o6 o7, ς = [some (.own true bs), some (.pure (.int cap)), some (.pure (.int g)), some (.own false ys), o4, o5, o6, o7] ∧ Box (c + 64 * (cap - i)) bs ∧ ys.length = i ∧ (∀ x ∈ ys, Pound g x) ∧ Fr o4 ∧ Fr o5 ∧ Fr o6 ∧ Fr o7) ⟨_, _, _, _, _, _, rfl, hb'.less (by omega), rfl, (fun x h => nomatch h), trivial, trivial, trivial, trivial⟩ ?_ ?_
  · rintro i d ς hd ⟨bs, ys, o4, o5, o6, o7, rfl, hbs, hlen, hys, f4, f5, f6, f7⟩
    obtain ⟨hi, rfl⟩ := rng_at hd
    refine ⟨_, tgN_o rfl f4, ?_⟩
    walk_at "lw e"
    (refine Sm.fmono (take4 (c := c + 64 * (cap - i) - 16) (Box.less hbs (by omega)) (by omega) (by omega)) fun r o h => ?_; obtain ⟨v1, b1, rfl, l1, u1, h1, rfl⟩ := h; refine ⟨nref, ?_⟩; walk_at "lw n"; walk_at "lw e")
    (refine Sm.fmono (take4 (c := c + 64 * (cap - i) - 32) (Box.less h1 (by omega)) (by omega) (by omega)) fun r o h => ?_; obtain ⟨v2, b2, rfl, l2, u2, h2, rfl⟩ := h; refine ⟨nref, ?_⟩; walk_at "lw n"; walk_at "lw e")
    have k12 := pk3_b v2
    refine ⟨pick3 l2 u2, ?_⟩
    walk_at "lw e"
    (refine Sm.fmono (take4 (c := c + 64 * (cap - i) - 48) (Box.less h2 (by omega)) (by omega) (by omega)) fun r o h => ?_; obtain ⟨v3, b3, rfl, l3, u3, h3, rfl⟩ := h; refine ⟨nref, ?_⟩; walk_at "lw n"; walk_at "lw e")
    (refine Sm.fmono (take4 (c := c + 64 * (cap - i) - 64) (Box.less h3 (by omega)) (by omega) (by omega)) fun r o h => ?_; obtain ⟨v4, b4, rfl, l4, u4, h4, rfl⟩ := h; refine ⟨nref, ?_⟩; walk_at "lw n"; walk_at "lw e")
    refine ⟨⟨fr_free rfl f5, fr_free rfl f6, fr_free rfl f7⟩, ?_⟩
    walk_at "lw n"
    walk_at "lw e"
    refine ⟨mul_r (by omega), ?_⟩
    walk_at "lw e"
    refine ⟨mul_r (by omega), ?_⟩
    walk_at "lw e"
    refine ⟨mul_r (by omega), ?_⟩
    walk_at "lw e"
    refine ⟨app_ok (by omega), ?_⟩
    refine ⟨_, _, _, _, _, _, rfl, h4.less (by omega), by rw [List.length_append, hlen]; rfl, ?_, trivial, trivial, trivial, trivial⟩
    intro x hx
    rw [List.mem_append] at hx
    rcases hx with hx | hx
    · exact hys x hx
    · cases List.mem_singleton.1 hx
      exact ⟨v1, v3, 1 + v4, rfl, l1, u1, l3, by omega, by omega, by omega⟩
  · rintro ς ⟨bs, ys, o4, o5, o6, o7, rfl, hbs, hlen, hys, f4, f5, f6, f7⟩
    walk_at "lw e"
    rw [rngD_len] at hlen
    exact ⟨_, _, rfl, ⟨ys, rfl, by omega, by omega, hys⟩, hbs.less (by omega), rfl⟩
end Lw
namespace Lw
open PySem PySem.Spec PyProof.Rows L2
local macro_rules | `(tactic| walk_at "lw e") => `(tactic| (repeat (first | (with_reducible refine Stp.go ?_) | (with_reducible apply Exists.intro) | ((with_reducible refine And.intro ?_ ?_); · (first | (with_reducible exact Evl.ev) | ((fail_if_success (with_reducible refine Gd.keep ?_)); rfl) | ((with_reducible apply mul_r); decide) | ((with_reducible apply mul_l); decide) | ((with_reducible apply div_i); decide) | ((with_reducible apply in_R); decide) | (exact Nat.le_of_ble_eq_true rfl) | (simp [refsOf]; done) | (exact ⟨rfl, rfl, by decide⟩) | (exact ⟨rfl, rfl, rfl⟩))) | ((with_reducible apply Sm.vrP); (focus rfl)) | ((with_reducible apply Sm.vrO); (focus rfl)) | (with_reducible refine iteTT ?_) | (with_reducible refine iteT ?_) | (with_reducible refine iteF ?_) | ((with_reducible refine iteB1 ?_ ?_); (focus rfl)) | ((with_reducible refine iteB0 ?_ ?_); (focus rfl)))))
local macro_rules | `(tactic| walk_at "lw n") => `(tactic| (try dsimp only [ent, List.map, Nat.reduceAdd, Nat.reduceSub, List.length_cons, List.length_nil, List.replicate_succ, List.replicate_zero, List.cons_append, List.nil_append, putBack, setOwn, List.getElem?_cons_zero, List.getElem?_cons_succ, List.set_cons_zero, List.set_cons_succ, Sm.nf]))
local macro_rules | `(tactic| walk_at "lw v") => `(tactic| (try simp only [pb1, pb2, pb3, pb4]))
def ValQ (P : D → Prop) (r : R) (_ : List S) : Prop := ∃ d, r = .pure d ∧ P d
abbrev TrueQ : R → List S → Prop := ValQ fun d => d = .bool true
theorem iteB1 {b : Bool} {A B : Prop} (e : b = true) (h : A) : if b = true then A else B := by rw [if_pos e]; exact h
theorem iteB0 {b : Bool} {A B : Prop} (e : b = false) (h : B) : if b = true then A else B := by rw [if_neg (by rw [e]; decide)]; exact h
def lcQ (vs : List Nat) (tg : Tg) (tt : M Bool) (fe : M R) (ds : List D) (ς : En) (Q : List D → En → Prop) : Prop := ∃ acc ς2, lcLoop vs tg tt fe ds [] ς = some (acc, ς2) ∧ Q acc ς2
theorem Sm.lcE2 {ς : En} {fi : M (List D)} {vs : List Nat} {tg : Tg} {tt : M Bool} {fe : M R} {Q : R → En → Prop}
    (h : wp fi ς fun ds ς1 => freeAll ς1 vs = true ∧ lcQ vs tg tt fe ds (wipeE ς1 vs) fun acc ς2 => Q (.fresh acc) ς2) : wp (Lw.lcE fi vs tg tt fe) ς Q := Sm.lcE h
namespace Sm
section
variable {ς : En}
instance stp_lcE2 {ς : En} {fi : M (List D)} {vs : List Nat} {tg : Tg} {tt : M Bool} {fe : M R} {Q : R → En → Prop} : Stp (wp (Lw.lcE fi vs tg tt fe) ς Q) (wp fi ς fun ds ς1 => freeAll ς1 vs = true ∧ lcQ vs tg tt fe ds (wipeE ς1 vs) fun acc ς2 => Q (.fresh acc) ς2) := ⟨Sm.lcE2⟩
end
end Sm
theorem Sm.lcPure {ς : En} {vs : List Nat} {tg : Tg} {fe : M R} {ds : List D} {Q : List D → En → Prop} (f : D → D) (hlen : ds.length ≤ sizeLine)
    (hs : ∀ d ∈ ds, ∃ ς1, tg d ς = some ς1 ∧ wp fe ς1 fun r ς2 => ∃ ς3, toD r ς2 = some (f d, ς3) ∧ freeAll ς3 vs = true ∧ wipeE ς3 vs = ς)
    (hd : Q (ds.map f) ς) : lcQ vs tg (Lw.ret true) fe ds ς Q := by
  refine Sm.lcInv (fun i acc ς' => acc = (ds.take i).map f ∧ ς' = ς) ⟨by simp, rfl⟩ hlen ?_ ?_
  · rintro i d acc ς' hi _ ⟨rfl, rfl⟩
    obtain ⟨ς1, e1, h⟩ := hs d (List.mem_of_getElem? hi)
    refine ⟨ς1, e1, Sm.mono h fun r ς2 h => ?_⟩
    obtain ⟨ς3, e3, hf, hw⟩ := h
    refine ⟨_, ς3, e3, hf, ?_, hw⟩
    rw [List.take_add_one, hi]
    simp
  · rintro acc ς' _ ⟨rfl, rfl⟩
    rw [List.take_length]
    exact hd
local macro_rules | `(tactic| walk_at "lw e") => `(tactic| (repeat (first | (with_reducible refine Stp.go ?_) | (with_reducible apply Exists.intro) | ((with_reducible refine And.intro ?_ ?_); · (first | (with_reducible exact Evl.ev) | ((fail_if_success (with_reducible refine Gd.keep ?_)); rfl) | ((with_reducible apply mul_r); decide) | ((with_reducible apply mul_l); decide) | ((with_reducible apply div_i); decide) | ((with_reducible apply in_R); decide) | (exact Nat.le_of_ble_eq_true rfl) | (simp [refsOf]; done) | (exact ⟨rfl, rfl, by decide⟩) | (exact ⟨rfl, rfl, rfl⟩))) | ((with_reducible apply Sm.vrP); (focus rfl)) | ((with_reducible apply Sm.vrO); (focus rfl)) | (with_reducible refine iteTT ?_) | (with_reducible refine iteT ?_) | (with_reducible refine iteF ?_) | ((with_reducible refine iteB1 ?_ ?_); (focus rfl)) | ((with_reducible refine iteB0 ?_ ?_); (focus rfl)))))
local macro_rules | `(tactic| walk_at "lw n") => `(tactic| (try dsimp only [ent, List.map, Nat.reduceAdd, Nat.reduceSub, List.length_cons, List.length_nil, List.replicate_succ, List.replicate_zero, List.cons_append, List.nil_append, putBack, setOwn, List.getElem?_cons_zero, List.getElem?_cons_succ, List.set_cons_zero, List.set_cons_succ, Sm.nf]))
local macro_rules | `(tactic| walk_at "lw v") => `(tactic| (try simp only [pb1, pb2, pb3, pb4]))
theorem bools_mk : ∀ bs : List Bool, bools (bs.map PyData.bool) = some bs
  | [] => rfl
  | b :: bs => by rw [List.map_cons, bools, bools_mk bs]
theorem all_mk {xs : List D} {p : D → Bool} : gAll (.list (xs.map fun x => .bool (p x))) = some (.pure (.bool (xs.all p))) := by
  unfold gAll
  have : xs.map (fun x => PyData.bool (p x)) = (xs.map p).map PyData.bool := by rw [List.map_map]; rfl
  rw [this]
  simp only [bools_mk]
  rw [List.all_map]; rfl
theorem eqv_int {a b : Int} : PyData.eqv (.int a) (.int b) = decide (a = b) := by
  show (a == b) = decide (a = b)
  by_cases h : a = b <;> simp [h]
theorem w_len (xs : List D) : xs.length ≤ PyData.weightAll xs := by
  induction xs with
  | nil => exact Nat.zero_le _
  | cons x xs ih => rw [PyData.weightAll, List.length_cons]; omega
theorem w_mem {xs : List D} {x : D} (h : x ∈ xs) : x.weight ≤ PyData.weightAll xs := by
  induction xs with
  | nil => cases h
  | cons y xs ih =>
    rw [PyData.weightAll]
    rcases List.mem_cons.1 h with rfl | h
    · omega
    · have := ih h; omega
theorem zip_self {xs : List D} {d : D} (h : d ∈ zipD xs xs) : ∃ a, a ∈ xs ∧ d = .tuple [a, a] := by
  obtain ⟨i, hi⟩ := List.mem_iff_getElem?.1 h
  obtain ⟨a, b, h1, h2, rfl⟩ := zipD_get xs xs i d hi
  rw [h1] at h2
  cases h2
  exact ⟨a, List.mem_of_getElem? h1, rfl⟩
theorem pb0 {o : List S} {ς : En} : putBack [] o ς = ς := by cases o <;> rfl
theorem pbv {a : D} {as : List Ar} {o : List S} {ς : En} (h : ∀ o, putBack as o ς = ς) : putBack (.val a :: as) o ς = ς := by
  cases o with
  | nil => rfl
  | cons s o => exact h o
theorem pb1 {a : D} {o : List S} {ς : En} : putBack [.val a] o ς = ς := pbv fun _ => pb0
theorem pb2 {a b : D} {o : List S} {ς : En} : putBack [.val a, .val b] o ς = ς := pbv fun _ => pb1
theorem pb3 {a b c : D} {o : List S} {ς : En} : putBack [.val a, .val b, .val c] o ς = ς := pbv fun _ => pb2
theorem pb4 {a b c d : D} {o : List S} {ς : En} : putBack [.val a, .val b, .val c, .val d] o ς = ς := pbv fun _ => pb3
local macro_rules | `(tactic| walk_at "lw e") => `(tactic| (repeat (first | (with_reducible refine Stp.go ?_) | (with_reducible apply Exists.intro) | ((with_reducible refine And.intro ?_ ?_); · (first | (with_reducible exact Evl.ev) | ((fail_if_success (with_reducible refine Gd.keep ?_)); rfl) | ((with_reducible apply mul_r); decide) | ((with_reducible apply mul_l); decide) | ((with_reducible apply div_i); decide) | ((with_reducible apply in_R); decide) | (exact Nat.le_of_ble_eq_true rfl) | (simp [refsOf]; done) | (exact ⟨rfl, rfl, by decide⟩) | (exact ⟨rfl, rfl, rfl⟩))) | ((with_reducible apply Sm.vrP); (focus rfl)) | ((with_reducible apply Sm.vrO); (focus rfl)) | (with_reducible refine iteTT ?_) | (with_reducible refine iteT ?_) | (with_reducible refine iteF ?_) | ((with_reducible refine iteB1 ?_ ?_); (focus rfl)) | ((with_reducible refine iteB0 ?_ ?_); (focus rfl)))))
local macro_rules | `(tactic| walk_at "lw n") => `(tactic| (try dsimp only [ent, List.map, Nat.reduceAdd, Nat.reduceSub, List.length_cons, List.length_nil, List.replicate_succ, List.replicate_zero, List.cons_append, List.nil_append, putBack, setOwn, List.getElem?_cons_zero, List.getElem?_cons_succ, List.set_cons_zero, List.set_cons_succ, Sm.nf]))
local macro_rules | `(tactic| walk_at "lw v") => `(tactic| (try simp only [pb1, pb2, pb3, pb4]))
theorem same_ok {B : Nat} (hB : B < 10 ^ 90) : ∀ (e n : Nat) (d : D), fnb B e d = true → e < n → e ≤ 64 → d.weight ≤ 160000 → wpf (m_l_same n) [.pure d, .pure d] TrueQ := by
  intro e
  induction e with
  | zero =>
    intro n d h hn he hw
    obtain ⟨m, rfl⟩ : ∃ m, n = m + 1 := ⟨n - 1, by omega⟩
    have hs := fn_shaped h hB he
    show wpf (runFn (g_l_same (m_l_same m)) 4) _ _
    refine Sm.run ?_
    unfold g_l_same
    have hr : PyData.eqv d d = true := SeqAt.eqv_refl d (fn_facts hB 0 d h).1
    cases d with
    | none => walk_at "lw e"; exact ⟨_, rfl, rfl⟩
    | bool b => walk_at "lw e"; exact ⟨_, rfl, by rw [hr]⟩
    | int i => walk_at "lw e"; exact ⟨_, rfl, by rw [hr]⟩
    | str x =>
      walk_at "lw e"
      refine iteB1 (decide_eq_true rfl) ?_
      walk_at "lw e"
      exact ⟨_, rfl, rfl⟩
    | list xs => cases h
    | tuple xs => cases h
    | dict xs => cases h
  | succ e ih =>
    intro n d h hn he hw
    obtain ⟨m, rfl⟩ : ∃ m, n = m + 1 := ⟨n - 1, by omega⟩
    have hs := fn_shaped h hB he
    show wpf (runFn (g_l_same (m_l_same m)) 4) _ _
    refine Sm.run ?_
    unfold g_l_same
    have hr : PyData.eqv d d = true := SeqAt.eqv_refl d (fn_facts hB (e + 1) d h).1
    cases d with
    | none => walk_at "lw e"; exact ⟨_, rfl, rfl⟩
    | bool b => walk_at "lw e"; exact ⟨_, rfl, by rw [hr]⟩
    | int i => walk_at "lw e"; exact ⟨_, rfl, by rw [hr]⟩
    | str x =>
      walk_at "lw e"
      refine iteB1 (decide_eq_true rfl) ?_
      walk_at "lw e"
      exact ⟨_, rfl, rfl⟩
    | list xs =>
      have hw' : PyData.weightAll xs ≤ 160000 := hw
      have hl := w_len xs
      have hsl : sizeLine = 16777216 := rfl
      have hx : ∀ x ∈ xs, fnb B e x = true := List.all_eq_true.1 h
      walk_at "lw e"
      refine iteB1 (by rw [eqv_int]; exact decide_eq_true rfl) ?_
      walk_at "lw e"
      refine ⟨.inl ⟨rfl, rfl⟩, ?_⟩
      walk_at "lw e"
      refine Sm.lcPure (ds := zipD xs xs) (fun _ => .bool true) (by rw [zipD_len]; omega) ?_ ?_
      · intro d hd
        obtain ⟨a, ha, rfl⟩ := zip_self hd
        refine ⟨_, tgT2_o rfl trivial rfl trivial, ?_⟩
        walk_at "lw e"
        have := w_mem ha
        refine Sm.fmono (ih m a (hx a ha) (by omega) (by omega) (by omega)) fun r o h => ?_
        obtain ⟨d, rfl, rfl⟩ := h
        refine ⟨nref, ?_⟩
        walk_at "lw v"
        walk_at "lw e"
        rfl
      · refine ⟨_, _, rfl, all_mk (p := fun _ => true), ?_⟩
        walk_at "lw e"
        refine ⟨_, rfl, ?_⟩
        rw [List.all_eq_true.2 (fun _ _ => rfl)]
    | tuple xs =>
      have hw' : PyData.weightAll xs ≤ 160000 := hw
      have hl := w_len xs
      have hsl : sizeLine = 16777216 := rfl
      have hx : ∀ x ∈ xs, fnb B e x = true := List.all_eq_true.1 h
      walk_at "lw e"
      refine iteB1 (by rw [eqv_int]; exact decide_eq_true rfl) ?_
      walk_at "lw e"
      refine ⟨.inr ⟨rfl, rfl⟩, ?_⟩
      walk_at "lw e"
      refine Sm.lcPure (ds := zipD xs xs) (fun _ => .bool true) (by rw [zipD_len]; omega) ?_ ?_
      · intro d hd
        obtain ⟨a, ha, rfl⟩ := zip_self hd
        refine ⟨_, tgT2_o rfl trivial rfl trivial, ?_⟩
        walk_at "lw e"
        have := w_mem ha
        refine Sm.fmono (ih m a (hx a ha) (by omega) (by omega) (by omega)) fun r o h => ?_
        obtain ⟨d, rfl, rfl⟩ := h
        refine ⟨nref, ?_⟩
        walk_at "lw v"
        walk_at "lw e"
        rfl
      · refine ⟨_, _, rfl, all_mk (p := fun _ => true), ?_⟩
        walk_at "lw e"
        refine ⟨_, rfl, ?_⟩
        rw [List.all_eq_true.2 (fun _ _ => rfl)]
    | dict xs => cases h
end Lw
namespace Lw
open PySem PySem.Spec PyProof.Rows L2
local macro_rules | `(tactic| walk_at "lw e") => `(tactic| (repeat (first | (with_reducible refine Stp.go ?_) | (with_reducible apply Exists.intro) | ((with_reducible refine And.intro ?_ ?_); · (first | (with_reducible exact Evl.ev) | ((fail_if_success (with_reducible refine Gd.keep ?_)); rfl) | ((with_reducible apply mul_r); decide) | ((with_reducible apply mul_l); decide) | ((with_reducible apply div_i); decide) | ((with_reducible apply in_R); decide) | (exact Nat.le_of_ble_eq_true rfl) | (simp [refsOf]; done) | (exact ⟨rfl, rfl, by decide⟩) | (exact ⟨rfl, rfl, rfl⟩))) | ((with_reducible apply Sm.vrP); (focus rfl)) | ((with_reducible apply Sm.vrO); (focus rfl)) | (with_reducible refine iteTT ?_) | (with_reducible refine iteT ?_) | (with_reducible refine iteF ?_) | ((with_reducible refine iteB1 ?_ ?_); (focus rfl)) | ((with_reducible refine iteB0 ?_ ?_); (focus rfl)))))
local macro_rules | `(tactic| walk_at "lw n") => `(tactic| (try dsimp only [ent, List.map, Nat.reduceAdd, Nat.reduceSub, List.length_cons, List.length_nil, List.replicate_succ, List.replicate_zero, List.cons_append, List.nil_append, putBack, setOwn, List.getElem?_cons_zero, List.getElem?_cons_succ, List.set_cons_zero, List.set_cons_succ, Sm.nf]))
local macro_rules | `(tactic| walk_at "lw v") => `(tactic| (try simp only [pb1, pb2, pb3, pb4]))
theorem w_app (xs ys : List D) : PyData.weightAll (xs ++ ys) = PyData.weightAll xs + PyData.weightAll ys := by
  rw [wAll_sum, wAll_sum, wAll_sum, List.map_append, List.sum_append]
theorem w_rev (xs : List D) : PyData.weightAll xs.reverse = PyData.weightAll xs := by
  rw [wAll_sum, wAll_sum, List.map_reverse, List.sum_reverse]
theorem w_sub {xs ys : List D} (h : ys.Sublist xs) : PyData.weightAll ys ≤ PyData.weightAll xs := by
  induction h with
  | slnil => exact Nat.le_refl _
  | cons a h ih => rw [PyData.weightAll]; omega
  | cons_cons a h ih => rw [PyData.weightAll, PyData.weightAll]; omega
theorem w_set {xs : List D} {i : Nat} {x y : D} (h : xs[i]? = some x) : PyData.weightAll (xs.set i y) + x.weight = PyData.weightAll xs + y.weight := by
  induction xs generalizing i with
  | nil => cases h
  | cons a xs ih =>
    cases i with
    | zero => cases h; rw [List.set_cons_zero, PyData.weightAll, PyData.weightAll]; omega
    | succ i => rw [List.getElem?_cons_succ] at h; have := ih h; rw [List.set_cons_succ, PyData.weightAll, PyData.weightAll]; omega
theorem cut_sub (xs : List D) (lo hi : Option Int) : (cutD xs lo hi).Sublist xs := (List.take_sublist _ _).trans (List.drop_sublist _ _)
theorem cat_ok {x y : List D} (h : x.length + y.length ≤ 1000000) : gAddA (.list x) (.list y) = some (.fresh (x ++ y)) := by
  have hs : sizeLine = 16777216 := rfl
  have : gCatL (.list x) (.list y) = some (.fresh (x ++ y)) := if_pos (by omega)
  show (match (none : Option R) with | some z => some z | none => _) = _
  show (match (none : Option R) with | some z => some z | none => _) = _
  show (match gCatL (.list x) (.list y) with | some z => some z | none => _) = _
  rw [this]
theorem strOk_str (s : String) : PyData.strOk (Str.ofString s) = true := by
  rw [PySem.Str.ofString_eq_toList]
  unfold PyData.strOk
  simp only [List.all_toArray, List.all_map, List.all_eq_true, Function.comp]
  intro c _
  exact decide_eq_true (by
    have := c.valid
    rcases this with h | h
    · exact Nat.lt_trans h (by decide)
    · exact h.2)
theorem strOf_ok {B : Nat} (hB : B < 10 ^ 90) {i : Int} (h : i.natAbs ≤ B) : gStrOf (.int i) = some (.pure (.str (Str.ofString (toString i)))) := by
  obtain ⟨-, h2, -, -⟩ := lf_facts hB (d := .int i) (decide_eq_true h)
  exact if_pos (of_decide_eq_true h2)
theorem w_str {B : Nat} (hB : B < 10 ^ 90) {i : Int} (h : i.natAbs ≤ B) : (PyData.str (Str.ofString (toString i))).weight ≤ 100 := by
  obtain ⟨-, -, h2, -⟩ := lf_facts hB (d := .int i) (decide_eq_true h)
  have : (Str.ofString (toString i)).length ≤ 100 := of_decide_eq_true h2
  exact this
theorem w_int {B : Nat} (hB : B < 10 ^ 90) {i : Int} (h : i.natAbs ≤ B) : (PyData.int i).weight ≤ 300 := by
  show (if i == 0 then 0 else i.natAbs.log2 + 1) ≤ 300
  split
  · omega
  · rename_i h0
    have h0 : i.natAbs ≠ 0 := by
      intro z
      exact h0 (by simp [Int.natAbs_eq_zero.1 z])
    have := (Nat.log2_lt (k := 299) h0).2 (Nat.lt_trans (Nat.lt_of_le_of_lt h hB) (by decide +kernel))
    omega
/-- what is bent -/
def BentQ (c B e : Nat) (d : D) (r : R) (outs : List S) : Prop := ∃ d' ds', (r = .pure d' ∨ ∃ xs, r = .fresh xs ∧ d' = .list xs) ∧ fnb (B + 10000000000000000000) (e + 2) d' = true ∧ d'.weight ≤ 3 * d.weight + 800 ∧ Box c ds' ∧ outs = [.own true ds', .pure d]
theorem odd_bent {c B e : Nat} {d : D} {bs : List D} {d' : D} (h : oddP d') (hb : Box c bs) : BentQ c B e d (.pure d') [.own true bs, .pure d] :=
  ⟨d', bs, .inl rfl, fn_mono (by omega) 2 (e + 2) d' (by omega) h.1, Nat.le_trans h.2 (by omega), hb, rfl⟩
theorem leaf_bent {c B e : Nat} {d : D} {bs xs : List D} {i : Int} (h0 : 0 ≤ i) (h1 : i < xs.length) (hb : Box c bs) (hx : ∀ x ∈ xs, lfb (B + 10000000000000000000) x = true ∧ x.weight ≤ 800) : BentQ c B e d (.pure (xs.getD i.toNat .none)) [.own true bs, .pure d] := by
  have h := hx _ (getD_mem h0 h1)
  exact ⟨_, bs, .inl rfl, lfb_fnb h.1, Nat.le_trans h.2 (by omega), hb, rfl⟩
theorem mem8 {P : D → Prop} {a b c d e f g h : D} (pa : P a) (pb : P b) (pc : P c) (pd : P d) (pe : P e) (pf : P f) (pg : P g) (ph : P h) : ∀ x ∈ [a, b, c, d, e, f, g, h], P x := by
  intro x hx
  simp only [List.mem_cons, List.not_mem_nil, or_false] at hx
  rcases hx with rfl | rfl | rfl | rfl | rfl | rfl | rfl | rfl <;> assumption
theorem int_leaf {B : Nat} (hB : B < 10 ^ 90) {i : Int} (h : i.natAbs ≤ B) : lfb B (.int i) = true ∧ (PyData.int i).weight ≤ 800 := ⟨decide_eq_true h, Nat.le_trans (w_int hB h) (by decide)⟩
theorem fin_f {c B e w : Nat} {d : D} {bs ys : List D} (hw : d.weight = w) (h : ∀ y ∈ ys, fnb (B + 10000000000000000000) (e + 2) y = true) (h2 : PyData.weightAll ys ≤ 3 * w + 800) (hb : Box c bs) : BentQ c B (e + 1) d (.fresh ys) [.own true bs, .pure d] :=
  ⟨.list ys, bs, .inr ⟨ys, rfl, rfl⟩, List.all_eq_true.2 h, by rw [hw]; exact h2, hb, rfl⟩
theorem fin_t {c B e w : Nat} {d : D} {bs ys : List D} (hw : d.weight = w) (h : ∀ y ∈ ys, fnb (B + 10000000000000000000) (e + 2) y = true) (h2 : PyData.weightAll ys ≤ 3 * w + 800) (hb : Box c bs) : BentQ c B (e + 1) d (.pure (.tuple ys)) [.own true bs, .pure d] :=
  ⟨.tuple ys, bs, .inl rfl, List.all_eq_true.2 h, by rw [hw]; exact h2, hb, rfl⟩
theorem pop_ok {ds : List D} {i : Int} (h0 : 0 ≤ i) (h1 : i < ds.length) (h2 : ds.length ≤ 10000) : hPopAt ds [.int i] = some (ds.getD i.toNat .none, ds.eraseIdx i.toNat) := by
  unfold hPopAt
  dsimp only
  rw [if_pos ⟨by omega, by omega⟩]
  have : seqIndex? i ds.length = some i.toNat := by
    unfold seqIndex?
    simp only [show ¬ i < 0 by omega, if_false]
    rw [if_pos (by simp; omega)]
  have hl : i.toNat < ds.length := by omega
  simp only [this, List.getElem?_eq_getElem hl]
  simp [hl]
theorem ins_ok {ds : List D} {i : Int} {d : D} (h0 : 0 ≤ i) (h1 : i ≤ 100000) (h2 : ds.length ≤ 10000) : hIns ds [.int i, d] = some (.none, ds.take i.toNat ++ [d] ++ ds.drop i.toNat) := by
  have hs : sizeLine = 16777216 := rfl
  exact if_pos ⟨h0, by omega, by omega⟩
theorem ins_mem {ds : List D} {i : Nat} {d x : D} (h : x ∈ ds.take i ++ [d] ++ ds.drop i) : x ∈ ds ∨ x = d := by
  rcases List.mem_append.1 h with h | h
  · rcases List.mem_append.1 h with h | h
    · exact .inl (List.mem_of_mem_take h)
    · exact .inr (List.mem_singleton.1 h)
  · exact .inl (List.mem_of_mem_drop h)
theorem ins_w {ds : List D} {i : Nat} {d : D} : PyData.weightAll (ds.take i ++ [d] ++ ds.drop i) ≤ PyData.weightAll ds + d.weight + 1 := by
  have e : PyData.weightAll ds = PyData.weightAll (ds.take i) + PyData.weightAll (ds.drop i) := by rw [← w_app, List.take_append_drop]
  have e1 : PyData.weightAll [d] = d.weight + 1 := by rw [PyData.weightAll, PyData.weightAll]
  rw [w_app, w_app, e1]
  omega
theorem bent_ok {B : Nat} (hB1 : 1 ≤ B) (hB : B + 10000000000000000000 < 10 ^ 90) : ∀ (n e c : Nat) (bs : List D) (d : D), fnb B e d = true → e < n → d.weight ≤ 10000 → Box (c + 80 * n) bs → wpf (m_l_bent n) [.own true bs, .pure d] (BentQ c B e d) := by
  intro n
  induction n with
  | zero => intro e c bs d h hn; omega
  | succ n ih =>
    intro e c bs d h hn hw hb
    have hB' : B < 10 ^ 90 := by omega
    show wpf (runFn (g_l_bent (m_l_bent n)) 5) _ _
    refine Sm.run ?_
    unfold g_l_bent
    walk_at "lw n"
    walk_at "lw e"
    (refine Sm.fmono (take4 (c := c + 80 * n + 64) (Box.less hb (by omega)) (by omega) (by omega)) fun r o h => ?_; obtain ⟨v1, b1, rfl, l1, u1, h1, rfl⟩ := h; refine ⟨nref, ?_⟩; walk_at "lw n"; walk_at "lw e")
    cases d with
    | none =>
      walk_at "lw e"
      refine Sm.fmono (odd_ok (c := c) (h1.less (by omega))) fun r o h => ?_
      obtain ⟨d, ds', rfl, hm, hb', rfl⟩ := h
      refine ⟨nref, ?_⟩
      walk_at "lw e"
      exact odd_bent hm hb'
    | str x =>
      walk_at "lw e"
      refine Sm.fmono (odd_ok (c := c) (h1.less (by omega))) fun r o h => ?_
      obtain ⟨d, ds', rfl, hm, hb', rfl⟩ := h
      refine ⟨nref, ?_⟩
      walk_at "lw e"
      exact odd_bent hm hb'
    | bool b =>
      walk_at "lw e"
      by_cases h3 : 3 < v1
      · refine iteDT h3 ?_
        cases b with
        | true =>
          walk_at "lw e"
          refine ⟨at_list (by omega) (by show v1 - 4 < 8; omega), ?_⟩
          walk_at "lw e"
          exact leaf_bent (by omega) (by show v1 - 4 < 8; omega) (h1.less (by omega)) (mem8 (int_leaf hB (by omega)) (int_leaf hB (by show Int.natAbs (-1) ≤ _; omega)) (int_leaf hB (by show Int.natAbs 2 ≤ _; omega)) (int_leaf hB (by show Int.natAbs 0 ≤ _; omega)) ⟨rfl, Nat.zero_le _⟩ ⟨strOk_str "True", by decide +kernel⟩ ⟨rfl, Nat.zero_le _⟩ (int_leaf hB (by show Int.natAbs 10000000000000000001 ≤ _; omega)))
        | false =>
          walk_at "lw e"
          refine ⟨at_list (by omega) (by show v1 - 4 < 8; omega), ?_⟩
          walk_at "lw e"
          exact leaf_bent (by omega) (by show v1 - 4 < 8; omega) (h1.less (by omega)) (mem8 (int_leaf hB (by omega)) (int_leaf hB (by show Int.natAbs 0 ≤ _; omega)) (int_leaf hB (by show Int.natAbs 1 ≤ _; omega)) (int_leaf hB (by show Int.natAbs (-1) ≤ _; omega)) ⟨rfl, Nat.zero_le _⟩ ⟨strOk_str "False", by decide +kernel⟩ ⟨rfl, Nat.zero_le _⟩ (int_leaf hB (by show Int.natAbs 10000000000000000000 ≤ _; omega)))
      · refine iteDF h3 ?_
        walk_at "lw e"
        refine Sm.fmono (odd_ok (c := c) (h1.less (by omega))) fun r o h => ?_
        obtain ⟨d, ds', rfl, hm, hb', rfl⟩ := h
        refine ⟨nref, ?_⟩
        walk_at "lw e"
        exact odd_bent hm hb'
    | int i =>
      have hi : i.natAbs ≤ B := by
        have : lfb B (.int i) = true := by cases e <;> exact h
        exact of_decide_eq_true this
      walk_at "lw e"
      by_cases h3 : 3 < v1
      · refine iteDT h3 ?_
        walk_at "lw e"
        refine ⟨strOf_ok hB' hi, ?_⟩
        walk_at "lw e"
        refine ⟨at_list (by omega) (by show v1 - 4 < 8; omega), ?_⟩
        walk_at "lw e"
        exact leaf_bent (by omega) (by show v1 - 4 < 8; omega) (h1.less (by omega)) (mem8 (int_leaf hB (by omega)) (int_leaf hB (by omega)) (int_leaf hB (by omega)) (int_leaf hB (by omega)) ⟨rfl, Nat.zero_le _⟩ ⟨strOk_str _, Nat.le_trans (w_str hB' hi) (by decide)⟩ ⟨rfl, Nat.zero_le _⟩ (int_leaf hB (by omega)))
      · refine iteDF h3 ?_
        walk_at "lw e"
        refine Sm.fmono (odd_ok (c := c) (h1.less (by omega))) fun r o h => ?_
        obtain ⟨d, ds', rfl, hm, hb', rfl⟩ := h
        refine ⟨nref, ?_⟩
        walk_at "lw e"
        exact odd_bent hm hb'
    | list xs =>
      cases e with
      | zero => cases h
      | succ e =>
      have hx : ∀ x ∈ xs, fnb B e x = true := List.all_eq_true.1 h
      have hx' : ∀ x ∈ xs, fnb (B + 10000000000000000000) (e + 2) x = true := fun x m => fn_mono (by omega) e (e + 2) x (by omega) (hx x m)
      have hw' : PyData.weightAll xs ≤ 10000 := hw
      have hl := w_len xs
      walk_at "lw e"
      by_cases hz : xs.length = 0
      · refine iteB1 (by rw [eqv_int]; exact decide_eq_true (by omega)) ?_
        walk_at "lw e"
        refine Sm.fmono (odd_ok (c := c) (h1.less (by omega))) fun r o h => ?_
        obtain ⟨d, ds', rfl, hm, hb', rfl⟩ := h
        refine ⟨nref, ?_⟩
        walk_at "lw n"
        walk_at "lw e"
        exact odd_bent hm hb'

      refine iteB0 (by rw [eqv_int]; exact decide_eq_false (by omega)) ?_
      walk_at "lw e"
      by_cases hv : v1 = 0
      · subst hv
        walk_at "lw e"
        refine Sm.fmono (odd_ok (c := c) (h1.less (by omega))) fun r o h => ?_
        obtain ⟨d, ds', rfl, hm, hb', rfl⟩ := h
        refine ⟨nref, ?_⟩
        walk_at "lw n"
        walk_at "lw e"
        exact odd_bent hm hb'

      refine iteB0 (by rw [eqv_int]; exact decide_eq_false hv) ?_
      walk_at "lw e"
      (refine Sm.fmono (take4 (c := c + 80 * n + 48) (Box.less h1 (by omega)) (by omega) (by omega)) fun r o h => ?_; obtain ⟨v2, b2, rfl, l2, u2, h2, rfl⟩ := h; refine ⟨nref, ?_⟩; walk_at "lw n"; walk_at "lw e")
      have hmem := getD_mem l2 u2
      by_cases h7 : v1 < 7
      · refine iteDT h7 ?_
        walk_at "lw e"
        refine ⟨at_list l2 u2, ?_⟩
        walk_at "lw e"
        have hwm := w_mem hmem
        refine Sm.fmono (ih e (c + 48) _ _ (hx _ hmem) (by omega) (by omega) (h2.less (by omega))) fun r o h => ?_
        obtain ⟨d', ds', hr, hf, hwt, hb', rfl⟩ := h
        have hrr : ∀ i, r ≠ .ref i := by rcases hr with rfl | ⟨ys, rfl, rfl⟩ <;> (intro i z; cases z)
        have htd : ∀ ς, toD r ς = some (d', ς) := by rcases hr with rfl | ⟨ys, rfl, rfl⟩ <;> (intro ς; rfl)
        refine ⟨hrr, _, _, htd _, ?_⟩
        walk_at "lw n"
        walk_at "lw e"
        refine ⟨ix_in l2 u2, ?_⟩
        walk_at "lw n"
        walk_at "lw e"
        refine Sm.oM rfl (Sm.fF ?_); refine fin_f (w := PyData.weightAll xs) rfl ?_ ?_ (hb'.less (by omega))
        · intro y hy
          rcases List.mem_or_eq_of_mem_set hy with hy | rfl
          · exact hx' y hy
          · exact hf
        · have := w_set (y := d') (show xs[v2.toNat]? = some (xs.getD v2.toNat .none) by
            have hlt : v2.toNat < xs.length := by omega
            simp [hlt])
          omega
      have hv1 : v1 = 7 ∨ v1 = 8 ∨ v1 = 9 ∨ v1 = 10 ∨ v1 = 11 := by omega
      rcases hv1 with rfl | rfl | rfl | rfl | rfl
      · walk_at "lw e"
        refine ⟨pop_ok l2 u2 (by omega), ?_⟩
        walk_at "lw n"
        walk_at "lw e"
        refine Sm.oM rfl (Sm.fF ?_); refine fin_f (w := PyData.weightAll xs) rfl (fun y hy => hx' y (List.mem_of_mem_eraseIdx hy)) (Nat.le_trans (w_sub (List.eraseIdx_sublist _ _)) (by omega)) (h2.less (by omega))
      · walk_at "lw e"
        refine ⟨at_list l2 u2, ?_⟩
        walk_at "lw e"
        refine ⟨ins_ok l2 (by omega) (by omega), ?_⟩
        walk_at "lw n"
        walk_at "lw e"
        refine Sm.oM rfl (Sm.fF ?_); refine fin_f (w := PyData.weightAll xs) rfl ?_ ?_ (h2.less (by omega))
        · intro y hy
          rcases ins_mem hy with hy | rfl
          · exact hx' y hy
          · exact hx' _ hmem
        · have := ins_w (ds := xs) (i := v2.toNat) (d := xs.getD v2.toNat .none)
          have := w_mem hmem
          omega
      · walk_at "lw e"
        have hc : ∀ lo hi, (cutD xs lo hi).length ≤ xs.length := fun lo hi => (cut_sub xs lo hi).length_le
        refine ⟨cat_ok (by rw [List.length_reverse]; have := hc none (some v2); have := hc (some v2) (some (v2 + 2)); omega), ?_⟩
        walk_at "lw e"
        refine ⟨cat_ok (by rw [List.length_append, List.length_reverse]; have := hc none (some v2); have := hc (some v2) (some (v2 + 2)); have := hc (some (v2 + 2)) none; omega), ?_⟩
        walk_at "lw e"
        walk_at "lw n"
        walk_at "lw e"
        refine Sm.oM rfl (Sm.fF ?_); refine fin_f (w := PyData.weightAll xs) rfl ?_ ?_ (h2.less (by omega))
        · intro y hy
          rcases List.mem_append.1 hy with hy | hy
          · rcases List.mem_append.1 hy with hy | hy
            · exact hx' y ((cut_sub xs _ _).subset hy)
            · exact hx' y ((cut_sub xs _ _).subset (List.mem_reverse.1 hy))
          · exact hx' y ((cut_sub xs _ _).subset hy)
        · rw [w_app, w_app, w_rev]
          have := w_sub (cut_sub xs none (some v2))
          have := w_sub (cut_sub xs (some v2) (some (v2 + 2)))
          have := w_sub (cut_sub xs (some (v2 + 2)) none)
          omega
      · walk_at "lw e"
        (refine Sm.fmono (take4 (c := c + 80 * n + 32) (Box.less h2 (by omega)) (by omega) (by omega)) fun r o h => ?_; obtain ⟨v3, b3, rfl, l3, u3, h3, rfl⟩ := h; refine ⟨nref, ?_⟩; walk_at "lw n"; walk_at "lw e")
        refine Sm.fmono (odd_ok (c := c) (h3.less (by omega))) fun r o h => ?_
        obtain ⟨d, ds', rfl, hm, hb', rfl⟩ := h
        refine ⟨nref, ?_⟩
        walk_at "lw n"
        walk_at "lw e"
        refine ⟨ins_ok l3 (by omega) (by omega), ?_⟩
        walk_at "lw n"
        walk_at "lw e"
        refine Sm.oM rfl (Sm.fF ?_); refine fin_f (w := PyData.weightAll xs) rfl ?_ ?_ hb'
        · intro y hy
          rcases ins_mem hy with hy | rfl
          · exact hx' y hy
          · exact fn_mono (by omega) 2 (e + 2) y (by omega) hm.1
        · have := ins_w (ds := xs) (i := v3.toNat) (d := d)
          have := hm.2
          omega
      · walk_at "lw e"
        exact fin_t (w := PyData.weightAll xs) rfl hx' (by omega) (h2.less (by omega))
    | tuple xs =>
      cases e with
      | zero => cases h
      | succ e =>
      have hx : ∀ x ∈ xs, fnb B e x = true := List.all_eq_true.1 h
      have hx' : ∀ x ∈ xs, fnb (B + 10000000000000000000) (e + 2) x = true := fun x m => fn_mono (by omega) e (e + 2) x (by omega) (hx x m)
      have hw' : PyData.weightAll xs ≤ 10000 := hw
      have hl := w_len xs
      walk_at "lw e"
      by_cases hz : xs.length = 0
      · refine iteB1 (by rw [eqv_int]; exact decide_eq_true (by omega)) ?_
        walk_at "lw e"
        refine Sm.fmono (odd_ok (c := c) (h1.less (by omega))) fun r o h => ?_
        obtain ⟨d, ds', rfl, hm, hb', rfl⟩ := h
        refine ⟨nref, ?_⟩
        walk_at "lw n"
        walk_at "lw e"
        exact odd_bent hm hb'

      refine iteB0 (by rw [eqv_int]; exact decide_eq_false (by omega)) ?_
      walk_at "lw e"
      by_cases hv : v1 = 0
      · subst hv
        walk_at "lw e"
        refine Sm.fmono (odd_ok (c := c) (h1.less (by omega))) fun r o h => ?_
        obtain ⟨d, ds', rfl, hm, hb', rfl⟩ := h
        refine ⟨nref, ?_⟩
        walk_at "lw n"
        walk_at "lw e"
        exact odd_bent hm hb'

      refine iteB0 (by rw [eqv_int]; exact decide_eq_false hv) ?_
      walk_at "lw e"
      (refine Sm.fmono (take4 (c := c + 80 * n + 48) (Box.less h1 (by omega)) (by omega) (by omega)) fun r o h => ?_; obtain ⟨v2, b2, rfl, l2, u2, h2, rfl⟩ := h; refine ⟨nref, ?_⟩; walk_at "lw n"; walk_at "lw e")
      have hmem := getD_mem l2 u2
      by_cases h7 : v1 < 7
      · refine iteDT h7 ?_
        walk_at "lw e"
        refine ⟨at_list l2 u2, ?_⟩
        walk_at "lw e"
        have hwm := w_mem hmem
        refine Sm.fmono (ih e (c + 48) _ _ (hx _ hmem) (by omega) (by omega) (h2.less (by omega))) fun r o h => ?_
        obtain ⟨d', ds', hr, hf, hwt, hb', rfl⟩ := h
        have hrr : ∀ i, r ≠ .ref i := by rcases hr with rfl | ⟨ys, rfl, rfl⟩ <;> (intro i z; cases z)
        have htd : ∀ ς, toD r ς = some (d', ς) := by rcases hr with rfl | ⟨ys, rfl, rfl⟩ <;> (intro ς; rfl)
        refine ⟨hrr, _, _, htd _, ?_⟩
        walk_at "lw n"
        walk_at "lw e"
        refine ⟨ix_in l2 u2, ?_⟩
        walk_at "lw n"
        walk_at "lw e"
        refine fin_t (w := PyData.weightAll xs) rfl ?_ ?_ (hb'.less (by omega))
        · intro y hy
          rcases List.mem_or_eq_of_mem_set hy with hy | rfl
          · exact hx' y hy
          · exact hf
        · have := w_set (y := d') (show xs[v2.toNat]? = some (xs.getD v2.toNat .none) by
            have hlt : v2.toNat < xs.length := by omega
            simp [hlt])
          omega
      have hv1 : v1 = 7 ∨ v1 = 8 ∨ v1 = 9 ∨ v1 = 10 ∨ v1 = 11 := by omega
      rcases hv1 with rfl | rfl | rfl | rfl | rfl
      · walk_at "lw e"
        refine ⟨pop_ok l2 u2 (by omega), ?_⟩
        walk_at "lw n"
        walk_at "lw e"
        refine fin_t (w := PyData.weightAll xs) rfl (fun y hy => hx' y (List.mem_of_mem_eraseIdx hy)) (Nat.le_trans (w_sub (List.eraseIdx_sublist _ _)) (by omega)) (h2.less (by omega))
      · walk_at "lw e"
        refine ⟨at_list l2 u2, ?_⟩
        walk_at "lw e"
        refine ⟨ins_ok l2 (by omega) (by omega), ?_⟩
        walk_at "lw n"
        walk_at "lw e"
        refine fin_t (w := PyData.weightAll xs) rfl ?_ ?_ (h2.less (by omega))
        · intro y hy
          rcases ins_mem hy with hy | rfl
          · exact hx' y hy
          · exact hx' _ hmem
        · have := ins_w (ds := xs) (i := v2.toNat) (d := xs.getD v2.toNat .none)
          have := w_mem hmem
          omega
      · walk_at "lw e"
        have hc : ∀ lo hi, (cutD xs lo hi).length ≤ xs.length := fun lo hi => (cut_sub xs lo hi).length_le
        refine ⟨cat_ok (by rw [List.length_reverse]; have := hc none (some v2); have := hc (some v2) (some (v2 + 2)); omega), ?_⟩
        walk_at "lw e"
        refine ⟨cat_ok (by rw [List.length_append, List.length_reverse]; have := hc none (some v2); have := hc (some v2) (some (v2 + 2)); have := hc (some (v2 + 2)) none; omega), ?_⟩
        walk_at "lw e"
        walk_at "lw n"
        walk_at "lw e"
        refine fin_t (w := PyData.weightAll xs) rfl ?_ ?_ (h2.less (by omega))
        · intro y hy
          rcases List.mem_append.1 hy with hy | hy
          · rcases List.mem_append.1 hy with hy | hy
            · exact hx' y ((cut_sub xs _ _).subset hy)
            · exact hx' y ((cut_sub xs _ _).subset (List.mem_reverse.1 hy))
          · exact hx' y ((cut_sub xs _ _).subset hy)
        · rw [w_app, w_app, w_rev]
          have := w_sub (cut_sub xs none (some v2))
          have := w_sub (cut_sub xs (some v2) (some (v2 + 2)))
          have := w_sub (cut_sub xs (some (v2 + 2)) none)
          omega
      · walk_at "lw e"
        (refine Sm.fmono (take4 (c := c + 80 * n + 32) (Box.less h2 (by omega)) (by omega) (by omega)) fun r o h => ?_; obtain ⟨v3, b3, rfl, l3, u3, h3, rfl⟩ := h; refine ⟨nref, ?_⟩; walk_at "lw n"; walk_at "lw e")
        refine Sm.fmono (odd_ok (c := c) (h3.less (by omega))) fun r o h => ?_
        obtain ⟨d, ds', rfl, hm, hb', rfl⟩ := h
        refine ⟨nref, ?_⟩
        walk_at "lw n"
        walk_at "lw e"
        refine ⟨ins_ok l3 (by omega) (by omega), ?_⟩
        walk_at "lw n"
        walk_at "lw e"
        refine fin_t (w := PyData.weightAll xs) rfl ?_ ?_ hb'
        · intro y hy
          rcases ins_mem hy with hy | rfl
          · exact hx' y hy
          · exact fn_mono (by omega) 2 (e + 2) y (by omega) hm.1
        · have := ins_w (ds := xs) (i := v3.toNat) (d := d)
          have := hm.2
          omega
      · walk_at "lw e"
        refine Sm.oM rfl (Sm.fF ?_); exact fin_f (w := PyData.weightAll xs) rfl hx' (by omega) (h2.less (by omega))
    | dict xs => cases e <;> cases h
end Lw
namespace Lw
open PySem PySem.Spec PyProof.Rows L2
local macro_rules | `(tactic| walk_at "lw e") => `(tactic| (repeat (first | (with_reducible refine Stp.go ?_) | (with_reducible apply Exists.intro) | ((with_reducible refine And.intro ?_ ?_); · (first | (with_reducible exact Evl.ev) | ((fail_if_success (with_reducible refine Gd.keep ?_)); rfl) | ((with_reducible apply mul_r); decide) | ((with_reducible apply mul_l); decide) | ((with_reducible apply div_i); decide) | ((with_reducible apply in_R); decide) | (exact Nat.le_of_ble_eq_true rfl) | (simp [refsOf]; done) | (exact ⟨rfl, rfl, by decide⟩) | (exact ⟨rfl, rfl, rfl⟩))) | ((with_reducible apply Sm.vrP); (focus rfl)) | ((with_reducible apply Sm.vrO); (focus rfl)) | (with_reducible refine iteTT ?_) | (with_reducible refine iteT ?_) | (with_reducible refine iteF ?_) | ((with_reducible refine iteB1 ?_ ?_); (focus rfl)) | ((with_reducible refine iteB0 ?_ ?_); (focus rfl)))))
local macro_rules | `(tactic| walk_at "lw n") => `(tactic| (try dsimp only [ent, List.map, Nat.reduceAdd, Nat.reduceSub, List.length_cons, List.length_nil, List.replicate_succ, List.replicate_zero, List.cons_append, List.nil_append, putBack, setOwn, List.getElem?_cons_zero, List.getElem?_cons_succ, List.set_cons_zero, List.set_cons_succ, Sm.nf]))
local macro_rules | `(tactic| walk_at "lw v") => `(tactic| (try simp only [pb1, pb2, pb3, pb4]))
theorem tix0 {w : D} {r : List D} : gIx (.tuple (w :: r)) (.int 0) = some (.pure w) := at_tup (xs := w :: r) (by decide) (by rw [List.length_cons]; omega)
theorem tix1 {w y : D} {r : List D} : gIx (.tuple (w :: y :: r)) (.int 1) = some (.pure y) := at_tup (xs := w :: y :: r) (by decide) (by rw [List.length_cons, List.length_cons]; omega)
theorem tix2 {w y z : D} {r : List D} : gIx (.tuple (w :: y :: z :: r)) (.int 2) = some (.pure z) := at_tup (xs := w :: y :: z :: r) (by decide) (by rw [List.length_cons, List.length_cons, List.length_cons]; omega)
instance {w : D} {r : List D} : Evl (gIx (.tuple (w :: r)) (.int 0)) (.pure w) := ⟨tix0⟩
instance {w y : D} {r : List D} : Evl (gIx (.tuple (w :: y :: r)) (.int 1)) (.pure y) := ⟨tix1⟩
instance {w y z : D} {r : List D} : Evl (gIx (.tuple (w :: y :: z :: r)) (.int 2)) (.pure z) := ⟨tix2⟩
local macro_rules | `(tactic| walk_at "lw e") => `(tactic| (repeat (first | (with_reducible refine Stp.go ?_) | (with_reducible apply Exists.intro) | ((with_reducible refine And.intro ?_ ?_); · (first | (with_reducible exact Evl.ev) | ((fail_if_success (with_reducible refine Gd.keep ?_)); rfl) | ((with_reducible apply mul_r); decide) | ((with_reducible apply mul_l); decide) | ((with_reducible apply div_i); decide) | ((with_reducible apply in_R); decide) | (exact Nat.le_of_ble_eq_true rfl) | (simp [refsOf]; done) | (exact ⟨rfl, rfl, by decide⟩) | (exact ⟨rfl, rfl, rfl⟩))) | ((with_reducible apply Sm.vrP); (focus rfl)) | ((with_reducible apply Sm.vrO); (focus rfl)) | (with_reducible refine iteTT ?_) | (with_reducible refine iteT ?_) | (with_reducible refine iteF ?_) | ((with_reducible refine iteB1 ?_ ?_); (focus rfl)) | ((with_reducible refine iteB0 ?_ ?_); (focus rfl)))))
local macro_rules | `(tactic| walk_at "lw n") => `(tactic| (try dsimp only [ent, List.map, Nat.reduceAdd, Nat.reduceSub, List.length_cons, List.length_nil, List.replicate_succ, List.replicate_zero, List.cons_append, List.nil_append, putBack, setOwn, List.getElem?_cons_zero, List.getElem?_cons_succ, List.set_cons_zero, List.set_cons_succ, Sm.nf]))
local macro_rules | `(tactic| walk_at "lw v") => `(tactic| (try simp only [pb1, pb2, pb3, pb4]))
theorem shaped_ints (cs : List Int) : SeqAt.shaped (ilist cs) = true := by
  unfold SeqAt.shaped
  rw [Bool.and_eq_true]
  refine ⟨lay_all fun x h => ?_, decide_eq_true ?_⟩
  · obtain ⟨i, -, rfl⟩ := List.mem_map.1 h
    rfl
  · show PyData.depthAll _ + 1 ≤ 64
    have := depth_all (e := 0) (xs := cs.map PyData.int) fun x h => by
      obtain ⟨i, -, rfl⟩ := List.mem_map.1 h
      exact Nat.le_refl _
    omega
theorem eqv_nil (cs : List Int) : PyData.eqv (ilist cs) (.list []) = cs.isEmpty := by
  cases cs <;> rfl
def CellsQ (n : Nat) (r : R) (_ : List S) : Prop := ∃ cs : List Int, (r = .pure (ilist cs) ∨ r = .fresh (cs.map PyData.int)) ∧ cs.length ≤ n
theorem cells_ok {ns : List Int} {s : Nat} (hl : ns.length ≤ 63) (h1 : 1 ≤ s) (h2 : s ≤ 60) : wpf m_l_cells [.pure (ilist ns), .pure (.int s)] (CellsQ s) := by
  refine Sm.run ?_
  unfold g_l_cells
  walk_at "lw n"
  walk_at "lw e"
  refine Sm.fmono (folded_ok hl h1 h2) fun r o h => ?_
  obtain ⟨cs, rfl, hc⟩ := h
  refine ⟨nfr, ?_⟩
  walk_at "lw v"
  walk_at "lw e"
  refine ⟨ne_ok (shaped_ints cs) rfl, ?_⟩
  walk_at "lw e"
  by_cases h : cs.isEmpty = true
  · refine iteB0 (by rw [eqv_nil, h]; rfl) ?_
    walk_at "lw e"
    exact ⟨[0], .inr rfl, h1⟩
  · refine iteB1 (by rw [eqv_nil]; simpa using h) ?_
    walk_at "lw e"
    exact ⟨cs, .inl rfl, hc⟩
theorem law_ok {right : Fsem} {k : Nat} (h1 : 1 ≤ k) (h2 : k ≤ 60) (hr : ∀ ds, Box 1000000 ds → wpf right [.own true ds] TrueQ) (ns : List Int) (hl : ns.length ≤ 63) : wpf (runFn (sq (asg (callE m_l_cells (argV (vr 0) (argV (cn (.int k)) argN))) (tgN 1))
  (retS (cal1 gAll (lcE (itR1 (cal1 gLen (vr 1))) [2] (tgN 2) (ret true) (callF right (callE m_l_box (argV (vr 1) (argV (vr 2) argN)))))))) 3) [.pure (ilist ns)] TrueQ := by
  refine Sm.run ?_
  walk_at "lw n"
  walk_at "lw e"
  refine Sm.fmono (cells_ok hl h1 h2) fun r o h => ?_
  obtain ⟨cs, hcs, hc⟩ := h
  have hrr : ∀ i, r ≠ .ref i := by rcases hcs with rfl | rfl <;> (intro i z; cases z)
  have htd : ∀ ς, toD r ς = some (ilist cs, ς) := by rcases hcs with rfl | rfl <;> (intro ς; rfl)
  walk_at "lw v"
  refine ⟨hrr, _, _, _, htd _, rfl, ?_⟩
  walk_at "lw e"
  refine ⟨in_R (by rw [List.length_map]; omega), ?_⟩
  walk_at "lw e"
  rw [List.length_map]
  have hsl : sizeLine = 16777216 := rfl
  refine Sm.lcPure (ds := rngD 0 ((cs.length : Int)).toNat) (fun _ => .bool true) (by rw [rngD_len]; omega) ?_ ?_
  · intro d hd
    obtain ⟨i, hi⟩ := List.mem_iff_getElem?.1 hd
    obtain ⟨hi, rfl⟩ := rng_at hi
    refine ⟨_, tgN_o rfl trivial, ?_⟩
    walk_at "lw e"
    refine Sm.fmono (box_ok (by omega)) fun r o h => ?_
    obtain ⟨ds, rfl, hb⟩ := h
    refine ⟨nfr, ?_⟩
    walk_at "lw v"
    walk_at "lw e"
    refine Sm.fmono (hr ds hb) fun r o h => ?_
    obtain ⟨d, rfl, rfl⟩ := h
    refine ⟨nref, ?_⟩
    walk_at "lw e"
    rfl
  · refine ⟨_, _, rfl, all_mk (p := fun _ => true), ?_⟩
    walk_at "lw e"
    refine ⟨_, rfl, ?_⟩
    rw [List.all_eq_true.2 (fun _ _ => rfl)]
theorem wpf_law {m : Fsem} {ss : List S} (h : wpf m ss TrueQ) : ∃ outs, m ss = some (.pure (.bool true), outs) := by
  obtain ⟨r, o, e, d, rfl, rfl⟩ := h
  exact ⟨o, e⟩
end Lw
namespace Lw
open PySem PySem.Spec PyProof.Rows L2
local macro_rules | `(tactic| walk_at "lw e") => `(tactic| (repeat (first | (with_reducible refine Stp.go ?_) | (with_reducible apply Exists.intro) | ((with_reducible refine And.intro ?_ ?_); · (first | (with_reducible exact Evl.ev) | ((fail_if_success (with_reducible refine Gd.keep ?_)); rfl) | ((with_reducible apply mul_r); decide) | ((with_reducible apply mul_l); decide) | ((with_reducible apply div_i); decide) | ((with_reducible apply in_R); decide) | (exact Nat.le_of_ble_eq_true rfl) | (simp [refsOf]; done) | (exact ⟨rfl, rfl, by decide⟩) | (exact ⟨rfl, rfl, rfl⟩))) | ((with_reducible apply Sm.vrP); (focus rfl)) | ((with_reducible apply Sm.vrO); (focus rfl)) | (with_reducible refine iteTT ?_) | (with_reducible refine iteT ?_) | (with_reducible refine iteF ?_) | ((with_reducible refine iteB1 ?_ ?_); (focus rfl)) | ((with_reducible refine iteB0 ?_ ?_); (focus rfl)))))
local macro_rules | `(tactic| walk_at "lw n") => `(tactic| (try dsimp only [ent, List.map, Nat.reduceAdd, Nat.reduceSub, List.length_cons, List.length_nil, List.replicate_succ, List.replicate_zero, List.cons_append, List.nil_append, putBack, setOwn, List.getElem?_cons_zero, List.getElem?_cons_succ, List.set_cons_zero, List.set_cons_succ, Sm.nf]))
local macro_rules | `(tactic| walk_at "lw v") => `(tactic| (try simp only [pb1, pb2, pb3, pb4]))
theorem iteTT {A B : Prop} (h : A) : if True then A else B := by rw [if_pos trivial]; exact h
local macro_rules | `(tactic| walk_at "lw e") => `(tactic| (repeat (first | (with_reducible refine Stp.go ?_) | (with_reducible apply Exists.intro) | ((with_reducible refine And.intro ?_ ?_); · (first | (with_reducible exact Evl.ev) | ((fail_if_success (with_reducible refine Gd.keep ?_)); rfl) | ((with_reducible apply mul_r); decide) | ((with_reducible apply mul_l); decide) | ((with_reducible apply div_i); decide) | ((with_reducible apply in_R); decide) | (exact Nat.le_of_ble_eq_true rfl) | (simp [refsOf]; done) | (exact ⟨rfl, rfl, by decide⟩) | (exact ⟨rfl, rfl, rfl⟩))) | ((with_reducible apply Sm.vrP); (focus rfl)) | ((with_reducible apply Sm.vrO); (focus rfl)) | (with_reducible refine iteTT ?_) | (with_reducible refine iteT ?_) | (with_reducible refine iteF ?_) | ((with_reducible refine iteB1 ?_ ?_); (focus rfl)) | ((with_reducible refine iteB0 ?_ ?_); (focus rfl)))))
local macro_rules | `(tactic| walk_at "lw n") => `(tactic| (try dsimp only [ent, List.map, Nat.reduceAdd, Nat.reduceSub, List.length_cons, List.length_nil, List.replicate_succ, List.replicate_zero, List.cons_append, List.nil_append, putBack, setOwn, List.getElem?_cons_zero, List.getElem?_cons_succ, List.set_cons_zero, List.set_cons_succ, Sm.nf]))
local macro_rules | `(tactic| walk_at "lw v") => `(tactic| (try simp only [pb1, pb2, pb3, pb4]))
theorem w_intk {k : Nat} {i : Int} (h : i.natAbs < 2 ^ k) : (PyData.int i).weight ≤ k := by
  show (if i == 0 then 0 else i.natAbs.log2 + 1) ≤ k
  split
  · omega
  · rename_i h0
    have h0 : i.natAbs ≠ 0 := by
      intro z
      exact h0 (by simp [Int.natAbs_eq_zero.1 z])
    have := (Nat.log2_lt (k := k) h0).2 h
    omega
/-- lists all the way down -/
def lsts : Nat → D → D
  | 0, d => d
  | e + 1, .list xs => .list (xs.map (lsts e))
  | e + 1, .tuple xs => .list (xs.map (lsts e))
  | _ + 1, d => d
def DatQ (P : D → Prop) (r : R) (_ : List S) : Prop := ∃ d, (r = .pure d ∨ ∃ xs, r = .fresh xs ∧ d = .list xs) ∧ P d
theorem DatQ.ref {P : D → Prop} {r : R} {o : List S} (h : DatQ P r o) : ∀ i, r ≠ .ref i := by
  obtain ⟨d, rfl | ⟨xs, rfl, rfl⟩, -⟩ := h <;> (intro i z; cases z)
theorem DatQ.to {P : D → Prop} {r : R} {o : List S} (h : DatQ P r o) : ∃ d, P d ∧ ∀ ς, toD r ς = some (d, ς) := by
  obtain ⟨d, rfl | ⟨xs, rfl, rfl⟩, hp⟩ := h
  · exact ⟨d, hp, fun ς => rfl⟩
  · exact ⟨_, hp, fun ς => rfl⟩
theorem lists_ok {B : Nat} : ∀ (e n : Nat) (d : D), fnb B e d = true → e < n → d.weight ≤ 160000 → wpf (m_l_lists n) [.pure d] (DatQ fun x => x = lsts e d) := by
  intro e
  induction e with
  | zero =>
    intro n d h hn hw
    obtain ⟨m, rfl⟩ : ∃ m, n = m + 1 := ⟨n - 1, by omega⟩
    show wpf (runFn (g_l_lists (m_l_lists m)) 2) _ _
    refine Sm.run ?_
    unfold g_l_lists
    walk_at "lw n"
    cases d with
    | list xs => cases h
    | tuple xs => cases h
    | _ => walk_at "lw e"; exact ⟨_, .inl rfl, rfl⟩
  | succ e ih =>
    intro n d h hn hw
    obtain ⟨m, rfl⟩ : ∃ m, n = m + 1 := ⟨n - 1, by omega⟩
    have key : ∀ xs : List D, xs.all (fnb B e) = true → PyData.weightAll xs ≤ 160000 → ∀ x ∈ xs, wpf (m_l_lists m) [.pure x] (DatQ fun y => y = lsts e x) := fun xs hx hw x hm => by
      have := w_mem hm
      exact ih m x (List.all_eq_true.1 hx x hm) (by omega) (by omega)
    show wpf (runFn (g_l_lists (m_l_lists m)) 2) _ _
    refine Sm.run ?_
    unfold g_l_lists
    walk_at "lw n"
    have hsl : sizeLine = 16777216 := rfl
    cases d with
    | dict xs => cases h
    | list xs =>
      have hw' : PyData.weightAll xs ≤ 160000 := hw
      have hl := w_len xs
      walk_at "lw e"
      refine Sm.lcPure (ds := xs) (lsts e) (by omega) ?_ ?_
      · intro x hx
        refine ⟨_, tgN_o rfl trivial, ?_⟩
        walk_at "lw e"
        refine Sm.fmono (key xs h hw' x hx) fun r o h => ?_
        obtain ⟨d, rfl, ht⟩ := h.to
        refine ⟨h.ref, ?_⟩
        walk_at "lw v"
        exact ⟨_, ht _, rfl, rfl⟩
      · exact Sm.oF (Sm.fF ⟨_, .inr ⟨_, rfl, rfl⟩, rfl⟩)
    | tuple xs =>
      have hw' : PyData.weightAll xs ≤ 160000 := hw
      have hl := w_len xs
      walk_at "lw e"
      refine Sm.lcPure (ds := xs) (lsts e) (by omega) ?_ ?_
      · intro x hx
        refine ⟨_, tgN_o rfl trivial, ?_⟩
        walk_at "lw e"
        refine Sm.fmono (key xs h hw' x hx) fun r o h => ?_
        obtain ⟨d, rfl, ht⟩ := h.to
        refine ⟨h.ref, ?_⟩
        walk_at "lw v"
        exact ⟨_, ht _, rfl, rfl⟩
      · exact Sm.oF (Sm.fF ⟨_, .inr ⟨_, rfl, rfl⟩, rfl⟩)
    | _ => walk_at "lw e"; exact ⟨_, .inl rfl, rfl⟩
end Lw
namespace Lw
open PySem PySem.Spec PyProof.Rows L2
local macro_rules | `(tactic| walk_at "lw e") => `(tactic| (repeat (first | (with_reducible refine Stp.go ?_) | (with_reducible apply Exists.intro) | ((with_reducible refine And.intro ?_ ?_); · (first | (with_reducible exact Evl.ev) | ((fail_if_success (with_reducible refine Gd.keep ?_)); rfl) | ((with_reducible apply mul_r); decide) | ((with_reducible apply mul_l); decide) | ((with_reducible apply div_i); decide) | ((with_reducible apply in_R); decide) | (exact Nat.le_of_ble_eq_true rfl) | (simp [refsOf]; done) | (exact ⟨rfl, rfl, by decide⟩) | (exact ⟨rfl, rfl, rfl⟩) | ((with_reducible apply tgN_o); (focus rfl); (focus (first | assumption | trivial))))) | ((with_reducible apply Sm.vrP); (focus rfl)) | ((with_reducible apply Sm.vrO); (focus rfl)) | ((with_reducible apply Sm.augI); (focus rfl)) | ((with_reducible refine Sm.dicE ?_ ?_); (focus decide)) | (with_reducible refine iteTT ?_) | (with_reducible refine iteT ?_) | (with_reducible refine iteF ?_) | ((with_reducible refine iteB1 ?_ ?_); (focus rfl)) | ((with_reducible refine iteB0 ?_ ?_); (focus rfl)))))
local macro_rules | `(tactic| walk_at "lw n") => `(tactic| (try dsimp only [ent, List.map, Nat.reduceAdd, Nat.reduceSub, List.length_cons, List.length_nil, List.replicate_succ, List.replicate_zero, List.cons_append, List.nil_append, putBack, setOwn, List.getElem?_cons_zero, List.getElem?_cons_succ, List.set_cons_zero, List.set_cons_succ, Sm.nf]))
local macro_rules | `(tactic| walk_at "lw v") => `(tactic| (try simp only [pb1, pb2, pb3, pb4]))
end Lw
namespace Lw
open PySem PySem.Spec PyProof.Rows L2
local macro_rules | `(tactic| walk_at "lw e") => `(tactic| (repeat (first | (with_reducible refine Stp.go ?_) | (with_reducible apply Exists.intro) | ((with_reducible refine And.intro ?_ ?_); · (first | (with_reducible exact Evl.ev) | ((fail_if_success (with_reducible refine Gd.keep ?_)); rfl) | ((with_reducible apply mul_r); decide) | ((with_reducible apply mul_l); decide) | ((with_reducible apply div_i); decide) | ((with_reducible apply in_R); decide) | (exact Nat.le_of_ble_eq_true rfl) | (simp [refsOf]; done) | (exact ⟨rfl, rfl, by decide⟩) | (exact ⟨rfl, rfl, rfl⟩) | ((with_reducible apply tgN_o); (focus rfl); (focus (first | assumption | trivial))))) | ((with_reducible apply Sm.vrP); (focus rfl)) | ((with_reducible apply Sm.vrO); (focus rfl)) | ((with_reducible apply Sm.augI); (focus rfl)) | ((with_reducible refine Sm.dicE ?_ ?_); (focus decide)) | (with_reducible refine iteTT ?_) | (with_reducible refine iteT ?_) | (with_reducible refine iteF ?_) | ((with_reducible refine iteB1 ?_ ?_); (focus rfl)) | ((with_reducible refine iteB0 ?_ ?_); (focus rfl)))))
local macro_rules | `(tactic| walk_at "lw n") => `(tactic| (try dsimp only [ent, List.map, Nat.reduceAdd, Nat.reduceSub, List.length_cons, List.length_nil, List.replicate_succ, List.replicate_zero, List.cons_append, List.nil_append, putBack, setOwn, List.getElem?_cons_zero, List.getElem?_cons_succ, List.set_cons_zero, List.set_cons_succ, Sm.nf]))
local macro_rules | `(tactic| walk_at "lw v") => `(tactic| (try simp only [pb1, pb2, pb3, pb4]))
/-! ### tuples of numbers -/
def it (ns : List Int) : D := .tuple (ns.map PyData.int)
def il (ns : List Int) : D := .list (ns.map PyData.int)
/-- a list or tuple of these numbers -/
def Seq (t : D) (ns : List Int) : Prop := t = il ns ∨ t = it ns
theorem Seq.items {t : D} {ns : List Int} (h : Seq t ns) : items t = some (ns.map PyData.int) := by rcases h with rfl | rfl <;> rfl
/-! ### things that are fine -/
def Fine (B e w : Nat) (d : D) : Prop := fnb B e d = true ∧ d.weight ≤ w
theorem Fine.int {B e w : Nat} {i : Int} (h : i.natAbs ≤ B) (hw : B < 2 ^ w) : Fine B e w (.int i) := ⟨lfb_fnb (decide_eq_true h), w_intk (Nat.lt_of_le_of_lt h hw)⟩
theorem Fine.bool {B e : Nat} {b : Bool} : Fine B e 1 (.bool b) := ⟨lfb_fnb rfl, by cases b <;> decide⟩
theorem Fine.mono {B e w w' : Nat} {d : D} (h : Fine B e w d) (hw : w ≤ w') : Fine B e w' d := ⟨h.1, Nat.le_trans h.2 hw⟩
theorem w_all_le {k : Nat} {xs : List D} (h : ∀ x ∈ xs, x.weight ≤ k) : PyData.weightAll xs ≤ (k + 1) * xs.length := by
  induction xs with
  | nil => exact Nat.zero_le _
  | cons x xs ih =>
    have h1 := h x (by simp)
    have h2 := ih fun y hy => h y (by simp [hy])
    rw [PyData.weightAll, List.length_cons, Nat.mul_add]
    omega
theorem Fine.tup {B e w n : Nat} {xs : List D} (h : ∀ x ∈ xs, Fine B e w x) (hn : xs.length ≤ n) : Fine B (e + 1) ((w + 1) * n) (.tuple xs) :=
  ⟨List.all_eq_true.2 fun x m => (h x m).1, Nat.le_trans (w_all_le fun x m => (h x m).2) (Nat.mul_le_mul_left _ hn)⟩
theorem Fine.lst {B e w n : Nat} {xs : List D} (h : ∀ x ∈ xs, Fine B e w x) (hn : xs.length ≤ n) : Fine B (e + 1) ((w + 1) * n) (.list xs) :=
  ⟨List.all_eq_true.2 fun x m => (h x m).1, Nat.le_trans (w_all_le fun x m => (h x m).2) (Nat.mul_le_mul_left _ hn)⟩
end Lw
namespace Lw
open PySem PySem.Spec PyProof.Rows L2
local macro_rules | `(tactic| walk_at "lw e") => `(tactic| (repeat (first | (with_reducible refine Stp.go ?_) | (with_reducible apply Exists.intro) | ((with_reducible refine And.intro ?_ ?_); · (first | (with_reducible exact Evl.ev) | ((fail_if_success (with_reducible refine Gd.keep ?_)); rfl) | ((with_reducible apply mul_r); decide) | ((with_reducible apply mul_l); decide) | ((with_reducible apply div_i); decide) | ((with_reducible apply in_R); decide) | (exact Nat.le_of_ble_eq_true rfl) | (simp [refsOf]; done) | (exact ⟨rfl, rfl, by decide⟩) | (exact ⟨rfl, rfl, rfl⟩) | ((with_reducible apply tgN_o); (focus rfl); (focus (first | assumption | trivial))))) | ((with_reducible apply Sm.vrP); (focus rfl)) | ((with_reducible apply Sm.vrO); (focus rfl)) | ((with_reducible apply Sm.augI); (focus rfl)) | ((with_reducible refine Sm.dicE ?_ ?_); (focus decide)) | (with_reducible refine iteTT ?_) | (with_reducible refine iteT ?_) | (with_reducible refine iteF ?_) | ((with_reducible refine iteB1 ?_ ?_); (focus rfl)) | ((with_reducible refine iteB0 ?_ ?_); (focus rfl)))))
local macro_rules | `(tactic| walk_at "lw n") => `(tactic| (try dsimp only [ent, List.map, Nat.reduceAdd, Nat.reduceSub, List.length_cons, List.length_nil, List.replicate_succ, List.replicate_zero, List.cons_append, List.nil_append, putBack, setOwn, List.getElem?_cons_zero, List.getElem?_cons_succ, List.set_cons_zero, List.set_cons_succ, Sm.nf]))
local macro_rules | `(tactic| walk_at "lw v") => `(tactic| (try simp only [pb1, pb2, pb3, pb4]))
/-! ### stairs, deeds, what they add -/
def pd (p : Int × Int × Int) : D := .tuple [.int p.1, .int p.2.1, .int p.2.2]
def Stair (st : D) (ps : List (Int × Int × Int)) : Prop := st = .tuple (ps.map pd) ∨ st = .list (ps.map pd)
theorem Stair.items {st : D} {ps : List (Int × Int × Int)} (h : Stair st ps) : items st = some (ps.map pd) := by rcases h with rfl | rfl <;> rfl
theorem Stair.len {st : D} {ps : List (Int × Int × Int)} (h : Stair st ps) : gLen st = some (.pure (.int ps.length)) := by
  rcases h with rfl | rfl
  · show some (R.pure (.int ((ps.map pd).length : Nat))) = _; rw [List.length_map]
  · show some (R.pure (.int ((ps.map pd).length : Nat))) = _; rw [List.length_map]
def pAt (ps : List (Int × Int × Int)) (i : Nat) : Int × Int × Int := ps.getD i (0, 0, 0)
theorem Stair.ix {st : D} {ps : List (Int × Int × Int)} (h : Stair st ps) {i : Int} (h0 : 0 ≤ i) (h1 : i < ps.length) : gIx st (.int i) = some (.pure (pd (pAt ps i.toNat))) := by
  have hlt : i.toNat < ps.length := by omega
  have key : (ps.map pd).getD i.toNat .none = pd (pAt ps i.toNat) := by
    unfold pAt
    rw [List.getD_eq_getElem?_getD, List.getElem?_map, List.getElem?_eq_getElem hlt, List.getD_eq_getElem?_getD, List.getElem?_eq_getElem hlt]
    rfl
  rcases h with rfl | rfl
  · rw [at_tup h0 (by rw [List.length_map]; exact h1), key]
  · rw [at_list h0 (by rw [List.length_map]; exact h1), key]
inductive Dd where
  | fill (l : Nat)
  | empty (l : Nat)
  | raise (l : Nat) (m : Int)
  | lower (l : Nat) (m : Int)
def Dd.at : Dd → Nat
  | .fill l => l
  | .empty l => l
  | .raise l _ => l
  | .lower l _ => l
def dd : Dd → D
  | .fill l => .tuple [.str "fill", .int l]
  | .empty l => .tuple [.str "empty", .int l]
  | .raise l m => .tuple [.str "raise", .int l, .int m]
  | .lower l m => .tuple [.str "lower", .int l, .int m]
def sz (ps : List (Int × Int × Int)) (l : Nat) : Int := (pAt ps (l - 1)).2.2
def chg (ps : List (Int × Int × Int)) : Dd → Int × Int
  | .fill l => (l, -sz ps l)
  | .empty l => ((l : Int) - 1, sz ps l)
  | .raise l m => (l, m)
  | .lower l m => (l, -m)
/-- the deed is of the stair -/
def Dd.On (n : Nat) (d : Dd) : Prop := 1 ≤ d.at ∧ d.at ≤ n
/-- what deeds add to pound j and all above it -/
def addTo (ps : List (Int × Int × Int)) (j : Int) (d : Dd) : Int := if (chg ps d).1 ≥ j then (chg ps d).2 else 0
def sumAt (ps : List (Int × Int × Int)) (ds : List Dd) (j : Int) : Int := (ds.map (addTo ps j)).sum
def sums (ps : List (Int × Int × Int)) (ds : List Dd) : List Int := (List.range ps.length).map fun (i : Nat) => sumAt ps ds (1 + (i : Int))
theorem sumAt_app (ps : List (Int × Int × Int)) (a b : List Dd) (j : Int) : sumAt ps (a ++ b) j = sumAt ps a j + sumAt ps b j := by
  unfold sumAt; rw [List.map_append, List.sum_append]
def pr (p : Int × Int) : D := .tuple [.int p.1, .int p.2]
def undd : D → Dd
  | .tuple [.str s, .int l] => if s = "fill" then .fill l.toNat else .empty l.toNat
  | .tuple [.str s, .int l, .int m] => if s = "raise" then .raise l.toNat m else .lower l.toNat m
  | _ => .fill 0
def Deeds (t : D) (ds : List Dd) : Prop := t = .list (ds.map dd) ∨ t = .tuple (ds.map dd)
theorem Deeds.items {t : D} {ds : List Dd} (h : Deeds t ds) : items t = some (ds.map dd) := by rcases h with rfl | rfl <;> rfl
end Lw
namespace Lw
open PySem PySem.Spec PyProof.Rows L2
local macro_rules | `(tactic| walk_at "lw e") => `(tactic| (repeat (first | (with_reducible refine Stp.go ?_) | (with_reducible apply Exists.intro) | ((with_reducible refine And.intro ?_ ?_); · (first | (with_reducible exact Evl.ev) | ((fail_if_success (with_reducible refine Gd.keep ?_)); rfl) | ((with_reducible apply mul_r); decide) | ((with_reducible apply mul_l); decide) | ((with_reducible apply div_i); decide) | ((with_reducible apply in_R); decide) | (exact Nat.le_of_ble_eq_true rfl) | (simp [refsOf]; done) | (exact ⟨rfl, rfl, by decide⟩) | (exact ⟨rfl, rfl, rfl⟩) | ((with_reducible apply tgN_o); (focus rfl); (focus (first | assumption | trivial))))) | ((with_reducible apply Sm.vrP); (focus rfl)) | ((with_reducible apply Sm.vrO); (focus rfl)) | ((with_reducible apply Sm.augI); (focus rfl)) | ((with_reducible refine Sm.dicE ?_ ?_); (focus decide)) | (with_reducible refine iteTT ?_) | (with_reducible refine iteT ?_) | (with_reducible refine iteF ?_) | ((with_reducible refine iteB1 ?_ ?_); (focus rfl)) | ((with_reducible refine iteB0 ?_ ?_); (focus rfl)))))
local macro_rules | `(tactic| walk_at "lw n") => `(tactic| (try dsimp only [ent, List.map, Nat.reduceAdd, Nat.reduceSub, List.length_cons, List.length_nil, List.replicate_succ, List.replicate_zero, List.cons_append, List.nil_append, putBack, setOwn, List.getElem?_cons_zero, List.getElem?_cons_succ, List.set_cons_zero, List.set_cons_succ, Sm.nf]))
local macro_rules | `(tactic| walk_at "lw v") => `(tactic| (try simp only [pb1, pb2, pb3, pb4]))
def addPre : Nat → Int → List Int → List Int
  | 0, _, xs => xs
  | _ + 1, _, [] => []
  | i + 1, m, x :: xs => (x + m) :: addPre i m xs
theorem addPre_get (m : Int) : ∀ (i : Nat) (xs : List Int) (a : Nat), (addPre i m xs)[a]? = if a < i then (xs[a]?).map (· + m) else xs[a]?
  | 0, xs, a => by simp [addPre]
  | i + 1, [], a => by simp [addPre]
  | i + 1, x :: xs, 0 => by simp [addPre]
  | i + 1, x :: xs, a + 1 => by
    rw [addPre, List.getElem?_cons_succ, List.getElem?_cons_succ, addPre_get m i xs a]
    by_cases h : a < i
    · rw [if_pos h, if_pos (by omega)]
    · rw [if_neg h, if_neg (by omega)]
theorem addPre_sums (ps : List (Int × Int × Int)) (ds : List Dd) (d : Dd) (c : Nat) (hc : (chg ps d).1 = c) : addPre c (chg ps d).2 (sums ps ds) = sums ps (ds ++ [d]) := by
  apply List.ext_getElem?
  intro a
  rw [addPre_get]
  unfold sums
  rw [List.getElem?_map, List.getElem?_map]
  by_cases h : a < ps.length
  · rw [List.getElem?_range h]
    simp only [Option.map_some]
    rw [sumAt_app]
    have : sumAt ps [d] (1 + (a : Int)) = if a < c then (chg ps d).2 else 0 := by
      unfold sumAt addTo
      rw [List.map_cons, List.map_nil, List.sum_cons, List.sum_nil, hc]
      by_cases q : a < c
      · rw [if_pos (by omega), if_pos q]; omega
      · rw [if_neg (by omega), if_neg q]; omega
    rw [this]
    by_cases q : a < c
    · rw [if_pos q, if_pos q]
    · rw [if_neg q, if_neg q]; simp
  · rw [List.getElem?_eq_none (by rw [List.length_range]; omega)]
    simp
end Lw
namespace Lw
open PySem PySem.Spec PyProof.Rows L2
local macro_rules | `(tactic| walk_at "lw e") => `(tactic| (repeat (first | (with_reducible refine Stp.go ?_) | (with_reducible apply Exists.intro) | ((with_reducible refine And.intro ?_ ?_); · (first | (with_reducible exact Evl.ev) | ((fail_if_success (with_reducible refine Gd.keep ?_)); rfl) | ((with_reducible apply mul_r); decide) | ((with_reducible apply mul_l); decide) | ((with_reducible apply div_i); decide) | ((with_reducible apply in_R); decide) | (exact Nat.le_of_ble_eq_true rfl) | (simp [refsOf]; done) | (exact ⟨rfl, rfl, by decide⟩) | (exact ⟨rfl, rfl, rfl⟩) | ((with_reducible apply tgN_o); (focus rfl); (focus (first | assumption | trivial))))) | ((with_reducible apply Sm.vrP); (focus rfl)) | ((with_reducible apply Sm.vrO); (focus rfl)) | ((with_reducible apply Sm.augI); (focus rfl)) | ((with_reducible refine Sm.dicE ?_ ?_); (focus decide)) | (with_reducible refine iteTT ?_) | (with_reducible refine iteT ?_) | (with_reducible refine iteF ?_) | ((with_reducible refine iteB1 ?_ ?_); (focus rfl)) | ((with_reducible refine iteB0 ?_ ?_); (focus rfl)))))
local macro_rules | `(tactic| walk_at "lw n") => `(tactic| (try dsimp only [ent, List.map, Nat.reduceAdd, Nat.reduceSub, List.length_cons, List.length_nil, List.replicate_succ, List.replicate_zero, List.cons_append, List.nil_append, putBack, setOwn, List.getElem?_cons_zero, List.getElem?_cons_succ, List.set_cons_zero, List.set_cons_succ, Sm.nf]))
local macro_rules | `(tactic| walk_at "lw v") => `(tactic| (try simp only [pb1, pb2, pb3, pb4]))
/-! ### stones -/
/-! ### a lap by draws -/
end Lw
-- F2
namespace Lw
open PySem PySem.Spec PyProof.Rows L2
local macro_rules | `(tactic| walk_at "lw e") => `(tactic| (repeat (first | (with_reducible refine Stp.go ?_) | (with_reducible apply Exists.intro) | ((with_reducible refine And.intro ?_ ?_); · (first | (with_reducible exact Evl.ev) | ((fail_if_success (with_reducible refine Gd.keep ?_)); rfl) | ((with_reducible apply mul_r); decide) | ((with_reducible apply mul_l); decide) | ((with_reducible apply div_i); decide) | ((with_reducible apply in_R); decide) | (exact Nat.le_of_ble_eq_true rfl) | (simp [refsOf]; done) | (exact ⟨rfl, rfl, by decide⟩) | (exact ⟨rfl, rfl, rfl⟩) | ((with_reducible apply tgN_o); (focus rfl); (focus (first | assumption | trivial))))) | ((with_reducible apply Sm.vrP); (focus rfl)) | ((with_reducible apply Sm.vrO); (focus rfl)) | ((with_reducible apply Sm.augI); (focus rfl)) | ((with_reducible refine Sm.dicE ?_ ?_); (focus decide)) | ((with_reducible apply Sm.augS); (focus rfl)) | (with_reducible refine iteTT ?_) | (with_reducible refine iteT ?_) | (with_reducible refine iteF ?_) | ((with_reducible refine iteB1 ?_ ?_); (focus rfl)) | ((with_reducible refine iteB0 ?_ ?_); (focus rfl)))))
local macro_rules | `(tactic| walk_at "lw n") => `(tactic| (try dsimp only [ent, List.map, Nat.reduceAdd, Nat.reduceSub, List.length_cons, List.length_nil, List.replicate_succ, List.replicate_zero, List.cons_append, List.nil_append, putBack, setOwn, List.getElem?_cons_zero, List.getElem?_cons_succ, List.set_cons_zero, List.set_cons_succ, Sm.nf]))
local macro_rules | `(tactic| walk_at "lw v") => `(tactic| (try simp only [pb1, pb2, pb3, pb4]))
/-! ### stairs, deeds as tuples or lists, at any depth -/
theorem ix_items {t : D} {ds : List D} (h : items t = some ds) {i : Int} (h0 : 0 ≤ i) (h1 : i < ds.length) : gIx t (.int i) = some (.pure (ds.getD i.toNat .none)) := by
  cases t with
  | list es => cases h; exact at_list h0 h1
  | tuple es => cases h; exact at_tup h0 h1
  | _ => cases h
def Pnd (x : D) (p : Int × Int × Int) : Prop := items x = some [.int p.1, .int p.2.1, .int p.2.2]
structure StairG (st : D) (xs : List D) (ps : List (Int × Int × Int)) : Prop where
  its : items st = some xs
  len : xs.length = ps.length
  ok : ∀ (i : Nat) x p, xs[i]? = some x → ps[i]? = some p → Pnd x p
theorem Pnd.of (p : Int × Int × Int) : Pnd (pd p) p := rfl
theorem Stair.gen {st : D} {ps : List (Int × Int × Int)} (h : Stair st ps) : StairG st (ps.map pd) ps := ⟨h.items, List.length_map _, fun i x p h1 h2 => by
  rw [List.getElem?_map, h2] at h1
  cases h1
  exact Pnd.of p⟩
theorem StairG.ix {st : D} {xs : List D} {ps : List (Int × Int × Int)} (h : StairG st xs ps) {l : Nat} (h0 : 1 ≤ l) (h1 : l ≤ ps.length) : ∃ x, gIx st (.int ((l : Int) - 1)) = some (.pure x) ∧ Pnd x (pAt ps (l - 1)) := by
  have hl := h.len
  have hlt : l - 1 < xs.length := by omega
  have hlp : l - 1 < ps.length := by omega
  refine ⟨xs.getD (l - 1) .none, ?_, ?_⟩
  · rw [ix_items h.its (by omega) (by omega)]
    congr 4
    omega
  · refine h.ok (l - 1) _ _ ?_ ?_
    · rw [List.getD_eq_getElem?_getD, List.getElem?_eq_getElem hlt]; rfl
    · unfold pAt; rw [List.getD_eq_getElem?_getD, List.getElem?_eq_getElem hlp]; rfl
theorem items_cases {t : D} {ds : List D} (h : items t = some ds) : t = .list ds ∨ t = .tuple ds := by
  cases t with
  | list es => cases h; exact .inl rfl
  | tuple es => cases h; exact .inr rfl
  | _ => cases h
theorem Pnd.b {x : D} {p : Int × Int × Int} (h : Pnd x p) : gIx x (.int 1) = some (.pure (.int p.2.1)) := by rcases items_cases h with rfl | rfl <;> rfl
/-- the parts of a deed -/
def dl : Dd → List D
  | .fill l => [.str "fill", .int l]
  | .empty l => [.str "empty", .int l]
  | .raise l m => [.str "raise", .int l, .int m]
  | .lower l m => [.str "lower", .int l, .int m]
def Dt (t : D) (d : Dd) : Prop := items t = some (dl d)
theorem Dt.of (d : Dd) : Dt (dd d) d := by cases d <;> rfl
/-! ### running over -/
abbrev Pz := (Int × Int × Int) × Int
def spill (m : Int) : Int := if m > 0 then m else 0
/-- levels, what ran over out of each pound, what ran over out of the lowest -/
def ov : List Pz → List Int × List Int × Int
  | [] => ([], [], 0)
  | z :: zs => ((z.2 + (ov zs).2.2 - spill (z.2 + (ov zs).2.2 - z.1.2.1)) :: (ov zs).1, spill (z.2 + (ov zs).2.2 - z.1.2.1) :: (ov zs).2.1, spill (z.2 + (ov zs).2.2 - z.1.2.1))
end Lw
-- F2
namespace Lw
open PySem PySem.Spec PyProof.Rows L2
local macro_rules | `(tactic| walk_at "lw e") => `(tactic| (repeat (first | (with_reducible refine Stp.go ?_) | (with_reducible apply Exists.intro) | ((with_reducible refine And.intro ?_ ?_); · (first | (with_reducible exact Evl.ev) | ((fail_if_success (with_reducible refine Gd.keep ?_)); rfl) | ((with_reducible apply mul_r); decide) | ((with_reducible apply mul_l); decide) | ((with_reducible apply div_i); decide) | ((with_reducible apply in_R); decide) | (exact Nat.le_of_ble_eq_true rfl) | (simp [refsOf]; done) | (exact ⟨rfl, rfl, by decide⟩) | (exact ⟨rfl, rfl, rfl⟩) | ((with_reducible apply tgN_o); (focus rfl); (focus (first | assumption | trivial))))) | ((with_reducible apply Sm.vrP); (focus rfl)) | ((with_reducible apply Sm.vrO); (focus rfl)) | ((with_reducible apply Sm.augI); (focus rfl)) | ((with_reducible refine Sm.dicE ?_ ?_); (focus decide)) | ((with_reducible apply Sm.augS); (focus rfl)) | (with_reducible refine iteTT ?_) | (with_reducible refine iteT ?_) | (with_reducible refine iteF ?_) | ((with_reducible refine iteB1 ?_ ?_); (focus rfl)) | ((with_reducible refine iteB0 ?_ ?_); (focus rfl)))))
local macro_rules | `(tactic| walk_at "lw n") => `(tactic| (try dsimp only [ent, List.map, Nat.reduceAdd, Nat.reduceSub, List.length_cons, List.length_nil, List.replicate_succ, List.replicate_zero, List.cons_append, List.nil_append, putBack, setOwn, List.getElem?_cons_zero, List.getElem?_cons_succ, List.set_cons_zero, List.set_cons_succ, Sm.nf]))
local macro_rules | `(tactic| walk_at "lw v") => `(tactic| (try simp only [pb1, pb2, pb3, pb4]))
/-! ### one deed -/
def add1 (ls : List Int) (p m : Int) : List Int := if p > 0 then ls.set (p.toNat - 1) (ls.getD (p.toNat - 1) 0 + m) else ls
theorem add1_len (ls : List Int) (p m : Int) : (add1 ls p m).length = ls.length := by unfold add1; split <;> simp
theorem chg_on {ps : List (Int × Int × Int)} {d : Dd} {n : Nat} (h : d.On n) : 0 ≤ (chg ps d).1 ∧ (chg ps d).1 ≤ n := by
  obtain ⟨h1, h2⟩ := h
  cases d with
  | fill l => exact ⟨by show (0 : Int) ≤ l; omega, by show (l : Int) ≤ n; have : l ≤ n := h2; omega⟩
  | empty l => have a : 1 ≤ l := h1; have b : l ≤ n := h2; exact ⟨by show (0 : Int) ≤ (l : Int) - 1; omega, by show (l : Int) - 1 ≤ n; omega⟩
  | raise l m => exact ⟨by show (0 : Int) ≤ l; omega, by show (l : Int) ≤ n; have : l ≤ n := h2; omega⟩
  | lower l m => exact ⟨by show (0 : Int) ≤ l; omega, by show (l : Int) ≤ n; have : l ≤ n := h2; omega⟩
def chD (b : Bool) : D := .str (if b = true then "high" else "low")
def Chs (t : D) (bs : List Bool) : Prop := items t = some (bs.map chD)
def turn (bs : List Bool) : Dd → List Bool
  | .fill l => bs.set (l - 1) true
  | .empty l => bs.set (l - 1) false
  | _ => bs
def shut (bs : List Bool) : Dd → Bool
  | .fill l => bs.getD (l - 1) false
  | .empty l => !bs.getD (l - 1) false
  | _ => false
theorem Chs.ix {t : D} {bs : List Bool} (h : Chs t bs) {l : Nat} (h0 : 1 ≤ l) (h1 : l ≤ bs.length) : gIx t (.int ((l : Int) - 1)) = some (.pure (chD (bs.getD (l - 1) false))) := by
  have hlt : l - 1 < bs.length := by omega
  rw [ix_items h (by omega) (by rw [List.length_map]; omega)]
  have e : ((l : Int) - 1).toNat = l - 1 := by omega
  rw [e, List.getD_eq_getElem?_getD, List.getElem?_map, List.getD_eq_getElem?_getD, List.getElem?_eq_getElem hlt]
  rfl
def asks (ps : List (Int × Int × Int)) (d : Dd) : Int := (pAt ps ((chg ps d).1.toNat - 1)).1 - (chg ps d).2
def dry (ps : List (Int × Int × Int)) (ls : List Int) (d : Dd) : Bool := if (chg ps d).2 ≥ 0 then false else decide (ls.getD ((chg ps d).1.toNat - 1) 0 < asks ps d)
end Lw
-- F2
namespace Lw
open PySem PySem.Spec PyProof.Rows L2
local macro_rules | `(tactic| walk_at "lw e") => `(tactic| (repeat (first | (with_reducible refine Stp.go ?_) | (with_reducible apply Exists.intro) | ((with_reducible refine And.intro ?_ ?_); · (first | (with_reducible exact Evl.ev) | ((fail_if_success (with_reducible refine Gd.keep ?_)); rfl) | ((with_reducible apply mul_r); decide) | ((with_reducible apply mul_l); decide) | ((with_reducible apply div_i); decide) | ((with_reducible apply in_R); decide) | (exact Nat.le_of_ble_eq_true rfl) | (simp [refsOf]; done) | (exact ⟨rfl, rfl, by decide⟩) | (exact ⟨rfl, rfl, rfl⟩) | ((with_reducible apply tgN_o); (focus rfl); (focus (first | assumption | trivial))))) | ((with_reducible apply Sm.vrP); (focus rfl)) | ((with_reducible apply Sm.vrO); (focus rfl)) | ((with_reducible apply Sm.augI); (focus rfl)) | ((with_reducible refine Sm.dicE ?_ ?_); (focus decide)) | ((with_reducible apply Sm.augS); (focus rfl)) | (with_reducible refine iteTT ?_) | (with_reducible refine iteT ?_) | (with_reducible refine iteF ?_) | ((with_reducible refine iteB1 ?_ ?_); (focus rfl)) | ((with_reducible refine iteB0 ?_ ?_); (focus rfl)))))
local macro_rules | `(tactic| walk_at "lw n") => `(tactic| (try dsimp only [ent, List.map, Nat.reduceAdd, Nat.reduceSub, List.length_cons, List.length_nil, List.replicate_succ, List.replicate_zero, List.cons_append, List.nil_append, putBack, setOwn, List.getElem?_cons_zero, List.getElem?_cons_succ, List.set_cons_zero, List.set_cons_succ, Sm.nf]))
local macro_rules | `(tactic| walk_at "lw v") => `(tactic| (try simp only [pb1, pb2, pb3, pb4]))
/-! ### fault_of, done, gone -/
def aft (ps : List (Int × Int × Int)) (ls : List Int) (d : Dd) : List Int := (ov (ps.zip (add1 ls (chg ps d).1 (chg ps d).2))).1
def spl (ps : List (Int × Int × Int)) (ls : List Int) (d : Dd) : List Int := (ov (ps.zip (add1 ls (chg ps d).1 (chg ps d).2))).2.1
def sD (ls : List Int) (bs : List Bool) : D := .tuple [it ls, .tuple (bs.map chD)]
end Lw
-- F2
namespace Lw
open PySem PySem.Spec PyProof.Rows L2
local macro_rules | `(tactic| walk_at "lw e") => `(tactic| (repeat (first | (with_reducible refine Stp.go ?_) | (with_reducible apply Exists.intro) | ((with_reducible refine And.intro ?_ ?_); · (first | (with_reducible exact Evl.ev) | ((fail_if_success (with_reducible refine Gd.keep ?_)); rfl) | ((with_reducible apply mul_r); decide) | ((with_reducible apply mul_l); decide) | ((with_reducible apply div_i); decide) | ((with_reducible apply in_R); decide) | (exact Nat.le_of_ble_eq_true rfl) | (simp [refsOf]; done) | (exact ⟨rfl, rfl, by decide⟩) | (exact ⟨rfl, rfl, rfl⟩) | ((with_reducible apply tgN_o); (focus rfl); (focus (first | assumption | trivial))))) | ((with_reducible apply Sm.vrP); (focus rfl)) | ((with_reducible apply Sm.vrO); (focus rfl)) | ((with_reducible apply Sm.augI); (focus rfl)) | ((with_reducible refine Sm.dicE ?_ ?_); (focus decide)) | ((with_reducible apply Sm.augS); (focus rfl)) | (with_reducible refine iteTT ?_) | (with_reducible refine iteT ?_) | (with_reducible refine iteF ?_) | ((with_reducible refine iteB1 ?_ ?_); (focus rfl)) | ((with_reducible refine iteB0 ?_ ?_); (focus rfl)))))
local macro_rules | `(tactic| walk_at "lw n") => `(tactic| (try dsimp only [ent, List.map, Nat.reduceAdd, Nat.reduceSub, List.length_cons, List.length_nil, List.replicate_succ, List.replicate_zero, List.cons_append, List.nil_append, putBack, setOwn, List.getElem?_cons_zero, List.getElem?_cons_succ, List.set_cons_zero, List.set_cons_succ, Sm.nf]))
local macro_rules | `(tactic| walk_at "lw v") => `(tactic| (try simp only [pb1, pb2, pb3, pb4]))
structure DeedsG (t : D) (ts : List D) (ds : List Dd) : Prop where
  its : items t = some ts
  len : ts.length = ds.length
  ok : ∀ (i : Nat) x d, ts[i]? = some x → ds[i]? = some d → Dt x d
abbrev Gs := List Int × List Bool × List Int
def gst (ps : List (Int × Int × Int)) (s : Gs) (d : Dd) : Gs := (aft ps s.1 d, turn s.2.1 d, (s.2.2.zip (spl ps s.1 d)).map fun p => p.1 + p.2)
def gn (ps : List (Int × Int × Int)) (s : Gs) (ds : List Dd) : Gs := ds.foldl (gst ps) s
end Lw
-- F2
namespace Lw
open PySem PySem.Spec PyProof.Rows L2
local macro_rules | `(tactic| walk_at "lw e") => `(tactic| (repeat (first | (with_reducible refine Stp.go ?_) | (with_reducible apply Exists.intro) | ((with_reducible refine And.intro ?_ ?_); · (first | (with_reducible exact Evl.ev) | ((fail_if_success (with_reducible refine Gd.keep ?_)); rfl) | ((with_reducible apply mul_r); decide) | ((with_reducible apply mul_l); decide) | ((with_reducible apply div_i); decide) | ((with_reducible apply in_R); decide) | (exact Nat.le_of_ble_eq_true rfl) | (simp [refsOf]; done) | (exact ⟨rfl, rfl, by decide⟩) | (exact ⟨rfl, rfl, rfl⟩) | ((with_reducible apply tgN_o); (focus rfl); (focus (first | assumption | trivial))))) | ((with_reducible apply Sm.vrP); (focus rfl)) | ((with_reducible apply Sm.vrO); (focus rfl)) | ((with_reducible apply Sm.augI); (focus rfl)) | ((with_reducible refine Sm.dicE ?_ ?_); (focus decide)) | ((with_reducible apply Sm.augS); (focus rfl)) | (with_reducible refine iteTT ?_) | (with_reducible refine iteT ?_) | (with_reducible refine iteF ?_) | ((with_reducible refine iteB1 ?_ ?_); (focus rfl)) | ((with_reducible refine iteB0 ?_ ?_); (focus rfl)))))
local macro_rules | `(tactic| walk_at "lw n") => `(tactic| (try dsimp only [ent, List.map, Nat.reduceAdd, Nat.reduceSub, List.length_cons, List.length_nil, List.replicate_succ, List.replicate_zero, List.cons_append, List.nil_append, putBack, setOwn, List.getElem?_cons_zero, List.getElem?_cons_succ, List.set_cons_zero, List.set_cons_succ, Sm.nf]))
local macro_rules | `(tactic| walk_at "lw v") => `(tactic| (try simp only [pb1, pb2, pb3, pb4]))
/-! ### sums_of, stairs and deeds as lists or tuples -/
def undg (x : D) : Dd := undd (.tuple ((items x).getD []))
theorem undg_dt {x : D} {d : Dd} (h : Dt x d) : undg x = d := by
  unfold undg
  rw [show items x = some (dl d) from h]
  cases d <;> rfl
theorem DeedsG.mem {t : D} {ts : List D} {ds : List Dd} (h : DeedsG t ts ds) {x : D} (hx : x ∈ ts) : ∃ d ∈ ds, Dt x d := by
  obtain ⟨i, hi⟩ := List.mem_iff_getElem?.1 hx
  have hil := (List.getElem?_eq_some_iff.mp hi).1
  rw [h.len] at hil
  exact ⟨ds[i], List.getElem_mem hil, h.ok i x _ hi (List.getElem?_eq_getElem hil)⟩
theorem DeedsG.map {α : Type} {t : D} {ts : List D} {ds : List Dd} (h : DeedsG t ts ds) (f : Dd → α) : ts.map (fun x => f (undg x)) = ds.map f := by
  apply List.ext_getElem?
  intro i
  rw [List.getElem?_map, List.getElem?_map]
  by_cases hi : i < ts.length
  · have hj : i < ds.length := by rw [← h.len]; exact hi
    rw [List.getElem?_eq_getElem hi, List.getElem?_eq_getElem hj]
    show some (f (undg ts[i])) = some (f ds[i])
    rw [undg_dt (h.ok i _ _ (List.getElem?_eq_getElem hi) (List.getElem?_eq_getElem hj))]
  · have hj : ¬ i < ds.length := by rw [← h.len]; exact hi
    rw [List.getElem?_eq_none (by omega), List.getElem?_eq_none (by omega)]
    rfl
end Lw
-- F2
namespace Lw
open PySem PySem.Spec PyProof.Rows L2
local macro_rules | `(tactic| walk_at "lw e") => `(tactic| (repeat (first | (with_reducible refine Stp.go ?_) | (with_reducible apply Exists.intro) | ((with_reducible refine And.intro ?_ ?_); · (first | (with_reducible exact Evl.ev) | ((fail_if_success (with_reducible refine Gd.keep ?_)); rfl) | ((with_reducible apply mul_r); decide) | ((with_reducible apply mul_l); decide) | ((with_reducible apply div_i); decide) | ((with_reducible apply in_R); decide) | (exact Nat.le_of_ble_eq_true rfl) | (simp [refsOf]; done) | (exact ⟨rfl, rfl, by decide⟩) | (exact ⟨rfl, rfl, rfl⟩) | ((with_reducible apply tgN_o); (focus rfl); (focus (first | assumption | trivial))))) | ((with_reducible apply Sm.vrP); (focus rfl)) | ((with_reducible apply Sm.vrO); (focus rfl)) | ((with_reducible apply Sm.augI); (focus rfl)) | ((with_reducible refine Sm.dicE ?_ ?_); (focus decide)) | ((with_reducible apply Sm.augS); (focus rfl)) | (with_reducible refine iteTT ?_) | (with_reducible refine iteT ?_) | (with_reducible refine iteF ?_) | ((with_reducible refine iteB1 ?_ ?_); (focus rfl)) | ((with_reducible refine iteB0 ?_ ?_); (focus rfl)))))
local macro_rules | `(tactic| walk_at "lw n") => `(tactic| (try dsimp only [ent, List.map, Nat.reduceAdd, Nat.reduceSub, List.length_cons, List.length_nil, List.replicate_succ, List.replicate_zero, List.cons_append, List.nil_append, putBack, setOwn, List.getElem?_cons_zero, List.getElem?_cons_succ, List.set_cons_zero, List.set_cons_succ, Sm.nf]))
local macro_rules | `(tactic| walk_at "lw v") => `(tactic| (try simp only [pb1, pb2, pb3, pb4]))
/-! ### laps whose turns are let -/
def turns (bs : List Bool) (ds : List Dd) : List Bool := ds.foldl turn bs
structure Runs (bs : List Bool) (ds : List Dd) (bs' : List Bool) : Prop where
  fin : turns bs ds = bs'
  ok : ∀ (i : Nat) d, ds[i]? = some d → shut (turns bs (ds.take i)) d = false
theorem Runs.nil (bs : List Bool) : Runs bs [] bs := ⟨rfl, fun i d h => by simp at h⟩
end Lw
-- F2
namespace Lw
open PySem PySem.Spec PyProof.Rows L2
local macro_rules | `(tactic| walk_at "lw e") => `(tactic| (repeat (first | (with_reducible refine Stp.go ?_) | (with_reducible apply Exists.intro) | ((with_reducible refine And.intro ?_ ?_); · (first | (with_reducible exact Evl.ev) | ((fail_if_success (with_reducible refine Gd.keep ?_)); rfl) | ((with_reducible apply mul_r); decide) | ((with_reducible apply mul_l); decide) | ((with_reducible apply div_i); decide) | ((with_reducible apply in_R); decide) | (exact Nat.le_of_ble_eq_true rfl) | (simp [refsOf]; done) | (exact ⟨rfl, rfl, by decide⟩) | (exact ⟨rfl, rfl, rfl⟩) | ((with_reducible apply tgN_o); (focus rfl); (focus (first | assumption | trivial))))) | ((with_reducible apply Sm.vrP); (focus rfl)) | ((with_reducible apply Sm.vrO); (focus rfl)) | ((with_reducible apply Sm.augI); (focus rfl)) | ((with_reducible refine Sm.dicE ?_ ?_); (focus decide)) | ((with_reducible apply Sm.augS); (focus rfl)) | (with_reducible refine iteTT ?_) | (with_reducible refine iteT ?_) | (with_reducible refine iteF ?_) | ((with_reducible refine iteB1 ?_ ?_); (focus rfl)) | ((with_reducible refine iteB0 ?_ ?_); (focus rfl)))))
local macro_rules | `(tactic| walk_at "lw n") => `(tactic| (try dsimp only [ent, List.map, Nat.reduceAdd, Nat.reduceSub, List.length_cons, List.length_nil, List.replicate_succ, List.replicate_zero, List.cons_append, List.nil_append, putBack, setOwn, List.getElem?_cons_zero, List.getElem?_cons_succ, List.set_cons_zero, List.set_cons_succ, Sm.nf]))
local macro_rules | `(tactic| walk_at "lw v") => `(tactic| (try simp only [pb1, pb2, pb3, pb4]))
/-! ### sums of laps, lock by lock -/
end Lw
-- F2
namespace Lw
open PySem PySem.Spec PyProof.Rows L2
local macro_rules | `(tactic| walk_at "lw e") => `(tactic| (repeat (first | (with_reducible refine Stp.go ?_) | (with_reducible apply Exists.intro) | ((with_reducible refine And.intro ?_ ?_); · (first | (with_reducible exact Evl.ev) | ((fail_if_success (with_reducible refine Gd.keep ?_)); rfl) | ((with_reducible apply mul_r); decide) | ((with_reducible apply mul_l); decide) | ((with_reducible apply div_i); decide) | ((with_reducible apply in_R); decide) | (exact Nat.le_of_ble_eq_true rfl) | (simp [refsOf]; done) | (exact ⟨rfl, rfl, by decide⟩) | (exact ⟨rfl, rfl, rfl⟩) | ((with_reducible apply tgN_o); (focus rfl); (focus (first | assumption | trivial))))) | ((with_reducible apply Sm.vrP); (focus rfl)) | ((with_reducible apply Sm.vrO); (focus rfl)) | ((with_reducible apply Sm.augI); (focus rfl)) | ((with_reducible refine Sm.dicE ?_ ?_); (focus decide)) | ((with_reducible apply Sm.augS); (focus rfl)) | (with_reducible refine iteTT ?_) | (with_reducible refine iteT ?_) | (with_reducible refine iteF ?_) | ((with_reducible refine iteB1 ?_ ?_); (focus rfl)) | ((with_reducible refine iteB0 ?_ ?_); (focus rfl)))))
local macro_rules | `(tactic| walk_at "lw n") => `(tactic| (try dsimp only [ent, List.map, Nat.reduceAdd, Nat.reduceSub, List.length_cons, List.length_nil, List.replicate_succ, List.replicate_zero, List.cons_append, List.nil_append, putBack, setOwn, List.getElem?_cons_zero, List.getElem?_cons_succ, List.set_cons_zero, List.set_cons_succ, Sm.nf]))
local macro_rules | `(tactic| walk_at "lw v") => `(tactic| (try simp only [pb1, pb2, pb3, pb4]))
end Lw
-- F2
namespace Lw
open PySem PySem.Spec PyProof.Rows L2
local macro_rules | `(tactic| walk_at "lw e") => `(tactic| (repeat (first | (with_reducible refine Stp.go ?_) | (with_reducible apply Exists.intro) | ((with_reducible refine And.intro ?_ ?_); · (first | (with_reducible exact Evl.ev) | ((fail_if_success (with_reducible refine Gd.keep ?_)); rfl) | ((with_reducible apply mul_r); decide) | ((with_reducible apply mul_l); decide) | ((with_reducible apply div_i); decide) | ((with_reducible apply in_R); decide) | (exact Nat.le_of_ble_eq_true rfl) | (simp [refsOf]; done) | (exact ⟨rfl, rfl, by decide⟩) | (exact ⟨rfl, rfl, rfl⟩) | ((with_reducible apply tgN_o); (focus rfl); (focus (first | assumption | trivial))))) | ((with_reducible apply Sm.vrP); (focus rfl)) | ((with_reducible apply Sm.vrO); (focus rfl)) | ((with_reducible apply Sm.augI); (focus rfl)) | ((with_reducible refine Sm.dicE ?_ ?_); (focus decide)) | ((with_reducible apply Sm.augS); (focus rfl)) | (with_reducible refine iteTT ?_) | (with_reducible refine iteT ?_) | (with_reducible refine iteF ?_) | ((with_reducible refine iteB1 ?_ ?_); (focus rfl)) | ((with_reducible refine iteB0 ?_ ?_); (focus rfl)))))
local macro_rules | `(tactic| walk_at "lw n") => `(tactic| (try dsimp only [ent, List.map, Nat.reduceAdd, Nat.reduceSub, List.length_cons, List.length_nil, List.replicate_succ, List.replicate_zero, List.cons_append, List.nil_append, putBack, setOwn, List.getElem?_cons_zero, List.getElem?_cons_succ, List.set_cons_zero, List.set_cons_succ, Sm.nf]))
local macro_rules | `(tactic| walk_at "lw v") => `(tactic| (try simp only [pb1, pb2, pb3, pb4]))
end Lw
-- F2
namespace Lw
open PySem PySem.Spec PyProof.Rows L2
local macro_rules | `(tactic| walk_at "lw e") => `(tactic| (repeat (first | (with_reducible refine Stp.go ?_) | (with_reducible apply Exists.intro) | ((with_reducible refine And.intro ?_ ?_); · (first | (with_reducible exact Evl.ev) | ((fail_if_success (with_reducible refine Gd.keep ?_)); rfl) | ((with_reducible apply mul_r); decide) | ((with_reducible apply mul_l); decide) | ((with_reducible apply div_i); decide) | ((with_reducible apply in_R); decide) | (exact Nat.le_of_ble_eq_true rfl) | (simp [refsOf]; done) | (exact ⟨rfl, rfl, by decide⟩) | (exact ⟨rfl, rfl, rfl⟩) | ((with_reducible apply tgN_o); (focus rfl); (focus (first | assumption | trivial))))) | ((with_reducible apply Sm.vrP); (focus rfl)) | ((with_reducible apply Sm.vrO); (focus rfl)) | ((with_reducible apply Sm.augI); (focus rfl)) | ((with_reducible refine Sm.dicE ?_ ?_); (focus decide)) | ((with_reducible apply Sm.augS); (focus rfl)) | (with_reducible refine iteTT ?_) | (with_reducible refine iteT ?_) | (with_reducible refine iteF ?_) | ((with_reducible refine iteB1 ?_ ?_); (focus rfl)) | ((with_reducible refine iteB0 ?_ ?_); (focus rfl)))))
local macro_rules | `(tactic| walk_at "lw n") => `(tactic| (try dsimp only [ent, List.map, Nat.reduceAdd, Nat.reduceSub, List.length_cons, List.length_nil, List.replicate_succ, List.replicate_zero, List.cons_append, List.nil_append, putBack, setOwn, List.getElem?_cons_zero, List.getElem?_cons_succ, List.set_cons_zero, List.set_cons_succ, Sm.nf]))
local macro_rules | `(tactic| walk_at "lw v") => `(tactic| (try simp only [pb1, pb2, pb3, pb4]))
theorem pw_9 : gPowA (.int 10) (.int 9) = some (.pure (.int 1000000000)) := rfl
theorem pw_12 : gPowA (.int 10) (.int 12) = some (.pure (.int 1000000000000)) := rfl
theorem pw_17 : gPowA (.int 10) (.int 17) = some (.pure (.int 100000000000000000)) := rfl
theorem pw_20 : gPowA (.int 10) (.int 20) = some (.pure (.int 100000000000000000000)) := rfl
theorem pw_60 : gPowA (.int 10) (.int 60) = some (.pure (.int 1000000000000000000000000000000000000000000000000000000000000)) := rfl
instance : Evl (gPowA (.int 10) (.int 9)) (.pure (.int 1000000000)) := ⟨pw_9⟩
instance : Evl (gPowA (.int 10) (.int 12)) (.pure (.int 1000000000000)) := ⟨pw_12⟩
instance : Evl (gPowA (.int 10) (.int 17)) (.pure (.int 100000000000000000)) := ⟨pw_17⟩
instance : Evl (gPowA (.int 10) (.int 20)) (.pure (.int 100000000000000000000)) := ⟨pw_20⟩
instance : Evl (gPowA (.int 10) (.int 60)) (.pure (.int 1000000000000000000000000000000000000000000000000000000000000)) := ⟨pw_60⟩
def PoundI (g : Nat) (p : Int × Int × Int) : Prop := ∃ a b s : Int, p = (a * g, (a + b) * g, s * g) ∧ 0 ≤ a ∧ a < 4 ∧ 0 ≤ b ∧ b < 30 ∧ 1 ≤ s ∧ s < 5
theorem pounds_of {g : Nat} : ∀ {xs : List D}, (∀ x ∈ xs, Pound g x) → ∃ ps : List (Int × Int × Int), xs = ps.map pd ∧ ∀ p ∈ ps, PoundI g p
  | [], _ => ⟨[], rfl, fun p h => by cases h⟩
  | x :: xs, h => by
    obtain ⟨ps, rfl, hp⟩ := pounds_of (xs := xs) fun y hy => h y (by simp [hy])
    obtain ⟨a, b, s, rfl, h1, h2, h3, h4, h5, h6⟩ := h x (by simp)
    refine ⟨(a * g, (a + b) * g, s * g) :: ps, rfl, fun p hm => ?_⟩
    rcases List.mem_cons.1 hm with rfl | hm
    · exact ⟨a, b, s, rfl, h1, h2, h3, h4, h5, h6⟩
    · exact hp p hm
theorem mul_b {g : Nat} (hg : g ≤ 1000000000000000) {k : Int} (h0 : 0 ≤ k) (h1 : k ≤ 40) : (k * g).natAbs ≤ 40000000000000000 := by
  have e1 : 0 ≤ k * g := Int.mul_nonneg h0 (by omega)
  have e2 : k * g ≤ 40 * g := Int.mul_le_mul_of_nonneg_right h1 (by omega)
  omega
theorem pd_fine {g : Nat} (hg : g ≤ 1000000000000000) {p : Int × Int × Int} (h : PoundI g p) : Fine 100000000000000000 1 ((57 + 1) * 3) (pd p) := by
  obtain ⟨a, b, s, rfl, h1, h2, h3, h4, h5, h6⟩ := h
  refine Fine.tup (fun x hx => ?_) (Nat.le_refl _)
  have k1 := mul_b hg (k := a) (by omega) (by omega)
  have k2 := mul_b hg (k := a + b) (by omega) (by omega)
  have k3 := mul_b hg (k := s) (by omega) (by omega)
  simp only [List.mem_cons, List.not_mem_nil, or_false] at hx
  rcases hx with rfl | rfl | rfl
  · exact Fine.int (by omega) (by decide)
  · exact Fine.int (by omega) (by decide)
  · exact Fine.int (by omega) (by decide)
end Lw
-- F2
-- F3
namespace Lw
open PySem PySem.Spec PyProof.Rows L2
local macro_rules | `(tactic| walk_at "lw e") => `(tactic| (repeat (first | (with_reducible refine Stp.go ?_) | (with_reducible apply Exists.intro) | ((with_reducible refine And.intro ?_ ?_); · (first | (with_reducible exact Evl.ev) | ((fail_if_success (with_reducible refine Gd.keep ?_)); rfl) | ((with_reducible apply mul_r); decide) | ((with_reducible apply mul_l); decide) | ((with_reducible apply div_i); decide) | ((with_reducible apply in_R); decide) | (exact Nat.le_of_ble_eq_true rfl) | (simp [refsOf]; done) | (exact ⟨rfl, rfl, by decide⟩) | (exact ⟨rfl, rfl, rfl⟩) | ((with_reducible apply tgN_o); (focus rfl); (focus (first | assumption | trivial))))) | ((with_reducible apply Sm.vrP); (focus rfl)) | ((with_reducible apply Sm.vrO); (focus rfl)) | ((with_reducible apply Sm.augI); (focus rfl)) | ((with_reducible refine Sm.dicE ?_ ?_); (focus decide)) | ((with_reducible apply Sm.augS); (focus rfl)) | (with_reducible refine iteTT ?_) | (with_reducible refine iteT ?_) | (with_reducible refine iteF ?_) | ((with_reducible refine iteB1 ?_ ?_); (focus rfl)) | ((with_reducible refine iteB0 ?_ ?_); (focus rfl)))))
local macro_rules | `(tactic| walk_at "lw n") => `(tactic| (try dsimp only [ent, List.map, Nat.reduceAdd, Nat.reduceSub, List.length_cons, List.length_nil, List.replicate_succ, List.replicate_zero, List.cons_append, List.nil_append, putBack, setOwn, List.getElem?_cons_zero, List.getElem?_cons_succ, List.set_cons_zero, List.set_cons_succ, Sm.nf]))
local macro_rules | `(tactic| walk_at "lw v") => `(tactic| (try simp only [pb1, pb2, pb3, pb4]))
/-! ### totals, great stairs on which nothing runs over -/
def tots (xs : List Int) : List Int := (List.range xs.length).map fun i => (xs.drop i).sum
theorem tots_get (xs : List Int) (i : Nat) : (tots xs)[i]? = if i < xs.length then some (xs.drop i).sum else none := by
  unfold tots
  rw [List.getElem?_map]
  by_cases h : i < xs.length
  · rw [List.getElem?_range h, if_pos h]; rfl
  · rw [List.getElem?_eq_none (by rw [List.length_range]; omega), if_neg h]; rfl
theorem sum_set : ∀ (xs : List Int) (k : Nat) (v : Int), k < xs.length → (xs.set k v).sum = xs.sum + (v - xs.getD k 0)
  | [], k, v, h => by simp at h
  | x :: xs, 0, v, _ => by simp; omega
  | x :: xs, k + 1, v, h => by
    rw [List.set_cons_succ, List.sum_cons, List.sum_cons, sum_set xs k v (by simpa using h)]
    simp only [List.getD_cons_succ]
    omega
theorem tots_add1 {ls : List Int} {c : Nat} {m : Int} (hc : c ≤ ls.length) : tots (add1 ls (c : Int) m) = addPre c m (tots ls) := by
  apply List.ext_getElem?
  intro a
  rw [addPre_get, tots_get, tots_get, add1_len]
  by_cases h : a < ls.length
  · rw [if_pos h, if_pos h]
    unfold add1
    by_cases h0 : (c : Int) > 0
    · rw [if_pos h0, Int.toNat_natCast]
      by_cases q : a < c
      · rw [if_pos q]
        have e : (ls.set (c - 1) (ls.getD (c - 1) 0 + m)).drop a = (ls.drop a).set (c - 1 - a) (ls.getD (c - 1) 0 + m) := by
          rw [List.drop_set, if_neg (by omega)]
        rw [e, sum_set _ _ _ (by rw [List.length_drop]; omega)]
        have e2 : (ls.drop a).getD (c - 1 - a) 0 = ls.getD (c - 1) 0 := by
          rw [List.getD_eq_getElem?_getD, List.getD_eq_getElem?_getD, List.getElem?_drop]
          congr 2
          omega
        rw [e2]
        simp only [Option.map_some]
        congr 1
        omega
      · rw [if_neg q]
        have e : (ls.set (c - 1) (ls.getD (c - 1) 0 + m)).drop a = ls.drop a := by
          rw [List.drop_set, if_pos (by omega)]
        rw [e]
    · rw [if_neg h0]
      rw [if_neg (by omega)]
  · rw [if_neg h, if_neg h]
    simp
theorem ov_flat : ∀ zs : List Pz, (∀ z ∈ zs, z.2 ≤ z.1.2.1) → ov zs = (zs.map (·.2), zs.map (fun _ => 0), 0)
  | [], _ => rfl
  | z :: zs, h => by
    have h1 := h z (by simp)
    have ih := ov_flat zs fun y hy => h y (by simp [hy])
    rw [ov, ih]
    have e : spill (z.2 + 0 - z.1.2.1) = 0 := by unfold spill; rw [if_neg (by omega)]
    dsimp only
    rw [e]
    simp
/-- the stair with the same locks and pounds so great -/
def greatS (F : Int) (ps : List (Int × Int × Int)) : List (Int × Int × Int) := ps.map fun p => (0, 2 * F, p.2.2)
theorem greatS_len (F : Int) (ps : List (Int × Int × Int)) : (greatS F ps).length = ps.length := List.length_map _
theorem great_sz (F : Int) (ps : List (Int × Int × Int)) {l : Nat} (h0 : 1 ≤ l) (h1 : l ≤ ps.length) : sz (greatS F ps) l = sz ps l := by
  have hlt : l - 1 < ps.length := by omega
  unfold sz pAt greatS
  rw [List.getD_eq_getElem?_getD, List.getElem?_map, List.getD_eq_getElem?_getD, List.getElem?_eq_getElem hlt]
  rfl
theorem great_chg (F : Int) {ps : List (Int × Int × Int)} {d : Dd} (h : d.On ps.length) : chg (greatS F ps) d = chg ps d := by
  obtain ⟨h0, h1⟩ := h
  cases d with
  | fill l => show ((l : Int), -sz (greatS F ps) l) = _; rw [great_sz F ps (l := l) h0 h1]; rfl
  | empty l => show ((l : Int) - 1, sz (greatS F ps) l) = _; rw [great_sz F ps (l := l) h0 h1]; rfl
  | raise l m => rfl
  | lower l m => rfl
theorem great_most {F : Int} {ps : List (Int × Int × Int)} {ls : List Int} (h : ∀ l ∈ ls, l ≤ 2 * F) : ∀ z ∈ (greatS F ps).zip ls, z.2 ≤ z.1.2.1 := by
  intro z hz
  have h1 := (List.of_mem_zip hz).1
  have h2 := (List.of_mem_zip hz).2
  unfold greatS at h1
  obtain ⟨p, _, e⟩ := List.mem_map.1 h1
  rw [← e]
  exact h _ h2
theorem zip_snd {F : Int} {ps : List (Int × Int × Int)} {ls : List Int} (h : ls.length = ps.length) : ((greatS F ps).zip ls).map (·.2) = ls := by
  have := List.map_snd_zip (l₁ := greatS F ps) (l₂ := ls) (by rw [greatS_len]; omega)
  exact this
/-- what stands in the midst behind so many deeds -/
structure Mid (F B : Int) (ps : List (Int × Int × Int)) (bs : List Bool) (ds : List Dd) (s : Gs) : Prop where
  len : s.1.length = ps.length
  bd : ∀ l ∈ s.1, F - B * ds.length ≤ l ∧ l ≤ F + B * ds.length
  tot : tots s.1 = ((tots (ps.map fun _ => F)).zip (sums ps ds)).map fun p => p.1 + p.2
  ch : s.2.1 = turns bs ds
  ran : s.2.2 = ps.map fun _ => 0
theorem add1_mem {ls : List Int} {p m l : Int} (h : l ∈ add1 ls p m) : l ∈ ls ∨ ∃ x ∈ ls, l = x + m := by
  unfold add1 at h
  split at h
  · rename_i hp
    by_cases hlt : p.toNat - 1 < ls.length
    · rcases List.mem_or_eq_of_mem_set h with h | h
      · exact .inl h
      · refine .inr ⟨ls.getD (p.toNat - 1) 0, ?_, h⟩
        rw [List.getD_eq_getElem?_getD, List.getElem?_eq_getElem hlt]
        exact List.getElem_mem hlt
    · rw [List.set_eq_of_length_le (by omega)] at h
      exact .inl h
  · exact .inl h
theorem zip_addPre (c : Nat) (m : Int) : ∀ (xs ys : List Int), addPre c m ((xs.zip ys).map fun p => p.1 + p.2) = (xs.zip (addPre c m ys)).map fun p => p.1 + p.2 := by
  induction c with
  | zero => intro xs ys; rfl
  | succ c ih =>
    intro xs ys
    cases xs with
    | nil => simp [addPre]
    | cons x xs =>
      cases ys with
      | nil => simp [addPre]
      | cons y ys =>
        rw [List.zip_cons_cons, List.map_cons, addPre, ih, addPre, List.zip_cons_cons, List.map_cons]
        congr 1
        dsimp only
        omega
theorem Mid.step {F B : Int} {ps : List (Int × Int × Int)} {bs : List Bool} {ds : List Dd} {d : Dd} {s : Gs} (h : Mid F B ps bs ds s) (ho : d.On ps.length) (hb : -B ≤ (chg ps d).2 ∧ (chg ps d).2 ≤ B) (hF : B * (ds.length + 1) ≤ F) : Mid F B ps bs (ds ++ [d]) (gst (greatS F ps) s d) := by
  have hc := chg_on (ps := ps) ho
  have ec : ((chg ps d).1.toNat : Int) = (chg ps d).1 := by omega
  have eB : B * ((ds ++ [d]).length : Nat) = B * ds.length + B := by
    rw [List.length_append, List.length_singleton]; push_cast; rw [Int.mul_add, Int.mul_one]
  have hB0 : 0 ≤ B := by omega
  have eB2 : B * ((ds.length : Int) + 1) = B * ds.length + B := by rw [Int.mul_add, Int.mul_one]
  have bd2 : ∀ l ∈ add1 s.1 (chg ps d).1 (chg ps d).2, F - B * ((ds ++ [d]).length : Nat) ≤ l ∧ l ≤ F + B * ((ds ++ [d]).length : Nat) := by
    intro l hm
    rw [eB]
    rcases add1_mem hm with hm | ⟨x, hx, rfl⟩
    · have := h.bd l hm; omega
    · have := h.bd x hx; omega
  have hmost : ∀ l ∈ add1 s.1 (chg ps d).1 (chg ps d).2, l ≤ 2 * F := fun l hm => by
    have := bd2 l hm
    omega
  have fl := ov_flat ((greatS F ps).zip (add1 s.1 (chg ps d).1 (chg ps d).2)) (great_most hmost)
  have ea : aft (greatS F ps) s.1 d = add1 s.1 (chg ps d).1 (chg ps d).2 := by
    unfold aft
    rw [great_chg F ho, fl]
    exact zip_snd (by rw [add1_len]; exact h.len)
  have es : spl (greatS F ps) s.1 d = ps.map fun _ => 0 := by
    unfold spl
    rw [great_chg F ho, fl]
    show List.map (fun _ => (0 : Int)) ((greatS F ps).zip (add1 s.1 (chg ps d).1 (chg ps d).2)) = _
    rw [List.map_const', List.map_const', List.length_zip, greatS_len, add1_len, h.len, Nat.min_self]
  refine ⟨?_, ?_, ?_, ?_, ?_⟩
  · show (aft (greatS F ps) s.1 d).length = _
    rw [ea, add1_len]; exact h.len
  · intro l hm
    rw [show (gst (greatS F ps) s d).1 = aft (greatS F ps) s.1 d from rfl, ea] at hm
    exact bd2 l hm
  · show tots (aft (greatS F ps) s.1 d) = _
    rw [ea, ← ec, tots_add1 (by rw [h.len]; omega), h.tot, zip_addPre, addPre_sums ps ds d _ ec.symm]
  · show turn s.2.1 d = _
    rw [h.ch]
    unfold turns
    rw [List.foldl_append]
    rfl
  · show ((s.2.2.zip (spl (greatS F ps) s.1 d)).map fun p => p.1 + p.2) = _
    rw [h.ran, es]
    generalize ps = qs
    induction qs with
    | nil => rfl
    | cons q qs ih => rw [List.map_cons, List.zip_cons_cons, List.map_cons, ih]; rfl
end Lw
-- F2
-- F3
namespace Lw
open PySem PySem.Spec PyProof.Rows L2
local macro_rules | `(tactic| walk_at "lw e") => `(tactic| (repeat (first | (with_reducible refine Stp.go ?_) | (with_reducible apply Exists.intro) | ((with_reducible refine And.intro ?_ ?_); · (first | (with_reducible exact Evl.ev) | ((fail_if_success (with_reducible refine Gd.keep ?_)); rfl) | ((with_reducible apply mul_r); decide) | ((with_reducible apply mul_l); decide) | ((with_reducible apply div_i); decide) | ((with_reducible apply in_R); decide) | (exact Nat.le_of_ble_eq_true rfl) | (simp [refsOf]; done) | (exact ⟨rfl, rfl, by decide⟩) | (exact ⟨rfl, rfl, rfl⟩) | ((with_reducible apply tgN_o); (focus rfl); (focus (first | assumption | trivial))))) | ((with_reducible apply Sm.vrP); (focus rfl)) | ((with_reducible apply Sm.vrO); (focus rfl)) | ((with_reducible apply Sm.augI); (focus rfl)) | ((with_reducible refine Sm.dicE ?_ ?_); (focus decide)) | ((with_reducible apply Sm.augS); (focus rfl)) | (with_reducible refine iteTT ?_) | (with_reducible refine iteT ?_) | (with_reducible refine iteF ?_) | ((with_reducible refine iteB1 ?_ ?_); (focus rfl)) | ((with_reducible refine iteB0 ?_ ?_); (focus rfl)))))
local macro_rules | `(tactic| walk_at "lw n") => `(tactic| (try dsimp only [ent, List.map, Nat.reduceAdd, Nat.reduceSub, List.length_cons, List.length_nil, List.replicate_succ, List.replicate_zero, List.cons_append, List.nil_append, putBack, setOwn, List.getElem?_cons_zero, List.getElem?_cons_succ, List.set_cons_zero, List.set_cons_succ, Sm.nf]))
local macro_rules | `(tactic| walk_at "lw v") => `(tactic| (try simp only [pb1, pb2, pb3, pb4]))
/-! ### running over, by the law's own loop -/
abbrev P3 := Int × Int × Int
end Lw
-- F2
-- F3
namespace Lw
open PySem PySem.Spec PyProof.Rows L2
local macro_rules | `(tactic| walk_at "lw e") => `(tactic| (repeat (first | (with_reducible refine Stp.go ?_) | (with_reducible apply Exists.intro) | ((with_reducible refine And.intro ?_ ?_); · (first | (with_reducible exact Evl.ev) | ((fail_if_success (with_reducible refine Gd.keep ?_)); rfl) | ((with_reducible apply mul_r); decide) | ((with_reducible apply mul_l); decide) | ((with_reducible apply div_i); decide) | ((with_reducible apply in_R); decide) | (exact Nat.le_of_ble_eq_true rfl) | (simp [refsOf]; done) | (exact ⟨rfl, rfl, by decide⟩) | (exact ⟨rfl, rfl, rfl⟩) | ((with_reducible apply tgN_o); (focus rfl); (focus (first | assumption | trivial))))) | ((with_reducible apply Sm.vrP); (focus rfl)) | ((with_reducible apply Sm.vrO); (focus rfl)) | ((with_reducible apply Sm.augI); (focus rfl)) | ((with_reducible refine Sm.dicE ?_ ?_); (focus decide)) | ((with_reducible apply Sm.augS); (focus rfl)) | (with_reducible refine iteTT ?_) | (with_reducible refine iteT ?_) | (with_reducible refine iteF ?_) | ((with_reducible refine iteB1 ?_ ?_); (focus rfl)) | ((with_reducible refine iteB0 ?_ ?_); (focus rfl)))))
local macro_rules | `(tactic| walk_at "lw n") => `(tactic| (try dsimp only [ent, List.map, Nat.reduceAdd, Nat.reduceSub, List.length_cons, List.length_nil, List.replicate_succ, List.replicate_zero, List.cons_append, List.nil_append, putBack, setOwn, List.getElem?_cons_zero, List.getElem?_cons_succ, List.set_cons_zero, List.set_cons_succ, Sm.nf]))
local macro_rules | `(tactic| walk_at "lw v") => `(tactic| (try simp only [pb1, pb2, pb3, pb4]))
/-! ### the law's own step -/
/-- what takes takes something -/
def Takes (ps : List P3) : Dd → Prop
  | .fill l => 1 ≤ sz ps l
  | .lower _ m => 1 ≤ m
  | .empty l => 1 ≤ sz ps l
  | .raise _ m => 1 ≤ m
end Lw
-- F2
-- F3
namespace Lw
open PySem PySem.Spec PyProof.Rows L2
local macro_rules | `(tactic| walk_at "lw e") => `(tactic| (repeat (first | (with_reducible refine Stp.go ?_) | (with_reducible apply Exists.intro) | ((with_reducible refine And.intro ?_ ?_); · (first | (with_reducible exact Evl.ev) | ((fail_if_success (with_reducible refine Gd.keep ?_)); rfl) | ((with_reducible apply mul_r); decide) | ((with_reducible apply mul_l); decide) | ((with_reducible apply div_i); decide) | ((with_reducible apply in_R); decide) | (exact Nat.le_of_ble_eq_true rfl) | (simp [refsOf]; done) | (exact ⟨rfl, rfl, by decide⟩) | (exact ⟨rfl, rfl, rfl⟩) | ((with_reducible apply tgN_o); (focus rfl); (focus (first | assumption | trivial))))) | ((with_reducible apply Sm.vrP); (focus rfl)) | ((with_reducible apply Sm.vrO); (focus rfl)) | ((with_reducible apply Sm.augI); (focus rfl)) | ((with_reducible refine Sm.dicE ?_ ?_); (focus decide)) | ((with_reducible apply Sm.augS); (focus rfl)) | (with_reducible refine iteTT ?_) | (with_reducible refine iteT ?_) | (with_reducible refine iteF ?_) | ((with_reducible refine iteB1 ?_ ?_); (focus rfl)) | ((with_reducible refine iteB0 ?_ ?_); (focus rfl)))))
local macro_rules | `(tactic| walk_at "lw n") => `(tactic| (try dsimp only [ent, List.map, Nat.reduceAdd, Nat.reduceSub, List.length_cons, List.length_nil, List.replicate_succ, List.replicate_zero, List.cons_append, List.nil_append, putBack, setOwn, List.getElem?_cons_zero, List.getElem?_cons_succ, List.set_cons_zero, List.set_cons_succ, Sm.nf]))
local macro_rules | `(tactic| walk_at "lw v") => `(tactic| (try simp only [pb1, pb2, pb3, pb4]))
/-! ### the law's own walk -/
def okD (s : Gs) : D := .tuple [sD s.1 s.2.1, it s.2.2, .none]
def badD (s : Gs) (i : Nat) (w : Str) (a : Nat) : D := .tuple [sD s.1 s.2.1, it s.2.2, .tuple [.int i, .str w, .int a]]
def wk (ps : List P3) (loose : Bool) : Gs → List Dd → Nat → D
  | s, [], _ => okD s
  | s, d :: ds, i => if loose = false ∧ shut s.2.1 d = true then badD s i "shut" d.at
    else if loose = false ∧ dry ps s.1 d = true then badD s i "dry" d.at else wk ps loose (gst ps s d) ds (i + 1)
end Lw
-- F2
-- F3
namespace Lw
open PySem PySem.Spec PyProof.Rows L2
local macro_rules | `(tactic| walk_at "lw e") => `(tactic| (repeat (first | (with_reducible refine Stp.go ?_) | (with_reducible apply Exists.intro) | ((with_reducible refine And.intro ?_ ?_); · (first | (with_reducible exact Evl.ev) | ((fail_if_success (with_reducible refine Gd.keep ?_)); rfl) | ((with_reducible apply mul_r); decide) | ((with_reducible apply mul_l); decide) | ((with_reducible apply div_i); decide) | ((with_reducible apply in_R); decide) | (exact Nat.le_of_ble_eq_true rfl) | (simp [refsOf]; done) | (exact ⟨rfl, rfl, by decide⟩) | (exact ⟨rfl, rfl, rfl⟩) | ((with_reducible apply tgN_o); (focus rfl); (focus (first | assumption | trivial))))) | ((with_reducible apply Sm.vrP); (focus rfl)) | ((with_reducible apply Sm.vrO); (focus rfl)) | ((with_reducible apply Sm.augI); (focus rfl)) | ((with_reducible refine Sm.dicE ?_ ?_); (focus decide)) | ((with_reducible apply Sm.augS); (focus rfl)) | (with_reducible refine iteTT ?_) | (with_reducible refine iteT ?_) | (with_reducible refine iteF ?_) | ((with_reducible refine iteB1 ?_ ?_); (focus rfl)) | ((with_reducible refine iteB0 ?_ ?_); (focus rfl)))))
local macro_rules | `(tactic| walk_at "lw n") => `(tactic| (try dsimp only [ent, List.map, Nat.reduceAdd, Nat.reduceSub, List.length_cons, List.length_nil, List.replicate_succ, List.replicate_zero, List.cons_append, List.nil_append, putBack, setOwn, List.getElem?_cons_zero, List.getElem?_cons_succ, List.set_cons_zero, List.set_cons_succ, Sm.nf]))
local macro_rules | `(tactic| walk_at "lw v") => `(tactic| (try simp only [pb1, pb2, pb3, pb4]))
/-! ### tables -/
abbrev Tab := List (List Int)
def fmin : List Int → Int
  | [] => 0
  | x :: xs => xs.foldl min x
def ev (row parts : List Int) : Int := fmin (List.zipWith (· + ·) row parts)
def hd0 (t : Tab) : List Int := t.headD [0]
def Shp : Nat → Tab → Prop
  | 0, t => t = []
  | n + 1, t => ∃ row rows, t = row :: rows ∧ row.length = n + 2 ∧ Shp n rows
theorem Shp.len : ∀ {n : Nat} {t : Tab}, Shp n t → t.length = n
  | 0, _, h => by rw [show _ = [] from h]; rfl
  | n + 1, _, ⟨row, rows, e, _, h⟩ => by rw [e, List.length_cons, h.len]
theorem Shp.hd : ∀ {n : Nat} {t : Tab}, Shp n t → (hd0 t).length = n + 1
  | 0, _, h => by rw [show _ = [] from h]; rfl
  | n + 1, _, ⟨row, rows, e, h, _⟩ => by rw [e]; exact h
/-- levels behind deeds, leasts and chambers left aside -/
def lvs (ps : List P3) (ls : List Int) (ds : List Dd) : List Int := ds.foldl (aft ps) ls
end Lw
-- F2
-- F3
namespace Lw
open PySem PySem.Spec PyProof.Rows L2
local macro_rules | `(tactic| walk_at "lw e") => `(tactic| (repeat (first | (with_reducible refine Stp.go ?_) | (with_reducible apply Exists.intro) | ((with_reducible refine And.intro ?_ ?_); · (first | (with_reducible exact Evl.ev) | ((fail_if_success (with_reducible refine Gd.keep ?_)); rfl) | ((with_reducible apply mul_r); decide) | ((with_reducible apply mul_l); decide) | ((with_reducible apply div_i); decide) | ((with_reducible apply in_R); decide) | (exact Nat.le_of_ble_eq_true rfl) | (simp [refsOf]; done) | (exact ⟨rfl, rfl, by decide⟩) | (exact ⟨rfl, rfl, rfl⟩) | ((with_reducible apply tgN_o); (focus rfl); (focus (first | assumption | trivial))))) | ((with_reducible apply Sm.vrP); (focus rfl)) | ((with_reducible apply Sm.vrO); (focus rfl)) | ((with_reducible apply Sm.augI); (focus rfl)) | ((with_reducible refine Sm.dicE ?_ ?_); (focus decide)) | ((with_reducible apply Sm.augS); (focus rfl)) | (with_reducible refine iteTT ?_) | (with_reducible refine iteT ?_) | (with_reducible refine iteF ?_) | ((with_reducible refine iteB1 ?_ ?_); (focus rfl)) | ((with_reducible refine iteB0 ?_ ?_); (focus rfl)))))
local macro_rules | `(tactic| walk_at "lw n") => `(tactic| (try dsimp only [ent, List.map, Nat.reduceAdd, Nat.reduceSub, List.length_cons, List.length_nil, List.replicate_succ, List.replicate_zero, List.cons_append, List.nil_append, putBack, setOwn, List.getElem?_cons_zero, List.getElem?_cons_succ, List.set_cons_zero, List.set_cons_succ, Sm.nf]))
local macro_rules | `(tactic| walk_at "lw v") => `(tactic| (try simp only [pb1, pb2, pb3, pb4]))
def tabD (t : Tab) : D := .tuple (t.map it)
structure TabG (tv : D) (xs : List D) (t : Tab) : Prop where
  its : items tv = some xs
  len : xs.length = t.length
  ok : ∀ (i : Nat) x r, xs[i]? = some x → t[i]? = some r → Seq x r
theorem TabG.of (t : Tab) : TabG (tabD t) (t.map it) t := ⟨rfl, List.length_map _, fun i x r h1 h2 => by
  rw [List.getElem?_map, h2] at h1
  cases h1
  exact .inr rfl⟩
/-! ### table_behind -/
theorem Shp.dropS : ∀ {n : Nat} {t : Tab} (k : Nat), Shp n t → k ≤ n → Shp (n - k) (t.drop k)
  | n, t, 0, h, _ => h
  | 0, t, k + 1, h, hk => by omega
  | n + 1, t, k + 1, h, hk => by
    obtain ⟨row, rows, rfl, _, h2⟩ := h
    rw [List.drop_succ_cons, show n + 1 - (k + 1) = n - k by omega]
    exact Shp.dropS k h2 (by omega)
theorem Shp.row {n : Nat} {t : Tab} {k : Nat} (h : Shp n t) (hk : k < n) : ∃ a r, t.drop k = (a :: r) :: t.drop (k + 1) ∧ t[k]? = some (a :: r) ∧ r.length = n - k := by
  have hd := h.dropS k (by omega)
  rw [show n - k = (n - k - 1) + 1 by omega] at hd
  obtain ⟨row, rows, e, hl, _⟩ := hd
  have hlt : k < t.length := by rw [h.len]; exact hk
  rw [List.drop_eq_getElem_cons hlt] at e ⊢
  injection e with e1 e2
  cases row with
  | nil => simp at hl
  | cons a r => exact ⟨a, r, by rw [e1], by rw [List.getElem?_eq_getElem hlt, e1], by rw [List.length_cons] at hl; omega⟩
end Lw
-- F2
-- F3
namespace Lw
open PySem PySem.Spec PyProof.Rows L2
local macro_rules | `(tactic| walk_at "lw e") => `(tactic| (repeat (first | (with_reducible refine Stp.go ?_) | (with_reducible apply Exists.intro) | ((with_reducible refine And.intro ?_ ?_); · (first | (with_reducible exact Evl.ev) | ((fail_if_success (with_reducible refine Gd.keep ?_)); rfl) | ((with_reducible apply mul_r); decide) | ((with_reducible apply mul_l); decide) | ((with_reducible apply div_i); decide) | ((with_reducible apply in_R); decide) | (exact Nat.le_of_ble_eq_true rfl) | (simp [refsOf]; done) | (exact ⟨rfl, rfl, by decide⟩) | (exact ⟨rfl, rfl, rfl⟩) | ((with_reducible apply tgN_o); (focus rfl); (focus (first | assumption | trivial))))) | ((with_reducible apply Sm.vrP); (focus rfl)) | ((with_reducible apply Sm.vrO); (focus rfl)) | ((with_reducible apply Sm.augI); (focus rfl)) | ((with_reducible refine Sm.dicE ?_ ?_); (focus decide)) | ((with_reducible apply Sm.augS); (focus rfl)) | (with_reducible refine iteTT ?_) | (with_reducible refine iteT ?_) | (with_reducible refine iteF ?_) | ((with_reducible refine iteB1 ?_ ?_); (focus rfl)) | ((with_reducible refine iteB0 ?_ ?_); (focus rfl)))))
local macro_rules | `(tactic| walk_at "lw n") => `(tactic| (try dsimp only [ent, List.map, Nat.reduceAdd, Nat.reduceSub, List.length_cons, List.length_nil, List.replicate_succ, List.replicate_zero, List.cons_append, List.nil_append, putBack, setOwn, List.getElem?_cons_zero, List.getElem?_cons_succ, List.set_cons_zero, List.set_cons_succ, Sm.nf]))
local macro_rules | `(tactic| walk_at "lw v") => `(tactic| (try simp only [pb1, pb2, pb3, pb4]))
/-! ### led -/
/-! ### is_table of a table -/
theorem num_ok {y : D} : wpf m_p_is_number [.pure y] (ValQ fun d => d = .bool (isD .int y && !isD .bool y)) := by
  refine Sm.run ?_
  unfold g_p_is_number
  walk_at "lw n"
  walk_at "lw e"
  cases y <;> (walk_at "lw e"; exact ⟨_, rfl, rfl⟩)
/-! ### totals and levels -/
end Lw
-- F2
-- F3
namespace Lw
open PySem PySem.Spec PyProof.Rows L2
local macro_rules | `(tactic| walk_at "lw e") => `(tactic| (repeat (first | (with_reducible refine Stp.go ?_) | (with_reducible apply Exists.intro) | ((with_reducible refine And.intro ?_ ?_); · (first | (with_reducible exact Evl.ev) | ((fail_if_success (with_reducible refine Gd.keep ?_)); rfl) | ((with_reducible apply mul_r); decide) | ((with_reducible apply mul_l); decide) | ((with_reducible apply div_i); decide) | ((with_reducible apply in_R); decide) | (exact Nat.le_of_ble_eq_true rfl) | (simp [refsOf]; done) | (exact ⟨rfl, rfl, by decide⟩) | (exact ⟨rfl, rfl, rfl⟩) | ((with_reducible apply tgN_o); (focus rfl); (focus (first | assumption | trivial))))) | ((with_reducible apply Sm.vrP); (focus rfl)) | ((with_reducible apply Sm.vrO); (focus rfl)) | ((with_reducible apply Sm.augI); (focus rfl)) | ((with_reducible refine Sm.dicE ?_ ?_); (focus decide)) | ((with_reducible apply Sm.augS); (focus rfl)) | (with_reducible refine iteTT ?_) | (with_reducible refine iteT ?_) | (with_reducible refine iteF ?_) | ((with_reducible refine iteB1 ?_ ?_); (focus rfl)) | ((with_reducible refine iteB0 ?_ ?_); (focus rfl)))))
local macro_rules | `(tactic| walk_at "lw n") => `(tactic| (try dsimp only [ent, List.map, Nat.reduceAdd, Nat.reduceSub, List.length_cons, List.length_nil, List.replicate_succ, List.replicate_zero, List.cons_append, List.nil_append, putBack, setOwn, List.getElem?_cons_zero, List.getElem?_cons_succ, List.set_cons_zero, List.set_cons_succ, Sm.nf]))
local macro_rules | `(tactic| walk_at "lw v") => `(tactic| (try simp only [pb1, pb2, pb3, pb4]))
/-! ### how great a table's numbers are -/
def TabB (L U : Int) (t : Tab) : Prop := ∀ row ∈ t, ∀ x ∈ row, L ≤ x ∧ x ≤ U
/-! ### a table is read off -/
end Lw
-- F2
-- F3
namespace Lw
open PySem PySem.Spec PyProof.Rows L2
local macro_rules | `(tactic| walk_at "lw e") => `(tactic| (repeat (first | (with_reducible refine Stp.go ?_) | (with_reducible apply Exists.intro) | ((with_reducible refine And.intro ?_ ?_); · (first | (with_reducible exact Evl.ev) | ((fail_if_success (with_reducible refine Gd.keep ?_)); rfl) | ((with_reducible apply mul_r); decide) | ((with_reducible apply mul_l); decide) | ((with_reducible apply div_i); decide) | ((with_reducible apply in_R); decide) | (exact Nat.le_of_ble_eq_true rfl) | (simp [refsOf]; done) | (exact ⟨rfl, rfl, by decide⟩) | (exact ⟨rfl, rfl, rfl⟩) | ((with_reducible apply tgN_o); (focus rfl); (focus (first | assumption | trivial))))) | ((with_reducible apply Sm.vrP); (focus rfl)) | ((with_reducible apply Sm.vrO); (focus rfl)) | ((with_reducible apply Sm.augI); (focus rfl)) | ((with_reducible refine Sm.dicE ?_ ?_); (focus decide)) | ((with_reducible apply Sm.augS); (focus rfl)) | (with_reducible refine iteTT ?_) | (with_reducible refine iteT ?_) | (with_reducible refine iteF ?_) | ((with_reducible refine iteB1 ?_ ?_); (focus rfl)) | ((with_reducible refine iteB0 ?_ ?_); (focus rfl)))))
local macro_rules | `(tactic| walk_at "lw n") => `(tactic| (try dsimp only [ent, List.map, Nat.reduceAdd, Nat.reduceSub, List.length_cons, List.length_nil, List.replicate_succ, List.replicate_zero, List.cons_append, List.nil_append, putBack, setOwn, List.getElem?_cons_zero, List.getElem?_cons_succ, List.set_cons_zero, List.set_cons_succ, Sm.nf]))
local macro_rules | `(tactic| walk_at "lw v") => `(tactic| (try simp only [pb1, pb2, pb3, pb4]))
/-! ### the law's own reading of a table -/
end Lw
-- F2
-- F3
namespace Lw
open PySem PySem.Spec PyProof.Rows L2
local macro_rules | `(tactic| walk_at "lw e") => `(tactic| (repeat (first | (with_reducible refine Stp.go ?_) | (with_reducible apply Exists.intro) | ((with_reducible refine And.intro ?_ ?_); · (first | (with_reducible exact Evl.ev) | ((fail_if_success (with_reducible refine Gd.keep ?_)); rfl) | ((with_reducible apply mul_r); decide) | ((with_reducible apply mul_l); decide) | ((with_reducible apply div_i); decide) | ((with_reducible apply in_R); decide) | (exact Nat.le_of_ble_eq_true rfl) | (simp [refsOf]; done) | (exact ⟨rfl, rfl, by decide⟩) | (exact ⟨rfl, rfl, rfl⟩) | ((with_reducible apply tgN_o); (focus rfl); (focus (first | assumption | trivial))))) | ((with_reducible apply Sm.vrP); (focus rfl)) | ((with_reducible apply Sm.vrO); (focus rfl)) | ((with_reducible apply Sm.augI); (focus rfl)) | ((with_reducible refine Sm.dicE ?_ ?_); (focus decide)) | ((with_reducible apply Sm.augS); (focus rfl)) | (with_reducible refine iteTT ?_) | (with_reducible refine iteT ?_) | (with_reducible refine iteF ?_) | ((with_reducible refine iteB1 ?_ ?_); (focus rfl)) | ((with_reducible refine iteB0 ?_ ?_); (focus rfl)))))
local macro_rules | `(tactic| walk_at "lw n") => `(tactic| (try dsimp only [ent, List.map, Nat.reduceAdd, Nat.reduceSub, List.length_cons, List.length_nil, List.replicate_succ, List.replicate_zero, List.cons_append, List.nil_append, putBack, setOwn, List.getElem?_cons_zero, List.getElem?_cons_succ, List.set_cons_zero, List.set_cons_succ, Sm.nf]))
local macro_rules | `(tactic| walk_at "lw v") => `(tactic| (try simp only [pb1, pb2, pb3, pb4]))
def pdl (p : Int × Int × Int) : D := .list [.int p.1, .int p.2.1, .int p.2.2]
theorem stair_lsts (ps : List (Int × Int × Int)) : StairG (lsts 2 (.tuple (ps.map pd))) (ps.map pdl) ps := by
  refine ⟨?_, List.length_map _, fun i x p h1 h2 => ?_⟩
  · show some (List.map (lsts 1) (ps.map pd)) = _
    rw [List.map_map]
    rfl
  · rw [List.getElem?_map, h2] at h1
    cases h1
    rfl
/-- deeds whose numbers are small -/
def D9 (g : Nat) : Dd → Prop
  | .raise _ m => 1 ≤ m ∧ m ≤ 9 * g
  | .lower _ m => 1 ≤ m ∧ m ≤ 9 * g
  | _ => True
theorem sz_b {g : Nat} (hg1 : 1 ≤ g) (hg : g ≤ 1000000000000000) {ps : List (Int × Int × Int)} (hp : ∀ p ∈ ps, PoundI g p) {l : Nat} (h0 : 1 ≤ l) (h1 : l ≤ ps.length) : 1 ≤ sz ps l ∧ sz ps l ≤ 10000000000000000 := by
  have hlt : l - 1 < ps.length := by omega
  have hm : pAt ps (l - 1) ∈ ps := by
    unfold pAt
    rw [List.getD_eq_getElem?_getD, List.getElem?_eq_getElem hlt]
    exact List.getElem_mem hlt
  obtain ⟨a, b, s, e, _, _, _, _, h5, h6⟩ := hp _ hm
  unfold sz
  rw [e]
  show 1 ≤ s * (g : Int) ∧ s * (g : Int) ≤ _
  have e1 : (1 : Int) * g ≤ s * g := Int.mul_le_mul_of_nonneg_right h5 (by omega)
  have e2 : s * g ≤ 5 * (g : Int) := Int.mul_le_mul_of_nonneg_right (by omega) (by omega)
  omega
/-- deeds of a stair, at most so many -/
def LotN (N n g : Nat) (ds : List Dd) : Prop := ds.length ≤ N ∧ ∀ d ∈ ds, d.On n ∧ D9 g d
theorem st_fine {g : Nat} (hg : g ≤ 1000000000000000) {ps : List P3} (hl : ps.length ≤ 6) (hp : ∀ p ∈ ps, PoundI g p) : Fine 100000000000000000 2 (((57 + 1) * 3 + 1) * 40) (.tuple (ps.map pd)) := by
  refine Fine.tup (fun x hx => ?_) (by rw [List.length_map]; omega)
  obtain ⟨p, hm, rfl⟩ := List.mem_map.1 hx
  exact pd_fine hg (hp p hm)
theorem takes_of {g : Nat} (hg1 : 1 ≤ g) (hg : g ≤ 1000000000000000) {ps : List P3} (hp : ∀ p ∈ ps, PoundI g p) {d : Dd} (h : d.On ps.length ∧ D9 g d) : Takes ps d := by
  obtain ⟨⟨h1, h2⟩, h3⟩ := h
  cases d with
  | fill l => exact (sz_b hg1 hg hp (l := l) h1 h2).1
  | empty l => exact (sz_b hg1 hg hp (l := l) h1 h2).1
  | raise l m => have hm : 1 ≤ m ∧ m ≤ 9 * g := h3; exact hm.1
  | lower l m => have hm : 1 ≤ m ∧ m ≤ 9 * g := h3; exact hm.1
/-! ### the first numbers of a table's rows -/
def hds (t : Tab) : List Int := t.map fun r => r.headD 0
/-! ### any levels -/
end Lw
-- F2
-- F3
namespace Lw
open PySem PySem.Spec PyProof.Rows L2
local macro_rules | `(tactic| walk_at "lw e") => `(tactic| (repeat (first | (with_reducible refine Stp.go ?_) | (with_reducible apply Exists.intro) | ((with_reducible refine And.intro ?_ ?_); · (first | (with_reducible exact Evl.ev) | ((fail_if_success (with_reducible refine Gd.keep ?_)); rfl) | ((with_reducible apply mul_r); decide) | ((with_reducible apply mul_l); decide) | ((with_reducible apply div_i); decide) | ((with_reducible apply in_R); decide) | (exact Nat.le_of_ble_eq_true rfl) | (simp [refsOf]; done) | (exact ⟨rfl, rfl, by decide⟩) | (exact ⟨rfl, rfl, rfl⟩) | ((with_reducible apply tgN_o); (focus rfl); (focus (first | assumption | trivial))))) | ((with_reducible apply Sm.vrP); (focus rfl)) | ((with_reducible apply Sm.vrO); (focus rfl)) | ((with_reducible apply Sm.augI); (focus rfl)) | ((with_reducible refine Sm.dicE ?_ ?_); (focus decide)) | ((with_reducible apply Sm.augS); (focus rfl)) | (with_reducible refine iteTT ?_) | (with_reducible refine iteT ?_) | (with_reducible refine iteF ?_) | ((with_reducible refine iteB1 ?_ ?_); (focus rfl)) | ((with_reducible refine iteB0 ?_ ?_); (focus rfl)))))
local macro_rules | `(tactic| walk_at "lw n") => `(tactic| (try dsimp only [ent, List.map, Nat.reduceAdd, Nat.reduceSub, List.length_cons, List.length_nil, List.replicate_succ, List.replicate_zero, List.cons_append, List.nil_append, putBack, setOwn, List.getElem?_cons_zero, List.getElem?_cons_succ, List.set_cons_zero, List.set_cons_succ, Sm.nf]))
local macro_rules | `(tactic| walk_at "lw v") => `(tactic| (try simp only [pb1, pb2, pb3, pb4]))
/-! ### tables behind one another -/
/-! ### so often -/
def iter {α : Type} (f : α → α) : Nat → α → α
  | 0, x => x
  | k + 1, x => iter f k (f x)
end Lw
-- F2
-- F3
namespace Lw
open PySem PySem.Spec PyProof.Rows L2
local macro_rules | `(tactic| walk_at "lw e") => `(tactic| (repeat (first | (with_reducible refine Stp.go ?_) | (with_reducible apply Exists.intro) | ((with_reducible refine And.intro ?_ ?_); · (first | (with_reducible exact Evl.ev) | ((fail_if_success (with_reducible refine Gd.keep ?_)); rfl) | ((with_reducible apply mul_r); decide) | ((with_reducible apply mul_l); decide) | ((with_reducible apply div_i); decide) | ((with_reducible apply in_R); decide) | (exact Nat.le_of_ble_eq_true rfl) | (simp [refsOf]; done) | (exact ⟨rfl, rfl, by decide⟩) | (exact ⟨rfl, rfl, rfl⟩) | ((with_reducible apply tgN_o); (focus rfl); (focus (first | assumption | trivial))))) | ((with_reducible apply Sm.vrP); (focus rfl)) | ((with_reducible apply Sm.vrO); (focus rfl)) | ((with_reducible apply Sm.augI); (focus rfl)) | ((with_reducible refine Sm.dicE ?_ ?_); (focus decide)) | ((with_reducible apply Sm.augS); (focus rfl)) | (with_reducible refine iteTT ?_) | (with_reducible refine iteT ?_) | (with_reducible refine iteF ?_) | ((with_reducible refine iteB1 ?_ ?_); (focus rfl)) | ((with_reducible refine iteB0 ?_ ?_); (focus rfl)))))
local macro_rules | `(tactic| walk_at "lw n") => `(tactic| (try dsimp only [ent, List.map, Nat.reduceAdd, Nat.reduceSub, List.length_cons, List.length_nil, List.replicate_succ, List.replicate_zero, List.cons_append, List.nil_append, putBack, setOwn, List.getElem?_cons_zero, List.getElem?_cons_succ, List.set_cons_zero, List.set_cons_succ, Sm.nf]))
local macro_rules | `(tactic| walk_at "lw v") => `(tactic| (try simp only [pb1, pb2, pb3, pb4]))
theorem TabG.ix {tv : D} {xs : List D} {t : Tab} (h : TabG tv xs t) {i : Nat} (hi : i < t.length) : ∃ x, gIx tv (.int (i : Int)) = some (.pure x) ∧ Seq x (t.getD i []) := by
  have hl := h.len
  refine ⟨xs.getD i .none, ?_, ?_⟩
  · rw [ix_items h.its (by omega) (by omega), Int.toNat_natCast]
  · refine h.ok i _ _ ?_ ?_
    · rw [List.getD_eq_getElem?_getD, List.getElem?_eq_getElem (by omega)]; rfl
    · rw [List.getD_eq_getElem?_getD, List.getElem?_eq_getElem hi]; rfl
end Lw
-- F2
-- F3
namespace Lw
open PySem PySem.Spec PyProof.Rows L2
local macro_rules | `(tactic| walk_at "lw e") => `(tactic| (repeat (first | (with_reducible refine Stp.go ?_) | (with_reducible apply Exists.intro) | ((with_reducible refine And.intro ?_ ?_); · (first | (with_reducible exact Evl.ev) | ((fail_if_success (with_reducible refine Gd.keep ?_)); rfl) | ((with_reducible apply mul_r); decide) | ((with_reducible apply mul_l); decide) | ((with_reducible apply div_i); decide) | ((with_reducible apply in_R); decide) | (exact Nat.le_of_ble_eq_true rfl) | (simp [refsOf]; done) | (exact ⟨rfl, rfl, by decide⟩) | (exact ⟨rfl, rfl, rfl⟩) | ((with_reducible apply tgN_o); (focus rfl); (focus (first | assumption | trivial))))) | ((with_reducible apply Sm.vrP); (focus rfl)) | ((with_reducible apply Sm.vrO); (focus rfl)) | ((with_reducible apply Sm.augI); (focus rfl)) | ((with_reducible refine Sm.dicE ?_ ?_); (focus decide)) | ((with_reducible apply Sm.augS); (focus rfl)) | (with_reducible refine iteTT ?_) | (with_reducible refine iteT ?_) | (with_reducible refine iteF ?_) | ((with_reducible refine iteB1 ?_ ?_); (focus rfl)) | ((with_reducible refine iteB0 ?_ ?_); (focus rfl)))))
local macro_rules | `(tactic| walk_at "lw n") => `(tactic| (try dsimp only [ent, List.map, Nat.reduceAdd, Nat.reduceSub, List.length_cons, List.length_nil, List.replicate_succ, List.replicate_zero, List.cons_append, List.nil_append, putBack, setOwn, List.getElem?_cons_zero, List.getElem?_cons_succ, List.set_cons_zero, List.set_cons_succ, Sm.nf]))
local macro_rules | `(tactic| walk_at "lw v") => `(tactic| (try simp only [pb1, pb2, pb3, pb4]))
/-- how many doubles are wanted -/
def dn (m : Nat) : Nat := Builtin.Int.intBits (m : Int) - 1 + 1
end Lw
-- F2
-- F3
namespace Lw
open PySem PySem.Spec PyProof.Rows L2
local macro_rules | `(tactic| walk_at "lw e") => `(tactic| (repeat (first | (with_reducible refine Stp.go ?_) | (with_reducible apply Exists.intro) | ((with_reducible refine And.intro ?_ ?_); · (first | (with_reducible exact Evl.ev) | ((fail_if_success (with_reducible refine Gd.keep ?_)); rfl) | ((with_reducible apply mul_r); decide) | ((with_reducible apply mul_l); decide) | ((with_reducible apply div_i); decide) | ((with_reducible apply in_R); decide) | (exact Nat.le_of_ble_eq_true rfl) | (simp [refsOf]; done) | (exact ⟨rfl, rfl, by decide⟩) | (exact ⟨rfl, rfl, rfl⟩) | ((with_reducible apply tgN_o); (focus rfl); (focus (first | assumption | trivial))))) | ((with_reducible apply Sm.vrP); (focus rfl)) | ((with_reducible apply Sm.vrO); (focus rfl)) | ((with_reducible apply Sm.augI); (focus rfl)) | ((with_reducible refine Sm.dicE ?_ ?_); (focus decide)) | ((with_reducible apply Sm.augS); (focus rfl)) | (with_reducible refine iteTT ?_) | (with_reducible refine iteT ?_) | (with_reducible refine iteF ?_) | ((with_reducible refine iteB1 ?_ ?_); (focus rfl)) | ((with_reducible refine iteB0 ?_ ?_); (focus rfl)))))
local macro_rules | `(tactic| walk_at "lw n") => `(tactic| (try dsimp only [ent, List.map, Nat.reduceAdd, Nat.reduceSub, List.length_cons, List.length_nil, List.replicate_succ, List.replicate_zero, List.cons_append, List.nil_append, putBack, setOwn, List.getElem?_cons_zero, List.getElem?_cons_succ, List.set_cons_zero, List.set_cons_succ, Sm.nf]))
local macro_rules | `(tactic| walk_at "lw v") => `(tactic| (try simp only [pb1, pb2, pb3, pb4]))
/-! ### levels none above its most -/
def Below (ps : List P3) (ls : List Int) : Prop := ls.length = ps.length ∧ ∀ z ∈ ps.zip ls, z.2 ≤ z.1.2.1
theorem ov_most : ∀ (ps : List P3) (ls : List Int), ls.length = ps.length → Below ps (ov (ps.zip ls)).1
  | [], [], _ => ⟨rfl, fun z h => by cases h⟩
  | p :: ps, l :: ls, h => by
    have ih := ov_most ps ls (by simpa using h)
    rw [List.zip_cons_cons, ov]
    refine ⟨by rw [List.length_cons, List.length_cons, ih.1], fun z hz => ?_⟩
    rw [List.zip_cons_cons] at hz
    rcases List.mem_cons.1 hz with rfl | hz
    · dsimp only
      unfold spill
      split <;> omega
    · exact ih.2 z hz
theorem aft_below {ps : List P3} {ls : List Int} {d : Dd} (hl : ls.length = ps.length) : Below ps (aft ps ls d) := ov_most ps _ (by rw [add1_len]; exact hl)
theorem lvs_below {ps : List P3} : ∀ (ds : List Dd) {ls : List Int}, Below ps ls → Below ps (lvs ps ls ds)
  | [], ls, h => h
  | d :: ds, ls, h => lvs_below ds (aft_below h.1)
def rnd (ps : List P3) (ds : List Dd) (ls : List Int) : List Int := lvs ps ls ds
theorem iter_below {ps : List P3} {ds : List Dd} : ∀ (m : Nat) {ls : List Int}, Below ps ls → Below ps (iter (rnd ps ds) m ls)
  | 0, ls, h => h
  | m + 1, ls, h => iter_below m (lvs_below ds h)
/-! ### what ran over, by totals -/
end Lw
-- F2
-- F3
namespace Lw
open PySem PySem.Spec PyProof.Rows L2
local macro_rules | `(tactic| walk_at "lw e") => `(tactic| (repeat (first | (with_reducible refine Stp.go ?_) | (with_reducible apply Exists.intro) | ((with_reducible refine And.intro ?_ ?_); · (first | (with_reducible exact Evl.ev) | ((fail_if_success (with_reducible refine Gd.keep ?_)); rfl) | ((with_reducible apply mul_r); decide) | ((with_reducible apply mul_l); decide) | ((with_reducible apply div_i); decide) | ((with_reducible apply in_R); decide) | (exact Nat.le_of_ble_eq_true rfl) | (simp [refsOf]; done) | (exact ⟨rfl, rfl, by decide⟩) | (exact ⟨rfl, rfl, rfl⟩) | ((with_reducible apply tgN_o); (focus rfl); (focus (first | assumption | trivial))))) | ((with_reducible apply Sm.vrP); (focus rfl)) | ((with_reducible apply Sm.vrO); (focus rfl)) | ((with_reducible apply Sm.augI); (focus rfl)) | ((with_reducible refine Sm.dicE ?_ ?_); (focus decide)) | ((with_reducible apply Sm.augS); (focus rfl)) | (with_reducible refine iteTT ?_) | (with_reducible refine iteT ?_) | (with_reducible refine iteF ?_) | ((with_reducible refine iteB1 ?_ ?_); (focus rfl)) | ((with_reducible refine iteB0 ?_ ?_); (focus rfl)))))
local macro_rules | `(tactic| walk_at "lw n") => `(tactic| (try dsimp only [ent, List.map, Nat.reduceAdd, Nat.reduceSub, List.length_cons, List.length_nil, List.replicate_succ, List.replicate_zero, List.cons_append, List.nil_append, putBack, setOwn, List.getElem?_cons_zero, List.getElem?_cons_succ, List.set_cons_zero, List.set_cons_succ, Sm.nf]))
local macro_rules | `(tactic| walk_at "lw v") => `(tactic| (try simp only [pb1, pb2, pb3, pb4]))
/-! ### levels drawn below the most -/
end Lw
-- F2
-- F3
namespace Lw
open PySem PySem.Spec PyProof.Rows L2
local macro_rules | `(tactic| walk_at "lw e") => `(tactic| (repeat (first | (with_reducible refine Stp.go ?_) | (with_reducible apply Exists.intro) | ((with_reducible refine And.intro ?_ ?_); · (first | (with_reducible exact Evl.ev) | ((fail_if_success (with_reducible refine Gd.keep ?_)); rfl) | ((with_reducible apply mul_r); decide) | ((with_reducible apply mul_l); decide) | ((with_reducible apply div_i); decide) | ((with_reducible apply in_R); decide) | (exact Nat.le_of_ble_eq_true rfl) | (simp [refsOf]; done) | (exact ⟨rfl, rfl, by decide⟩) | (exact ⟨rfl, rfl, rfl⟩) | ((with_reducible apply tgN_o); (focus rfl); (focus (first | assumption | trivial))))) | ((with_reducible apply Sm.vrP); (focus rfl)) | ((with_reducible apply Sm.vrO); (focus rfl)) | ((with_reducible apply Sm.augI); (focus rfl)) | ((with_reducible refine Sm.dicE ?_ ?_); (focus decide)) | ((with_reducible apply Sm.augS); (focus rfl)) | (with_reducible refine iteTT ?_) | (with_reducible refine iteT ?_) | (with_reducible refine iteF ?_) | ((with_reducible refine iteB1 ?_ ?_); (focus rfl)) | ((with_reducible refine iteB0 ?_ ?_); (focus rfl)))))
local macro_rules | `(tactic| walk_at "lw n") => `(tactic| (try dsimp only [ent, List.map, Nat.reduceAdd, Nat.reduceSub, List.length_cons, List.length_nil, List.replicate_succ, List.replicate_zero, List.cons_append, List.nil_append, putBack, setOwn, List.getElem?_cons_zero, List.getElem?_cons_succ, List.set_cons_zero, List.set_cons_succ, Sm.nf]))
local macro_rules | `(tactic| walk_at "lw v") => `(tactic| (try simp only [pb1, pb2, pb3, pb4]))
theorem pw_4 : gPowA (.int 10) (.int 4) = some (.pure (.int 10000)) := rfl
theorem pw_11 : gPowA (.int 10) (.int 11) = some (.pure (.int 100000000000)) := rfl
theorem pw_13 : gPowA (.int 10) (.int 13) = some (.pure (.int 10000000000000)) := rfl
theorem pw_14 : gPowA (.int 10) (.int 14) = some (.pure (.int 100000000000000)) := rfl
theorem pw_16 : gPowA (.int 10) (.int 16) = some (.pure (.int 10000000000000000)) := rfl
instance : Evl (gPowA (.int 10) (.int 4)) (.pure (.int 10000)) := ⟨pw_4⟩
instance : Evl (gPowA (.int 10) (.int 11)) (.pure (.int 100000000000)) := ⟨pw_11⟩
instance : Evl (gPowA (.int 10) (.int 13)) (.pure (.int 10000000000000)) := ⟨pw_13⟩
instance : Evl (gPowA (.int 10) (.int 14)) (.pure (.int 100000000000000)) := ⟨pw_14⟩
instance : Evl (gPowA (.int 10) (.int 16)) (.pure (.int 10000000000000000)) := ⟨pw_16⟩
theorem pb5 {a b c d e : D} {o : List S} {ς : En} : putBack [.val a, .val b, .val c, .val d, .val e] o ς = ς := pbv fun _ => pb4
theorem pb6 {a b c d e f : D} {o : List S} {ς : En} : putBack [.val a, .val b, .val c, .val d, .val e, .val f] o ς = ς := pbv fun _ => pb5
theorem DeedsG.take {t d : D} {ts : List D} {ds : List Dd} (h : DeedsG t ts ds) {i : Nat} (hi : items d = some (ts.take i)) : DeedsG d (ts.take i) (ds.take i) := by
  have hl := h.len
  refine ⟨hi, by rw [List.length_take, List.length_take, hl], fun j x e h1 h2 => ?_⟩
  by_cases hj : j < i
  · rw [List.getElem?_take_of_lt hj] at h1 h2
    exact h.ok j x e h1 h2
  · rw [List.getElem?_take_eq_none (by omega)] at h1
    cases h1
/-! ### a stair, a round, levels below the most -/
structure Rnd (g : Nat) (ps : List P3) (ds : List Dd) (ns : List Int) : Prop where
  g1 : 1 ≤ g
  g2 : g ≤ 1000000000000000
  x1 : 1 ≤ ps.length
  x2 : ps.length ≤ 6
  hp : ∀ p ∈ ps, PoundI g p
  hd : LotN 40 ps.length g ds
  hb : Below ps ns
  nb : ∀ n ∈ ns, n.natAbs ≤ 200000000000000000
section
variable {g : Nat} {ps : List P3} {ds : List Dd} {ns : List Int}
theorem Rnd.on (e : Rnd g ps ds ns) : ∀ d ∈ ds, d.On ps.length := fun d m => (e.hd.2 d m).1
theorem Rnd.tk (e : Rnd g ps ds ns) : ∀ d ∈ ds, d.On ps.length ∧ Takes ps d := fun d m => ⟨e.on d m, takes_of e.g1 e.g2 e.hp (e.hd.2 d m)⟩
theorem Rnd.len (e : Rnd g ps ds ns) (m : Nat) : (iter (rnd ps ds) m ns).length = ps.length := (iter_below m e.hb).1
theorem Rnd.take (e : Rnd g ps ds ns) (k : Nat) : LotN 40 ps.length g (ds.take k) := ⟨by have := e.hd.1; rw [List.length_take]; omega, fun d m => e.hd.2 d (List.mem_of_mem_take m)⟩
end
end Lw
namespace K49
open PySem PySem.Spec PyProof.Rows L2 Lw
def g_p_is_pound : MS :=
  (sq (ifS (notT (tru (callE m_p_is_tuple_of (argV (cn (.int 3)) (argV (vr 0) argN))))) (retS (cn (.bool false))) skip)
  (sq (asg (vr 0) (tgT 3 (tgsC (tgN 1) (tgsC (tgN 2) (tgsC (tgN 3) tgsN)))))
  (retS (andV (callE m_p_is_number_from (argV (cn (.int 0)) (argV (vr 1) argN))) (andV (callE m_p_is_number_from (argV (vr 1) (argV (vr 2) argN))) (callE m_p_is_number_from (argV (cn (.int 1)) (argV (vr 3) argN))))))))
def m_p_is_pound : Fsem := runFn g_p_is_pound 4
def g_p_is_stair : MS :=
  (retS (andV (isE (vr 0) [.tuple]) (andV (op2 gGt (cal1 gLen (vr 0)) (cn (.int 0))) (cal1 gAll (lcE (itS (vr 0)) [1] (tgN 1) (ret true) (callE m_p_is_pound (argV (vr 1) argN)))))))
def m_p_is_stair : Fsem := runFn g_p_is_stair 2
def g_p_stair_text : MS :=
  (retS (cal1 (gJoin " ") (lcE (itS (vr 0)) [2] (tgN 2) (ret true) (cal1 (gJoin "/") (lcE (itS (vr 2)) [1] (tgN 1) (ret true) (cal1 gStrOf (vr 1)))))))
def m_p_stair_text : Fsem := runFn g_p_stair_text 3
def g_p_number_in : MS :=
  (sq (ifS (orT (notT (tst (chn gLe gLe (cn (.int 1)) (cal1 gLen (vr 0)) (cn (.int 19))))) (notT (tru (cal1 gAll (lcE (itSt (vr 0)) [1] (tgN 1) (ret true) (op2 gInS (vr 1) (cn (.str "0123456789")))))))) (retS (cn .none)) skip)
  (retS (ife (andT (tst (op2 gGt (cal1 gLen (vr 0)) (cn (.int 1)))) (tst (op2 gEq (op2 gIxS (vr 0) (cn (.int 0))) (cn (.str "0"))))) (cn .none) (cal1 gIntS (vr 0)))))
def m_p_number_in : Fsem := runFn g_p_number_in 2
def g_x_stair_in : MX :=
  (sqX (nS (asg (cal1 gTuple (lcE (itS (splE (vr 0) (cn (.str " ")))) [3] (tgN 3) (ret true) (cal1 gTuple (lcE (itS (splE (vr 3) (cn (.str "/")))) [2] (tgN 2) (ret true) (callE m_p_number_in (argV (vr 2) argN)))))) (tgN 1)))
  (sqX (ifX (notT (tru (callE m_p_is_stair (argV (vr 1) argN)))) (raX "BadText" (vr 0)) (nS skip))
  (nS (retS (vr 1)))))
def m_x_stair_in : FsemX := runX g_x_stair_in 4
def g_l_of : MS :=
  (retS (op2 gIxS (vr 1) (callE (m_l_take 4) (argR (vr 0) (argV (cal1 gLen (vr 1)) argN)))))
def m_l_of : Fsem := runFn g_l_of 2
def g_l_number : MS :=
  (sq (ifS (orT (notT (tst (chn gLt gLt (cn (.int 0)) (cal1 gLen (vr 0)) (cn (.int 20))))) (notT (tru (cal1 gAll (lcE (itSt (vr 0)) [1] (tgN 1) (ret true) (op2 gInS (vr 1) (cn (.str "0123456789")))))))) (retS (cn .none)) skip)
  (retS (ife (orT (tst (op2 gEq (vr 0) (cn (.str "0")))) (tst (op2 gNe (op2 gIxS (vr 0) (cn (.int 0))) (cn (.str "0"))))) (cal1 gIntS (vr 0)) (cn .none))))
def m_l_number : Fsem := runFn g_l_number 2
def g_l_due : MS :=
  (sq (asgO 1 (lstE argN))
  (sq (forS (itS (splE (vr 0) (cn (.str " ")))) (tgN 2) (sq (asg (lcE (itS (splE (vr 2) (cn (.str "/")))) [4] (tgN 4) (ret true) (callE m_l_number (argV (vr 4) argN))) (tgN 3))
  (sq (ifS (orT (tst (op2 gNe (cal1 gLen (vr 3)) (cn (.int 3)))) (tst (op2 (gIn false) (cn .none) (vr 3)))) (retS (cn .none)) skip)
  (sq (ifS (orT (tst (op2 gGt (op2 gIx (vr 3) (cn (.int 0))) (op2 gIx (vr 3) (cn (.int 1))))) (tst (op2 gLt (op2 gIx (vr 3) (cn (.int 2))) (cn (.int 1))))) (retS (cn .none)) skip)
  (exS (mth hApp (vr 1) (argV (cal1 gTuple (vr 3)) argN)))))))
  (retS (cal1 gTuple (vr 1)))))
def m_l_due : Fsem := runFn g_l_due 5
def g_l_asked : MS :=
  (sq (asg (tupE (argV (cn .none) (argV (cn .none) argN))) (tgT 2 (tgsC (tgN 1) (tgsC (tgN 2) tgsN))))
  (sq (tryS (asX (callX m_x_stair_in (argV (vr 0) argN)) (tgN 1)) ["BadText"] 3 2)
  (sq (ifS (isT 2) (retS (vr 1)) skip)
  (sq (asg (andV (isiX 2 [("BadText", true)]) (andV (isiX 2 [("BadText", true)]) (notV (isiX 2 [("BadText", false)])))) (tgN 4))
  (retS (ife (andT (tru (vr 4)) (tst (op2 gEq (whX 2 ["BadText"]) (vr 0)))) (cn .none) (cn (.str "other"))))))))
def m_l_asked : Fsem := runFn g_l_asked 5
def g_l_bent_text : MS :=
  (sq (par2 2 3 false false (callE (m_l_take 4) (argR (vr 0) (argV (op2 gAddA (cal1 gLen (vr 1)) (cn (.int 1))) argN))) (callE (m_l_take 4) (argR (vr 0) (argV (cn (.int 4)) argN))))
  (sq (ifS (tst (op2 gEq (vr 3) (cn (.int 0)))) (retS (op2 gAddA (slS (vr 1) ptN (ptS (vr 2))) (slS (vr 1) (ptS (op2 gAddA (vr 2) (cn (.int 1)))) ptN))) skip)
  (sq (ifS (tst (op2 gEq (vr 3) (cn (.int 1)))) (retS (op2 gAddA (op2 gAddA (slS (vr 1) ptN (ptS (vr 2))) (slS (vr 1) (ptS (vr 2)) (ptS (op2 gAddA (vr 2) (cn (.int 1)))))) (slS (vr 1) (ptS (vr 2)) ptN))) skip)
  (sq (ifS (tst (op2 gEq (vr 3) (cn (.int 2)))) (retS (op2 gAddA (op2 gAddA (slS (vr 1) ptN (ptS (vr 2))) (callE m_l_of (argR (vr 0) (argV (cn (.str "0123456789/ -a\n")) argN)))) (slS (vr 1) (ptS (op2 gAddA (vr 2) (callE (m_l_take 4) (argR (vr 0) (argV (cn (.int 2)) argN))))) ptN))) skip)
  (retS (op2 gAddA (op2 gAddA (slS (vr 1) ptN (ptS (vr 2))) (cal1 gRevS (slS (vr 1) (ptS (vr 2)) (ptS (op2 gAddA (vr 2) (cn (.int 2))))))) (slS (vr 1) (ptS (op2 gAddA (vr 2) (cn (.int 2)))) ptN)))))))
def m_l_bent_text : Fsem := runFn g_l_bent_text 4
def g_l_right : MS :=
  (sq (asg (callE m_l_stair (argR (vr 0) (argV (cn (.int 6)) (argV (callE m_l_great (argR (vr 0) argN)) argN)))) (tgN 1))
  (sq (asg (cal1 (gJoin " ") (lcE (itS (vr 1)) [4] (tgN 4) (ret true) (cal1 (gJoin "/") (lcE (itS (vr 4)) [3] (tgN 3) (ret true) (cal1 gStrOf (vr 3)))))) (tgN 2))
  (sq (ifS (notT (tru (callE (m_l_same 10) (argV (lstE (argV (callE m_p_stair_text (argV (vr 1) argN)) (argV (callE m_p_stair_text (argV (callE (m_l_lists 10) (argV (vr 1) argN)) argN)) argN))) (argV (lstE (argV (vr 2) (argV (vr 2) argN))) argN))))) (retS (cn (.bool false))) skip)
  (sq (asgO 5 (lstE (argV (vr 2) (argV (cn (.str "")) (argV (cn (.str " ")) (argV (cn (.str "0/0/1")) (argV (cn (.str "0/0/0")) (argV (cn (.str "1/0/1")) (argV (cn (.str "00/1/1")) (argV (cn (.str "0/01/1")) (argV (cn (.str "-0/1/1")) (argV (cn (.str "0/1")) (argV (cn (.str "0/1/1/1")) (argV (cn (.str "0/1/1 ")) (argV (cn (.str "x")) argN)))))))))))))))
  (sq (asgO 5 (op2 gAddA (vr 5) (lstE (argV (op2 gAddA (op2 gAddA (cn (.str "0/")) (op2 gMulT (cn (.str "9")) (cn (.int 19)))) (cn (.str "/1"))) (argV (op2 gAddA (op2 gAddA (cn (.str "0/")) (op2 gMulT (cn (.str "1")) (cn (.int 20)))) (cn (.str "/1"))) (argV (cn (.str "0/1/1  0/1/1")) (argV (cn (.str "0/ 1/1")) (argV (cn (.str "+0/1/1")) (argV (cn (.str "0/1/1\n0/1/1")) argN)))))))))
  (sq (forS (itR1 (cn (.int 12))) (tgN 6) (sq (asg (callE m_l_bent_text (argR (vr 0) (argV (vr 2) argN))) (tgN 7))
  (exS (mth hApp (vr 5) (argV (ife (tst (op2 gEq (callE (m_l_take 4) (argR (vr 0) (argV (cn (.int 3)) argN))) (cn (.int 0)))) (callE m_l_bent_text (argR (vr 0) (argV (vr 7) argN))) (vr 7)) argN)))))
  (retS (cal1 gAll (lcE (itS (vr 5)) [8] (tgN 8) (ret true) (callE (m_l_same 10) (argV (callE m_l_asked (argV (vr 8) argN)) (argV (callE m_l_due (argV (vr 8) argN)) argN))))))))))))
def m_l_right : Fsem := runFn g_l_right 9
def g_p_law : MS :=
  (sq (asg (callE m_l_cells (argV (vr 0) (argV (cn (.int 3)) argN))) (tgN 1))
  (retS (cal1 gAll (lcE (itR1 (cal1 gLen (vr 1))) [2] (tgN 2) (ret true) (callF m_l_right (callE m_l_box (argV (vr 1) (argV (vr 2) argN))))))))
def m_p_law : Fsem := runFn g_p_law 3
end K49
-- F2
-- F3
-- F4
-- F5
namespace K49
open PySem PySem.Spec PyProof.Rows L2 Lw
local macro_rules | `(tactic| walk_at "lw e") => `(tactic| (repeat (first | (with_reducible refine Stp.go ?_) | (with_reducible apply Exists.intro) | ((with_reducible refine And.intro ?_ ?_); · (first | (with_reducible exact Evl.ev) | ((fail_if_success (with_reducible refine Gd.keep ?_)); (fail_if_success (with_reducible refine Gd5.keep ?_)); rfl) | ((with_reducible apply mul_r); decide) | ((with_reducible apply mul_l); decide) | ((with_reducible apply div_i); decide) | ((with_reducible apply in_R); decide) | (exact Nat.le_of_ble_eq_true rfl) | (simp [refsOf]; done) | (exact ⟨rfl, rfl, by decide⟩) | (exact ⟨rfl, rfl, rfl⟩) | ((with_reducible apply tgN_o); (focus rfl); (focus (first | assumption | trivial))))) | ((with_reducible apply Sm.vrP); (focus rfl)) | ((with_reducible apply Sm.vrO); (focus rfl)) | ((with_reducible apply Sm.augI); (focus rfl)) | ((with_reducible refine Sm.dicE ?_ ?_); (focus decide)) | ((with_reducible apply Sm.augS); (focus rfl)) | ((with_reducible apply Sm.augL); (focus rfl)) | (with_reducible refine iteTT ?_) | (with_reducible refine iteT ?_) | (with_reducible refine iteF ?_) | ((with_reducible refine iteB1 ?_ ?_); (focus rfl)) | ((with_reducible refine iteB0 ?_ ?_); (focus rfl)))))
local macro_rules | `(tactic| walk_at "lw n") => `(tactic| (try dsimp only [ent, List.map, Nat.reduceAdd, Nat.reduceSub, List.length_cons, List.length_nil, List.replicate_succ, List.replicate_zero, List.cons_append, List.nil_append, putBack, setOwn, List.getElem?_cons_zero, List.getElem?_cons_succ, List.set_cons_zero, List.set_cons_succ, Sm.nf]))
local macro_rules | `(tactic| walk_at "lw v") => `(tactic| (try simp only [pb1, pb2, pb3, pb4, pb5, pb6]))
abbrev FIG : Str := "0123456789"
def fg (c : Nat) : Bool := decide (48 ≤ c) && decide (c ≤ 57)
theorem fig_mem (c : Nat) : decide (c ∈ FIG.cps.toList) = fg c := by
  have e : FIG.cps.toList = List.range' 48 10 := by decide +kernel
  rw [e]
  unfold fg
  rw [← Bool.decide_and]
  refine decide_eq_decide.mpr ?_
  rw [List.mem_range'_1]
  omega
theorem in_fig (c : Nat) : gInS (sgE c) (.str FIG) = some (.pure (.bool (fg c))) := by
  rw [← fig_mem]
  rfl
def fgD : D → Bool
  | .str x => match x.cps.toList with | [c] => fg c | _ => false
  | _ => false
theorem sgns_mem {x : Str} {d : D} (h : d ∈ sgns x) : ∃ c, c ∈ x.cps.toList ∧ d = sgE c := by
  obtain ⟨c, hc, rfl⟩ := List.mem_map.mp h
  exact ⟨c, hc, rfl⟩
theorem lenS {x : Str} (h : x.length ≤ 10000) : gLen (.str x) = some (.pure (.int x.length)) := if_pos (by have hsl : sizeLine = 16777216 := rfl; omega)
/-- a text of plain figures, short enough -/
def plain (x : Str) : Bool := (decide (1 ≤ x.length) && decide (x.length ≤ 19)) && (sgns x).all fgD
def lead (x : Str) : Bool := decide (1 < x.length) && decide (x.cps.toList.head? = some 48)
def valT (x : Str) : Int := (PySem.NumText.digitsVal x.cps.toList : Nat)
def numD (x : Str) : D := if plain x = true ∧ lead x = false then .int (valT x) else .none
theorem plain_int {x : Str} (h : plain x = true) : gIntS (.str x) = some (.pure (.int (valT x))) := by
  unfold plain at h
  rw [Bool.and_eq_true, Bool.and_eq_true] at h
  obtain ⟨⟨h1, h2⟩, h3⟩ := h
  have h1 := of_decide_eq_true h1
  have h2 := of_decide_eq_true h2
  have hl : x.cps.toList.length = x.length := Array.length_toList
  have e : PySem.intText? x = some (valT x) := by
    refine PySem.intText_digits (fun c hc => ?_) (fun z => ?_) (by omega)
    · have := List.all_eq_true.mp h3 (sgE c) (List.mem_map.mpr ⟨c, hc, rfl⟩)
      have : fg c = true := this
      unfold fg at this
      rw [Bool.and_eq_true] at this
      exact ⟨of_decide_eq_true this.1, of_decide_eq_true this.2⟩
    · rw [z] at hl
      have : 0 = x.length := hl
      omega
  unfold gIntS
  simp only [e]
  exact if_pos (by omega)
theorem ix0 {x : Str} (h1 : 1 ≤ x.length) (h2 : x.length ≤ 10000) : ∃ c, x.cps.toList.head? = some c ∧ gIxS (.str x) (.int 0) = some (.pure (.str ⟨#[c]⟩)) := by
  have hsl : sizeLine = 16777216 := rfl
  have hl : x.cps.toList.length = x.length := Array.length_toList
  cases q : x.cps.toList with
  | nil => rw [q] at hl; have : 0 = x.length := hl; omega
  | cons c cs =>
    refine ⟨c, rfl, ?_⟩
    show (if x.length ≤ sizeLine then (atI x.cps.toList 0).map fun c => R.pure (.str ⟨#[c]⟩) else none) = _
    rw [if_pos (by omega), q]
    unfold atI ixN
    simp only [List.length_cons]
    rw [if_pos (by decide), if_pos (by omega)]
    rfl
theorem one0 (c : Nat) : ((⟨#[c]⟩ : Str) = "0") ↔ c = 48 := ⟨fun h => by
    have := congrArg (fun s : Str => s.cps.toList) h
    have : [c] = [48] := this
    simpa using this, fun h => by subst h; rfl⟩
theorem pnum_ok {x : Str} (hx : x.length ≤ 10000) : wpf m_p_number_in [.pure (.str x)] (ValQ fun d => d = numD x) := by
  have hsl : sizeLine = 16777216 := rfl
  refine Sm.run ?_
  unfold g_p_number_in
  walk_at "lw n"
  walk_at "lw e"
  refine ⟨lenS hx, ?_⟩
  walk_at "lw e"
  by_cases h1 : (1 : Int) ≤ (x.length : Int)
  · refine iteDT h1 ?_
    walk_at "lw e"
    by_cases h2 : (x.length : Int) ≤ 19
    · refine iteB0 (by rw [decide_eq_true h2]; rfl) ?_
      walk_at "lw e"
      refine Sm.lcPure (ds := sgns x) (fun d => .bool (fgD d)) (by rw [sgns_len]; show x.length ≤ _; omega) ?_ ?_
      · intro d hd
        obtain ⟨c, _, rfl⟩ := sgns_mem hd
        refine ⟨_, tgN_o rfl trivial, ?_⟩
        walk_at "lw n"
        walk_at "lw e"
        refine ⟨in_fig c, ?_⟩
        walk_at "lw e"
        rfl
      refine ⟨_, _, rfl, all_mk, ?_⟩
      cases h3 : (sgns x).all fgD with
      | false =>
        walk_at "lw e"
        refine ⟨_, rfl, ?_⟩
        show _ = numD x
        have hp : plain x = false := by unfold plain; rw [h3, Bool.and_false]
        unfold numD
        rw [hp, if_neg (fun z => absurd z.1 (by decide))]
      | true =>
        have hp : plain x = true := by unfold plain; rw [h3, decide_eq_true (show 1 ≤ x.length by omega), decide_eq_true (show x.length ≤ 19 by omega)]; rfl
        walk_at "lw e"
        refine ⟨lenS hx, ?_⟩
        walk_at "lw e"
        by_cases h4 : (1 : Int) < (x.length : Int)
        · refine iteDT h4 ?_
          obtain ⟨c, hc, hi⟩ := ix0 (x := x) (by omega) hx
          walk_at "lw e"
          refine ⟨hi, ?_⟩
          walk_at "lw e"
          by_cases h5 : c = 48
          · refine iteDT ((one0 c).mpr h5) ?_
            walk_at "lw e"
            refine ⟨_, rfl, ?_⟩
            have hl : lead x = true := by unfold lead; rw [hc, h5, decide_eq_true (show 1 < x.length by omega)]; rfl
            show _ = numD x
            unfold numD
            rw [hl, if_neg (fun z => absurd z.2 (by decide))]
          · refine iteDF (fun z => h5 ((one0 c).mp z)) ?_
            walk_at "lw e"
            refine ⟨plain_int hp, ?_⟩
            walk_at "lw e"
            refine ⟨_, rfl, ?_⟩
            have hl : lead x = false := by unfold lead; rw [hc, decide_eq_false (show ¬ (some c = some 48) by simpa using h5), Bool.and_false]
            show _ = numD x
            unfold numD
            rw [if_pos ⟨hp, hl⟩]
        · refine iteDF h4 ?_
          walk_at "lw e"
          refine ⟨plain_int hp, ?_⟩
          walk_at "lw e"
          refine ⟨_, rfl, ?_⟩
          have hl : lead x = false := by unfold lead; rw [decide_eq_false (show ¬ 1 < x.length by omega), Bool.false_and]
          show _ = numD x
          unfold numD
          rw [if_pos ⟨hp, hl⟩]
    · refine iteB1 (by rw [decide_eq_false h2]; rfl) ?_
      walk_at "lw e"
      refine ⟨_, rfl, ?_⟩
      show _ = numD x
      have hp : plain x = false := by unfold plain; rw [decide_eq_false (show ¬ x.length ≤ 19 by omega), Bool.and_false, Bool.false_and]
      unfold numD
      rw [hp, if_neg (fun z => absurd z.1 (by decide))]
  · refine iteDF h1 ?_
    walk_at "lw e"
    refine ⟨_, rfl, ?_⟩
    show _ = numD x
    have hp : plain x = false := by unfold plain; rw [decide_eq_false (show ¬ 1 ≤ x.length by omega), Bool.false_and, Bool.false_and]
    unfold numD
    rw [hp, if_neg (fun z => absurd z.1 (by decide))]
theorem lnum_ok {x : Str} (hx : x.length ≤ 10000) : wpf m_l_number [.pure (.str x)] (ValQ fun d => d = numD x) := by
  have hsl : sizeLine = 16777216 := rfl
  refine Sm.run ?_
  unfold g_l_number
  walk_at "lw n"
  walk_at "lw e"
  refine ⟨lenS hx, ?_⟩
  walk_at "lw e"
  by_cases h1 : (0 : Int) < (x.length : Int)
  · refine iteDT h1 ?_
    walk_at "lw e"
    by_cases h2 : (x.length : Int) < 20
    · refine iteB0 (by rw [decide_eq_true h2]; rfl) ?_
      walk_at "lw e"
      refine Sm.lcPure (ds := sgns x) (fun d => .bool (fgD d)) (by rw [sgns_len]; show x.length ≤ _; omega) ?_ ?_
      · intro d hd
        obtain ⟨c, _, rfl⟩ := sgns_mem hd
        refine ⟨_, tgN_o rfl trivial, ?_⟩
        walk_at "lw n"
        walk_at "lw e"
        refine ⟨in_fig c, ?_⟩
        walk_at "lw e"
        rfl
      refine ⟨_, _, rfl, all_mk, ?_⟩
      cases h3 : (sgns x).all fgD with
      | false =>
        walk_at "lw e"
        refine ⟨_, rfl, ?_⟩
        show _ = numD x
        have hp : plain x = false := by unfold plain; rw [h3, Bool.and_false]
        unfold numD
        rw [hp, if_neg (fun z => absurd z.1 (by decide))]
      | true =>
        have hp : plain x = true := by unfold plain; rw [h3, decide_eq_true (show 1 ≤ x.length by omega), decide_eq_true (show x.length ≤ 19 by omega)]; rfl
        obtain ⟨c, hc, hi⟩ := ix0 (x := x) (by omega) hx
        have hl0 : x.cps.toList.length = x.length := Array.length_toList
        walk_at "lw e"
        by_cases h4 : x = "0"
        · refine iteDT h4 ?_
          walk_at "lw e"
          refine ⟨plain_int hp, ?_⟩
          walk_at "lw e"
          refine ⟨_, rfl, ?_⟩
          have hl : lead x = false := by subst h4; decide +kernel
          show _ = numD x
          unfold numD
          rw [if_pos ⟨hp, hl⟩]
        · refine iteDF h4 ?_
          walk_at "lw e"
          refine ⟨hi, ?_⟩
          walk_at "lw e"
          by_cases h5 : c = 48
          · refine iteB0 (by rw [decide_eq_true ((one0 c).mpr h5)]; rfl) ?_
            walk_at "lw e"
            refine ⟨_, rfl, ?_⟩
            have h6 : 1 < x.length := by
              refine Nat.lt_of_le_of_ne (by omega) fun z => h4 ?_
              cases x with
              | mk q =>
                have e2 : q.toList = [48] := by
                  cases e : q.toList with
                  | nil =>
                    have e3 : (⟨q⟩ : Str).cps.toList = [] := e
                    rw [e3] at hc; cases hc
                  | cons a as =>
                    have e3 : (⟨q⟩ : Str).cps.toList = a :: as := e
                    rw [e3] at hc hl0
                    rw [← z] at hl0
                    have : as = [] := by
                      cases as with
                      | nil => rfl
                      | cons b bs => simp only [List.length_cons] at hl0; omega
                    subst this
                    cases hc
                    rw [h5]
                exact congrArg Str.mk (Array.toList_inj.1 e2)
            have hl : lead x = true := by unfold lead; rw [hc, h5, decide_eq_true h6]; rfl
            show _ = numD x
            unfold numD
            rw [hl, if_neg (fun z => absurd z.2 (by decide))]
          · refine iteB1 (by rw [decide_eq_false (fun z => h5 ((one0 c).mp z))]; rfl) ?_
            walk_at "lw e"
            refine ⟨plain_int hp, ?_⟩
            walk_at "lw e"
            refine ⟨_, rfl, ?_⟩
            have hl : lead x = false := by unfold lead; rw [hc, decide_eq_false (show ¬ (some c = some 48) by simpa using h5), Bool.and_false]
            show _ = numD x
            unfold numD
            rw [if_pos ⟨hp, hl⟩]
    · refine iteB1 (by rw [decide_eq_false h2]; rfl) ?_
      walk_at "lw e"
      refine ⟨_, rfl, ?_⟩
      show _ = numD x
      have hp : plain x = false := by unfold plain; rw [decide_eq_false (show ¬ x.length ≤ 19 by omega), Bool.and_false, Bool.false_and]
      unfold numD
      rw [hp, if_neg (fun z => absurd z.1 (by decide))]
  · refine iteDF h1 ?_
    walk_at "lw e"
    refine ⟨_, rfl, ?_⟩
    show _ = numD x
    have hp : plain x = false := by unfold plain; rw [decide_eq_false (show ¬ 1 ≤ x.length by omega), Bool.false_and, Bool.false_and]
    unfold numD
    rw [hp, if_neg (fun z => absurd z.1 (by decide))]
end K49
-- F2
-- F3
-- F4
-- F5
namespace K49
open PySem PySem.Spec PyProof.Rows L2 Lw
local macro_rules | `(tactic| walk_at "lw e") => `(tactic| (repeat (first | (with_reducible refine Stp.go ?_) | (with_reducible apply Exists.intro) | ((with_reducible refine And.intro ?_ ?_); · (first | (with_reducible exact Evl.ev) | ((fail_if_success (with_reducible refine Gd.keep ?_)); (fail_if_success (with_reducible refine Gd5.keep ?_)); rfl) | ((with_reducible apply mul_r); decide) | ((with_reducible apply mul_l); decide) | ((with_reducible apply div_i); decide) | ((with_reducible apply in_R); decide) | (exact Nat.le_of_ble_eq_true rfl) | (simp [refsOf]; done) | (exact ⟨rfl, rfl, by decide⟩) | (exact ⟨rfl, rfl, rfl⟩) | ((with_reducible apply tgN_o); (focus rfl); (focus (first | assumption | trivial))))) | ((with_reducible apply Sm.vrP); (focus rfl)) | ((with_reducible apply Sm.vrO); (focus rfl)) | ((with_reducible apply Sm.augI); (focus rfl)) | ((with_reducible refine Sm.dicE ?_ ?_); (focus decide)) | ((with_reducible apply Sm.augS); (focus rfl)) | ((with_reducible apply Sm.augL); (focus rfl)) | (with_reducible refine iteTT ?_) | (with_reducible refine iteT ?_) | (with_reducible refine iteF ?_) | ((with_reducible refine iteB1 ?_ ?_); (focus rfl)) | ((with_reducible refine iteB0 ?_ ?_); (focus rfl)))))
local macro_rules | `(tactic| walk_at "lw n") => `(tactic| (try dsimp only [ent, List.map, Nat.reduceAdd, Nat.reduceSub, List.length_cons, List.length_nil, List.replicate_succ, List.replicate_zero, List.cons_append, List.nil_append, putBack, setOwn, List.getElem?_cons_zero, List.getElem?_cons_succ, List.set_cons_zero, List.set_cons_succ, Sm.nf]))
local macro_rules | `(tactic| walk_at "lw v") => `(tactic| (try simp only [pb1, pb2, pb3, pb4, pb5, pb6]))
def geN (z : Int) : D → Bool
  | .int m => decide (z ≤ m)
  | _ => false
def isPound : D → Bool
  | .tuple [.int l, .int m, .int s] => decide (0 ≤ l) && (decide (l ≤ m) && decide (1 ≤ s))
  | _ => false
def isStair : D → Bool
  | .tuple xs => decide (0 < xs.length) && xs.all isPound
  | _ => false
theorem num_ok {y : D} : wpf m_p_is_number [.pure y] (ValQ fun d => d = .bool (isD .int y && !isD .bool y)) := by
  refine Sm.run ?_
  unfold g_p_is_number
  walk_at "lw n"
  walk_at "lw e"
  cases y <;> (walk_at "lw e"; exact ⟨_, rfl, rfl⟩)
theorem from_ok {y : D} {z : Int} : wpf m_p_is_number_from [.pure (.int z), .pure y] (ValQ fun d => d = .bool (geN z y)) := by
  refine Sm.run ?_
  unfold g_p_is_number_from
  walk_at "lw n"
  walk_at "lw e"
  refine Sm.fmono num_ok fun r o h => ?_
  obtain ⟨d, rfl, rfl⟩ := h
  refine ⟨nref, ?_⟩
  walk_at "lw v"
  cases y <;> (walk_at "lw e"; exact ⟨_, rfl, rfl⟩)
def tupN (n : Nat) : D → Bool
  | .tuple xs => decide (xs.length = n)
  | _ => false
theorem tup_ok {y : D} {n : Nat} : wpf m_p_is_tuple_of [.pure (.int n), .pure y] (ValQ fun d => d = .bool (tupN n y)) := by
  refine Sm.run ?_
  unfold g_p_is_tuple_of
  walk_at "lw n"
  cases y with
  | tuple xs =>
    walk_at "lw e"
    refine ⟨_, rfl, ?_⟩
    show PyData.bool (PyData.eqv (.int xs.length) (.int n)) = PyData.bool (decide (xs.length = n))
    rw [eqv_int]
    congr 1
    by_cases h : xs.length = n
    · rw [decide_eq_true h, decide_eq_true (by omega)]
    · rw [decide_eq_false h, decide_eq_false (by omega)]
  | _ => walk_at "lw e"; exact ⟨_, rfl, rfl⟩
theorem pound_no {t : D} (h : tupN 3 t = false) : isPound t = false := by
  cases t with
  | tuple xs =>
    rcases xs with _ | ⟨a, _ | ⟨b, _ | ⟨c, _ | ⟨d, r⟩⟩⟩⟩
    · rfl
    · cases a <;> rfl
    · cases a <;> cases b <;> rfl
    · cases h
    · cases a <;> cases b <;> cases c <;> rfl
  | _ => rfl
theorem pound_ok {t : D} : wpf m_p_is_pound [.pure t] (ValQ fun d => d = .bool (isPound t)) := by
  refine Sm.run ?_
  unfold g_p_is_pound
  walk_at "lw n"
  walk_at "lw e"
  refine Sm.fmono (tup_ok (n := 3)) fun r o h => ?_
  obtain ⟨d, rfl, rfl⟩ := h
  refine ⟨nref, ?_⟩
  walk_at "lw v"
  walk_at "lw e"
  by_cases ht : tupN 3 t = true
  · refine iteB0 (by rw [ht]; rfl) ?_
    obtain ⟨a, b, c, rfl⟩ : ∃ a b c, t = .tuple [a, b, c] := by
      cases t with
      | tuple xs =>
        rcases xs with _ | ⟨a, _ | ⟨b, _ | ⟨c, _ | ⟨d, r⟩⟩⟩⟩
        · cases ht
        · cases ht
        · cases ht
        · exact ⟨a, b, c, rfl⟩
        · exact absurd (of_decide_eq_true (show decide ((a :: b :: c :: d :: r).length = 3) = true from ht)) (by simp only [List.length_cons]; omega)
      | _ => cases ht
    walk_at "lw e"
    refine Sm.fmono from_ok fun r o h => ?_
    obtain ⟨d, rfl, rfl⟩ := h
    refine ⟨nref, ?_⟩
    walk_at "lw v"
    cases a with
    | int l =>
      by_cases hl : 0 ≤ l
      · walk_at "lw e"
        refine iteDT hl ?_
        walk_at "lw n"
        walk_at "lw e"
        refine Sm.fmono from_ok fun r o h => ?_
        obtain ⟨d, rfl, rfl⟩ := h
        refine ⟨nref, ?_⟩
        walk_at "lw v"
        cases b with
        | int m =>
          by_cases hm : l ≤ m
          · walk_at "lw e"
            refine iteDT hm ?_
            walk_at "lw e"
            refine Sm.fmono from_ok fun r o h => ?_
            obtain ⟨d, rfl, rfl⟩ := h
            refine ⟨nref, ?_⟩
            walk_at "lw v"
            walk_at "lw e"
            refine ⟨_, rfl, ?_⟩
            cases c with
            | int s =>
              show PyData.bool (decide (1 ≤ s)) = PyData.bool (decide (0 ≤ l) && (decide (l ≤ m) && decide (1 ≤ s)))
              rw [decide_eq_true hl, decide_eq_true hm]; rfl
            | _ => rfl
          · walk_at "lw e"
            refine iteDF hm ?_
            walk_at "lw e"
            refine ⟨_, rfl, ?_⟩
            cases c with
            | int s =>
              show PyData.bool false = PyData.bool (decide (0 ≤ l) && (decide (l ≤ m) && decide (1 ≤ s)))
              rw [decide_eq_false hm, Bool.false_and, Bool.and_false]
            | _ => rfl
        | _ => walk_at "lw e"; exact ⟨_, rfl, rfl⟩
      · walk_at "lw e"
        refine iteDF hl ?_
        walk_at "lw e"
        refine ⟨_, rfl, ?_⟩
        cases b <;> first | rfl | skip
        cases c <;> first | rfl | skip
        rename_i m s
        show PyData.bool false = PyData.bool (decide (0 ≤ l) && (decide (l ≤ m) && decide (1 ≤ s)))
        rw [decide_eq_false hl, Bool.false_and]
    | _ => walk_at "lw e"; exact ⟨_, rfl, rfl⟩
  · have ht' : tupN 3 t = false := by simpa using ht
    refine iteB1 (by rw [ht']; rfl) ?_
    walk_at "lw e"
    exact ⟨_, rfl, by rw [pound_no ht']⟩
theorem pstair_ok {t : D} (hw : ∀ xs, t = .tuple xs → xs.length ≤ 160000) : wpf m_p_is_stair [.pure t] (ValQ fun d => d = .bool (isStair t)) := by
  refine Sm.run ?_
  unfold g_p_is_stair
  walk_at "lw n"
  cases t with
  | tuple xs =>
    have hl := hw xs rfl
    have hsl : sizeLine = 16777216 := rfl
    by_cases h0 : (0 : Int) < xs.length
    · walk_at "lw e"
      refine iteDT h0 ?_
      walk_at "lw e"
      refine Sm.lcPure (ds := xs) (fun x => .bool (isPound x)) (by omega) ?_ ?_
      · intro x hx
        refine ⟨_, tgN_o rfl trivial, ?_⟩
        walk_at "lw e"
        refine Sm.fmono pound_ok fun r o h => ?_
        obtain ⟨d, rfl, rfl⟩ := h
        refine ⟨nref, ?_⟩
        walk_at "lw v"
        exact ⟨_, rfl, rfl, rfl⟩
      · refine ⟨_, _, rfl, all_mk (p := isPound), ?_⟩
        walk_at "lw e"
        refine ⟨_, rfl, ?_⟩
        show PyData.bool (xs.all isPound) = PyData.bool (decide (0 < xs.length) && xs.all isPound)
        rw [decide_eq_true (by omega), Bool.true_and]
    · walk_at "lw e"
      refine iteDF h0 ?_
      walk_at "lw e"
      refine ⟨_, rfl, ?_⟩
      show PyData.bool false = PyData.bool (decide (0 < xs.length) && xs.all isPound)
      rw [decide_eq_false (by omega), Bool.false_and]
  | _ => walk_at "lw e"; exact ⟨_, rfl, rfl⟩
/-! ### the words of a text -/
theorem sp_len (x y : Str) : (Txt.split x y).length ≤ x.length + 2 := PyProof.Rows.split_le x y
theorem sp_sum (x y : Str) : ((Txt.split x y).map (·.length)).sum ≤ x.length := by
  have e := StrLaws.join_split x y
  have e2 := size_glued y (Txt.split x y)
  rw [StrLaws.glued_eq_join, e] at e2
  omega
theorem mem_sum {xs : List Nat} {a : Nat} (h : a ∈ xs) : a ≤ xs.sum := by
  induction xs with
  | nil => cases h
  | cons b xs ih =>
    rw [List.sum_cons]
    rcases List.mem_cons.mp h with rfl | h
    · omega
    · have := ih h; omega
theorem sp_mem {x y w : Str} (h : w ∈ Txt.split x y) : w.length ≤ x.length := Nat.le_trans (mem_sum (List.mem_map.mpr ⟨w, h, rfl⟩)) (sp_sum x y)
theorem sp_pos (x y : Str) : 1 ≤ (Txt.split x y).length := by
  unfold Txt.split
  split
  · show 1 ≤ 1; omega
  · split
    · show 1 ≤ 1; omega
    · rw [length_partsBetween]
      omega
def partsT (x : Str) : List (List D) := (Txt.split x " ").map fun w => (Txt.split w "/").map numD
def tupT (x : Str) : D := .tuple ((partsT x).map .tuple)
theorem gsp {x y : Str} (hx : x.length ≤ 10000) (hy : (y.length == 0) = false := by decide +kernel) : gSplit (.str x) (.str y) = some (.fresh ((Txt.split x y).map PyData.str)) := if_pos ⟨hy, by have hsl : sizeLine = 16777216 := rfl; omega⟩
theorem sp_len2 {x w : Str} (hx : x.length ≤ 1000) (h : w ∈ Txt.split x " ") : w.length ≤ 1000 := Nat.le_trans (sp_mem h) hx
theorem tup_w {x : Str} (hx : x.length ≤ 1000) : wpf m_p_is_stair [.pure (tupT x)] (ValQ fun d => d = .bool (isStair (tupT x))) := pstair_ok fun xs e => by
  cases e
  have := sp_len x " "
  unfold partsT
  rw [List.length_map, List.length_map]
  omega
def numD' : D → D
  | .str w => numD w
  | _ => .none
def wordD : D → D
  | .str w => .tuple ((Txt.split w "/").map numD)
  | _ => .none
theorem nums_map (ws : List Str) : (ws.map PyData.str).map numD' = ws.map numD := by rw [List.map_map]; rfl
theorem words_map (x : Str) : ((Txt.split x " ").map PyData.str).map wordD = (partsT x).map .tuple := by
  unfold partsT
  rw [List.map_map, List.map_map]
  rfl
theorem pin_ok {x : Str} (hx : x.length ≤ 1000) : wpm m_x_stair_in [.pure (.str x)] (fun r o => isStair (tupT x) = true ∧ ValQ (fun d => d = tupT x) r o) (fun nm y _ => isStair (tupT x) = false ∧ nm = "BadText" ∧ y = .str x) := by
  have hsl : sizeLine = 16777216 := rfl
  refine Sm.runX ?_
  unfold g_x_stair_in
  walk_at "lw n"
  walk_at "lw e"
  refine ⟨gsp (by omega), ?_⟩
  walk_at "lw e"
  have h1 := sp_len x " "
  refine Sm.lcPure wordD (by rw [List.length_map]; omega) ?_ ?_
  · intro d hd
    obtain ⟨w, hw, rfl⟩ := List.mem_map.mp hd
    have hwl := sp_len2 hx hw
    have h2 := sp_len w "/"
    refine ⟨_, tgN_o rfl trivial, ?_⟩
    walk_at "lw n"
    walk_at "lw e"
    refine ⟨gsp (by omega), ?_⟩
    walk_at "lw e"
    refine Sm.lcPure numD' (by rw [List.length_map]; omega) ?_ ?_
    · intro d hd
      obtain ⟨v, hv, rfl⟩ := List.mem_map.mp hd
      have hvl : v.length ≤ 1000 := Nat.le_trans (sp_mem hv) hwl
      refine ⟨_, tgN_o rfl trivial, ?_⟩
      walk_at "lw n"
      walk_at "lw e"
      refine Sm.fmono (pnum_ok (x := v) (by omega)) fun r o h => ?_
      obtain ⟨d, rfl, rfl⟩ := h
      refine ⟨nref, ?_⟩
      walk_at "lw v"
      exact ⟨_, rfl, rfl, rfl⟩
    · rw [nums_map]
      walk_at "lw e"
      rfl
  · rw [words_map]
    walk_at "lw e"
    refine Sm.fmono (tup_w hx) fun r o h => ?_
    obtain ⟨d, rfl, rfl⟩ := h
    refine ⟨nref, ?_⟩
    walk_at "lw v"
    cases hs : isStair (tupT x) with
    | true =>
      walk_at "lw e"
      exact ⟨_, rfl, rfl⟩
    | false =>
      walk_at "lw e"
      rfl
theorem asked_ok {x : Str} (hx : x.length ≤ 1000) : wpf m_l_asked [.pure (.str x)] (ValQ fun d => d = if isStair (tupT x) = true then tupT x else .none) := by
  have hsl : sizeLine = 16777216 := rfl
  refine Sm.run ?_
  unfold g_l_asked
  walk_at "lw n"
  walk_at "lw e"
  refine Sm.mmono (pin_ok hx) (fun r o h => ?_) fun nm y o h => ?_
  · obtain ⟨hs, d, rfl, rfl⟩ := h
    rw [if_pos hs]
    refine ⟨nref, ?_⟩
    walk_at "lw v"
    walk_at "lw e"
    exact ⟨_, rfl, rfl⟩
  · obtain ⟨hs, rfl, rfl⟩ := h
    rw [hs]
    rw [pb1]
    walk_at "lw n"
    walk_at "lw e"
    walk_at "lw n"
    walk_at "lw e"
    refine iteDT rfl ?_
    walk_at "lw e"
    exact ⟨_, rfl, rfl⟩
end K49
-- F2
-- F3
-- F4
-- F5
namespace K49
open PySem PySem.Spec PyProof.Rows L2 Lw
local macro_rules | `(tactic| walk_at "lw e") => `(tactic| (repeat (first | (with_reducible refine Stp.go ?_) | (with_reducible apply Exists.intro) | ((with_reducible refine And.intro ?_ ?_); · (first | (with_reducible exact Evl.ev) | ((fail_if_success (with_reducible refine Gd.keep ?_)); (fail_if_success (with_reducible refine Gd5.keep ?_)); rfl) | ((with_reducible apply mul_r); decide) | ((with_reducible apply mul_l); decide) | ((with_reducible apply div_i); decide) | ((with_reducible apply in_R); decide) | (exact Nat.le_of_ble_eq_true rfl) | (simp [refsOf]; done) | (exact ⟨rfl, rfl, by decide⟩) | (exact ⟨rfl, rfl, rfl⟩) | ((with_reducible apply tgN_o); (focus rfl); (focus (first | assumption | trivial))))) | ((with_reducible apply Sm.vrP); (focus rfl)) | ((with_reducible apply Sm.vrO); (focus rfl)) | ((with_reducible apply Sm.augI); (focus rfl)) | ((with_reducible refine Sm.dicE ?_ ?_); (focus decide)) | ((with_reducible apply Sm.augS); (focus rfl)) | ((with_reducible apply Sm.augL); (focus rfl)) | (with_reducible refine iteTT ?_) | (with_reducible refine iteT ?_) | (with_reducible refine iteF ?_) | ((with_reducible refine iteB1 ?_ ?_); (focus rfl)) | ((with_reducible refine iteB0 ?_ ?_); (focus rfl)))))
local macro_rules | `(tactic| walk_at "lw n") => `(tactic| (try dsimp only [ent, List.map, Nat.reduceAdd, Nat.reduceSub, List.length_cons, List.length_nil, List.replicate_succ, List.replicate_zero, List.cons_append, List.nil_append, putBack, setOwn, List.getElem?_cons_zero, List.getElem?_cons_succ, List.set_cons_zero, List.set_cons_succ, Sm.nf]))
local macro_rules | `(tactic| walk_at "lw v") => `(tactic| (try simp only [pb1, pb2, pb3, pb4, pb5, pb6]))
theorem loop_cons {tg : Tg} {g : MS} {d : D} {ds : List D} {ς : En} {Q : Out → Prop} (h : ∃ ς1, tg d ς = some ς1 ∧ wps g ς1 fun o => match o with | .nx ς2 => wps (loop tg g ds) ς2 Q | .ct ς2 => wps (loop tg g ds) ς2 Q | .bk ς2 => Q (.nx ς2) | .rt r ς2 => Q (.rt r ς2)) : wps (loop tg g (d :: ds)) ς Q := by
  obtain ⟨ς1, e1, o, e2, h⟩ := h
  cases o with
  | nx ς2 => obtain ⟨o, e3, q⟩ := h; exact ⟨o, by unfold loop; simp only [e1, e2]; exact e3, q⟩
  | ct ς2 => obtain ⟨o, e3, q⟩ := h; exact ⟨o, by unfold loop; simp only [e1, e2]; exact e3, q⟩
  | bk ς2 => exact ⟨_, by unfold loop; simp only [e1, e2], h⟩
  | rt r ς2 => exact ⟨_, by unfold loop; simp only [e1, e2], h⟩
def bodyD : MS := (sq (asg (lcE (itS (splE (vr 2) (cn (.str "/")))) [4] (tgN 4) (ret true) (callE m_l_number (argV (vr 4) argN))) (tgN 3))
  (sq (ifS (orT (tst (op2 gNe (cal1 gLen (vr 3)) (cn (.int 3)))) (tst (op2 (gIn false) (cn .none) (vr 3)))) (retS (cn .none)) skip)
  (sq (ifS (orT (tst (op2 gGt (op2 gIx (vr 3) (cn (.int 0))) (op2 gIx (vr 3) (cn (.int 1))))) (tst (op2 gLt (op2 gIx (vr 3) (cn (.int 2))) (cn (.int 1))))) (retS (cn .none)) skip)
  (exS (mth hApp (vr 1) (argV (cal1 gTuple (vr 3)) argN))))))
def PW (w : Str) : List D := (Txt.split w "/").map numD
def okP (ds : List D) : Bool := isPound (.tuple ds)
theorem numD_or (x : Str) : numD x = .none ∨ ∃ n : Int, 0 ≤ n ∧ numD x = .int n := by
  unfold numD
  split
  · exact .inr ⟨valT x, by unfold valT; exact Int.natCast_nonneg _, rfl⟩
  · exact .inl rfl
theorem in_none {ds : List D} (h : ds.all SeqAt.shaped = true) : gIn false .none (.list ds) = some (.pure (.bool (ds.any fun e => PyData.eqv e .none))) := if_pos ⟨by rfl, h⟩
theorem okP3 {ds : List D} (h : ds.length ≠ 3) : okP ds = false := pound_no (decide_eq_false h)
theorem body_ok {w : Str} {s0 o3 : Option S} {acc : List D} {Q : Out → Prop} (hw : w.length ≤ 1000) (ha : acc.length < 5000) (f3 : Fr o3) (hno : okP (PW w) = false → ∀ ς, Q (.rt (.pure .none) ς)) (hyes : okP (PW w) = true → Q (.nx [s0, some (.own false (acc ++ [.tuple (PW w)])), some (.pure (.str w)), some (.pure (.list (PW w))), none])) :
    wps bodyD [s0, some (.own false acc), some (.pure (.str w)), o3, none] Q := by
  have hsl : sizeLine = 16777216 := rfl
  have h2 := sp_len w "/"
  unfold bodyD
  walk_at "lw e"
  refine ⟨gsp (by omega), ?_⟩
  walk_at "lw e"
  refine Sm.lcPure numD' (by rw [List.length_map]; omega) ?_ ?_
  · intro d hd
    obtain ⟨v, hv, rfl⟩ := List.mem_map.mp hd
    have hvl : v.length ≤ 1000 := Nat.le_trans (sp_mem hv) hw
    refine ⟨_, tgN_o rfl trivial, ?_⟩
    walk_at "lw n"
    walk_at "lw e"
    refine Sm.fmono (lnum_ok (x := v) (by omega)) fun r o h => ?_
    obtain ⟨d, rfl, rfl⟩ := h
    refine ⟨nref, ?_⟩
    walk_at "lw v"
    exact ⟨_, rfl, rfl, rfl⟩
  rw [nums_map]
  have hm : ∀ d ∈ PW w, d = .none ∨ ∃ n : Int, 0 ≤ n ∧ d = .int n := fun d hd => by
    obtain ⟨v, _, rfl⟩ := List.mem_map.mp hd
    exact numD_or v
  have hlen : (PW w).length ≤ 1002 := by show ((Txt.split w "/").map numD).length ≤ _; rw [List.length_map]; omega
  rw [show (Txt.split w "/").map numD = PW w from rfl]
  generalize PW w = ds at hm hno hyes hlen ⊢
  have hsh : ds.all SeqAt.shaped = true := List.all_eq_true.mpr fun d hd => by
    rcases hm d hd with rfl | ⟨n, _, rfl⟩ <;> rfl
  refine ⟨_, _, _, rfl, tgN_o rfl f3, ?_⟩
  walk_at "lw n"
  walk_at "lw e"
  by_cases h3 : ds.length = 3
  · obtain ⟨a, b, c, rfl⟩ : ∃ a b c, ds = [a, b, c] := by
      rcases ds with _ | ⟨a, _ | ⟨b, _ | ⟨c, _ | ⟨d, r⟩⟩⟩⟩
      · cases h3
      · cases h3
      · cases h3
      · exact ⟨a, b, c, rfl⟩
      · simp only [List.length_cons] at h3; omega
    have ha' := hm a (by simp)
    have hb' := hm b (by simp)
    have hc' := hm c (by simp)
    walk_at "lw e"
    refine ⟨in_none hsh, ?_⟩
    rcases ha' with rfl | ⟨l, l0, rfl⟩
    · walk_at "lw e"
      exact hno rfl _
    rcases hb' with rfl | ⟨m, m0, rfl⟩
    · walk_at "lw e"
      exact hno rfl _
    rcases hc' with rfl | ⟨s, s0, rfl⟩
    · walk_at "lw e"
      exact hno rfl _
    have hv : okP [.int l, .int m, .int s] = (decide (0 ≤ l) && (decide (l ≤ m) && decide (1 ≤ s))) := rfl
    rw [decide_eq_true l0, Bool.true_and] at hv
    walk_at "lw e"
    by_cases h1 : l > m
    · refine iteDT h1 ?_
      walk_at "lw e"
      exact hno (by rw [hv, decide_eq_false (by omega)]; rfl) _
    · refine iteDF h1 ?_
      walk_at "lw e"
      by_cases h2 : s < 1
      · refine iteDT h2 ?_
        walk_at "lw e"
        exact hno (by rw [hv, decide_eq_false (show ¬ 1 ≤ s by omega), Bool.and_false]) _
      · refine iteDF h2 ?_
        walk_at "lw e"
        refine ⟨app_ok (by omega), ?_⟩
        exact hyes (by rw [hv, decide_eq_true (show l ≤ m by omega), decide_eq_true (show 1 ≤ s by omega)]; rfl)
  · have hz := okP3 h3
    refine iteB1 (by rw [eqv_int, decide_eq_false (by omega)]; rfl) ?_
    walk_at "lw e"
    exact hno hz _
theorem due_loop {s0 : Option S} {Q : Out → Prop} : ∀ (ws : List Str) (acc : List D) (o2 o3 : Option S), (∀ w ∈ ws, w.length ≤ 1000) → acc.length + ws.length ≤ 4000 → Fr o2 → Fr o3 →
    ((ws.map PW).all okP = false → ∀ ς, Q (.rt (.pure .none) ς)) → ((ws.map PW).all okP = true → ∀ o2 o3, Q (.nx [s0, some (.own false (acc ++ (ws.map PW).map .tuple)), o2, o3, none])) →
    wps (loop (tgN 2) bodyD (ws.map PyData.str)) [s0, some (.own false acc), o2, o3, none] Q
  | [], acc, o2, o3, _, _, _, _, _, h => ⟨.nx [s0, some (.own false acc), o2, o3, none], rfl, by have := h rfl o2 o3; rw [List.map_nil, List.map_nil, List.append_nil] at this; exact this⟩
  | w :: ws, acc, o2, o3, hw, hl, f2, f3, hno, hyes => by
    have ih := due_loop (s0 := s0) (Q := Q) ws
    rw [List.length_cons] at hl
    rw [List.map_cons, List.all_cons] at hno hyes
    show wps (loop _ bodyD (.str w :: ws.map PyData.str)) _ _
    refine loop_cons ⟨_, tgN_o rfl f2, ?_⟩
    refine body_ok (hw w (by simp)) (by omega) f3 (fun hz ς => hno (by rw [hz]; rfl) ς) fun hz => ?_
    refine ih _ _ _ (fun v hv => hw v (by simp [hv])) (by rw [List.length_append]; show acc.length + 1 + ws.length ≤ 4000; omega) trivial trivial (fun z => hno (by rw [hz, z]; rfl)) fun z p q => ?_
    have := hyes (by rw [hz, z]; rfl) p q
    rw [List.append_assoc]
    exact this
theorem due_ok {x : Str} (hx : x.length ≤ 1000) : wpf m_l_due [.pure (.str x)] (ValQ fun d => d = if isStair (tupT x) = true then tupT x else .none) := by
  have hsl : sizeLine = 16777216 := rfl
  have h1 := sp_len x " "
  have hall : isStair (tupT x) = ((Txt.split x " ").map PW).all okP := by
    have hp := sp_pos x " "
    show (decide (0 < ((partsT x).map PyData.tuple).length) && ((partsT x).map PyData.tuple).all isPound) = _
    rw [decide_eq_true (by rw [List.length_map]; unfold partsT; rw [List.length_map]; omega), Bool.true_and, List.all_map]
    rfl
  rw [hall]
  refine Sm.run ?_
  unfold g_l_due
  walk_at "lw n"
  generalize hbt : (sq (asg (lcE (itS (splE (vr 2) (cn (.str "/")))) [4] (tgN 4) (Lw.ret true) (callE m_l_number (argV (vr 4) argN))) (tgN 3)) _) = bt
  walk_at "lw e"
  refine ⟨gsp (by omega), ?_⟩
  walk_at "lw e"
  subst hbt
  refine due_loop (Txt.split x " ") [] none none (fun w hw => sp_len2 hx hw) (by show 0 + _ ≤ _; omega) trivial trivial ?_ ?_
  · intro hz ς
    refine ⟨nref, _, rfl, ?_⟩
    rw [hz]
    rfl
  · intro hz o2 o3
    rw [hz, List.nil_append]
    show wps _ _ _
    walk_at "lw e"
    refine ⟨_, rfl, ?_⟩
    rw [if_pos rfl]
    rfl
end K49
-- F2
-- F3
-- F4
-- F5
namespace K49
open PySem PySem.Spec PyProof.Rows L2 Lw
local macro_rules | `(tactic| walk_at "lw e") => `(tactic| (repeat (first | (with_reducible refine Stp.go ?_) | (with_reducible apply Exists.intro) | ((with_reducible refine And.intro ?_ ?_); · (first | (with_reducible exact Evl.ev) | ((fail_if_success (with_reducible refine Gd.keep ?_)); (fail_if_success (with_reducible refine Gd5.keep ?_)); rfl) | ((with_reducible apply mul_r); decide) | ((with_reducible apply mul_l); decide) | ((with_reducible apply div_i); decide) | ((with_reducible apply in_R); decide) | (exact Nat.le_of_ble_eq_true rfl) | (simp [refsOf]; done) | (exact ⟨rfl, rfl, by decide⟩) | (exact ⟨rfl, rfl, rfl⟩) | ((with_reducible apply tgN_o); (focus rfl); (focus (first | assumption | trivial))))) | ((with_reducible apply Sm.vrP); (focus rfl)) | ((with_reducible apply Sm.vrO); (focus rfl)) | ((with_reducible apply Sm.augI); (focus rfl)) | ((with_reducible refine Sm.dicE ?_ ?_); (focus decide)) | ((with_reducible apply Sm.augS); (focus rfl)) | ((with_reducible apply Sm.augL); (focus rfl)) | (with_reducible refine iteTT ?_) | (with_reducible refine iteT ?_) | (with_reducible refine iteF ?_) | ((with_reducible refine iteB1 ?_ ?_); (focus rfl)) | ((with_reducible refine iteB0 ?_ ?_); (focus rfl)))))
local macro_rules | `(tactic| walk_at "lw n") => `(tactic| (try dsimp only [ent, List.map, Nat.reduceAdd, Nat.reduceSub, List.length_cons, List.length_nil, List.replicate_succ, List.replicate_zero, List.cons_append, List.nil_append, putBack, setOwn, List.getElem?_cons_zero, List.getElem?_cons_succ, List.set_cons_zero, List.set_cons_succ, Sm.nf]))
local macro_rules | `(tactic| walk_at "lw v") => `(tactic| (try simp only [pb1, pb2, pb3, pb4, pb5, pb6]))
def okT (z : Str) : Prop := ∀ c ∈ z.cps.toList, c < 0x110000
theorem okT_ok {z : Str} (h : okT z) : PyData.strOk z = true := by
  show z.cps.all (· < 0x110000) = true
  rw [Array.all_eq_true_iff_forall_mem]
  intro c hc
  exact decide_eq_true (h c (by simpa using hc))
theorem ok_okT {z : Str} (h : PyData.strOk z = true) : okT z := by
  have h : z.cps.all (· < 0x110000) = true := h
  rw [Array.all_eq_true_iff_forall_mem] at h
  intro c hc
  exact of_decide_eq_true (h c (by simpa using hc))
theorem okT_app {x y : Str} (hx : okT x) (hy : okT y) : okT (x ++ y) := by
  intro c hc
  have : c ∈ (x.cps ++ y.cps).toList := hc
  rw [Array.toList_append] at this
  rcases List.mem_append.mp this with h | h
  · exact hx c h
  · exact hy c h
theorem cut_list (z : Str) (lo hi : Option Int) : (cutS z lo hi).cps.toList = (z.cps.toList.drop (HT.sIx z.length 0 lo)).take (HT.sIx z.length z.length hi - HT.sIx z.length 0 lo) := rfl
theorem okT_cut {z : Str} (h : okT z) (lo hi : Option Int) : okT (cutS z lo hi) := by
  intro c hc
  rw [cut_list] at hc
  exact h c (List.mem_of_mem_drop (List.mem_of_mem_take hc))
theorem okT_rev {z : Str} (h : okT z) : okT (revT z) := by
  intro c hc
  have : c ∈ (Builtin.Str.strSliceIndices none none (-1) z.length).filterMap (z.cps[·]?) := hc
  obtain ⟨i, _, hi⟩ := List.mem_filterMap.mp this
  exact h c (by simpa using Array.mem_of_getElem? hi)
theorem okT_sg {c : Nat} (h : c < 0x110000) : okT ⟨#[c]⟩ := by
  intro d hd
  have : d ∈ [c] := hd
  rw [List.mem_singleton.mp this]
  exact h
theorem cut_len (z : Str) (lo hi : Option Int) : (cutS z lo hi).length = min (HT.sIx z.length z.length hi - HT.sIx z.length 0 lo) (z.length - HT.sIx z.length 0 lo) := by
  show ((z.cps.toList.drop (HT.sIx z.length 0 lo)).take (HT.sIx z.length z.length hi - HT.sIx z.length 0 lo)).toArray.size = _
  rw [List.size_toArray, List.length_take, List.length_drop, Array.length_toList]
  rfl
theorem len_to (z : Str) (a : Nat) : (cutS z none (some (a : Int))).length = min a z.length := by
  rw [cut_len, HT.sIx_nat]
  show min (min a z.length - 0) (z.length - 0) = _
  omega
theorem len_from (z : Str) (a : Nat) : (cutS z (some (a : Int)) none).length = z.length - min a z.length := by
  rw [cut_len, HT.sIx_nat]
  show min (z.length - min a z.length) (z.length - min a z.length) = _
  omega
theorem len_mid (z : Str) (a b : Nat) : (cutS z (some (a : Int)) (some (b : Int))).length = min b z.length - min a z.length := by
  rw [cut_len, HT.sIx_nat, HT.sIx_nat]
  omega
theorem catS {x y : Str} (h : x.length + y.length ≤ 100000) : gAddA (.str x) (.str y) = some (.pure (.str (x ++ y))) := by
  have hsl : sizeLine = 16777216 := rfl
  have e : gStr (.str x) (.str y) = some (.pure (.str (x ++ y))) := if_pos (by omega)
  unfold gAddA orG
  rw [show gI0 (fun i j => PyData.int (i + j)) (.str x) (.str y) = none from rfl, e]
theorem len_app (x y : Str) : (x ++ y).length = x.length + y.length := Str.length_append x y
abbrev SG : Str := "0123456789/ -a\n"
def OfQ (c : Nat) (r : R) (outs : List S) : Prop := ∃ (k : Nat) (ds' : List D), r = .pure (.str ⟨#[k]⟩) ∧ k < 0x110000 ∧ Box c ds' ∧ outs = [.own true ds', .pure (.str SG)]
theorem sg_at {i : Int} (h0 : 0 ≤ i) (h1 : i < 15) : gIxS (.str SG) (.int i) = some (.pure (.str ⟨#[SG.cps.toList.getD i.toNat 0]⟩)) := by
  have hl : SG.cps.toList.length = 15 := by decide +kernel
  have hsl : sizeLine = 16777216 := rfl
  have e : atI SG.cps.toList i = some (SG.cps.toList.getD i.toNat 0) := by
    unfold atI ixN
    simp only [h0, if_true]
    rw [if_pos (by omega), List.getD_eq_getElem?_getD]
    show SG.cps.toList[i.toNat]? = _
    rw [List.getElem?_eq_getElem (by omega)]
    rfl
  show (if SG.length ≤ sizeLine then (atI SG.cps.toList i).map fun c => R.pure (.str ⟨#[c]⟩) else none) = _
  rw [if_pos (by rw [show SG.length = 15 from by decide +kernel, hsl]; decide), e]
  rfl
theorem sg_lt (i : Int) : SG.cps.toList.getD i.toNat 0 < 0x110000 := by
  have h : ∀ c ∈ SG.cps.toList, c < 0x110000 := by decide +kernel
  rw [List.getD_eq_getElem?_getD]
  cases q : SG.cps.toList[i.toNat]? with
  | none => decide
  | some c => exact h c (List.mem_of_getElem? q)
theorem of_ok {c : Nat} {ds : List D} (hb : Box (c + 16) ds) : wpf m_l_of [.own true ds, .pure (.str SG)] (OfQ c) := by
  have hsl : sizeLine = 16777216 := rfl
  have hsg : SG.length = 15 := by decide +kernel
  refine Sm.run ?_
  unfold g_l_of
  walk_at "lw n"
  walk_at "lw e"
  rw [hsg]
  (refine Sm.fmono (take4 (c := c) (Box.less hb (by omega)) (by omega) (by omega)) fun r o h => ?_; obtain ⟨v1, b1, rfl, l1, u1, h1, rfl⟩ := h; refine ⟨nref, ?_⟩; walk_at "lw n"; walk_at "lw e")
  walk_at "lw n"
  refine ⟨sg_at l1 u1, ?_⟩
  exact ⟨nref, _, b1, rfl, sg_lt v1, h1, rfl⟩
theorem lfI (z : Str) {i : Int} (h : 0 ≤ i) : (cutS z (some i) none).length = z.length - min i.toNat z.length := by
  obtain ⟨a, rfl⟩ := Int.eq_ofNat_of_zero_le h
  rw [len_from, Int.toNat_natCast]
theorem ltI (z : Str) {i : Int} (h : 0 ≤ i) : (cutS z none (some i)).length = min i.toNat z.length := by
  obtain ⟨a, rfl⟩ := Int.eq_ofNat_of_zero_le h
  rw [len_to, Int.toNat_natCast]
theorem lmI (z : Str) {i j : Int} (h : 0 ≤ i) (h2 : 0 ≤ j) : (cutS z (some i) (some j)).length = min j.toNat z.length - min i.toNat z.length := by
  obtain ⟨a, rfl⟩ := Int.eq_ofNat_of_zero_le h
  obtain ⟨b, rfl⟩ := Int.eq_ofNat_of_zero_le h2
  rw [len_mid, Int.toNat_natCast, Int.toNat_natCast]
def TxQ (c n : Nat) (z : Str) (r : R) (outs : List S) : Prop := ∃ (y : Str) (ds' : List D), r = .pure (.str y) ∧ y.length ≤ n + 1 ∧ okT y ∧ Box c ds' ∧ outs = [.own true ds', .pure (.str z)]
theorem bent_ok {c n : Nat} {z : Str} {ds : List D} (hn : n ≤ 1000) (hz : z.length ≤ n) (ho : okT z) (hb : Box (c + 100) ds) : wpf m_l_bent_text [.own true ds, .pure (.str z)] (TxQ c n z) := by
  have hsl : sizeLine = 16777216 := rfl
  refine Sm.run ?_
  unfold g_l_bent_text
  walk_at "lw n"
  walk_at "lw e"
  refine ⟨lenS (by omega), ?_⟩
  walk_at "lw e"
  (refine Sm.fmono (take4 (c := c + 80) (Box.less hb (by omega)) (by omega) (by omega)) fun r o h => ?_; obtain ⟨v1, b1, rfl, l1, u1, h1, rfl⟩ := h; refine ⟨nref, ?_⟩; walk_at "lw n"; walk_at "lw e")
  walk_at "lw n"
  (refine Sm.fmono (take4 (c := c + 60) (Box.less h1 (by omega)) (by omega) (by omega)) fun r o h => ?_; obtain ⟨v2, b2, rfl, l2, u2, h2, rfl⟩ := h; refine ⟨nref, ?_⟩; walk_at "lw n"; walk_at "lw e")
  walk_at "lw n"
  have hv : v2 = 0 ∨ v2 = 1 ∨ v2 = 2 ∨ v2 = 3 := by omega
  have e1 := ltI z l1
  have e2 := lfI z l1
  rcases hv with rfl | rfl | rfl | rfl
  · have e3 := lfI z (i := v1 + 1) (by omega)
    walk_at "lw e"
    refine ⟨by omega, ?_⟩
    walk_at "lw e"
    refine ⟨by omega, ?_⟩
    walk_at "lw e"
    refine ⟨catS (by omega), ?_⟩
    exact ⟨nref, _, b2, rfl, by rw [len_app]; omega, okT_app (okT_cut ho _ _) (okT_cut ho _ _), h2.less (by omega), rfl⟩
  · have e3 := lmI z (i := v1) (j := v1 + 1) (by omega) (by omega)
    walk_at "lw e"
    refine ⟨by omega, ?_⟩
    walk_at "lw e"
    refine ⟨by omega, ?_⟩
    walk_at "lw e"
    refine ⟨catS (by omega), ?_⟩
    walk_at "lw e"
    refine ⟨by omega, ?_⟩
    walk_at "lw e"
    refine ⟨catS (by rw [len_app]; omega), ?_⟩
    exact ⟨nref, _, b2, rfl, by rw [len_app, len_app]; omega, okT_app (okT_app (okT_cut ho _ _) (okT_cut ho _ _)) (okT_cut ho _ _), h2.less (by omega), rfl⟩
  · walk_at "lw e"
    refine ⟨by omega, ?_⟩
    walk_at "lw e"
    refine Sm.fmono (of_ok (c := c + 40) (h2.less (by omega))) fun r o h => ?_
    obtain ⟨k, b3, rfl, hk, h3, rfl⟩ := h
    refine ⟨nref, ?_⟩
    walk_at "lw n"
    walk_at "lw e"
    have e4 : (⟨#[k]⟩ : Str).length = 1 := rfl
    refine ⟨catS (by omega), ?_⟩
    walk_at "lw e"
    (refine Sm.fmono (take4 (c := c + 20) (Box.less h3 (by omega)) (by omega) (by omega)) fun r o h => ?_; obtain ⟨v4, b4, rfl, l4, u4, h4, rfl⟩ := h; refine ⟨nref, ?_⟩; walk_at "lw n"; walk_at "lw e")
    walk_at "lw n"
    walk_at "lw e"
    have e3 := lfI z (i := v1 + v4) (by omega)
    refine ⟨by omega, ?_⟩
    walk_at "lw e"
    refine ⟨catS (by rw [len_app]; omega), ?_⟩
    exact ⟨nref, _, b4, rfl, by rw [len_app, len_app]; omega, okT_app (okT_app (okT_cut ho _ _) (okT_sg hk)) (okT_cut ho _ _), h4.less (by omega), rfl⟩
  · have e3 := lmI z (i := v1) (j := v1 + 2) (by omega) (by omega)
    have e4 := lfI z (i := v1 + 2) (by omega)
    have e5 := revT_len (cutS z (some v1) (some (v1 + 2)))
    walk_at "lw e"
    refine ⟨by omega, ?_⟩
    walk_at "lw e"
    refine ⟨by omega, ?_⟩
    walk_at "lw e"
    refine ⟨if_pos (by omega), ?_⟩
    walk_at "lw e"
    refine ⟨catS (by omega), ?_⟩
    walk_at "lw e"
    refine ⟨by omega, ?_⟩
    walk_at "lw e"
    refine ⟨catS (by rw [len_app]; omega), ?_⟩
    exact ⟨nref, _, b2, rfl, by rw [len_app, len_app]; omega, okT_app (okT_app (okT_cut ho _ _) (okT_rev (okT_cut ho _ _))) (okT_cut ho _ _), h2.less (by omega), rfl⟩
end K49
-- F2
-- F3
-- F4
-- F5
namespace K49
open PySem PySem.Spec PyProof.Rows L2 Lw
local macro_rules | `(tactic| walk_at "lw e") => `(tactic| (repeat (first | (with_reducible refine Stp.go ?_) | (with_reducible apply Exists.intro) | ((with_reducible refine And.intro ?_ ?_); · (first | (with_reducible exact Evl.ev) | ((fail_if_success (with_reducible refine Gd.keep ?_)); (fail_if_success (with_reducible refine Gd5.keep ?_)); rfl) | ((with_reducible apply mul_r); decide) | ((with_reducible apply mul_l); decide) | ((with_reducible apply div_i); decide) | ((with_reducible apply in_R); decide) | (exact Nat.le_of_ble_eq_true rfl) | (simp [refsOf]; done) | (exact ⟨rfl, rfl, by decide⟩) | (exact ⟨rfl, rfl, rfl⟩) | ((with_reducible apply tgN_o); (focus rfl); (focus (first | assumption | trivial))))) | ((with_reducible apply Sm.vrP); (focus rfl)) | ((with_reducible apply Sm.vrO); (focus rfl)) | ((with_reducible apply Sm.augI); (focus rfl)) | ((with_reducible refine Sm.dicE ?_ ?_); (focus decide)) | ((with_reducible apply Sm.augS); (focus rfl)) | ((with_reducible apply Sm.augL); (focus rfl)) | (with_reducible refine iteTT ?_) | (with_reducible refine iteT ?_) | (with_reducible refine iteF ?_) | ((with_reducible refine iteB1 ?_ ?_); (focus rfl)) | ((with_reducible refine iteB0 ?_ ?_); (focus rfl)))))
local macro_rules | `(tactic| walk_at "lw n") => `(tactic| (try dsimp only [ent, List.map, Nat.reduceAdd, Nat.reduceSub, List.length_cons, List.length_nil, List.replicate_succ, List.replicate_zero, List.cons_append, List.nil_append, putBack, setOwn, List.getElem?_cons_zero, List.getElem?_cons_succ, List.set_cons_zero, List.set_cons_succ, Sm.nf]))
local macro_rules | `(tactic| walk_at "lw v") => `(tactic| (try simp only [pb1, pb2, pb3, pb4, pb5, pb6]))
abbrev P3 := Int × Int × Int
def toS (i : Int) : Str := Str.ofString (toString i)
theorem toS_len {i : Int} (h0 : 0 ≤ i) (h1 : i < 100000000000000000) : (toS i).length ≤ 17 := by
  obtain ⟨n, rfl⟩ := Int.eq_ofNat_of_zero_le h0
  have e := TL.tl_num n
  have e2 := TL.numL_len (n := n) (k := 17) (by decide) (by omega)
  rw [← e] at e2
  have e3 : (TL.tl (toS (n : Int))).length = (toS (n : Int)).length := Array.length_toList
  rw [← e3]
  exact e2
theorem toS_ok (i : Int) : okT (toS i) := ok_okT (strOk_str (toString i))
theorem glued_okT {sep : Str} (hs : okT sep) (ys : List Str) : ∀ acc : Array Nat, (∀ c ∈ acc.toList, c < 0x110000) → (∀ y ∈ ys, okT y) → ∀ c ∈ (ys.foldl (fun acc p => acc ++ sep.cps ++ p.cps) acc).toList, c < 0x110000 := by
  induction ys with
  | nil => exact fun acc h _ => h
  | cons y ys ih =>
    intro acc h hy
    rw [List.foldl_cons]
    refine ih _ ?_ fun z hz => hy z (by simp [hz])
    intro c hc
    rw [Array.toList_append, Array.toList_append] at hc
    rcases List.mem_append.mp hc with hc | hc
    · rcases List.mem_append.mp hc with hc | hc
      · exact h c hc
      · exact hs c hc
    · exact hy y (by simp) c hc
theorem join_okT {sep : Str} (hs : okT sep) {ys : List Str} (h : ∀ y ∈ ys, okT y) : okT (Txt.join sep ys) := by
  show okT (Builtin.Str.glued sep ys)
  cases ys with
  | nil =>
    intro c hc
    have : c ∈ ([] : List Nat) := hc
    cases this
  | cons y ys => exact glued_okT hs ys y.cps (h y (by simp)) fun z hz => h z (by simp [hz])
theorem join_len (sep : Str) (ys : List Str) : (Txt.join sep ys).length = (ys.map (·.length)).sum + (ys.length - 1) * sep.length := size_glued sep ys
theorem gJoin_ok {sep : Str} {ys : List Str} (h : (ys.map (·.length)).sum + ys.length * sep.length ≤ 16777216) : gJoin sep (.list (ys.map PyData.str)) = some (.pure (.str (Txt.join sep ys))) := by
  unfold gJoin
  simp only [strsOf_map]
  rw [if_pos h]
def textP (p : P3) : Str := Txt.join "/" [toS p.1, toS p.2.1, toS p.2.2]
def textS (ps : List P3) : Str := Txt.join " " (ps.map textP)
def NB (p : P3) : Prop := (0 ≤ p.1 ∧ p.1 < 100000000000000000) ∧ (0 ≤ p.2.1 ∧ p.2.1 < 100000000000000000) ∧ (0 ≤ p.2.2 ∧ p.2.2 < 100000000000000000)
theorem slash_len : ("/" : Str).length = 1 := by decide +kernel
theorem blank_len : (" " : Str).length = 1 := by decide +kernel
theorem textP_len {p : P3} (h : NB p) : (textP p).length ≤ 53 := by
  obtain ⟨⟨a, b⟩, ⟨c, d⟩, e, f⟩ := h
  have h1 := toS_len a b
  have h2 := toS_len c d
  have h3 := toS_len e f
  unfold textP
  rw [join_len, slash_len]
  show (toS p.1).length + ((toS p.2.1).length + ((toS p.2.2).length + 0)) + (3 - 1) * 1 ≤ 53
  omega
theorem textP_ok (p : P3) : okT (textP p) := join_okT (by unfold okT; decide +kernel) fun y hy => by
  simp only [List.mem_cons, List.not_mem_nil, or_false] at hy
  rcases hy with rfl | rfl | rfl <;> exact toS_ok _
theorem texts_len : ∀ {ps : List P3}, (∀ p ∈ ps, NB p) → ((ps.map textP).map (·.length)).sum ≤ 53 * ps.length
  | [], _ => Nat.le_refl _
  | p :: ps, h => by
    have := texts_len (ps := ps) fun q hq => h q (by simp [hq])
    have h1 := textP_len (h p (by simp))
    rw [List.map_cons, List.map_cons, List.sum_cons, List.length_cons]
    omega
theorem textS_len {ps : List P3} (hb : ∀ p ∈ ps, NB p) (hn : ps.length ≤ 6) : (textS ps).length ≤ 330 := by
  have := texts_len hb
  unfold textS
  rw [join_len, blank_len, List.length_map]
  omega
theorem textS_ok (ps : List P3) : okT (textS ps) := join_okT (by unfold okT; decide +kernel) fun y hy => by
  obtain ⟨p, _, rfl⟩ := List.mem_map.mp hy
  exact textP_ok p
def strD : D → D
  | .int i => .str (toS i)
  | _ => .none
def txtD (x : D) : D := match items x with
  | some [.int a, .int b, .int c] => .str (textP (a, b, c))
  | _ => .none
theorem txtD_e {x : D} {p : P3} (h : items x = some [.int p.1, .int p.2.1, .int p.2.2]) : txtD x = .str (textP p) := by
  unfold txtD
  rw [h]
theorem gstr {i : Int} (h0 : 0 ≤ i) (h1 : i < 100000000000000000) : gStrOf (.int i) = some (.pure (.str (toS i))) := strOf_ok (B := 100000000000000000) (by decide +kernel) (by omega)
theorem join3 {p : P3} (h : NB p) : gJoin "/" (.list ([PyData.int p.1, .int p.2.1, .int p.2.2].map strD)) = some (.pure (.str (textP p))) := by
  obtain ⟨⟨a, b⟩, ⟨c, d⟩, e, f⟩ := h
  have h1 := toS_len a b
  have h2 := toS_len c d
  have h3 := toS_len e f
  refine gJoin_ok (sep := "/") (ys := [toS p.1, toS p.2.1, toS p.2.2]) ?_
  rw [slash_len]
  show (toS p.1).length + ((toS p.2.1).length + ((toS p.2.2).length + 0)) + 3 * 1 ≤ 16777216
  omega
theorem txts_map {st : D} {xs : List D} {ps : List P3} (hs : StairG st xs ps) : xs.map txtD = (ps.map textP).map PyData.str := by
  apply List.ext_getElem?
  intro i
  rw [List.getElem?_map, List.getElem?_map, List.getElem?_map]
  have hl := hs.len
  cases q : xs[i]? with
  | none =>
    have : ps[i]? = none := List.getElem?_eq_none (by have := List.getElem?_eq_none_iff.mp q; omega)
    rw [this]; rfl
  | some x =>
    have hi := (List.getElem?_eq_some_iff.mp q).1
    have hp : ps[i]? = some ps[i] := List.getElem?_eq_getElem (by omega)
    rw [hp]
    exact congrArg some (txtD_e (hs.ok i x _ q hp))
theorem joinS {ps : List P3} (hb : ∀ p ∈ ps, NB p) (hn : ps.length ≤ 6) : gJoin " " (.list ((ps.map textP).map PyData.str)) = some (.pure (.str (textS ps))) := by
  have := texts_len hb
  refine gJoin_ok ?_
  rw [blank_len, List.length_map]
  omega
theorem text_ok {st : D} {xs : List D} {ps : List P3} (hs : StairG st xs ps) (hb : ∀ p ∈ ps, NB p) (hn : ps.length ≤ 6) : wpf m_p_stair_text [.pure st] (ValQ fun d => d = .str (textS ps)) := by
  have hsl : sizeLine = 16777216 := rfl
  have hl := hs.len
  refine Sm.run ?_
  unfold g_p_stair_text
  walk_at "lw n"
  walk_at "lw e"
  refine ⟨hs.its, ?_⟩
  walk_at "lw e"
  refine Sm.lcPure txtD (by omega) ?_ ?_
  · intro x hx
    obtain ⟨i, hi⟩ := List.mem_iff_getElem?.mp hx
    have hil := (List.getElem?_eq_some_iff.mp hi).1
    have hp : ps[i]? = some ps[i] := List.getElem?_eq_getElem (by omega)
    have hk := hs.ok i x _ hi hp
    have hnb := hb _ (List.getElem_mem (by omega : i < ps.length))
    generalize ps[i] = p at hk hnb
    refine ⟨_, tgN_o rfl trivial, ?_⟩
    walk_at "lw n"
    walk_at "lw e"
    refine ⟨hk, ?_⟩
    walk_at "lw e"
    refine Sm.lcPure strD (by show 3 ≤ _; omega) ?_ ?_
    · intro d hd
      refine ⟨_, tgN_o rfl trivial, ?_⟩
      obtain ⟨⟨a, b⟩, ⟨c, e⟩, f, g⟩ := hnb
      simp only [List.mem_cons, List.not_mem_nil, or_false] at hd
      walk_at "lw n"
      rcases hd with rfl | rfl | rfl
      · walk_at "lw e"
        refine ⟨gstr a b, ?_⟩
        exact ⟨_, rfl, rfl, rfl⟩
      · walk_at "lw e"
        refine ⟨gstr c e, ?_⟩
        exact ⟨_, rfl, rfl, rfl⟩
      · walk_at "lw e"
        refine ⟨gstr f g, ?_⟩
        exact ⟨_, rfl, rfl, rfl⟩
    · refine ⟨_, _, rfl, join3 hnb, ?_⟩
      rw [txtD_e hk]
      exact ⟨_, rfl, rfl, rfl⟩
  · rw [txts_map hs]
    refine ⟨_, _, rfl, joinS hb hn, ?_⟩
    exact ⟨nref, _, rfl, rfl⟩
theorem lists_st (ps : List P3) : StairG (lsts 2 (.tuple (ps.map pd))) (ps.map pdl) ps := stair_lsts ps
theorem nb_of {g : Nat} (g1 : 1 ≤ g) (g2 : g ≤ 1000000000000000) {p : P3} (h : PoundI g p) : NB p := by
  obtain ⟨a, b, s, rfl, a0, a1, b0, b1, s0, s1⟩ := h
  have k1 := Int.mul_le_mul (show a ≤ 3 by omega) (show (g : Int) ≤ 1000000000000000 by omega) (by omega) (by omega)
  have k2 := Int.mul_le_mul (show a + b ≤ 32 by omega) (show (g : Int) ≤ 1000000000000000 by omega) (by omega) (by omega)
  have k3 := Int.mul_le_mul (show s ≤ 4 by omega) (show (g : Int) ≤ 1000000000000000 by omega) (by omega) (by omega)
  have z1 := Int.mul_nonneg (a := a) (b := g) a0 (by omega)
  have z2 := Int.mul_nonneg (a := a + b) (b := g) (by omega) (by omega)
  have z3 := Int.mul_nonneg (a := s) (b := g) (by omega) (by omega)
  exact ⟨⟨z1, by show a * g < _; omega⟩, ⟨z2, by show (a + b) * g < _; omega⟩, ⟨z3, by show s * g < _; omega⟩⟩
end K49
-- F2
-- F3
-- F4
-- F5
namespace K49
open PySem PySem.Spec PyProof.Rows L2 Lw
local macro_rules | `(tactic| walk_at "lw e") => `(tactic| (repeat (first | (with_reducible refine Stp.go ?_) | (with_reducible apply Exists.intro) | ((with_reducible refine And.intro ?_ ?_); · (first | (with_reducible exact Evl.ev) | ((fail_if_success (with_reducible refine Gd.keep ?_)); (fail_if_success (with_reducible refine Gd5.keep ?_)); rfl) | ((with_reducible apply mul_r); decide) | ((with_reducible apply mul_l); decide) | ((with_reducible apply div_i); decide) | ((with_reducible apply in_R); decide) | (exact Nat.le_of_ble_eq_true rfl) | (simp [refsOf]; done) | (exact ⟨rfl, rfl, by decide⟩) | (exact ⟨rfl, rfl, rfl⟩) | ((with_reducible apply tgN_o); (focus rfl); (focus (first | assumption | trivial))))) | ((with_reducible apply Sm.vrP); (focus rfl)) | ((with_reducible apply Sm.vrO); (focus rfl)) | ((with_reducible apply Sm.augI); (focus rfl)) | ((with_reducible refine Sm.dicE ?_ ?_); (focus decide)) | ((with_reducible apply Sm.augS); (focus rfl)) | ((with_reducible apply Sm.augL); (focus rfl)) | (with_reducible refine iteTT ?_) | (with_reducible refine iteT ?_) | (with_reducible refine iteF ?_) | ((with_reducible refine iteB1 ?_ ?_); (focus rfl)) | ((with_reducible refine iteB0 ?_ ?_); (focus rfl)))))
local macro_rules | `(tactic| walk_at "lw n") => `(tactic| (try dsimp only [ent, List.map, Nat.reduceAdd, Nat.reduceSub, List.length_cons, List.length_nil, List.replicate_succ, List.replicate_zero, List.cons_append, List.nil_append, putBack, setOwn, List.getElem?_cons_zero, List.getElem?_cons_succ, List.set_cons_zero, List.set_cons_succ, Sm.nf]))
local macro_rules | `(tactic| walk_at "lw v") => `(tactic| (try simp only [pb1, pb2, pb3, pb4, pb5, pb6]))
theorem dv_lt : ∀ (cs : List Nat), (∀ c ∈ cs, c ≤ 57) → ∀ acc : Nat, cs.foldl (fun acc c => acc * 10 + (c - 48)) acc < (acc + 1) * 10 ^ cs.length
  | [], _, acc => by simp
  | c :: cs, h, acc => by
    have ih := dv_lt cs (fun d hd => h d (by simp [hd])) (acc * 10 + (c - 48))
    have hc := h c (by simp)
    rw [List.foldl_cons, List.length_cons, Nat.pow_succ]
    refine Nat.lt_of_lt_of_le ih ?_
    rw [Nat.mul_comm (10 ^ cs.length) 10, ← Nat.mul_assoc]
    exact Nat.mul_le_mul_right _ (by omega)
theorem val_lt {x : Str} (h : plain x = true) : 0 ≤ valT x ∧ valT x < 10000000000000000000 := by
  unfold plain at h
  rw [Bool.and_eq_true, Bool.and_eq_true] at h
  obtain ⟨⟨h1, h2⟩, h3⟩ := h
  have h2 := of_decide_eq_true h2
  have hl : x.cps.toList.length = x.length := Array.length_toList
  have := dv_lt x.cps.toList (fun c hc => by
    have := List.all_eq_true.mp h3 (sgE c) (List.mem_map.mpr ⟨c, hc, rfl⟩)
    have : fg c = true := this
    unfold fg at this
    rw [Bool.and_eq_true] at this
    exact of_decide_eq_true this.2) 0
  have h4 : 10 ^ x.cps.toList.length ≤ 10 ^ 19 := Nat.pow_le_pow_right (by decide) (by omega)
  have h5 : valT x = ((x.cps.toList.foldl (fun acc c => acc * 10 + (c - 48)) 0 : Nat) : Int) := rfl
  rw [h5]
  rw [Nat.zero_add, Nat.one_mul] at this
  have h6 : (10 : Nat) ^ 19 = 10000000000000000000 := by decide +kernel
  generalize (x.cps.toList.foldl (fun acc c => acc * 10 + (c - 48)) 0 : Nat) = v at this ⊢
  omega
def BB : Nat := 100000000000000000000
theorem num_fine (x : Str) : lfb BB (numD x) = true ∧ (numD x).weight ≤ 64 := by
  unfold numD
  split
  · rename_i h
    obtain ⟨a, b⟩ := val_lt h.1
    generalize valT x = v at a b
    refine ⟨decide_eq_true (by unfold BB; omega), ?_⟩
    show (if v == 0 then 0 else v.natAbs.log2 + 1) ≤ 64
    split
    · omega
    · rename_i hv
      have hv : v ≠ 0 := by simpa using hv
      have : v.natAbs.log2 < 64 := (Nat.log2_lt (by omega)).mpr (by omega)
      omega
  · exact ⟨rfl, Nat.zero_le _⟩
theorem wa_le {xs : List D} {k : Nat} (h : ∀ x ∈ xs, x.weight ≤ k) : PyData.weightAll xs ≤ xs.length * (k + 1) := by
  induction xs with
  | nil => exact Nat.zero_le _
  | cons x xs ih =>
    have h1 := h x (by simp)
    have h2 := ih fun y hy => h y (by simp [hy])
    rw [PyData.weightAll, List.length_cons, Nat.add_mul]
    omega
theorem tup_fine (x : Str) : fnb BB 2 (tupT x) = true := by
  show List.all ((partsT x).map PyData.tuple) (fnb BB 1) = true
  rw [List.all_eq_true]
  intro d hd
  obtain ⟨ds, hds, rfl⟩ := List.mem_map.mp hd
  obtain ⟨w, _, rfl⟩ := List.mem_map.mp hds
  show List.all ((Txt.split w "/").map numD) (lfb BB) = true
  rw [List.all_eq_true]
  intro e he
  obtain ⟨v, _, rfl⟩ := List.mem_map.mp he
  exact (num_fine v).1
theorem tup_wt {x : Str} (hx : x.length ≤ 800) (h : isStair (tupT x) = true) : (tupT x).weight ≤ 160000 := by
  have h : (decide (0 < ((partsT x).map PyData.tuple).length) && ((partsT x).map PyData.tuple).all isPound) = true := h
  rw [Bool.and_eq_true] at h
  have h := List.all_eq_true.mp h.2
  have hl := sp_len x " "
  have : PyData.weightAll ((partsT x).map PyData.tuple) ≤ ((partsT x).map PyData.tuple).length * (195 + 1) := wa_le fun d hd => by
    have hp := h d hd
    obtain ⟨ds, hds, rfl⟩ := List.mem_map.mp hd
    obtain ⟨w, _, rfl⟩ := List.mem_map.mp hds
    show PyData.weightAll ((Txt.split w "/").map numD) ≤ 195
    have h3 : ((Txt.split w "/").map numD).length = 3 := by
      refine Classical.byContradiction fun z => ?_
      have := okP3 z
      unfold okP at this
      rw [this] at hp
      cases hp
    have := wa_le (xs := (Txt.split w "/").map numD) (k := 64) fun e he => by
      obtain ⟨v, _, rfl⟩ := List.mem_map.mp he
      exact (num_fine v).2
    rw [h3] at this
    exact this
  have hn : ((partsT x).map PyData.tuple).length ≤ 802 := by
    unfold partsT
    rw [List.length_map, List.length_map]
    omega
  show PyData.weightAll ((partsT x).map PyData.tuple) ≤ 160000
  have := Nat.mul_le_mul_right 196 hn
  omega
def dueV (x : Str) : D := if isStair (tupT x) = true then tupT x else .none
theorem due_fine {x : Str} (hx : x.length ≤ 800) : fnb BB 2 (dueV x) = true ∧ (dueV x).weight ≤ 160000 := by
  unfold dueV
  split
  · rename_i h
    exact ⟨tup_fine x, tup_wt hx h⟩
  · exact ⟨rfl, Nat.zero_le _⟩
def TX (d : D) : Bool := match d with
  | .str y => decide (y.length ≤ 340) && PyData.strOk y
  | _ => false
theorem TX.ex {d : D} (h : TX d = true) : ∃ y, d = .str y ∧ y.length ≤ 340 ∧ okT y := by
  cases d with
  | str y =>
    have h : (decide (y.length ≤ 340) && PyData.strOk y) = true := h
    rw [Bool.and_eq_true] at h
    exact ⟨y, rfl, of_decide_eq_true h.1, ok_okT h.2⟩
  | _ => cases h
theorem TX.of {y : Str} (h : y.length ≤ 340) (h2 : okT y) : TX (.str y) = true := by
  show (decide (y.length ≤ 340) && PyData.strOk y) = true
  rw [decide_eq_true h, okT_ok h2]
  rfl
def tailS : MS := (sq (forS (itR1 (cn (.int 12))) (tgN 6) (sq (asg (callE m_l_bent_text (argR (vr 0) (argV (vr 2) argN))) (tgN 7))
  (exS (mth hApp (vr 5) (argV (ife (tst (op2 gEq (callE (m_l_take 4) (argR (vr 0) (argV (cn (.int 3)) argN))) (cn (.int 0)))) (callE m_l_bent_text (argR (vr 0) (argV (vr 7) argN))) (vr 7)) argN)))))
  (retS (cal1 gAll (lcE (itS (vr 5)) [8] (tgN 8) (ret true) (callE (m_l_same 10) (argV (callE m_l_asked (argV (vr 8) argN)) (argV (callE m_l_due (argV (vr 8) argN)) argN)))))))
theorem tail_ok {bs : List D} {st : Option S} {tx : Str} {ts : List D} (hb : Box 20000 bs) (htl : tx.length ≤ 330) (hto : okT tx) (hts : ∀ t ∈ ts, TX t = true) (hl : ts.length = 19) : wps tailS [some (.own true bs), st, some (.pure (.str tx)), none, none, some (.own false ts), none, none, none] (Sm.outF 1 TrueQ) := by
  have hsl : sizeLine = 16777216 := rfl
  unfold tailS
  walk_at "lw e"
  refine Sm.loopInv (fun i ς => ∃ bs ts : List D, ∃ o6 o7, ς = [some (.own true bs), st, some (.pure (.str tx)), none, none, some (.own false ts), o6, o7, none] ∧ Box (1000 * (13 - i)) bs ∧ ts.length = 19 + i ∧ (∀ t ∈ ts, TX t = true) ∧ Fr o6 ∧ Fr o7) ⟨_, _, _, _, rfl, hb.less (by omega), hl, hts, trivial, trivial⟩ ?_ ?_
  · rintro i d ς hd ⟨bs, ts, o6, o7, rfl, hbs, hlt, hts, f6, f7⟩
    obtain ⟨hi, rfl⟩ := rng_at hd
    have hi : i < 12 := hi
    refine ⟨_, tgN_o rfl f6, ?_⟩
    walk_at "lw n"
    walk_at "lw e"
    refine Sm.fmono (bent_ok (c := 1000 * (13 - i) - 100) (n := 330) (by decide) htl hto (hbs.less (by omega))) fun r o h => ?_
    obtain ⟨y, b3, rfl, hy, hyo, h3, rfl⟩ := h
    refine ⟨nref, _, _, _, rfl, tgN_o rfl f7, ?_⟩
    walk_at "lw n"
    walk_at "lw e"
    (refine Sm.fmono (take4 (c := 1000 * (13 - i) - 120) (Box.less h3 (by omega)) (by omega) (by omega)) fun r o h => ?_; obtain ⟨v4, b4, rfl, l4, u4, h4, rfl⟩ := h; refine ⟨nref, ?_⟩; walk_at "lw n"; walk_at "lw e")
    walk_at "lw n"
    rw [eqv_int]
    by_cases hv : v4 = 0
    · refine iteDT hv ?_
      walk_at "lw e"
      refine Sm.fmono (bent_ok (c := 1000 * (13 - i) - 220) (n := 331) (by decide) hy hyo (h4.less (by omega))) fun r o h => ?_
      obtain ⟨z, b5, rfl, hz, hzo, h5, rfl⟩ := h
      refine ⟨nref, ?_⟩
      walk_at "lw n"
      walk_at "lw e"
      refine ⟨app_ok (by omega), ?_⟩
      refine ⟨b5, ts ++ [.str z], some (.pure (.int i)), some (.pure (.str y)), rfl, h5.less (by omega), by rw [List.length_append, hlt]; rfl, fun t ht => ?_, trivial, trivial⟩
      rcases List.mem_append.mp ht with ht | ht
      · exact hts t ht
      · rw [List.mem_singleton.mp ht]
        exact TX.of (by omega) hzo
    · refine iteDF hv ?_
      walk_at "lw e"
      refine ⟨app_ok (by omega), ?_⟩
      refine ⟨b4, ts ++ [.str y], some (.pure (.int i)), some (.pure (.str y)), rfl, h4.less (by omega), by rw [List.length_append, hlt]; rfl, fun t ht => ?_, trivial, trivial⟩
      rcases List.mem_append.mp ht with ht | ht
      · exact hts t ht
      · rw [List.mem_singleton.mp ht]
        exact TX.of (by omega) hyo
  · rintro ς ⟨bs, ts, o6, o7, rfl, hbs, hlt, hts, f6, f7⟩
    have hlt : ts.length = 31 := hlt
    walk_at "lw e"
    refine Sm.lcPure (fun _ => .bool true) (by omega) ?_ ?_
    · intro d hd
      obtain ⟨y, rfl, hy, hyo⟩ := TX.ex (hts d hd)
      obtain ⟨hf, hw⟩ := due_fine (x := y) (by omega)
      refine ⟨_, tgN_o rfl trivial, ?_⟩
      walk_at "lw n"
      walk_at "lw e"
      refine Sm.fmono (asked_ok (x := y) (by omega)) fun r o h => ?_
      obtain ⟨d, rfl, rfl⟩ := h
      refine ⟨nref, ?_⟩
      walk_at "lw v"
      walk_at "lw e"
      refine Sm.fmono (due_ok (x := y) (by omega)) fun r o h => ?_
      obtain ⟨d, rfl, rfl⟩ := h
      refine ⟨nref, ?_⟩
      walk_at "lw v"
      walk_at "lw e"
      refine Sm.fmono (same_ok (B := BB) (by decide +kernel) 2 10 (dueV y) hf (by decide) (by decide) hw) fun r o h => ?_
      obtain ⟨d, rfl, rfl⟩ := h
      refine ⟨nref, ?_⟩
      walk_at "lw v"
      exact ⟨_, rfl, rfl, rfl⟩
    · refine ⟨_, _, rfl, all_mk (p := fun _ => true), ?_⟩
      refine ⟨nref, _, rfl, ?_⟩
      rw [List.all_eq_true.mpr fun _ _ => rfl]
theorem right_ok {ds : List D} (hb : Box 1000000 ds) : wpf m_l_right [.own true ds] TrueQ := by
  have hsl : sizeLine = 16777216 := rfl
  refine Sm.run ?_
  unfold g_l_right
  walk_at "lw n"
  walk_at "lw e"
  refine Sm.fmono (great_ok (c := 900000) (hb.less (by omega))) fun r o h => ?_
  obtain ⟨d, b1, rfl, ⟨g, rfl, g1, g2⟩, h1, rfl⟩ := h
  refine ⟨nref, ?_⟩
  walk_at "lw n"
  walk_at "lw e"
  refine Sm.fmono (stair_ok (c := 800000) (cap := 6) (g := g) (by decide) (by decide) g2 (h1.less (by omega))) fun r o h => ?_
  obtain ⟨d, b2, rfl, ⟨xs, rfl, x1, x2, hpx⟩, h2, rfl⟩ := h
  obtain ⟨ps, rfl, hp⟩ := pounds_of hpx
  rw [List.length_map] at x1 x2
  have hnb : ∀ p ∈ ps, NB p := fun p m => nb_of g1 g2 (hp p m)
  refine ⟨nref, ?_⟩
  walk_at "lw n"
  walk_at "lw e"
  walk_at "lw n"
  have hs : StairG (.tuple (ps.map pd)) (ps.map pd) ps := ⟨rfl, List.length_map _, fun i x p h1 h2 => by
    rw [List.getElem?_map, h2] at h1
    cases h1
    exact Pnd.of p⟩
  have hsf := st_fine g2 x2 hp
  refine Sm.lcPure txtD (by rw [List.length_map]; omega) ?_ ?_
  · intro x hx
    obtain ⟨p, hpm, rfl⟩ := List.mem_map.mp hx
    have hk : items (pd p) = some [.int p.1, .int p.2.1, .int p.2.2] := rfl
    have hnb := hnb p hpm
    refine ⟨_, tgN_o rfl trivial, ?_⟩
    walk_at "lw n"
    walk_at "lw e"
    refine Sm.lcPure strD (by show 3 ≤ _; omega) ?_ ?_
    · intro d hd
      refine ⟨_, tgN_o rfl trivial, ?_⟩
      obtain ⟨⟨a, b⟩, ⟨c, e⟩, f, g⟩ := hnb
      simp only [List.mem_cons, List.not_mem_nil, or_false] at hd
      walk_at "lw n"
      rcases hd with rfl | rfl | rfl
      · walk_at "lw e"
        refine ⟨gstr a b, ?_⟩
        exact ⟨_, rfl, rfl, rfl⟩
      · walk_at "lw e"
        refine ⟨gstr c e, ?_⟩
        exact ⟨_, rfl, rfl, rfl⟩
      · walk_at "lw e"
        refine ⟨gstr f g, ?_⟩
        exact ⟨_, rfl, rfl, rfl⟩
    · refine ⟨_, _, rfl, join3 hnb, ?_⟩
      rw [txtD_e hk]
      exact ⟨_, rfl, rfl, rfl⟩
  rw [txts_map hs]
  refine ⟨_, _, rfl, joinS hnb x2, ?_⟩
  have htl := textS_len hnb x2
  have hto := textS_ok ps
  have htext := text_ok hs hnb x2
  have htext2 := text_ok (lists_st ps) hnb x2
  generalize textS ps = tx at htl hto htext htext2 ⊢
  walk_at "lw e"
  walk_at "lw n"
  walk_at "lw e"
  refine Sm.fmono htext fun r o h => ?_
  obtain ⟨d, rfl, rfl⟩ := h
  refine ⟨nref, ?_⟩
  walk_at "lw v"
  walk_at "lw e"
  refine Sm.fmono (lists_ok (B := 100000000000000000) 2 10 _ hsf.1 (by decide) (Nat.le_trans hsf.2 (by decide))) fun r o h => ?_
  have hr := h.ref
  obtain ⟨d, rfl, htd⟩ := h.to
  refine ⟨hr, _, _, htd _, ?_⟩
  walk_at "lw v"
  walk_at "lw n"
  walk_at "lw e"
  refine Sm.fmono htext2 fun r o h => ?_
  obtain ⟨d, rfl, rfl⟩ := h
  refine ⟨nref, ?_⟩
  walk_at "lw v"
  walk_at "lw e"
  have hso := okT_ok hto
  refine Sm.fmono (same_ok (B := BB) (by decide +kernel) 1 10 (.list [.str tx, .str tx]) (by show (PyData.strOk tx && (PyData.strOk tx && true)) = true; rw [hso]; rfl) (by decide) (by decide) (by show tx.cps.size + 1 + (tx.cps.size + 1 + 0) ≤ 160000; have : tx.cps.size ≤ 330 := htl; omega)) fun r o h => ?_
  obtain ⟨d, rfl, rfl⟩ := h
  refine ⟨nref, ?_⟩
  walk_at "lw v"
  walk_at "lw n"
  generalize hft : (sq (forS (itR1 (cn (.int 12))) (tgN 6) _) _) = ft
  walk_at "lw e"
  subst hft
  refine tail_ok (h2.less (by omega)) htl hto ?_ rfl
  rw [← List.all_eq_true]
  show (TX (.str tx) && List.all _ TX) = true
  rw [TX.of (by omega) hto, Bool.true_and]
  decide +kernel
end K49
namespace K49
open PySem PySem.Spec PyProof.Rows L2 Lw
theorem sem_law (ns : List Int) (hl : ns.length ≤ 63) (_hb : ∀ z ∈ ns, Builtin.Int.intBits z ≤ 1048576) : ∃ outs, m_p_law [.pure (.list (ns.map PyData.int))] = some (.pure (.bool true), outs) :=
  wpf_law (law_ok (right := m_l_right) (k := 3) (by decide) (by decide) (fun _ h => right_ok h) ns hl)
end K49
namespace K49
open PySem PySem.Spec PyProof.Rows L2 Lw
theorem sc_p_is_number : FnScope ["thing"] ["thing"] (defScope s_p_is_number) := ⟨rfl, rfl, rfl, by decide +kernel, rfl, by decide +kernel, by decide +kernel⟩
theorem sc_p_is_number_from : FnScope ["least", "thing"] ["least", "thing"] (defScope s_p_is_number_from) := ⟨rfl, rfl, rfl, by decide +kernel, rfl, by decide +kernel, by decide +kernel⟩
theorem sc_p_is_tuple_of : FnScope ["many", "thing"] ["many", "thing"] (defScope s_p_is_tuple_of) := ⟨rfl, rfl, rfl, by decide +kernel, rfl, by decide +kernel, by decide +kernel⟩
theorem sc_p_is_stair : FnScope ["thing", "pound"] ["thing"] (defScope s_p_is_stair) := ⟨rfl, rfl, rfl, by decide +kernel, rfl, by decide +kernel, by decide +kernel⟩
theorem sc_p_is_pound : FnScope ["thing", "least", "most", "size"] ["thing"] (defScope s_p_is_pound) := ⟨rfl, rfl, rfl, by decide +kernel, rfl, by decide +kernel, by decide +kernel⟩
theorem sc_p_stair_text : FnScope ["stair", "number", "pound"] ["stair"] (defScope s_p_stair_text) := ⟨rfl, rfl, rfl, by decide +kernel, rfl, by decide +kernel, by decide +kernel⟩
theorem sc_x_stair_in : FnScope ["text", "stair", "part", "word"] ["text"] (defScope s_x_stair_in) := ⟨rfl, rfl, rfl, by decide +kernel, rfl, by decide +kernel, by decide +kernel⟩
theorem sc_p_number_in : FnScope ["text", "sign"] ["text"] (defScope s_p_number_in) := ⟨rfl, rfl, rfl, by decide +kernel, rfl, by decide +kernel, by decide +kernel⟩
theorem sc_l_box : FnScope ["_law_script", "_law_k", "_law_cell"] ["_law_script", "_law_k"] (defScope s_l_box) := ⟨rfl, rfl, rfl, by decide +kernel, rfl, by decide +kernel, by decide +kernel⟩
theorem sc_l_take : FnScope ["_law_box_here", "_law_size", "_law_found", "_law_step", "_law_once", "_law_twice"] ["_law_box_here", "_law_size"] (defScope s_l_take) := ⟨rfl, rfl, rfl, by decide +kernel, rfl, by decide +kernel, by decide +kernel⟩
theorem sc_l_folded : FnScope ["_law_script", "_law_size", "_law_cells_here", "_law_k", "_law_cell"] ["_law_script", "_law_size"] (defScope s_l_folded) := ⟨rfl, rfl, rfl, by decide +kernel, rfl, by decide +kernel, by decide +kernel⟩
theorem sc_l_cells : FnScope ["_law_script", "_law_size", "_law_cells_here"] ["_law_script", "_law_size"] (defScope s_l_cells) := ⟨rfl, rfl, rfl, by decide +kernel, rfl, by decide +kernel, by decide +kernel⟩
theorem sc_l_of : FnScope ["_law_box_here", "_law_some"] ["_law_box_here", "_law_some"] (defScope s_l_of) := ⟨rfl, rfl, rfl, by decide +kernel, rfl, by decide +kernel, by decide +kernel⟩
theorem sc_l_same : FnScope ["_law_found", "_law_due_here", "_law_one", "_law_other"] ["_law_found", "_law_due_here"] (defScope s_l_same) := ⟨rfl, rfl, rfl, by decide +kernel, rfl, by decide +kernel, by decide +kernel⟩
theorem sc_l_lists : FnScope ["_law_thing", "_law_one"] ["_law_thing"] (defScope s_l_lists) := ⟨rfl, rfl, rfl, by decide +kernel, rfl, by decide +kernel, by decide +kernel⟩
theorem sc_l_great : FnScope ["_law_box_here"] ["_law_box_here"] (defScope s_l_great) := ⟨rfl, rfl, rfl, by decide +kernel, rfl, by decide +kernel, by decide +kernel⟩
theorem sc_l_stair : FnScope ["_law_box_here", "_law_cap", "_law_by", "_law_found", "_law_pound", "_law_least", "_law_wide", "_law_size"] ["_law_box_here", "_law_cap", "_law_by"] (defScope s_l_stair) := ⟨rfl, rfl, rfl, by decide +kernel, rfl, by decide +kernel, by decide +kernel⟩
theorem sc_l_number : FnScope ["_law_word", "_law_sign"] ["_law_word"] (defScope s_l_number) := ⟨rfl, rfl, rfl, by decide +kernel, rfl, by decide +kernel, by decide +kernel⟩
theorem sc_l_due : FnScope ["_law_text", "_law_pounds", "_law_word", "_law_parts", "_law_part"] ["_law_text"] (defScope s_l_due) := ⟨rfl, rfl, rfl, by decide +kernel, rfl, by decide +kernel, by decide +kernel⟩
theorem sc_l_asked : FnScope ["_law_text", "_law_found", "_law_caught", "error", "_law_alone"] ["_law_text"] (defScope s_l_asked) := ⟨rfl, rfl, rfl, by decide +kernel, rfl, by decide +kernel, by decide +kernel⟩
theorem sc_l_bent_text : FnScope ["_law_box_here", "_law_text", "_law_at", "_law_way"] ["_law_box_here", "_law_text"] (defScope s_l_bent_text) := ⟨rfl, rfl, rfl, by decide +kernel, rfl, by decide +kernel, by decide +kernel⟩
theorem sc_l_right : FnScope ["_law_box_here", "_law_stair_here", "_law_text", "_law_number_here", "_law_pound", "_law_texts", "_law_turn", "_law_bent", "_law_one"] ["_law_box_here"] (defScope s_l_right) := ⟨rfl, rfl, rfl, by decide +kernel, rfl, by decide +kernel, by decide +kernel⟩
theorem sc_p_law : FnScope ["_law_script", "_law_cells_here", "_law_k"] ["_law_script"] (defScope s_p_law) := ⟨rfl, rfl, rfl, by decide +kernel, rfl, by decide +kernel, by decide +kernel⟩
section
variable {P : Program} {w : World} {K : PySem.W.Frag} {mg : Str → Option Value} {base : Heap} {f : Addr}
theorem b_p_is_number (n_bool : mg "bool" = none) (n_int : mg "int" = none) (n_isinstance : mg "isinstance" = none) : ∀ (cdv : Value) (A : Around) (outer : List Env) (s : Shared) (H : Hp) (E : XK), A.guards = some [] → Room 0 (A.deeper (envOfC "is_number" (defScope s_p_is_number) s.heap.objs.size f cdv)) →
    PSsd (cxOf CX0 P w K mg base ["thing"] "is_number" (defScope s_p_is_number) f cdv A outer s H E).nox (defBody s_p_is_number) g_p_is_number := by
  intro cdv A outer s H E hgd hr
  unfold g_p_is_number
  exact (s_one (s_ret (d_and (d_isi1 .int (by rfl) n_isinstance (d_var 0 (pv 0)) (pe_bltn (by rfl) n_int (by decide +kernel) rfl)) (d_one (d_not (d_isi1 .bool (by rfl) n_isinstance (d_var 0 (pv 0)) (pe_bltn (by rfl) n_bool (by decide +kernel) rfl)))))))
theorem b_p_is_number_from (f_p_is_number : Fo P w K mg base "is_number" ["thing"] m_p_is_number 1) : ∀ (cdv : Value) (A : Around) (outer : List Env) (s : Shared) (H : Hp) (E : XK), A.guards = some [] → Room 1 (A.deeper (envOfC "is_number_from" (defScope s_p_is_number_from) s.heap.objs.size f cdv)) →
    PSsd (cxOf CX0 P w K mg base ["least", "thing"] "is_number_from" (defScope s_p_is_number_from) f cdv A outer s H E).nox (defBody s_p_is_number_from) g_p_is_number_from := by
  intro cdv A outer s H E hgd hr
  unfold g_p_is_number_from
  exact (s_one (s_ret (d_and (Fo.call f_p_is_number hgd hr (by decide) (by rfl) rfl (a_val (d_var 1 (pv 1)) a_nil) (argV_len (fun _ _ _ h => argN_len h))) (d_one (d_cmp op_ge (fun _ => o_ge) (d_var 1 (pv 1)) (d_var 0 (pv 0)) (nomark _))))))
theorem b_p_is_tuple_of (n_isinstance : mg "isinstance" = none) (n_len : mg "len" = none) (n_tuple : mg "tuple" = none) : ∀ (cdv : Value) (A : Around) (outer : List Env) (s : Shared) (H : Hp) (E : XK), A.guards = some [] → Room 0 (A.deeper (envOfC "is_tuple_of" (defScope s_p_is_tuple_of) s.heap.objs.size f cdv)) →
    PSsd (cxOf CX0 P w K mg base ["many", "thing"] "is_tuple_of" (defScope s_p_is_tuple_of) f cdv A outer s H E).nox (defBody s_p_is_tuple_of) g_p_is_tuple_of := by
  intro cdv A outer s H E hgd hr
  unfold g_p_is_tuple_of
  exact (s_one (s_ret (d_and (d_isi1 .tuple (by rfl) n_isinstance (d_var 1 (pv 1)) (pe_bltn (by rfl) n_tuple (by decide +kernel) rfl)) (d_one (d_cmp (op_eq.or (op_eqD hr.units)) (fun _ => Op2.or op2_eqS op2_eq) (d_len (by rfl) n_len (d_var 1 (pv 1))) (d_var 0 (pv 0)) (nomark _))))))
theorem b_p_is_stair (n_all : mg "all" = none) (n_isinstance : mg "isinstance" = none) (n_len : mg "len" = none) (n_tuple : mg "tuple" = none) (f_p_is_pound : Fo P w K mg base "is_pound" ["thing"] m_p_is_pound 3) : ∀ (cdv : Value) (A : Around) (outer : List Env) (s : Shared) (H : Hp) (E : XK), A.guards = some [] → Room 3 (A.deeper (envOfC "is_stair" (defScope s_p_is_stair) s.heap.objs.size f cdv)) →
    PSsd (cxOf CX0 P w K mg base ["thing", "pound"] "is_stair" (defScope s_p_is_stair) f cdv A outer s H E).nox (defBody s_p_is_stair) g_p_is_stair := by
  intro cdv A outer s H E hgd hr
  unfold g_p_is_stair
  exact (s_one (s_ret (d_and (d_isi1 .tuple (by rfl) n_isinstance (d_var 0 (pv 0)) (pe_bltn (by rfl) n_tuple (by decide +kernel) rfl)) (d_and (d_cmp op_gt (fun _ => o_gt) (d_len (by rfl) n_len (d_var 0 (pv 0))) d_int (nomark _)) (d_one (d_all rfl (by rfl) n_all (d_lc (own := [("pound", 1)]) rfl sc_p_is_stair.nd (i_seq (d_var 0 (pv 0))) (blkOk_by (N := ["thing", "pound"]) (sc := defScope s_p_is_stair) (own := [("pound", 1)]) (by decide +kernel)) (fun _ _ _ _ _ => (g_name (pg_name (i := 1) sc_p_is_stair.nd rfl (by first | exact Or.inl rfl | exact Or.inr rfl)))) (fun _ _ _ _ _ => ts_nil) (fun _ _ _ _ _ => (Fo.call f_p_is_pound hgd hr (by decide) (by rfl) rfl (a_val (d_var 1 (pv 1)) a_nil) (argV_len (fun _ _ _ h => argN_len h)))))))))))
theorem b_p_is_pound (f_p_is_number_from : Fo P w K mg base "is_number_from" ["least", "thing"] m_p_is_number_from 2) (f_p_is_tuple_of : Fo P w K mg base "is_tuple_of" ["many", "thing"] m_p_is_tuple_of 1) : ∀ (cdv : Value) (A : Around) (outer : List Env) (s : Shared) (H : Hp) (E : XK), A.guards = some [] → Room 2 (A.deeper (envOfC "is_pound" (defScope s_p_is_pound) s.heap.objs.size f cdv)) →
    PSsd (cxOf CX0 P w K mg base ["thing", "least", "most", "size"] "is_pound" (defScope s_p_is_pound) f cdv A outer s H E).nox (defBody s_p_is_pound) g_p_is_pound := by
  intro cdv A outer s H E hgd hr
  unfold g_p_is_pound
  exact (s_cons (s_if (d_notT (d_tru (Fo.call f_p_is_tuple_of hgd hr (by decide) (by rfl) rfl (a_val d_int (a_val (d_var 0 (pv 0)) a_nil)) (argV_len (argV_len (fun _ _ _ h => argN_len h)))))) (s_one (s_ret d_bl)) s_nil)
  (s_cons (s_asg (d_var 0 (pv 0)) (g_tup (PG.or (pg_tup rfl (PGsd.ex (gs_cons (g_name (pg_name (i := 1) sc_p_is_pound.nd rfl (by first | exact Or.inl rfl | exact Or.inr rfl))) (gs_cons (g_name (pg_name (i := 2) sc_p_is_pound.nd rfl (by first | exact Or.inl rfl | exact Or.inr rfl))) (gs_cons (g_name (pg_name (i := 3) sc_p_is_pound.nd rfl (by first | exact Or.inl rfl | exact Or.inr rfl))) gs_nil (pgs_cons (PGd.ex (g_name (pg_name (i := 3) sc_p_is_pound.nd rfl (by first | exact Or.inl rfl | exact Or.inr rfl)))) (PGsd.ex gs_nil))) (pgs_cons (PGd.ex (g_name (pg_name (i := 2) sc_p_is_pound.nd rfl (by first | exact Or.inl rfl | exact Or.inr rfl)))) (PGsd.ex (gs_cons (g_name (pg_name (i := 3) sc_p_is_pound.nd rfl (by first | exact Or.inl rfl | exact Or.inr rfl))) gs_nil (pgs_cons (PGd.ex (g_name (pg_name (i := 3) sc_p_is_pound.nd rfl (by first | exact Or.inl rfl | exact Or.inr rfl)))) (PGsd.ex gs_nil)))))) (pgs_cons (PGd.ex (g_name (pg_name (i := 1) sc_p_is_pound.nd rfl (by first | exact Or.inl rfl | exact Or.inr rfl)))) (PGsd.ex (gs_cons (g_name (pg_name (i := 2) sc_p_is_pound.nd rfl (by first | exact Or.inl rfl | exact Or.inr rfl))) (gs_cons (g_name (pg_name (i := 3) sc_p_is_pound.nd rfl (by first | exact Or.inl rfl | exact Or.inr rfl))) gs_nil (pgs_cons (PGd.ex (g_name (pg_name (i := 3) sc_p_is_pound.nd rfl (by first | exact Or.inl rfl | exact Or.inr rfl)))) (PGsd.ex gs_nil))) (pgs_cons (PGd.ex (g_name (pg_name (i := 2) sc_p_is_pound.nd rfl (by first | exact Or.inl rfl | exact Or.inr rfl)))) (PGsd.ex (gs_cons (g_name (pg_name (i := 3) sc_p_is_pound.nd rfl (by first | exact Or.inl rfl | exact Or.inr rfl))) gs_nil (pgs_cons (PGd.ex (g_name (pg_name (i := 3) sc_p_is_pound.nd rfl (by first | exact Or.inl rfl | exact Or.inr rfl)))) (PGsd.ex gs_nil))))))))))) (pg_lst rfl (PGsd.ex (gs_cons (g_name (pg_name (i := 1) sc_p_is_pound.nd rfl (by first | exact Or.inl rfl | exact Or.inr rfl))) (gs_cons (g_name (pg_name (i := 2) sc_p_is_pound.nd rfl (by first | exact Or.inl rfl | exact Or.inr rfl))) (gs_cons (g_name (pg_name (i := 3) sc_p_is_pound.nd rfl (by first | exact Or.inl rfl | exact Or.inr rfl))) gs_nil (pgs_cons (PGd.ex (g_name (pg_name (i := 3) sc_p_is_pound.nd rfl (by first | exact Or.inl rfl | exact Or.inr rfl)))) (PGsd.ex gs_nil))) (pgs_cons (PGd.ex (g_name (pg_name (i := 2) sc_p_is_pound.nd rfl (by first | exact Or.inl rfl | exact Or.inr rfl)))) (PGsd.ex (gs_cons (g_name (pg_name (i := 3) sc_p_is_pound.nd rfl (by first | exact Or.inl rfl | exact Or.inr rfl))) gs_nil (pgs_cons (PGd.ex (g_name (pg_name (i := 3) sc_p_is_pound.nd rfl (by first | exact Or.inl rfl | exact Or.inr rfl)))) (PGsd.ex gs_nil)))))) (pgs_cons (PGd.ex (g_name (pg_name (i := 1) sc_p_is_pound.nd rfl (by first | exact Or.inl rfl | exact Or.inr rfl)))) (PGsd.ex (gs_cons (g_name (pg_name (i := 2) sc_p_is_pound.nd rfl (by first | exact Or.inl rfl | exact Or.inr rfl))) (gs_cons (g_name (pg_name (i := 3) sc_p_is_pound.nd rfl (by first | exact Or.inl rfl | exact Or.inr rfl))) gs_nil (pgs_cons (PGd.ex (g_name (pg_name (i := 3) sc_p_is_pound.nd rfl (by first | exact Or.inl rfl | exact Or.inr rfl)))) (PGsd.ex gs_nil))) (pgs_cons (PGd.ex (g_name (pg_name (i := 2) sc_p_is_pound.nd rfl (by first | exact Or.inl rfl | exact Or.inr rfl)))) (PGsd.ex (gs_cons (g_name (pg_name (i := 3) sc_p_is_pound.nd rfl (by first | exact Or.inl rfl | exact Or.inr rfl))) gs_nil (pgs_cons (PGd.ex (g_name (pg_name (i := 3) sc_p_is_pound.nd rfl (by first | exact Or.inl rfl | exact Or.inr rfl)))) (PGsd.ex gs_nil))))))))))))))
  (s_one (s_ret (d_and (Fo.call f_p_is_number_from hgd hr (by decide) (by rfl) rfl (a_val d_int (a_val (d_var 1 (pv 1)) a_nil)) (argV_len (argV_len (fun _ _ _ h => argN_len h)))) (d_and (Fo.call f_p_is_number_from hgd hr (by decide) (by rfl) rfl (a_val (d_var 1 (pv 1)) (a_val (d_var 2 (pv 2)) a_nil)) (argV_len (argV_len (fun _ _ _ h => argN_len h)))) (d_one (Fo.call f_p_is_number_from hgd hr (by decide) (by rfl) rfl (a_val d_int (a_val (d_var 3 (pv 3)) a_nil)) (argV_len (argV_len (fun _ _ _ h => argN_len h)))))))))))
theorem b_p_stair_text (n_str : mg "str" = none) : ∀ (cdv : Value) (A : Around) (outer : List Env) (s : Shared) (H : Hp) (E : XK), A.guards = some [] → Room 0 (A.deeper (envOfC "stair_text" (defScope s_p_stair_text) s.heap.objs.size f cdv)) →
    PSsd (cxOf CX0 P w K mg base ["stair", "number", "pound"] "stair_text" (defScope s_p_stair_text) f cdv A outer s H E).nox (defBody s_p_stair_text) g_p_stair_text := by
  intro cdv A outer s H E hgd hr
  unfold g_p_stair_text
  exact (s_one (s_ret (d_join (d_lc (own := [("pound", 2)]) rfl sc_p_stair_text.nd (i_seq (d_var 0 (pv 0))) (blkOk_by (N := ["stair", "number", "pound"]) (sc := defScope s_p_stair_text) (own := [("pound", 2)]) (by decide +kernel)) (fun _ _ _ _ _ => (g_name (pg_name (i := 2) sc_p_stair_text.nd rfl (by first | exact Or.inl rfl | exact Or.inr rfl)))) (fun _ _ _ _ _ => ts_nil) (fun _ _ _ _ _ => (d_join (d_lc (own := [("number", 1)]) rfl sc_p_stair_text.nd (i_seq (d_var 2 (pv 2))) (blkOk_n (N := ["stair", "number", "pound"]) (own := [("number", 1)]) (by decide +kernel)) (fun _ _ _ _ _ => (g_name (pg_name (i := 1) sc_p_stair_text.nd rfl (by first | exact Or.inl rfl | exact Or.inr rfl)))) (fun _ _ _ _ _ => ts_nil) (fun _ _ _ _ _ => (d_strOf (by rfl) n_str (d_var 1 (pv 1)))))))))))
theorem b_x_stair_in (n_tuple : mg "tuple" = none) (f_p_is_stair : Fo P w K mg base "is_stair" ["thing"] m_p_is_stair 4) (f_p_number_in : Fo P w K mg base "number_in" ["text"] m_p_number_in 1) (e_BadText : XCls P w K mg base "BadText") : ∀ (cdv : Value) (A : Around) (outer : List Env) (s : Shared) (H : Hp) (E : XK), A.guards = some [] → Room 4 (A.deeper (envOfC "stair_in" (defScope s_x_stair_in) s.heap.objs.size f cdv)) →
    PSsx (cxOf (L2.CX P w) P w K mg base ["text", "stair", "part", "word"] "stair_in" (defScope s_x_stair_in) f cdv A outer s H E) (defBody s_x_stair_in) g_x_stair_in := by
  intro cdv A outer s H E hgd hr
  unfold g_x_stair_in
  exact (x_cons (x_of (s_asg (d_tuple (by rfl) n_tuple (d_lc (own := [("word", 3)]) rfl sc_x_stair_in.nd (i_seq (d_split (d_var 0 (pv 0)) d_str)) (blkOk_by (N := ["text", "stair", "part", "word"]) (sc := defScope s_x_stair_in) (own := [("word", 3)]) (by decide +kernel)) (fun _ _ _ _ _ => (g_name (pg_name (i := 3) sc_x_stair_in.nd rfl (by first | exact Or.inl rfl | exact Or.inr rfl)))) (fun _ _ _ _ _ => ts_nil) (fun _ _ _ _ _ => (d_tuple (by rfl) n_tuple (d_lc (own := [("part", 2)]) rfl sc_x_stair_in.nd (i_seq (d_split (d_var 3 (pv 3)) d_str)) (blkOk_n (N := ["text", "stair", "part", "word"]) (own := [("part", 2)]) (by decide +kernel)) (fun _ _ _ _ _ => (g_name (pg_name (i := 2) sc_x_stair_in.nd rfl (by first | exact Or.inl rfl | exact Or.inr rfl)))) (fun _ _ _ _ _ => ts_nil) (fun _ _ _ _ _ => (Fo.call f_p_number_in hgd hr (by decide) (by rfl) rfl (a_val (d_var 2 (pv 2)) a_nil) (argV_len (fun _ _ _ h => argN_len h))))))))) (g_name (pg_name (i := 1) sc_x_stair_in.nd rfl (by first | exact Or.inl rfl | exact Or.inr rfl)))))
  (x_cons (x_if (d_notT (d_tru (Fo.call f_p_is_stair hgd hr (by decide) (by rfl) rfl (a_val (d_var 1 (pv 1)) a_nil) (argV_len (fun _ _ _ h => argN_len h))))) (x_one (XCls.raise e_BadText rfl hr (by decide) (by rfl) (d_var 0 (pv 0)))) (x_ofs s_nil))
  (x_ofs (s_one (s_ret (d_var 1 (pv 1)))))))
theorem b_p_number_in (n_all : mg "all" = none) (n_int : mg "int" = none) (n_len : mg "len" = none) {t_FIGURES : Tok} (c_FIGURES : mg "FIGURES" = some (.str "0123456789" t_FIGURES)) {t_MOST_FIGURES : Tok} (c_MOST_FIGURES : mg "MOST_FIGURES" = some (.int 19 t_MOST_FIGURES)) : ∀ (cdv : Value) (A : Around) (outer : List Env) (s : Shared) (H : Hp) (E : XK), A.guards = some [] → Room 0 (A.deeper (envOfC "number_in" (defScope s_p_number_in) s.heap.objs.size f cdv)) →
    PSsd (cxOf CX0 P w K mg base ["text", "sign"] "number_in" (defScope s_p_number_in) f cdv A outer s H E).nox (defBody s_p_number_in) g_p_number_in := by
  intro cdv A outer s H E hgd hr
  unfold g_p_number_in
  exact (s_cons (s_if (PWd.pt (w_or (d_notT (d_tstN op_le (fun _ => o_le) op_le (fun _ => o_le) d_int (d_len (by rfl) n_len (d_var 0 (pv 0))) (d_gint (pe_glob (by rfl) c_MOST_FIGURES ⟨_, rfl⟩)))) (w_or1 (d_notT (d_tru (d_all rfl (by rfl) n_all (d_lc (own := [("sign", 1)]) rfl sc_p_number_in.nd (i_str (d_var 0 (pv 0))) (blkOk_by (N := ["text", "sign"]) (sc := defScope s_p_number_in) (own := [("sign", 1)]) (by decide +kernel)) (fun _ _ _ _ _ => (g_name (pg_name (i := 1) sc_p_number_in.nd rfl (by first | exact Or.inl rfl | exact Or.inr rfl)))) (fun _ _ _ _ _ => ts_nil) (fun _ _ _ _ _ => (d_cmp op_in_sign (fun _ => op2_inS) (d_var 1 (pv 1)) (d_gstr (pe_glob (by rfl) c_FIGURES ⟨_, rfl⟩)) (by rfl)))))))))) (s_one (s_ret d_non)) s_nil)
  (s_one (s_ret (d_ife (PWd.pt (w_and (d_tstC op_gt (fun _ => o_gt) (d_len (by rfl) n_len (d_var 0 (pv 0))) d_int (nomark _)) (w_and1 (d_tstC (op_eq.or (op_eqD hr.units)) (fun _ => Op2.or op2_eqS op2_eq) (d_ixS (d_var 0 (pv 0)) d_int) d_str (nomark _))))) d_non (d_intS (by rfl) n_int (d_var 0 (pv 0)))))))
theorem b_l_box (n_abs : mg "abs" = none) (n_int : mg "int" = none) (n_len : mg "len" = none) : ∀ (cdv : Value) (A : Around) (outer : List Env) (s : Shared) (H : Hp) (E : XK), A.guards = some [] → Room 0 (A.deeper (envOfC "_law_box" (defScope s_l_box) s.heap.objs.size f cdv)) →
    PSsd (cxOf CX0 P w K mg base ["_law_script", "_law_k", "_law_cell"] "_law_box" (defScope s_l_box) f cdv A outer s H E).nox (defBody s_l_box) g_l_box := by
  intro cdv A outer s H E hgd hr
  unfold g_l_box
  exact (s_cons (s_asg (d_ife (d_tstC op_lt (fun _ => o_lt) (d_var 1 (pv 1)) (d_len (by rfl) n_len (d_var 0 (pv 0))) (nomark _)) (d_ix (d_var 0 (pv 0)) (d_var 1 (pv 1))) d_int) (g_name (pg_name (i := 2) sc_l_box.nd rfl (by first | exact Or.inl rfl | exact Or.inr rfl))))
  (s_one (s_ret (d_lst (a_val (d_mulA (d_abs (by rfl) n_abs (d_var 2 (pv 2))) (d_toInt (by rfl) n_int (d_cmp op_ge (fun _ => o_ge) (d_abs (by rfl) n_abs (d_var 2 (pv 2))) (d_powA d_int d_int) (nomark _)))) (a_val (d_modA (d_mulA (d_addA (d_addA (d_modA (d_var 2 (pv 2)) d_int) (d_mulA d_int (d_var 1 (pv 1)))) d_int) d_int) d_int) (a_val d_int a_nil)))))))
theorem b_l_take (n_divmod : mg "divmod" = none) {n : Nat} {self : Fsem} (f_l_take : Fo P w K mg base "_law_take" ["_law_box_here", "_law_size"] self (0 + n)) : ∀ (cdv : Value) (A : Around) (outer : List Env) (s : Shared) (H : Hp) (E : XK), A.guards = some [] → Room (0 + n) (A.deeper (envOfC "_law_take" (defScope s_l_take) s.heap.objs.size f cdv)) →
    PSsd (cxOf CX0 P w K mg base ["_law_box_here", "_law_size", "_law_found", "_law_step", "_law_once", "_law_twice"] "_law_take" (defScope s_l_take) f cdv A outer s H E).nox (defBody s_l_take) (g_l_take self) := by
  intro cdv A outer s H E hgd hr
  unfold g_l_take
  exact (s_cons (s_if (d_tstC op_gt (fun _ => o_gt) (d_ix (d_var 0 (pv 0)) d_int) d_int (nomark _)) (s_cons (s_asg (d_divmod (by rfl) n_divmod (d_ix (d_var 0 (pv 0)) d_int) (d_var 1 (pv 1))) (g_tup (PG.or (pg_tup rfl (PGsd.ex (gs_cons (g_sub (pg_sub (PEd.ex (d_var 0 (pv 0))) (PEd.ex (d_sub d_int)) set_list)) (gs_cons (g_name (pg_name (i := 2) sc_l_take.nd rfl (by first | exact Or.inl rfl | exact Or.inr rfl))) gs_nil (pgs_cons (PGd.ex (g_name (pg_name (i := 2) sc_l_take.nd rfl (by first | exact Or.inl rfl | exact Or.inr rfl)))) (PGsd.ex gs_nil))) (pgs_cons (PGd.ex (g_sub (pg_sub (PEd.ex (d_var 0 (pv 0))) (PEd.ex (d_sub d_int)) set_list))) (PGsd.ex (gs_cons (g_name (pg_name (i := 2) sc_l_take.nd rfl (by first | exact Or.inl rfl | exact Or.inr rfl))) gs_nil (pgs_cons (PGd.ex (g_name (pg_name (i := 2) sc_l_take.nd rfl (by first | exact Or.inl rfl | exact Or.inr rfl)))) (PGsd.ex gs_nil)))))))) (pg_lst rfl (PGsd.ex (gs_cons (g_sub (pg_sub (PEd.ex (d_var 0 (pv 0))) (PEd.ex (d_sub d_int)) set_list)) (gs_cons (g_name (pg_name (i := 2) sc_l_take.nd rfl (by first | exact Or.inl rfl | exact Or.inr rfl))) gs_nil (pgs_cons (PGd.ex (g_name (pg_name (i := 2) sc_l_take.nd rfl (by first | exact Or.inl rfl | exact Or.inr rfl)))) (PGsd.ex gs_nil))) (pgs_cons (PGd.ex (g_sub (pg_sub (PEd.ex (d_var 0 (pv 0))) (PEd.ex (d_sub d_int)) set_list))) (PGsd.ex (gs_cons (g_name (pg_name (i := 2) sc_l_take.nd rfl (by first | exact Or.inl rfl | exact Or.inr rfl))) gs_nil (pgs_cons (PGd.ex (g_name (pg_name (i := 2) sc_l_take.nd rfl (by first | exact Or.inl rfl | exact Or.inr rfl)))) (PGsd.ex gs_nil)))))))))))
  (s_one (s_ret (d_var 2 (pv 2))))) s_nil)
  (s_cons (s_if (d_tstC op_gt (fun _ => o_gt) (d_var 1 (pv 1)) (d_powA d_int d_int) (nomark _)) (s_one (s_ret (d_modA (d_addA (Fo.call f_l_take hgd hr (by omega) (by rfl) rfl (a_ref (d_var 0 (pv 0)) (a_val (d_powA d_int d_int) a_nil)) (argR_len (argV_len (fun _ _ _ h => argN_len h)))) (d_mulA (d_powA d_int d_int) (Fo.call f_l_take hgd hr (by omega) (by rfl) rfl (a_ref (d_var 0 (pv 0)) (a_val (d_addA (d_divA (d_subA (d_var 1 (pv 1)) d_int) (d_powA d_int d_int)) d_int) a_nil)) (argR_len (argV_len (fun _ _ _ h => argN_len h)))))) (d_var 1 (pv 1))))) s_nil)
  (s_cons (s_asg (d_addA (d_ix (d_var 0 (pv 0)) d_int) d_int) (g_sub (pg_sub (PEd.ex (d_var 0 (pv 0))) (PEd.ex (d_sub d_int)) set_list)))
  (s_cons (s_asg (d_addA d_int (d_mulA (d_ix (d_var 0 (pv 0)) d_int) (d_ix (d_var 0 (pv 0)) d_int))) (g_name (pg_name (i := 3) sc_l_take.nd rfl (by first | exact Or.inl rfl | exact Or.inr rfl))))
  (s_cons (s_asg (d_modA (d_mulA (d_addA (d_ix (d_var 0 (pv 0)) d_int) (d_mulA d_int (d_ix (d_var 0 (pv 0)) d_int))) (d_var 3 (pv 3))) d_int) (g_name (pg_name (i := 4) sc_l_take.nd rfl (by first | exact Or.inl rfl | exact Or.inr rfl))))
  (s_cons (s_asg (d_modA (d_addA (d_mulA (d_var 4 (pv 4)) (d_addA (d_modA (d_var 4 (pv 4)) d_int) d_int)) (d_ix (d_var 0 (pv 0)) d_int)) d_int) (g_name (pg_name (i := 5) sc_l_take.nd rfl (by first | exact Or.inl rfl | exact Or.inr rfl))))
  (s_one (s_ret (d_modA (d_divA (d_modA (d_mulA (d_var 5 (pv 5)) (d_addA (d_modA (d_var 5 (pv 5)) d_int) d_int)) d_int) d_int) (d_var 1 (pv 1)))))))))))
theorem b_l_folded (n_enumerate : mg "enumerate" = none) (n_list : mg "list" = none) : ∀ (cdv : Value) (A : Around) (outer : List Env) (s : Shared) (H : Hp) (E : XK), A.guards = some [] → Room 0 (A.deeper (envOfC "_law_folded" (defScope s_l_folded) s.heap.objs.size f cdv)) →
    PSsd (cxOf CX0 P w K mg base ["_law_script", "_law_size", "_law_cells_here", "_law_k", "_law_cell"] "_law_folded" (defScope s_l_folded) f cdv A outer s H E).nox (defBody s_l_folded) g_l_folded := by
  intro cdv A outer s H E hgd hr
  unfold g_l_folded
  exact (s_cons (s_asgO (d_list (by rfl) n_list (d_sl (d_var 0 (pv 0)) o_none (o_some (d_var 1 (pv 1))))) (fun te h => ps_set (i := 2) sc_l_folded.nd rfl (by first | exact Or.inl rfl | exact Or.inr rfl) h))
  (s_cons (s_for PassesOwn.never rfl (i_enum (by rfl) n_enumerate (d_sl (d_var 0 (pv 0)) (o_some (d_var 1 (pv 1))) (o_some d_int))) (g_tup (PG.or (pg_tup rfl (PGsd.ex (gs_cons (g_name (pg_name (i := 3) sc_l_folded.nd rfl (by first | exact Or.inl rfl | exact Or.inr rfl))) (gs_cons (g_name (pg_name (i := 4) sc_l_folded.nd rfl (by first | exact Or.inl rfl | exact Or.inr rfl))) gs_nil (pgs_cons (PGd.ex (g_name (pg_name (i := 4) sc_l_folded.nd rfl (by first | exact Or.inl rfl | exact Or.inr rfl)))) (PGsd.ex gs_nil))) (pgs_cons (PGd.ex (g_name (pg_name (i := 3) sc_l_folded.nd rfl (by first | exact Or.inl rfl | exact Or.inr rfl)))) (PGsd.ex (gs_cons (g_name (pg_name (i := 4) sc_l_folded.nd rfl (by first | exact Or.inl rfl | exact Or.inr rfl))) gs_nil (pgs_cons (PGd.ex (g_name (pg_name (i := 4) sc_l_folded.nd rfl (by first | exact Or.inl rfl | exact Or.inr rfl)))) (PGsd.ex gs_nil)))))))) (pg_lst rfl (PGsd.ex (gs_cons (g_name (pg_name (i := 3) sc_l_folded.nd rfl (by first | exact Or.inl rfl | exact Or.inr rfl))) (gs_cons (g_name (pg_name (i := 4) sc_l_folded.nd rfl (by first | exact Or.inl rfl | exact Or.inr rfl))) gs_nil (pgs_cons (PGd.ex (g_name (pg_name (i := 4) sc_l_folded.nd rfl (by first | exact Or.inl rfl | exact Or.inr rfl)))) (PGsd.ex gs_nil))) (pgs_cons (PGd.ex (g_name (pg_name (i := 3) sc_l_folded.nd rfl (by first | exact Or.inl rfl | exact Or.inr rfl)))) (PGsd.ex (gs_cons (g_name (pg_name (i := 4) sc_l_folded.nd rfl (by first | exact Or.inl rfl | exact Or.inr rfl))) gs_nil (pgs_cons (PGd.ex (g_name (pg_name (i := 4) sc_l_folded.nd rfl (by first | exact Or.inl rfl | exact Or.inr rfl)))) (PGsd.ex gs_nil)))))))))) (s_one (s_asg (d_addA (d_ix (d_var 2 (pv 2)) (d_modA (d_var 3 (pv 3)) (d_var 1 (pv 1)))) (d_mulA (d_var 4 (pv 4)) (d_addA (d_var 3 (pv 3)) d_int))) (g_sub (pg_sub (PEd.ex (d_var 2 (pv 2))) (PEd.ex (d_sub (d_modA (d_var 3 (pv 3)) (d_var 1 (pv 1))))) set_list)))))
  (s_one (s_ret (d_var 2 (pv 2))))))
theorem b_l_cells (f_l_folded : Fo P w K mg base "_law_folded" ["_law_script", "_law_size"] m_l_folded 1) : ∀ (cdv : Value) (A : Around) (outer : List Env) (s : Shared) (H : Hp) (E : XK), A.guards = some [] → Room 1 (A.deeper (envOfC "_law_cells" (defScope s_l_cells) s.heap.objs.size f cdv)) →
    PSsd (cxOf CX0 P w K mg base ["_law_script", "_law_size", "_law_cells_here"] "_law_cells" (defScope s_l_cells) f cdv A outer s H E).nox (defBody s_l_cells) g_l_cells := by
  intro cdv A outer s H E hgd hr
  unfold g_l_cells
  exact (s_cons (s_asg (Fo.call f_l_folded hgd hr (by decide) (by rfl) rfl (a_val (d_var 0 (pv 0)) (a_val (d_var 1 (pv 1)) a_nil)) (argV_len (argV_len (fun _ _ _ h => argN_len h)))) (g_name (pg_name (i := 2) sc_l_cells.nd rfl (by first | exact Or.inl rfl | exact Or.inr rfl))))
  (s_one (s_ret (d_ife (d_tstC (op_ne.or (op_neD hr.units)) (fun _ => Op2.or op2_neS op2_ne) (d_var 2 (pv 2)) (d_lst a_nil) (nomark _)) (d_var 2 (pv 2)) (d_lst (a_val d_int a_nil))))))
theorem b_l_of (n_len : mg "len" = none) (f_l_take : Fo P w K mg base "_law_take" ["_law_box_here", "_law_size"] (m_l_take 4) 4) : ∀ (cdv : Value) (A : Around) (outer : List Env) (s : Shared) (H : Hp) (E : XK), A.guards = some [] → Room 4 (A.deeper (envOfC "_law_of" (defScope s_l_of) s.heap.objs.size f cdv)) →
    PSsd (cxOf CX0 P w K mg base ["_law_box_here", "_law_some"] "_law_of" (defScope s_l_of) f cdv A outer s H E).nox (defBody s_l_of) g_l_of := by
  intro cdv A outer s H E hgd hr
  unfold g_l_of
  exact (s_one (s_ret (d_ixS (d_var 1 (pv 1)) (Fo.call f_l_take hgd hr (by decide) (by rfl) rfl (a_ref (d_var 0 (pv 0)) (a_val (d_len (by rfl) n_len (d_var 1 (pv 1))) a_nil)) (argR_len (argV_len (fun _ _ _ h => argN_len h)))))))
theorem b_l_same (n_all : mg "all" = none) (n_bool : mg "bool" = none) (n_int : mg "int" = none) (n_isinstance : mg "isinstance" = none) (n_len : mg "len" = none) (n_list : mg "list" = none) (n_str : mg "str" = none) (n_tuple : mg "tuple" = none) (n_zip : mg "zip" = none) {n : Nat} {self : Fsem} (f_l_same : Fo P w K mg base "_law_same" ["_law_found", "_law_due_here"] self (0 + n)) : ∀ (cdv : Value) (A : Around) (outer : List Env) (s : Shared) (H : Hp) (E : XK), A.guards = some [] → Room (0 + n) (A.deeper (envOfC "_law_same" (defScope s_l_same) s.heap.objs.size f cdv)) →
    PSsd (cxOf CX0 P w K mg base ["_law_found", "_law_due_here", "_law_one", "_law_other"] "_law_same" (defScope s_l_same) f cdv A outer s H E).nox (defBody s_l_same) (g_l_same self) := by
  intro cdv A outer s H E hgd hr
  unfold g_l_same
  exact (s_cons (s_if (d_tru (d_isiN [.list, .tuple] (by rfl) n_isinstance (d_var 1 (pv 1)) (ty_cons .list (pe_bltn (by rfl) n_list (by decide +kernel) rfl) (ty_cons .tuple (pe_bltn (by rfl) n_tuple (by decide +kernel) rfl) ty_nil)))) (s_cons (s_if (PWd.pt (w_or (d_tstC (op_ne.or (op_neD hr.units)) (fun _ => Op2.or op2_neS op2_ne) (d_isi1 .list (by rfl) n_isinstance (d_var 0 (pv 0)) (pe_bltn (by rfl) n_list (by decide +kernel) rfl)) (d_isi1 .list (by rfl) n_isinstance (d_var 1 (pv 1)) (pe_bltn (by rfl) n_list (by decide +kernel) rfl)) (nomark _)) (w_or1 (d_tstC (op_ne.or (op_neD hr.units)) (fun _ => Op2.or op2_neS op2_ne) (d_isi1 .tuple (by rfl) n_isinstance (d_var 0 (pv 0)) (pe_bltn (by rfl) n_tuple (by decide +kernel) rfl)) (d_isi1 .tuple (by rfl) n_isinstance (d_var 1 (pv 1)) (pe_bltn (by rfl) n_tuple (by decide +kernel) rfl)) (nomark _))))) (s_one (s_ret d_bl)) s_nil)
  (s_one (s_ret (d_and (d_cmp (op_eq.or (op_eqD hr.units)) (fun _ => Op2.or op2_eqS op2_eq) (d_len (by rfl) n_len (d_var 0 (pv 0))) (d_len (by rfl) n_len (d_var 1 (pv 1))) (nomark _)) (d_one (d_all rfl (by rfl) n_all (d_lc (own := [("_law_one", 2), ("_law_other", 3)]) rfl sc_l_same.nd (i_zip (by rfl) n_zip (d_var 0 (pv 0)) (d_var 1 (pv 1))) (blkOk_by (N := ["_law_found", "_law_due_here", "_law_one", "_law_other"]) (sc := defScope s_l_same) (own := [("_law_one", 2), ("_law_other", 3)]) (by decide +kernel)) (fun _ _ _ _ _ => (g_tup (PG.or (pg_tup rfl (PGsd.ex (gs_cons (g_name (pg_name (i := 2) sc_l_same.nd rfl (by first | exact Or.inl rfl | exact Or.inr rfl))) (gs_cons (g_name (pg_name (i := 3) sc_l_same.nd rfl (by first | exact Or.inl rfl | exact Or.inr rfl))) gs_nil (pgs_cons (PGd.ex (g_name (pg_name (i := 3) sc_l_same.nd rfl (by first | exact Or.inl rfl | exact Or.inr rfl)))) (PGsd.ex gs_nil))) (pgs_cons (PGd.ex (g_name (pg_name (i := 2) sc_l_same.nd rfl (by first | exact Or.inl rfl | exact Or.inr rfl)))) (PGsd.ex (gs_cons (g_name (pg_name (i := 3) sc_l_same.nd rfl (by first | exact Or.inl rfl | exact Or.inr rfl))) gs_nil (pgs_cons (PGd.ex (g_name (pg_name (i := 3) sc_l_same.nd rfl (by first | exact Or.inl rfl | exact Or.inr rfl)))) (PGsd.ex gs_nil)))))))) (pg_lst rfl (PGsd.ex (gs_cons (g_name (pg_name (i := 2) sc_l_same.nd rfl (by first | exact Or.inl rfl | exact Or.inr rfl))) (gs_cons (g_name (pg_name (i := 3) sc_l_same.nd rfl (by first | exact Or.inl rfl | exact Or.inr rfl))) gs_nil (pgs_cons (PGd.ex (g_name (pg_name (i := 3) sc_l_same.nd rfl (by first | exact Or.inl rfl | exact Or.inr rfl)))) (PGsd.ex gs_nil))) (pgs_cons (PGd.ex (g_name (pg_name (i := 2) sc_l_same.nd rfl (by first | exact Or.inl rfl | exact Or.inr rfl)))) (PGsd.ex (gs_cons (g_name (pg_name (i := 3) sc_l_same.nd rfl (by first | exact Or.inl rfl | exact Or.inr rfl))) gs_nil (pgs_cons (PGd.ex (g_name (pg_name (i := 3) sc_l_same.nd rfl (by first | exact Or.inl rfl | exact Or.inr rfl)))) (PGsd.ex gs_nil))))))))))) (fun _ _ _ _ _ => ts_nil) (fun _ _ _ _ _ => (Fo.call f_l_same hgd hr (by omega) (by rfl) rfl (a_val (d_var 2 (pv 2)) (a_val (d_var 3 (pv 3)) a_nil)) (argV_len (argV_len (fun _ _ _ h => argN_len h)))))))))))) s_nil)
  (s_cons (s_if (PWd.pt (w_or (d_tstC op_isN (fun _ => op2_is) (d_var 1 (pv 1)) d_non (nomark _)) (w_or1 (d_tru (d_isi1 .str (by rfl) n_isinstance (d_var 1 (pv 1)) (pe_bltn (by rfl) n_str (by decide +kernel) rfl)))))) (s_one (s_ret (d_and (d_cmp (op_eq.or (op_eqD hr.units)) (fun _ => Op2.or op2_eqS op2_eq) (d_var 0 (pv 0)) (d_var 1 (pv 1)) (nomark _)) (d_one (d_cmp (op_eq.or (op_eqD hr.units)) (fun _ => Op2.or op2_eqS op2_eq) (d_isi1 .str (by rfl) n_isinstance (d_var 0 (pv 0)) (pe_bltn (by rfl) n_str (by decide +kernel) rfl)) (d_isi1 .str (by rfl) n_isinstance (d_var 1 (pv 1)) (pe_bltn (by rfl) n_str (by decide +kernel) rfl)) (nomark _)))))) s_nil)
  (s_one (s_ret (d_and (d_isi1 .int (by rfl) n_isinstance (d_var 0 (pv 0)) (pe_bltn (by rfl) n_int (by decide +kernel) rfl)) (d_and (d_cmp (op_eq.or (op_eqD hr.units)) (fun _ => Op2.or op2_eqS op2_eq) (d_isi1 .bool (by rfl) n_isinstance (d_var 0 (pv 0)) (pe_bltn (by rfl) n_bool (by decide +kernel) rfl)) (d_isi1 .bool (by rfl) n_isinstance (d_var 1 (pv 1)) (pe_bltn (by rfl) n_bool (by decide +kernel) rfl)) (nomark _)) (d_one (d_cmp (op_eq.or (op_eqD hr.units)) (fun _ => Op2.or op2_eqS op2_eq) (d_var 0 (pv 0)) (d_var 1 (pv 1)) (nomark _)))))))))
theorem b_l_lists (n_isinstance : mg "isinstance" = none) (n_list : mg "list" = none) (n_tuple : mg "tuple" = none) {n : Nat} {self : Fsem} (f_l_lists : Fo P w K mg base "_law_lists" ["_law_thing"] self (0 + n)) : ∀ (cdv : Value) (A : Around) (outer : List Env) (s : Shared) (H : Hp) (E : XK), A.guards = some [] → Room (0 + n) (A.deeper (envOfC "_law_lists" (defScope s_l_lists) s.heap.objs.size f cdv)) →
    PSsd (cxOf CX0 P w K mg base ["_law_thing", "_law_one"] "_law_lists" (defScope s_l_lists) f cdv A outer s H E).nox (defBody s_l_lists) (g_l_lists self) := by
  intro cdv A outer s H E hgd hr
  unfold g_l_lists
  exact (s_one (s_ret (d_ife (d_tru (d_isiN [.list, .tuple] (by rfl) n_isinstance (d_var 0 (pv 0)) (ty_cons .list (pe_bltn (by rfl) n_list (by decide +kernel) rfl) (ty_cons .tuple (pe_bltn (by rfl) n_tuple (by decide +kernel) rfl) ty_nil)))) (d_lc (own := [("_law_one", 1)]) rfl sc_l_lists.nd (i_seq (d_var 0 (pv 0))) (blkOk_by (N := ["_law_thing", "_law_one"]) (sc := defScope s_l_lists) (own := [("_law_one", 1)]) (by decide +kernel)) (fun _ _ _ _ _ => (g_name (pg_name (i := 1) sc_l_lists.nd rfl (by first | exact Or.inl rfl | exact Or.inr rfl)))) (fun _ _ _ _ _ => ts_nil) (fun _ _ _ _ _ => (Fo.call f_l_lists hgd hr (by omega) (by rfl) rfl (a_val (d_var 1 (pv 1)) a_nil) (argV_len (fun _ _ _ h => argN_len h))))) (d_var 0 (pv 0)))))
theorem b_l_great (f_l_take : Fo P w K mg base "_law_take" ["_law_box_here", "_law_size"] (m_l_take 4) 4) : ∀ (cdv : Value) (A : Around) (outer : List Env) (s : Shared) (H : Hp) (E : XK), A.guards = some [] → Room 4 (A.deeper (envOfC "_law_great" (defScope s_l_great) s.heap.objs.size f cdv)) →
    PSsd (cxOf CX0 P w K mg base ["_law_box_here"] "_law_great" (defScope s_l_great) f cdv A outer s H E).nox (defBody s_l_great) g_l_great := by
  intro cdv A outer s H E hgd hr
  unfold g_l_great
  exact (s_one (s_ret (d_ix (d_lst (a_val d_int (a_val d_int (a_val d_int (a_val (d_powA d_int d_int) (a_val (d_powA d_int d_int) a_nil)))))) (Fo.call f_l_take hgd hr (by decide) (by rfl) rfl (a_ref (d_var 0 (pv 0)) (a_val d_int a_nil)) (argR_len (argV_len (fun _ _ _ h => argN_len h)))))))
theorem b_l_stair (n_range : mg "range" = none) (n_tuple : mg "tuple" = none) (f_l_take : Fo P w K mg base "_law_take" ["_law_box_here", "_law_size"] (m_l_take 4) 4) : ∀ (cdv : Value) (A : Around) (outer : List Env) (s : Shared) (H : Hp) (E : XK), A.guards = some [] → Room 4 (A.deeper (envOfC "_law_stair" (defScope s_l_stair) s.heap.objs.size f cdv)) →
    PSsd (cxOf CX0 P w K mg base ["_law_box_here", "_law_cap", "_law_by", "_law_found", "_law_pound", "_law_least", "_law_wide", "_law_size"] "_law_stair" (defScope s_l_stair) f cdv A outer s H E).nox (defBody s_l_stair) g_l_stair := by
  intro cdv A outer s H E hgd hr
  unfold g_l_stair
  exact (s_cons (s_asgO (d_lst a_nil) (fun te h => ps_set (i := 3) sc_l_stair.nd rfl (by first | exact Or.inl rfl | exact Or.inr rfl) h))
  (s_cons (s_for PassesOwn.never rfl (i_rng1 (by rfl) n_range (d_addA d_int (Fo.call f_l_take hgd hr (by decide) (by rfl) rfl (a_ref (d_var 0 (pv 0)) (a_val (d_var 1 (pv 1)) a_nil)) (argR_len (argV_len (fun _ _ _ h => argN_len h)))))) (g_name (pg_name (i := 4) sc_l_stair.nd rfl (by first | exact Or.inl rfl | exact Or.inr rfl))) (s_cons (s_par3 (Fo.call f_l_take hgd hr (by decide) (by rfl) rfl (a_ref (d_var 0 (pv 0)) (a_val d_int a_nil)) (argR_len (argV_len (fun _ _ _ h => argN_len h)))) (Fo.call f_l_take hgd hr (by decide) (by rfl) rfl (a_ref (d_var 0 (pv 0)) (a_val (d_ix (d_lst (a_val d_int (a_val d_int (a_val d_int a_nil)))) (Fo.call f_l_take hgd hr (by decide) (by rfl) rfl (a_ref (d_var 0 (pv 0)) (a_val d_int a_nil)) (argR_len (argV_len (fun _ _ _ h => argN_len h))))) a_nil)) (argR_len (argV_len (fun _ _ _ h => argN_len h)))) (d_addA d_int (Fo.call f_l_take hgd hr (by decide) (by rfl) rfl (a_ref (d_var 0 (pv 0)) (a_val d_int a_nil)) (argR_len (argV_len (fun _ _ _ h => argN_len h))))) (fun t h => ps_par3 (i := 5) (j := 6) (l := 7) rfl sc_l_stair.nd rfl rfl rfl (by decide) (by decide) (by decide) rfl rfl rfl h (by rfl)))
  (s_one (s_expr (d_mth m_append (d_var 3 (pv 3)) (a_val (d_tup (a_val (d_mulA (d_var 5 (pv 5)) (d_var 2 (pv 2))) (a_val (d_mulA (d_addA (d_var 5 (pv 5)) (d_var 6 (pv 6))) (d_var 2 (pv 2))) (a_val (d_mulA (d_var 7 (pv 7)) (d_var 2 (pv 2))) a_nil)))) a_nil) (fun to t h1 h2 => pe_bm PySem.F.plainAttrs_list PySem.F.slot_list_append PySem.F.type_list_append mt_append h1 h2))))))
  (s_one (s_ret (d_tuple (by rfl) n_tuple (d_var 3 (pv 3)))))))
theorem b_l_number (n_all : mg "all" = none) (n_int : mg "int" = none) (n_len : mg "len" = none) : ∀ (cdv : Value) (A : Around) (outer : List Env) (s : Shared) (H : Hp) (E : XK), A.guards = some [] → Room 0 (A.deeper (envOfC "_law_number" (defScope s_l_number) s.heap.objs.size f cdv)) →
    PSsd (cxOf CX0 P w K mg base ["_law_word", "_law_sign"] "_law_number" (defScope s_l_number) f cdv A outer s H E).nox (defBody s_l_number) g_l_number := by
  intro cdv A outer s H E hgd hr
  unfold g_l_number
  exact (s_cons (s_if (PWd.pt (w_or (d_notT (d_tstN op_lt (fun _ => o_lt) op_lt (fun _ => o_lt) d_int (d_len (by rfl) n_len (d_var 0 (pv 0))) d_int)) (w_or1 (d_notT (d_tru (d_all rfl (by rfl) n_all (d_lc (own := [("_law_sign", 1)]) rfl sc_l_number.nd (i_str (d_var 0 (pv 0))) (blkOk_by (N := ["_law_word", "_law_sign"]) (sc := defScope s_l_number) (own := [("_law_sign", 1)]) (by decide +kernel)) (fun _ _ _ _ _ => (g_name (pg_name (i := 1) sc_l_number.nd rfl (by first | exact Or.inl rfl | exact Or.inr rfl)))) (fun _ _ _ _ _ => ts_nil) (fun _ _ _ _ _ => (d_cmp op_in_sign (fun _ => op2_inS) (d_var 1 (pv 1)) d_str (by rfl)))))))))) (s_one (s_ret d_non)) s_nil)
  (s_one (s_ret (d_ife (PWd.pt (w_or (d_tstC (op_eq.or (op_eqD hr.units)) (fun _ => Op2.or op2_eqS op2_eq) (d_var 0 (pv 0)) d_str (nomark _)) (w_or1 (d_tstC (op_ne.or (op_neD hr.units)) (fun _ => Op2.or op2_neS op2_ne) (d_ixS (d_var 0 (pv 0)) d_int) d_str (nomark _))))) (d_intS (by rfl) n_int (d_var 0 (pv 0))) d_non))))
theorem b_l_due (n_len : mg "len" = none) (n_tuple : mg "tuple" = none) (f_l_number : Fo P w K mg base "_law_number" ["_law_word"] m_l_number 1) : ∀ (cdv : Value) (A : Around) (outer : List Env) (s : Shared) (H : Hp) (E : XK), A.guards = some [] → Room 1 (A.deeper (envOfC "_law_due" (defScope s_l_due) s.heap.objs.size f cdv)) →
    PSsd (cxOf CX0 P w K mg base ["_law_text", "_law_pounds", "_law_word", "_law_parts", "_law_part"] "_law_due" (defScope s_l_due) f cdv A outer s H E).nox (defBody s_l_due) g_l_due := by
  intro cdv A outer s H E hgd hr
  unfold g_l_due
  exact (s_cons (s_asgO (d_lst a_nil) (fun te h => ps_set (i := 1) sc_l_due.nd rfl (by first | exact Or.inl rfl | exact Or.inr rfl) h))
  (s_cons (s_for PassesOwn.never rfl (i_seq (d_split (d_var 0 (pv 0)) d_str)) (g_name (pg_name (i := 2) sc_l_due.nd rfl (by first | exact Or.inl rfl | exact Or.inr rfl))) (s_cons (s_asgL (ps_setLc (i := 3) (own := [("_law_part", 4)]) rfl sc_l_due.nd rfl rfl (sw_true rfl rfl rfl (by decide +kernel)) (PId.ex (i_seq (d_split (d_var 2 (pv 2)) d_str))) (blkOk_by (N := ["_law_text", "_law_pounds", "_law_word", "_law_parts", "_law_part"]) (sc := defScope s_l_due) (own := [("_law_part", 4)]) (by decide +kernel)) (fun _ _ _ _ _ => PGd.ex (g_name (pg_name (i := 4) sc_l_due.nd rfl (by first | exact Or.inl rfl | exact Or.inr rfl)))) (fun _ _ _ _ _ => ts_nil) (fun _ _ _ _ _ => PDd.ex (d_esc (Fo.call f_l_number hgd hr (by decide) (by rfl) rfl (a_val (d_var 4 (pv 4)) a_nil) (argV_len (fun _ _ _ h => argN_len h)))))) (fun F => t_lc F))
  (s_cons (s_if (PWd.pt (w_or (d_tstC (op_ne.or (op_neD hr.units)) (fun _ => Op2.or op2_neS op2_ne) (d_len (by rfl) n_len (d_var 3 (pv 3))) d_int (nomark _)) (w_or1 (d_tstC (op_inD (units1 hr)) (fun _ => (op2_in false)) d_non (d_var 3 (pv 3)) (by rfl))))) (s_one (s_ret d_non)) s_nil)
  (s_cons (s_if (PWd.pt (w_or (d_tstC op_gt (fun _ => o_gt) (d_ix (d_var 3 (pv 3)) d_int) (d_ix (d_var 3 (pv 3)) d_int) (nomark _)) (w_or1 (d_tstC op_lt (fun _ => o_lt) (d_ix (d_var 3 (pv 3)) d_int) d_int (nomark _))))) (s_one (s_ret d_non)) s_nil)
  (s_one (s_expr (d_mth m_append (d_var 1 (pv 1)) (a_val (d_tuple (by rfl) n_tuple (d_var 3 (pv 3))) a_nil) (fun to t h1 h2 => pe_bm PySem.F.plainAttrs_list PySem.F.slot_list_append PySem.F.type_list_append mt_append h1 h2))))))))
  (s_one (s_ret (d_tuple (by rfl) n_tuple (d_var 1 (pv 1)))))))
theorem b_l_asked (n_ValueError : mg "ValueError" = none) (n_isinstance : mg "isinstance" = none) (f_x_stair_in : FoX P w K mg base "stair_in" ["text"] m_x_stair_in 5) (g_BadRow : mg "BadRow" = some (.ref (nmAt K "BadRow"))) (g_BadText : mg "BadText" = some (.ref (nmAt K "BadText"))) (g_NoTour : mg "NoTour" = some (.ref (nmAt K "NoTour"))) (x_l_asked_0 : hmB ["BadText"] [.own "BadRow", .own "BadText", .own "NoTour"] K = true) (x_l_asked_1 : tabB1 [("BadText", true)] (.own "BadText") K = true) (x_l_asked_2 : tabB1 [("BadText", true)] (.ty "ValueError") K = true) (x_l_asked_3 : tabBN [("BadText", false)] [.own "BadRow", .own "NoTour"] K = true) (x_l_asked_4 : xisB ["BadText"] K = true) : ∀ (cdv : Value) (A : Around) (outer : List Env) (s : Shared) (H : Hp) (E : XK), A.guards = some [] → Room 5 (A.deeper (envOfC "_law_asked" (defScope s_l_asked) s.heap.objs.size f cdv)) →
    PSsd (cxOf CX0 P w K mg base ["_law_text", "_law_found", "_law_caught", "error", "_law_alone"] "_law_asked" (defScope s_l_asked) f cdv A outer s H E).nox (defBody s_l_asked) g_l_asked := by
  intro cdv A outer s H E hgd hr
  unfold g_l_asked
  exact (s_cons (s_asg (d_tup (a_val d_non (a_val d_non a_nil))) (g_tup (PG.or (pg_tup rfl (PGsd.ex (gs_cons (g_name (pg_name (i := 1) sc_l_asked.nd rfl (by first | exact Or.inl rfl | exact Or.inr rfl))) (gs_cons (g_name (pg_name (i := 2) sc_l_asked.nd rfl (by first | exact Or.inl rfl | exact Or.inr rfl))) gs_nil (pgs_cons (PGd.ex (g_name (pg_name (i := 2) sc_l_asked.nd rfl (by first | exact Or.inl rfl | exact Or.inr rfl)))) (PGsd.ex gs_nil))) (pgs_cons (PGd.ex (g_name (pg_name (i := 1) sc_l_asked.nd rfl (by first | exact Or.inl rfl | exact Or.inr rfl)))) (PGsd.ex (gs_cons (g_name (pg_name (i := 2) sc_l_asked.nd rfl (by first | exact Or.inl rfl | exact Or.inr rfl))) gs_nil (pgs_cons (PGd.ex (g_name (pg_name (i := 2) sc_l_asked.nd rfl (by first | exact Or.inl rfl | exact Or.inr rfl)))) (PGsd.ex gs_nil)))))))) (pg_lst rfl (PGsd.ex (gs_cons (g_name (pg_name (i := 1) sc_l_asked.nd rfl (by first | exact Or.inl rfl | exact Or.inr rfl))) (gs_cons (g_name (pg_name (i := 2) sc_l_asked.nd rfl (by first | exact Or.inl rfl | exact Or.inr rfl))) gs_nil (pgs_cons (PGd.ex (g_name (pg_name (i := 2) sc_l_asked.nd rfl (by first | exact Or.inl rfl | exact Or.inr rfl)))) (PGsd.ex gs_nil))) (pgs_cons (PGd.ex (g_name (pg_name (i := 1) sc_l_asked.nd rfl (by first | exact Or.inl rfl | exact Or.inr rfl)))) (PGsd.ex (gs_cons (g_name (pg_name (i := 2) sc_l_asked.nd rfl (by first | exact Or.inl rfl | exact Or.inr rfl))) gs_nil (pgs_cons (PGd.ex (g_name (pg_name (i := 2) sc_l_asked.nd rfl (by first | exact Or.inl rfl | exact Or.inr rfl)))) (PGsd.ex gs_nil)))))))))))
  (s_cons (s_try (cs := (List.map (Cn.u K) ([.own "BadRow", .own "BadText", .own "NoTour"] : List Cn))) (nms := ["BadText"]) rfl rfl rfl sc_l_asked.nd (by rfl) (by rfl) (by rfl) (by rfl) (by decide) (fun _ _ _ => ClsT.tup (LdN.cons ⟨by rfl, by decide, Or.inl g_BadRow⟩ (LdN.cons ⟨by rfl, by decide, Or.inl g_BadText⟩ (LdN.cons ⟨by rfl, by decide, Or.inl g_NoTour⟩ LdN.nil (by rfl)) (by rfl)) (by rfl)) (cn_lenU K [.own "BadRow", .own "BadText", .own "NoTour"])) (by decide) (by decide) (by rfl) (hmB_ok x_l_asked_0) (fun _ _ _ => (x_one (x_asg (FoX.call f_x_stair_in hgd hr (by decide) (by rfl) rfl (a_val (d_var 0 (pv 0)) a_nil) (argV_len (fun _ _ _ h => argN_len h))) (g_name (pg_name (i := 1) sc_l_asked.nd rfl (by first | exact Or.inl rfl | exact Or.inr rfl)))))))
  (s_cons (s_if (d_isT (pv 2) pe_non (nomark _)) (s_one (s_ret (d_var 1 (pv 1)))) s_nil)
  (s_cons (s_asg (d_and (d_isiX1 (tab := [("BadText", true)]) (c := (Cn.v K (.own "BadText"))) (u := (Cn.u K (.own "BadText"))) (by rfl) n_isinstance (pv 2) (pe_glob (by rfl) g_BadText (relRef (nmAt K "BadText"))) (Cn.cls K (.own "BadText")) (tabB1_ok x_l_asked_1)) (d_and (d_isiX1 (tab := [("BadText", true)]) (c := (Cn.v K (.ty "ValueError"))) (u := (Cn.u K (.ty "ValueError"))) (by rfl) n_isinstance (pv 2) (pe_bltn (v := .ty "ValueError") (u := .type "ValueError") (by rfl) n_ValueError (by decide +kernel) rfl) (Cn.cls K (.ty "ValueError")) (tabB1_ok x_l_asked_2)) (d_one (d_not (d_isiXN (tab := [("BadText", false)]) (cs := (List.map (Cn.v K) ([.own "BadRow", .own "NoTour"] : List Cn))) (us := (List.map (Cn.u K) ([.own "BadRow", .own "NoTour"] : List Cn))) (by rfl) n_isinstance (pv 2) (pa_cons (pe_glob (by rfl) g_BadRow (relRef (nmAt K "BadRow"))) (pa_cons (pe_glob (by rfl) g_NoTour (relRef (nmAt K "NoTour"))) pa_nil)) (cn_lenV K [.own "BadRow", .own "NoTour"]) (Cn.clss K [.own "BadRow", .own "NoTour"]) (tabBN_ok x_l_asked_3)))))) (g_name (pg_name (i := 4) sc_l_asked.nd rfl (by first | exact Or.inl rfl | exact Or.inr rfl))))
  (s_one (s_ret (d_ife (PWd.pt (w_and (d_tru (d_var 4 (pv 4))) (w_and1 (d_tstC (op_eq.or (op_eqD hr.units)) (fun _ => Op2.or op2_eqS op2_eq) (d_whX (pv 2) (xisB_ok x_l_asked_4)) (d_var 0 (pv 0)) (nomark _))))) d_non d_str)))))))
theorem b_l_bent_text (n_len : mg "len" = none) (f_l_take : Fo P w K mg base "_law_take" ["_law_box_here", "_law_size"] (m_l_take 4) 4) (f_l_of : Fo P w K mg base "_law_of" ["_law_box_here", "_law_some"] m_l_of 5) : ∀ (cdv : Value) (A : Around) (outer : List Env) (s : Shared) (H : Hp) (E : XK), A.guards = some [] → Room 5 (A.deeper (envOfC "_law_bent_text" (defScope s_l_bent_text) s.heap.objs.size f cdv)) →
    PSsd (cxOf CX0 P w K mg base ["_law_box_here", "_law_text", "_law_at", "_law_way"] "_law_bent_text" (defScope s_l_bent_text) f cdv A outer s H E).nox (defBody s_l_bent_text) g_l_bent_text := by
  intro cdv A outer s H E hgd hr
  unfold g_l_bent_text
  exact (s_cons (s_par2 (Fo.call f_l_take hgd hr (by decide) (by rfl) rfl (a_ref (d_var 0 (pv 0)) (a_val (d_addA (d_len (by rfl) n_len (d_var 1 (pv 1))) d_int) a_nil)) (argR_len (argV_len (fun _ _ _ h => argN_len h)))) (Fo.call f_l_take hgd hr (by decide) (by rfl) rfl (a_ref (d_var 0 (pv 0)) (a_val d_int a_nil)) (argR_len (argV_len (fun _ _ _ h => argN_len h)))) (fun t h => ps_par (i := 2) (j := 3) rfl sc_l_bent_text.nd rfl rfl (by decide) rfl rfl h (by rfl)))
  (s_cons (s_if (d_tstC (op_eq.or (op_eqD hr.units)) (fun _ => Op2.or op2_eqS op2_eq) (d_var 3 (pv 3)) d_int (nomark _)) (s_one (s_ret (d_addA (d_slS (d_var 1 (pv 1)) o_none (o_some (d_var 2 (pv 2)))) (d_slS (d_var 1 (pv 1)) (o_some (d_addA (d_var 2 (pv 2)) d_int)) o_none)))) s_nil)
  (s_cons (s_if (d_tstC (op_eq.or (op_eqD hr.units)) (fun _ => Op2.or op2_eqS op2_eq) (d_var 3 (pv 3)) d_int (nomark _)) (s_one (s_ret (d_addA (d_addA (d_slS (d_var 1 (pv 1)) o_none (o_some (d_var 2 (pv 2)))) (d_slS (d_var 1 (pv 1)) (o_some (d_var 2 (pv 2))) (o_some (d_addA (d_var 2 (pv 2)) d_int)))) (d_slS (d_var 1 (pv 1)) (o_some (d_var 2 (pv 2))) o_none)))) s_nil)
  (s_cons (s_if (d_tstC (op_eq.or (op_eqD hr.units)) (fun _ => Op2.or op2_eqS op2_eq) (d_var 3 (pv 3)) d_int (nomark _)) (s_one (s_ret (d_addA (d_addA (d_slS (d_var 1 (pv 1)) o_none (o_some (d_var 2 (pv 2)))) (Fo.call f_l_of hgd hr (by decide) (by rfl) rfl (a_ref (d_var 0 (pv 0)) (a_val d_str a_nil)) (argR_len (argV_len (fun _ _ _ h => argN_len h))))) (d_slS (d_var 1 (pv 1)) (o_some (d_addA (d_var 2 (pv 2)) (Fo.call f_l_take hgd hr (by decide) (by rfl) rfl (a_ref (d_var 0 (pv 0)) (a_val d_int a_nil)) (argR_len (argV_len (fun _ _ _ h => argN_len h)))))) o_none)))) s_nil)
  (s_one (s_ret (d_addA (d_addA (d_slS (d_var 1 (pv 1)) o_none (o_some (d_var 2 (pv 2)))) (d_revS (d_slS (d_var 1 (pv 1)) (o_some (d_var 2 (pv 2))) (o_some (d_addA (d_var 2 (pv 2)) d_int))))) (d_slS (d_var 1 (pv 1)) (o_some (d_addA (d_var 2 (pv 2)) d_int)) o_none))))))))
theorem b_l_right (n_all : mg "all" = none) (n_range : mg "range" = none) (n_str : mg "str" = none) (f_p_stair_text : Fo P w K mg base "stair_text" ["stair"] m_p_stair_text 1) (f_l_take : Fo P w K mg base "_law_take" ["_law_box_here", "_law_size"] (m_l_take 4) 4) (f_l_same : Fo P w K mg base "_law_same" ["_law_found", "_law_due_here"] (m_l_same 10) 10) (f_l_lists : Fo P w K mg base "_law_lists" ["_law_thing"] (m_l_lists 10) 10) (f_l_great : Fo P w K mg base "_law_great" ["_law_box_here"] m_l_great 5) (f_l_stair : Fo P w K mg base "_law_stair" ["_law_box_here", "_law_cap", "_law_by"] m_l_stair 5) (f_l_due : Fo P w K mg base "_law_due" ["_law_text"] m_l_due 2) (f_l_asked : Fo P w K mg base "_law_asked" ["_law_text"] m_l_asked 6) (f_l_bent_text : Fo P w K mg base "_law_bent_text" ["_law_box_here", "_law_text"] m_l_bent_text 6) : ∀ (cdv : Value) (A : Around) (outer : List Env) (s : Shared) (H : Hp) (E : XK), A.guards = some [] → Room 10 (A.deeper (envOfC "_law_right" (defScope s_l_right) s.heap.objs.size f cdv)) →
    PSsd (cxOf CX0 P w K mg base ["_law_box_here", "_law_stair_here", "_law_text", "_law_number_here", "_law_pound", "_law_texts", "_law_turn", "_law_bent", "_law_one"] "_law_right" (defScope s_l_right) f cdv A outer s H E).nox (defBody s_l_right) g_l_right := by
  intro cdv A outer s H E hgd hr
  unfold g_l_right
  exact (s_cons (s_asg (Fo.call f_l_stair hgd hr (by decide) (by rfl) rfl (a_ref (d_var 0 (pv 0)) (a_val d_int (a_val (Fo.call f_l_great hgd hr (by decide) (by rfl) rfl (a_ref (d_var 0 (pv 0)) a_nil) (argR_len (fun _ _ _ h => argN_len h))) a_nil))) (argR_len (argV_len (argV_len (fun _ _ _ h => argN_len h))))) (g_name (pg_name (i := 1) sc_l_right.nd rfl (by first | exact Or.inl rfl | exact Or.inr rfl))))
  (s_cons (s_asg (d_join (d_lc (own := [("_law_pound", 4)]) rfl sc_l_right.nd (i_seq (d_var 1 (pv 1))) (blkOk_by (N := ["_law_box_here", "_law_stair_here", "_law_text", "_law_number_here", "_law_pound", "_law_texts", "_law_turn", "_law_bent", "_law_one"]) (sc := defScope s_l_right) (own := [("_law_pound", 4)]) (by decide +kernel)) (fun _ _ _ _ _ => (g_name (pg_name (i := 4) sc_l_right.nd rfl (by first | exact Or.inl rfl | exact Or.inr rfl)))) (fun _ _ _ _ _ => ts_nil) (fun _ _ _ _ _ => (d_join (d_lc (own := [("_law_number_here", 3)]) rfl sc_l_right.nd (i_seq (d_var 4 (pv 4))) (blkOk_n (N := ["_law_box_here", "_law_stair_here", "_law_text", "_law_number_here", "_law_pound", "_law_texts", "_law_turn", "_law_bent", "_law_one"]) (own := [("_law_number_here", 3)]) (by decide +kernel)) (fun _ _ _ _ _ => (g_name (pg_name (i := 3) sc_l_right.nd rfl (by first | exact Or.inl rfl | exact Or.inr rfl)))) (fun _ _ _ _ _ => ts_nil) (fun _ _ _ _ _ => (d_strOf (by rfl) n_str (d_var 3 (pv 3))))))))) (g_name (pg_name (i := 2) sc_l_right.nd rfl (by first | exact Or.inl rfl | exact Or.inr rfl))))
  (s_cons (s_if (d_notT (d_tru (Fo.call f_l_same hgd hr (by decide) (by rfl) rfl (a_val (d_lst (a_val (Fo.call f_p_stair_text hgd hr (by decide) (by rfl) rfl (a_val (d_var 1 (pv 1)) a_nil) (argV_len (fun _ _ _ h => argN_len h))) (a_val (Fo.call f_p_stair_text hgd hr (by decide) (by rfl) rfl (a_val (Fo.call f_l_lists hgd hr (by decide) (by rfl) rfl (a_val (d_var 1 (pv 1)) a_nil) (argV_len (fun _ _ _ h => argN_len h))) a_nil) (argV_len (fun _ _ _ h => argN_len h))) a_nil))) (a_val (d_lst (a_val (d_var 2 (pv 2)) (a_val (d_var 2 (pv 2)) a_nil))) a_nil)) (argV_len (argV_len (fun _ _ _ h => argN_len h)))))) (s_one (s_ret d_bl)) s_nil)
  (s_cons (s_asgO (d_lst (a_val (d_var 2 (pv 2)) (a_val d_str (a_val d_str (a_val d_str (a_val d_str (a_val d_str (a_val d_str (a_val d_str (a_val d_str (a_val d_str (a_val d_str (a_val d_str (a_val d_str a_nil)))))))))))))) (fun te h => ps_set (i := 5) sc_l_right.nd rfl (by first | exact Or.inl rfl | exact Or.inr rfl) h))
  (s_cons (s_asgO (d_addA (d_var 5 (pv 5)) (d_lst (a_val (d_addA (d_addA d_str (d_mulT d_str d_int)) d_str) (a_val (d_addA (d_addA d_str (d_mulT d_str d_int)) d_str) (a_val d_str (a_val d_str (a_val d_str (a_val d_str a_nil)))))))) (fun te h => ps_set (i := 5) sc_l_right.nd rfl (by first | exact Or.inl rfl | exact Or.inr rfl) h))
  (s_cons (s_for PassesOwn.never rfl (i_rng1 (by rfl) n_range d_int) (g_name (pg_name (i := 6) sc_l_right.nd rfl (by first | exact Or.inl rfl | exact Or.inr rfl))) (s_cons (s_asg (Fo.call f_l_bent_text hgd hr (by decide) (by rfl) rfl (a_ref (d_var 0 (pv 0)) (a_val (d_var 2 (pv 2)) a_nil)) (argR_len (argV_len (fun _ _ _ h => argN_len h)))) (g_name (pg_name (i := 7) sc_l_right.nd rfl (by first | exact Or.inl rfl | exact Or.inr rfl))))
  (s_one (s_expr (d_mth m_append (d_var 5 (pv 5)) (a_val (d_ife (d_tstC (op_eq.or (op_eqD hr.units)) (fun _ => Op2.or op2_eqS op2_eq) (Fo.call f_l_take hgd hr (by decide) (by rfl) rfl (a_ref (d_var 0 (pv 0)) (a_val d_int a_nil)) (argR_len (argV_len (fun _ _ _ h => argN_len h)))) d_int (nomark _)) (Fo.call f_l_bent_text hgd hr (by decide) (by rfl) rfl (a_ref (d_var 0 (pv 0)) (a_val (d_var 7 (pv 7)) a_nil)) (argR_len (argV_len (fun _ _ _ h => argN_len h)))) (d_var 7 (pv 7))) a_nil) (fun to t h1 h2 => pe_bm PySem.F.plainAttrs_list PySem.F.slot_list_append PySem.F.type_list_append mt_append h1 h2))))))
  (s_one (s_ret (d_all rfl (by rfl) n_all (d_lc (own := [("_law_one", 8)]) rfl sc_l_right.nd (i_seq (d_var 5 (pv 5))) (blkOk_by (N := ["_law_box_here", "_law_stair_here", "_law_text", "_law_number_here", "_law_pound", "_law_texts", "_law_turn", "_law_bent", "_law_one"]) (sc := defScope s_l_right) (own := [("_law_one", 8)]) (by decide +kernel)) (fun _ _ _ _ _ => (g_name (pg_name (i := 8) sc_l_right.nd rfl (by first | exact Or.inl rfl | exact Or.inr rfl)))) (fun _ _ _ _ _ => ts_nil) (fun _ _ _ _ _ => (Fo.call f_l_same hgd hr (by decide) (by rfl) rfl (a_val (Fo.call f_l_asked hgd hr (by decide) (by rfl) rfl (a_val (d_var 8 (pv 8)) a_nil) (argV_len (fun _ _ _ h => argN_len h))) (a_val (Fo.call f_l_due hgd hr (by decide) (by rfl) rfl (a_val (d_var 8 (pv 8)) a_nil) (argV_len (fun _ _ _ h => argN_len h))) a_nil)) (argV_len (argV_len (fun _ _ _ h => argN_len h)))))))))))))))
theorem b_p_law (n_all : mg "all" = none) (n_len : mg "len" = none) (n_range : mg "range" = none) (f_l_box : Fo P w K mg base "_law_box" ["_law_script", "_law_k"] m_l_box 1) (f_l_cells : Fo P w K mg base "_law_cells" ["_law_script", "_law_size"] m_l_cells 2) (f_l_right : Fo P w K mg base "_law_right" ["_law_box_here"] m_l_right 11) : ∀ (cdv : Value) (A : Around) (outer : List Env) (s : Shared) (H : Hp) (E : XK), A.guards = some [] → Room 11 (A.deeper (envOfC "law" (defScope s_p_law) s.heap.objs.size f cdv)) →
    PSsd (cxOf CX0 P w K mg base ["_law_script", "_law_cells_here", "_law_k"] "law" (defScope s_p_law) f cdv A outer s H E).nox (defBody s_p_law) g_p_law := by
  intro cdv A outer s H E hgd hr
  unfold g_p_law
  exact (s_cons (s_asg (Fo.call f_l_cells hgd hr (by decide) (by rfl) rfl (a_val (d_var 0 (pv 0)) (a_val d_int a_nil)) (argV_len (argV_len (fun _ _ _ h => argN_len h)))) (g_name (pg_name (i := 1) sc_p_law.nd rfl (by first | exact Or.inl rfl | exact Or.inr rfl))))
  (s_one (s_ret (d_all rfl (by rfl) n_all (d_lc (own := [("_law_k", 2)]) rfl sc_p_law.nd (i_rng1 (by rfl) n_range (d_len (by rfl) n_len (d_var 1 (pv 1)))) (blkOk_by (N := ["_law_script", "_law_cells_here", "_law_k"]) (sc := defScope s_p_law) (own := [("_law_k", 2)]) (by decide +kernel)) (fun _ _ _ _ _ => (g_name (pg_name (i := 2) sc_p_law.nd rfl (by first | exact Or.inl rfl | exact Or.inr rfl)))) (fun _ _ _ _ _ => ts_nil) (fun _ _ _ _ _ => (Fo.call1 f_l_right hgd hr (by decide) (by rfl) rfl (Fo.call f_l_box hgd hr (by decide) (by rfl) rfl (a_val (d_var 1 (pv 1)) (a_val (d_var 2 (pv 2)) a_nil)) (argV_len (argV_len (fun _ _ _ h => argN_len h)))))))))))
end
end K49
namespace K49
open PySem PySem.Spec PyProof.Rows L2 Lw
open K49h
set_option maxHeartbeats 0 in
theorem facts {P : Program} {w : World} {K : PySem.W.Frag} {h : Heap} {mg : Str → Option Value} {f : Addr} (X : K.In h) (G : h.Ns mainGlobals mg) (hfa : mg ("law" : Str) = some (.ref f)) (c0 : Lw.SaysL fa fn xs tf h K) :
    ∃ fd : FuncData, (∀ (s : Shared) (v : Value), BindsTo s fd ⟨[v], []⟩ [("_law_script", v)]) ∧ ∀ base : Heap, K.In base → base.Ns mainGlobals mg → (∀ q ∈ csOf K, LamX.TabB base mg q.1 q.2) → FnG P w K mg base CX0 12 f fd ["_law_script"] (spF K 1 m_p_law) := by
  have c := c0.x.base
  obtain ⟨fd_p_is_number, F_p_is_number⟩ := c.def_ 0 (d := dd_p_is_number) rfl
  obtain ⟨fd_p_is_number_from, F_p_is_number_from⟩ := c.def_ 1 (d := dd_p_is_number_from) rfl
  obtain ⟨fd_p_is_tuple_of, F_p_is_tuple_of⟩ := c.def_ 2 (d := dd_p_is_tuple_of) rfl
  obtain ⟨fd_p_is_stair, F_p_is_stair⟩ := c.def_ 3 (d := dd_p_is_stair) rfl
  obtain ⟨fd_p_is_pound, F_p_is_pound⟩ := c.def_ 4 (d := dd_p_is_pound) rfl
  obtain ⟨fd_p_stair_text, F_p_stair_text⟩ := c.def_ 5 (d := dd_p_stair_text) rfl
  obtain ⟨fd_x_stair_in, F_x_stair_in⟩ := c.def_ 6 (d := dd_x_stair_in) rfl
  obtain ⟨fd_p_number_in, F_p_number_in⟩ := c.def_ 7 (d := dd_p_number_in) rfl
  obtain ⟨fd_l_box, F_l_box⟩ := c.def_ 8 (d := dd_l_box) rfl
  obtain ⟨fd_l_take, F_l_take⟩ := c.def_ 9 (d := dd_l_take) rfl
  obtain ⟨fd_l_folded, F_l_folded⟩ := c.def_ 10 (d := dd_l_folded) rfl
  obtain ⟨fd_l_cells, F_l_cells⟩ := c.def_ 11 (d := dd_l_cells) rfl
  obtain ⟨fd_l_of, F_l_of⟩ := c.def_ 12 (d := dd_l_of) rfl
  obtain ⟨fd_l_same, F_l_same⟩ := c.def_ 13 (d := dd_l_same) rfl
  obtain ⟨fd_l_lists, F_l_lists⟩ := c.def_ 14 (d := dd_l_lists) rfl
  obtain ⟨fd_l_great, F_l_great⟩ := c.def_ 15 (d := dd_l_great) rfl
  obtain ⟨fd_l_stair, F_l_stair⟩ := c.def_ 16 (d := dd_l_stair) rfl
  obtain ⟨fd_l_number, F_l_number⟩ := c.def_ 17 (d := dd_l_number) rfl
  obtain ⟨fd_l_due, F_l_due⟩ := c.def_ 18 (d := dd_l_due) rfl
  obtain ⟨fd_l_asked, F_l_asked⟩ := c.def_ 19 (d := dd_l_asked) rfl
  obtain ⟨fd_l_bent_text, F_l_bent_text⟩ := c.def_ 20 (d := dd_l_bent_text) rfl
  obtain ⟨fd_l_right, F_l_right⟩ := c.def_ 21 (d := dd_l_right) rfl
  obtain ⟨fd_p_law, F_p_law⟩ := c.def_ 22 (d := dd_p_law) rfl
  obtain ⟨fd_c_BadText, F_c_BadText⟩ := c.def_ 23 (d := dd_c_BadText) rfl
  have bi_c_BadText : Binds K fd_c_BadText ["self", "what"] [] := F_c_BadText.bindsN fun _ _ _ _ _ _ us hl => match us, hl with | [_, _], _ => rfl
  have g_BadText : mg "BadText" = some (.ref (nmAt K "BadText")) := He.glo_ok X G (c.fact 37 (f := .glo "BadText") rfl)
  have g_BadRow : mg "BadRow" = some (.ref (nmAt K "BadRow")) := He.glo_ok X G (c.fact 38 (f := .glo "BadRow") rfl)
  have g_NoTour : mg "NoTour" = some (.ref (nmAt K "NoTour")) := He.glo_ok X G (c.fact 39 (f := .glo "NoTour") rfl)
  have x_l_asked_0 := c0.x.look 1 (f := hmB ["BadText"] [.own "BadRow", .own "BadText", .own "NoTour"]) rfl
  have x_l_asked_1 := c0.x.look 2 (f := tabB1 [("BadText", true)] (.own "BadText")) rfl
  have x_l_asked_2 := c0.x.look 3 (f := tabB1 [("BadText", true)] (.ty "ValueError")) rfl
  have x_l_asked_3 := c0.x.look 4 (f := tabBN [("BadText", false)] [.own "BadRow", .own "NoTour"]) rfl
  have x_l_asked_4 := c0.x.look 5 (f := xisB ["BadText"]) rfl
  have n_ValueError := He.free_ok X G (c.fact 23 (f := .free "ValueError") rfl)
  have n_abs := He.free_ok X G (c.fact 24 (f := .free "abs") rfl)
  have n_all := He.free_ok X G (c.fact 25 (f := .free "all") rfl)
  have n_bool := He.free_ok X G (c.fact 26 (f := .free "bool") rfl)
  have n_divmod := He.free_ok X G (c.fact 27 (f := .free "divmod") rfl)
  have n_enumerate := He.free_ok X G (c.fact 28 (f := .free "enumerate") rfl)
  have n_int := He.free_ok X G (c.fact 29 (f := .free "int") rfl)
  have n_isinstance := He.free_ok X G (c.fact 30 (f := .free "isinstance") rfl)
  have n_len := He.free_ok X G (c.fact 31 (f := .free "len") rfl)
  have n_list := He.free_ok X G (c.fact 32 (f := .free "list") rfl)
  have n_range := He.free_ok X G (c.fact 33 (f := .free "range") rfl)
  have n_str := He.free_ok X G (c.fact 34 (f := .free "str") rfl)
  have n_tuple := He.free_ok X G (c.fact 35 (f := .free "tuple") rfl)
  have n_zip := He.free_ok X G (c.fact 36 (f := .free "zip") rfl)
  obtain ⟨t_FIGURES, c_FIGURES⟩ := He.str_ok X G (c.fact 40 rfl)
  obtain ⟨t_MOST_FIGURES, c_MOST_FIGURES⟩ := He.int_ok X G (c.fact 41 rfl)
  have bi_p_is_number : Binds K fd_p_is_number ["thing"] [] := F_p_is_number.bindsN fun _ _ _ _ _ _ us hl => match us, hl with | [_], _ => rfl
  have g_p_is_number := He.glo_ok X G (c.fact 0 (f := .glo "is_number") rfl)
  have bi_p_is_number_from : Binds K fd_p_is_number_from ["least", "thing"] [] := F_p_is_number_from.bindsN fun _ _ _ _ _ _ us hl => match us, hl with | [_, _], _ => rfl
  have g_p_is_number_from := He.glo_ok X G (c.fact 1 (f := .glo "is_number_from") rfl)
  have bi_p_is_tuple_of : Binds K fd_p_is_tuple_of ["many", "thing"] [] := F_p_is_tuple_of.bindsN fun _ _ _ _ _ _ us hl => match us, hl with | [_, _], _ => rfl
  have g_p_is_tuple_of := He.glo_ok X G (c.fact 2 (f := .glo "is_tuple_of") rfl)
  have bi_p_is_stair : Binds K fd_p_is_stair ["thing"] [] := F_p_is_stair.bindsN fun _ _ _ _ _ _ us hl => match us, hl with | [_], _ => rfl
  have g_p_is_stair := He.glo_ok X G (c.fact 3 (f := .glo "is_stair") rfl)
  have bi_p_is_pound : Binds K fd_p_is_pound ["thing"] [] := F_p_is_pound.bindsN fun _ _ _ _ _ _ us hl => match us, hl with | [_], _ => rfl
  have g_p_is_pound := He.glo_ok X G (c.fact 4 (f := .glo "is_pound") rfl)
  have bi_p_stair_text : Binds K fd_p_stair_text ["stair"] [] := F_p_stair_text.bindsN fun _ _ _ _ _ _ us hl => match us, hl with | [_], _ => rfl
  have g_p_stair_text := He.glo_ok X G (c.fact 5 (f := .glo "stair_text") rfl)
  have bi_x_stair_in : Binds K fd_x_stair_in ["text"] [] := F_x_stair_in.bindsN fun _ _ _ _ _ _ us hl => match us, hl with | [_], _ => rfl
  have g_x_stair_in := He.glo_ok X G (c.fact 6 (f := .glo "stair_in") rfl)
  have bi_p_number_in : Binds K fd_p_number_in ["text"] [] := F_p_number_in.bindsN fun _ _ _ _ _ _ us hl => match us, hl with | [_], _ => rfl
  have g_p_number_in := He.glo_ok X G (c.fact 7 (f := .glo "number_in") rfl)
  have bi_l_box : Binds K fd_l_box ["_law_script", "_law_k"] [] := F_l_box.bindsN fun _ _ _ _ _ _ us hl => match us, hl with | [_, _], _ => rfl
  have g_l_box := He.glo_ok X G (c.fact 8 (f := .glo "_law_box") rfl)
  have bi_l_take : Binds K fd_l_take ["_law_box_here", "_law_size"] [] := F_l_take.bindsN fun _ _ _ _ _ _ us hl => match us, hl with | [_, _], _ => rfl
  have g_l_take := He.glo_ok X G (c.fact 9 (f := .glo "_law_take") rfl)
  have bi_l_folded : Binds K fd_l_folded ["_law_script", "_law_size"] [] := F_l_folded.bindsN fun _ _ _ _ _ _ us hl => match us, hl with | [_, _], _ => rfl
  have g_l_folded := He.glo_ok X G (c.fact 10 (f := .glo "_law_folded") rfl)
  have bi_l_cells : Binds K fd_l_cells ["_law_script", "_law_size"] [] := F_l_cells.bindsN fun _ _ _ _ _ _ us hl => match us, hl with | [_, _], _ => rfl
  have g_l_cells := He.glo_ok X G (c.fact 11 (f := .glo "_law_cells") rfl)
  have bi_l_of : Binds K fd_l_of ["_law_box_here", "_law_some"] [] := F_l_of.bindsN fun _ _ _ _ _ _ us hl => match us, hl with | [_, _], _ => rfl
  have g_l_of := He.glo_ok X G (c.fact 12 (f := .glo "_law_of") rfl)
  have bi_l_same : Binds K fd_l_same ["_law_found", "_law_due_here"] [] := F_l_same.bindsN fun _ _ _ _ _ _ us hl => match us, hl with | [_, _], _ => rfl
  have g_l_same := He.glo_ok X G (c.fact 13 (f := .glo "_law_same") rfl)
  have bi_l_lists : Binds K fd_l_lists ["_law_thing"] [] := F_l_lists.bindsN fun _ _ _ _ _ _ us hl => match us, hl with | [_], _ => rfl
  have g_l_lists := He.glo_ok X G (c.fact 14 (f := .glo "_law_lists") rfl)
  have bi_l_great : Binds K fd_l_great ["_law_box_here"] [] := F_l_great.bindsN fun _ _ _ _ _ _ us hl => match us, hl with | [_], _ => rfl
  have g_l_great := He.glo_ok X G (c.fact 15 (f := .glo "_law_great") rfl)
  have bi_l_stair : Binds K fd_l_stair ["_law_box_here", "_law_cap", "_law_by"] [] := F_l_stair.bindsN fun _ _ _ _ _ _ us hl => match us, hl with | [_, _, _], _ => rfl
  have g_l_stair := He.glo_ok X G (c.fact 16 (f := .glo "_law_stair") rfl)
  have bi_l_number : Binds K fd_l_number ["_law_word"] [] := F_l_number.bindsN fun _ _ _ _ _ _ us hl => match us, hl with | [_], _ => rfl
  have g_l_number := He.glo_ok X G (c.fact 17 (f := .glo "_law_number") rfl)
  have bi_l_due : Binds K fd_l_due ["_law_text"] [] := F_l_due.bindsN fun _ _ _ _ _ _ us hl => match us, hl with | [_], _ => rfl
  have g_l_due := He.glo_ok X G (c.fact 18 (f := .glo "_law_due") rfl)
  have bi_l_asked : Binds K fd_l_asked ["_law_text"] [] := F_l_asked.bindsN fun _ _ _ _ _ _ us hl => match us, hl with | [_], _ => rfl
  have g_l_asked := He.glo_ok X G (c.fact 19 (f := .glo "_law_asked") rfl)
  have bi_l_bent_text : Binds K fd_l_bent_text ["_law_box_here", "_law_text"] [] := F_l_bent_text.bindsN fun _ _ _ _ _ _ us hl => match us, hl with | [_, _], _ => rfl
  have g_l_bent_text := He.glo_ok X G (c.fact 20 (f := .glo "_law_bent_text") rfl)
  have bi_l_right : Binds K fd_l_right ["_law_box_here"] [] := F_l_right.bindsN fun _ _ _ _ _ _ us hl => match us, hl with | [_], _ => rfl
  have g_l_right := He.glo_ok X G (c.fact 21 (f := .glo "_law_right") rfl)
  have bi_p_law : Binds K fd_p_law ["_law_script"] [] := F_p_law.bindsN fun _ _ _ _ _ _ us hl => match us, hl with | [_], _ => rfl
  have g_p_law := He.glo_ok X G (c.fact 22 (f := .glo "law") rfl)
  have e := hfa.symm.trans g_p_law
  cases e
  refine ⟨fd_p_law, fun s v => F_p_law.bindsA (ps := ["_law_script"]) (fun _ _ _ _ _ _ us hl => match us, hl with | [_], _ => rfl) s [v] rfl, fun base _ _ hTB => ?_⟩
  have e_BadText : XCls P w K mg base "BadText" := xcls_of PySem.F.excBase_ValueError PySem.F.store_ValueError (c0.x.look 0 rfl) g_BadText F_c_BadText sc_i_BadText (.inl rfl) (.inl rfl) bi_c_BadText
  have f_p_is_number : Fo P w K mg base "is_number" ["thing"] m_p_is_number 1 := FunD.mkG F_p_is_number sc_p_is_number (b_p_is_number n_bool n_int n_isinstance) g_p_is_number bi_p_is_number
  have f_p_is_tuple_of : Fo P w K mg base "is_tuple_of" ["many", "thing"] m_p_is_tuple_of 1 := FunD.mkG F_p_is_tuple_of sc_p_is_tuple_of (b_p_is_tuple_of n_isinstance n_len n_tuple) g_p_is_tuple_of bi_p_is_tuple_of
  have f_p_stair_text : Fo P w K mg base "stair_text" ["stair"] m_p_stair_text 1 := FunD.mkG F_p_stair_text sc_p_stair_text (b_p_stair_text n_str) g_p_stair_text bi_p_stair_text
  have f_p_number_in : Fo P w K mg base "number_in" ["text"] m_p_number_in 1 := FunD.mkG F_p_number_in sc_p_number_in (b_p_number_in n_all n_int n_len c_FIGURES c_MOST_FIGURES) g_p_number_in bi_p_number_in
  have f_l_box : Fo P w K mg base "_law_box" ["_law_script", "_law_k"] m_l_box 1 := FunD.mkG F_l_box sc_l_box (b_l_box n_abs n_int n_len) g_l_box bi_l_box
  have f_l_folded : Fo P w K mg base "_law_folded" ["_law_script", "_law_size"] m_l_folded 1 := FunD.mkG F_l_folded sc_l_folded (b_l_folded n_enumerate n_list) g_l_folded bi_l_folded
  have f_l_number : Fo P w K mg base "_law_number" ["_law_word"] m_l_number 1 := FunD.mkG F_l_number sc_l_number (b_l_number n_all n_int n_len) g_l_number bi_l_number
  have f_p_is_number_from : Fo P w K mg base "is_number_from" ["least", "thing"] m_p_is_number_from 2 := FunD.mkG F_p_is_number_from sc_p_is_number_from (b_p_is_number_from f_p_is_number) g_p_is_number_from bi_p_is_number_from
  have f_l_cells : Fo P w K mg base "_law_cells" ["_law_script", "_law_size"] m_l_cells 2 := FunD.mkG F_l_cells sc_l_cells (b_l_cells f_l_folded) g_l_cells bi_l_cells
  have f_l_due : Fo P w K mg base "_law_due" ["_law_text"] m_l_due 2 := FunD.mkG F_l_due sc_l_due (b_l_due n_len n_tuple f_l_number) g_l_due bi_l_due
  have f_p_is_pound : Fo P w K mg base "is_pound" ["thing"] m_p_is_pound 3 := FunD.mkG F_p_is_pound sc_p_is_pound (b_p_is_pound f_p_is_number_from f_p_is_tuple_of) g_p_is_pound bi_p_is_pound
  have f_p_is_stair : Fo P w K mg base "is_stair" ["thing"] m_p_is_stair 4 := FunD.mkG F_p_is_stair sc_p_is_stair (b_p_is_stair n_all n_isinstance n_len n_tuple f_p_is_pound) g_p_is_stair bi_p_is_stair
  have f_l_take : ∀ n : Nat, Fo P w K mg base "_law_take" ["_law_box_here", "_law_size"] (m_l_take n) (0 + n) := by
    intro n
    induction n with
    | zero => exact fo_none g_l_take F_l_take.kp bi_l_take
    | succ n ih => exact FunD.mkG F_l_take sc_l_take (b_l_take n_divmod ih) g_l_take bi_l_take
  replace f_l_take := f_l_take 4
  have f_x_stair_in : FoX P w K mg base "stair_in" ["text"] m_x_stair_in 5 := FunD.mkX F_x_stair_in sc_x_stair_in (b_x_stair_in n_tuple f_p_is_stair f_p_number_in e_BadText) g_x_stair_in bi_x_stair_in
  have f_l_of : Fo P w K mg base "_law_of" ["_law_box_here", "_law_some"] m_l_of 5 := FunD.mkG F_l_of sc_l_of (b_l_of n_len f_l_take) g_l_of bi_l_of
  have f_l_great : Fo P w K mg base "_law_great" ["_law_box_here"] m_l_great 5 := FunD.mkG F_l_great sc_l_great (b_l_great f_l_take) g_l_great bi_l_great
  have f_l_stair : Fo P w K mg base "_law_stair" ["_law_box_here", "_law_cap", "_law_by"] m_l_stair 5 := FunD.mkG F_l_stair sc_l_stair (b_l_stair n_range n_tuple f_l_take) g_l_stair bi_l_stair
  have f_l_asked : Fo P w K mg base "_law_asked" ["_law_text"] m_l_asked 6 := FunD.mkG F_l_asked sc_l_asked (b_l_asked n_ValueError n_isinstance f_x_stair_in g_BadRow g_BadText g_NoTour x_l_asked_0 x_l_asked_1 x_l_asked_2 x_l_asked_3 x_l_asked_4) g_l_asked bi_l_asked
  have f_l_bent_text : Fo P w K mg base "_law_bent_text" ["_law_box_here", "_law_text"] m_l_bent_text 6 := FunD.mkG F_l_bent_text sc_l_bent_text (b_l_bent_text n_len f_l_take f_l_of) g_l_bent_text bi_l_bent_text
  have f_l_same : ∀ n : Nat, Fo P w K mg base "_law_same" ["_law_found", "_law_due_here"] (m_l_same n) (0 + n) := by
    intro n
    induction n with
    | zero => exact fo_none g_l_same F_l_same.kp bi_l_same
    | succ n ih => exact FunD.mkG F_l_same sc_l_same (b_l_same n_all n_bool n_int n_isinstance n_len n_list n_str n_tuple n_zip ih) g_l_same bi_l_same
  replace f_l_same := f_l_same 10
  have f_l_lists : ∀ n : Nat, Fo P w K mg base "_law_lists" ["_law_thing"] (m_l_lists n) (0 + n) := by
    intro n
    induction n with
    | zero => exact fo_none g_l_lists F_l_lists.kp bi_l_lists
    | succ n ih => exact FunD.mkG F_l_lists sc_l_lists (b_l_lists n_isinstance n_list n_tuple ih) g_l_lists bi_l_lists
  replace f_l_lists := f_l_lists 10
  have f_l_right : Fo P w K mg base "_law_right" ["_law_box_here"] m_l_right 11 := FunD.mkG F_l_right sc_l_right (b_l_right n_all n_range n_str f_p_stair_text f_l_take f_l_same f_l_lists f_l_great f_l_stair f_l_due f_l_asked f_l_bent_text) g_l_right bi_l_right
  exact FunD.mkFn F_p_law sc_p_law (b_p_law n_all n_len n_range f_l_box f_l_cells f_l_right)
end K49
open PySem PySem.W PySem.Calls PyProof.Rows
set_option maxRecDepth 100000 in
set_option maxHeartbeats 0 in
theorem PySem.Challenge.cw_liftwater_k49_texts_of_stairs_holds : PySem.Challenge.rw_liftwater_k49_texts_of_stairs.Holds := by
  w_on; o_law
  refine HandSHeadRun.head_any (r := OpenLaw.row PySem.Challenge.rw_liftwater_k49_texts_of_stairs) (q := view (OpenLaw.row PySem.Challenge.rw_liftwater_k49_texts_of_stairs).prog [32]) (H := K49h.hk) (ob := K49h.ob) (M := 4000) (loose := K49h.loose) (d := HandSHeadRun.topDef (OpenLaw.row PySem.Challenge.rw_liftwater_k49_texts_of_stairs).prog 32) (kwd := []) K49h.ob_eq
    (by kernel_rfl) (fun s => by kernel_rfl) K49h.run (by kernel_rfl) (by kernel_rfl) (by kernel_rfl) (by rfl) (by first | assumption | decide +kernel) (by decide +kernel) ⟨rfl, rfl, rfl, rfl, rfl, by decide +kernel⟩ ?hw ?hc
  case hw => w_witness2
  case hc =>
    refine Lw.walk_GE (l := PySem.Challenge.rw_liftwater_k49_texts_of_stairs) (n := 63) (k := 12) (x := "_law_script") rfl (by decide) (by kernel_rfl) ⟨rfl, by decide, by decide⟩ ?F
    intro w mg fa h Y G hmg0
    obtain ⟨K, KX, c⟩ := Y
    have hmg : mg ("law" : PySem.Str) = some (.ref fa) := by
      have e : (HandSHeadRun.topDef (OpenLaw.row PySem.Challenge.rw_liftwater_k49_texts_of_stairs).prog 32).name = ("law" : PySem.Str) := by kernel_rfl
      rw [← e]
      exact hmg0
    obtain ⟨fd, hb, hF⟩ := K49.facts (P := (PySem.Challenge.rw_liftwater_k49_texts_of_stairs).prog) (w := w) KX G hmg c
    exact ⟨K, fd, _, KX, Lw.tabs_of KX c, hb, fun H a ns hl hbits tb hS => Lw.law_sp tb (K49.sem_law ns hl hbits) hS, hF⟩
