import PyProof.Rows.All
import Wide.All
import OpenK.AllK
import Wide.FinOn
import KE.KStateDown
import Lean
import HandS.Head0
import HandS.Head1
import HandS.Head2
import HandS.HeadHook4
import HandS.HeadWalk
import HandS.Words
import HandS.ForMost
import HandS.ForExc
import HandS.IsInst
import HandS.Flow
import HandS.Evl
import HandS.Lambda
import HandS.HeadHook1
import HandS.TupAny
import HandS.TupSets
import HandS.SetKeys
import KE.KeyNested
import HandS.SetBool
import KE.GoesEnum
import PyProof.CollectWalk
import PyProof.ListRange
import HandS.Rev
import HandS.Style
import HandS.Dict
import HandS.More
import HandS.Deep
import KE.SortKeyed
import HandS.DictTup
import HandS.Set
import KE.SortData
import HandS.HeadHook2
import PyProof.WalksMore
import HandS.MakeKw
import HandS.DictComp
import KE.KDictPairs
import HandS.RaiseMore
import HandS.EndTab
import HandS.WideBits
import HandS.Zip0
import KE.KDictZip
import HandS.Zip
import KE.KEqNest
import HandS.ListItems
import KE.KDictList
import KE.DataCmp
import KE.KSortTupAny
import PyProof.StrOps2
import PyProof.CallFns
import HandS.TupMul
import HandS.HeadNt
import PySem.Challenge.RW_prefixgraft_k07_whole_meanings
set_option Elab.async false
set_option linter.all false
set_option maxRecDepth 100000
namespace G
open PySem
def top (i : Nat) : Stmt := PySem.Challenge.pw_prefixgraft_k07_whole_meanings.main.body.getD i (.Pass ⟨0, 0, 0, 0⟩)
abbrev st_is_prefix : Stmt := top 14
abbrev st_is_local : Stmt := top 15
abbrev st_is_address : Stmt := top 16
abbrev st_is_name : Stmt := top 17
abbrev st_is_word : Stmt := top 18
abbrev st_is_pair : Stmt := top 19
abbrev st_is_element : Stmt := top 20
abbrev st_is_part : Stmt := top 21
abbrev st_need_part : Stmt := top 22
abbrev st_holes : Stmt := top 23
abbrev st_walk : Stmt := top 24
abbrev st_holes_among : Stmt := top 25
abbrev st__is_made_of : Stmt := top 26
abbrev st__is_plain : Stmt := top 27
abbrev st__begins : Stmt := top 28
abbrev st__is_hole : Stmt := top 29
abbrev st__below : Stmt := top 30
abbrev st__fault : Stmt := top 31
abbrev st__first_wrong : Stmt := top 32
abbrev st__wrong_item : Stmt := top 33
abbrev st__are_declarations : Stmt := top 34
abbrev st__is_declaration : Stmt := top 35
abbrev st__is_empty : Stmt := top 36
abbrev st__are_attributes : Stmt := top 37
abbrev st__is_attribute : Stmt := top 38
abbrev st__are_children : Stmt := top 39
abbrev st__first_hole_again : Stmt := top 40
abbrev st_need_surrounding : Stmt := top 42
abbrev st_need_filling : Stmt := top 43
abbrev st_meaning : Stmt := top 44
abbrev st__read : Stmt := top 45
abbrev st_bound_in_r : Stmt := top 46
abbrev st__read_child : Stmt := top 47
abbrev st__read_name : Stmt := top 48
abbrev st__read_attributes : Stmt := top 49
abbrev st__read_attribute_name : Stmt := top 50
abbrev st__read_value : Stmt := top 51
abbrev st__law_mixed : Stmt := top 53
abbrev st__law_begin : Stmt := top 54
abbrev st__law_draw : Stmt := top 55
abbrev st__law_bound : Stmt := top 56
abbrev st__law_meaning : Stmt := top 57
abbrev st__law_prefix : Stmt := top 58
abbrev st__law_name : Stmt := top 59
abbrev st__law_declarations : Stmt := top 60
abbrev st__law_attributes : Stmt := top 61
abbrev st__law_element : Stmt := top 62
abbrev st__law_elements : Stmt := top 63
abbrev st__law_holes : Stmt := top 64
abbrev st__law_tame : Stmt := top 65
abbrev st__law_world : Stmt := top 66
abbrev st__law_part : Stmt := top 67
abbrev st__law_filling : Stmt := top 68
abbrev st__law_right : Stmt := top 69
abbrev st__law_great_right : Stmt := top 70
abbrev st__law_three_right : Stmt := top 71
abbrev st_law : Stmt := top 72
abbrev xBndR : Str := "_bound_in"
end G
set_option Elab.async false
set_option linter.all false
set_option maxRecDepth 100000
set_option maxHeartbeats 0
namespace Hd07
open PySem PySem.Spec PyProof.Rows L2
abbrev top (i : Nat) : Stmt := G.top i
def dd (x : Str) (i : Nat) : He.DefD := ⟨(x, none), x, x, defArgs (top i), defBody (top i), defScope (top i), [], []⟩
/-- with None as the default, last -/
def dn (x : Str) (i : Nat) : He.DefD := ⟨(x, none), x, x, defArgs (top i), defBody (top i), defScope (top i), [.non], []⟩
/-- no tuple stands at 0 -/
def notTup (K : PySem.W.Frag) : Bool := match K.lookup 0 with
  | some ⟨.type c, _, _, _⟩ => !decide (c = "tuple")
  | _ => true
/-- the lambdas' tables are unlike -/
def tabsB (K : PySem.W.Frag) : Bool := !decide ((He.cT K ("_read_attributes", none)).2 = (He.cT K ("_law_meaning", none)).2)

def fn : List He.DefD := [dd "is_prefix" 14, dd "is_local" 15, dd "is_address" 16, dd "is_name" 17, dd "is_word" 18, dd "is_pair" 19, dd "is_element" 20, dd "is_part" 21, dd "need_part" 22, dd "holes" 23, dd "walk" 24, dd "holes_among" 25, dd "_is_made_of" 26, dd "_is_plain" 27, dd "_begins" 28, dd "_is_hole" 29, dd "_below" 30, dd "_fault" 31, dd "_first_wrong" 32, dd "_wrong_item" 33, dd "_are_declarations" 34, dd "_is_declaration" 35, dd "_is_empty" 36, dd "_are_attributes" 37, dd "_is_attribute" 38, dd "_are_children" 39, dd "_first_hole_again" 40, dd "need_surrounding" 42, dd "need_filling" 43, dn "meaning" 44, dd "_read" 45, dd "_bound_in" 46, dd "_read_child" 47, dd "_read_name" 48, dd "_read_attributes" 49, dd "_read_attribute_name" 50, dd "_read_value" 51, dd "_law_mixed" 53, dd "_law_begin" 54, dd "_law_draw" 55, dd "_law_bound" 56, dd "_law_meaning" 57, dd "_law_prefix" 58, dd "_law_name" 59, dd "_law_declarations" 60, dd "_law_attributes" 61, dd "_law_element" 62, dd "_law_elements" 63, dd "_law_holes" 64, dd "_law_tame" 65, dd "_law_world" 66, dd "_law_part" 67, dd "_law_filling" 68, dd "_law_right" 69, dd "_law_great_right" 70, dd "_law_three_right" 71, dd "law" 72]
def fa : List He.Fa := [.glo "is_prefix", .glo "is_local", .glo "is_address", .glo "is_name", .glo "is_word", .glo "is_pair", .glo "is_element", .glo "is_part", .glo "need_part", .glo "holes", .glo "walk", .glo "holes_among", .glo "_is_made_of", .glo "_is_plain", .glo "_begins", .glo "_is_hole", .glo "_below", .glo "_fault", .glo "_first_wrong", .glo "_wrong_item", .glo "_are_declarations", .glo "_is_declaration", .glo "_is_empty", .glo "_are_attributes", .glo "_is_attribute", .glo "_are_children", .glo "_first_hole_again", .glo "need_surrounding", .glo "need_filling", .glo "meaning", .glo "_read", .glo "_bound_in", .glo "_read_child", .glo "_read_name", .glo "_read_attributes", .glo "_read_attribute_name", .glo "_read_value", .glo "_law_mixed", .glo "_law_begin", .glo "_law_draw", .glo "_law_bound", .glo "_law_meaning", .glo "_law_prefix", .glo "_law_name", .glo "_law_declarations", .glo "_law_attributes", .glo "_law_element", .glo "_law_elements", .glo "_law_holes", .glo "_law_tame", .glo "_law_world", .glo "_law_part", .glo "_law_filling", .glo "_law_right", .glo "_law_great_right", .glo "_law_three_right", .glo "law", .free "isinstance", .free "len", .free "all", .free "any", .free "tuple", .free "list", .free "str", .free "int", .free "bool", .free "dict", .free "set", .free "range", .free "enumerate", .free "reversed", .free "sorted", .free "repr", .free "min", .free "max", .free "sum", .free "zip", .free "divmod", .int "MOST_ELEMENTS" 60, .int "MOST_LEVELS" 8, .int "MOST_LETTERS" 8, .str "LETTERS" "abcdefghijklmnopqrstuvwxyz", .str "ADDRESS_SIGNS" "abcdefghijklmnopqrstuvwxyz0123456789./:-", .str "PLAIN_SIGNS" "abcdefghijklmnopqrstuvwxyz0123456789 ./-", .str "RESERVED" "xmlns", .int "_MOST_SIGNS" 20]
def ex (K : PySem.W.Frag) : Bool := decide (He.ga K "_TAKEN_BACK" = 0) && notTup K && tabsB K
def names0 : List PySem.Str := ["GraftError", "BadPart", "BadSurrounding", "BadFilling", "MOST_ELEMENTS", "MOST_LEVELS", "MOST_LETTERS", "LETTERS", "ADDRESS_SIGNS", "PLAIN_SIGNS", "RESERVED", "_MOST_SIGNS", "is_prefix", "is_local", "is_address", "is_name", "is_word", "is_pair", "is_element", "is_part", "need_part", "holes", "walk", "holes_among", "_is_made_of", "_is_plain", "_begins", "_is_hole", "_below", "_fault"]
def names1 : List PySem.Str := ["_first_wrong", "_wrong_item", "_are_declarations", "_is_declaration", "_is_empty", "_are_attributes", "_is_attribute", "_are_children", "_first_hole_again", "need_surrounding", "need_filling", "meaning", "_read", "_bound_in", "_read_child", "_read_name", "_read_attributes", "_read_attribute_name", "_read_value", "_law_mixed", "_law_begin", "_law_draw", "_law_bound", "_law_meaning", "_law_prefix", "_law_name", "_law_declarations", "_law_attributes", "_law_element", "_law_elements"]
def names2 : List PySem.Str := ["_law_holes", "_law_tame", "_law_world", "_law_part", "_law_filling", "_law_right", "_law_great_right", "_law_three_right"]
def names : List PySem.Str := names0 ++ names1 ++ names2
def tf : List He.Defn := [("_read_attributes", none), ("_law_meaning", none)]
abbrev R : PySem.W.OpenRow := PySem.W.OpenLaw.row PySem.Challenge.rw_prefixgraft_k07_whole_meanings
abbrev hk : PySem.W.Hook := He.hookX 3 fa fn [] tf ex
def ob (s : PySem.W.SharedT) : He.AlX := He.obsX 3 fa fn [] tf ex (HandSHeadRun.getT s)
theorem ob_eq (s : PySem.W.SharedT) : ob s = hk.obs s.abs := He.obsX_eq (HandSHeadRun.getT_eq s)
abbrev qv : Program := PySem.W.view R.prog [72]
theorem run (w : World) : HandSHeadRun.RunEq R qv hk ob 6000 names w := by
  intro os
  kernel_rfl
end Hd07
set_option Elab.async false
set_option linter.all false
set_option maxRecDepth 100000
set_option maxHeartbeats 4000000
namespace PD
open PySem PySem.Spec PyProof.Rows L2

/-! ### data: what a value says, all the way down -/
inductive Kd where
  | list | dict
  /-- an empty tuple of the module's own (a default) -/
  | unit
  deriving DecidableEq
def Kd.name : Kd → String
  | .list => "list" | .dict => "dict" | .unit => "tuple"
inductive D where
  | non | bl (b : Bool) | int (i : Int) | str (x : Str) | tup (ds : List D)
  /-- another object, of the built-in type t, known by its address alone -/
  | obj (t : Kd) (a : Addr)
  /-- a list, a dict (its keys ints and texts; tuples of these) that nobody changes any more -/
  | lst (ds : List D) | dk (kvs : List (Key × D)) | dt (kvs : List (List Key × D))
  /-- a tuple whose very object is known: it has no dict of its own -/
  | pt (ds : List D)
/-- a dict's data -/
inductive Dc where
  | k (kvs : List (Key × D)) | t (kvs : List (List Key × D))
def Dc.d : Dc → D
  | .k kvs => .dk kvs
  | .t kvs => .dt kvs
/-- a key, as data -/
def kD : Key → D
  | .inl i => .int i
  | .inr x => .str x
/-- a list, a dict of the built-in kind stands at a -/
inductive ObT (K : PySem.W.Frag) (H : Hp) : Kd → Addr → Prop
  | l {a : Addr} {xs : List V} : Rd H a (.lst xs) → ObT K H .list a
  | d {a : Addr} {kvs : List (Key × V)} : Rd H a (.dK kvs) → ObT K H .dict a
  | u {a : Addr} {o : Obj} {its : Array Value} {n : Nat} : K.lookup a = some o → o.cls = .type "tuple" → o.data = .seq its n → its.toList = [] → ObT K H .unit a
theorem ObT.sq {K : PySem.W.Frag} {H : Hp} {a : Addr} (h : ObT K H .unit a) : SqT K H a [] := by
  cases h with
  | u e1 e2 e3 e4 => exact .inr ⟨_, _, _, e1, e2, e3, by rw [← Array.length_toList, e4]; exact Nat.zero_le _, by rw [e4]; exact .nil⟩

/-- the module's own tuples that the program hands on -/
def CA (K : PySem.W.Frag) (a : Addr) : Prop := a = He.ga K "_TAKEN_BACK"
/-- a tuple that was made while the law ran, or one of the module's own -/
inductive TpH (K : PySem.W.Frag) (H : Hp) (a : Addr) (xs : List V) : Prop
  | h : H a = some (.tup xs) → TpH K H a xs
  | c {o : Obj} {its : Array Value} {n : Nat} : CA K a → K.lookup a = some o → o.cls = .type "tuple" → o.data = .seq its n → its.size ≤ sizeLine → Vals xs its.toList → TpH K H a xs
theorem TpH.sq {K : PySem.W.Frag} {H : Hp} {a : Addr} {xs : List V} (h : TpH K H a xs) : SqT K H a xs := by
  cases h with
  | h e => exact .inl (.inl e)
  | c _ e1 e2 e3 e4 e5 => exact .inr ⟨_, _, _, e1, e2, e3, e4, e5⟩
mutual
inductive Rp (K : PySem.W.Frag) (H : Hp) : V → D → Prop
  | non : Rp K H .non .non
  | bl (b : Bool) : Rp K H (.bl b) (.bl b)
  | int (i : Int) : Rp K H (.int i) (.int i)
  | str (x : Str) : Rp K H (.str x) (.str x)
  | tup {a : Addr} {xs : List V} {ds : List D} : TpH K H a xs → RpA K H xs ds → Rp K H (.ref a) (.tup ds)
  | obj {t : Kd} {a : Addr} : ObT K H t a → Rp K H (.ref a) (.obj t a)
  | lst {a : Addr} {o : Obj} {xs : List V} {ds : List D} : H a = some (.frz o (.lst xs)) → RpA K H xs ds → Rp K H (.ref a) (.lst ds)
  | dicK {a : Addr} {o : Obj} {kv : List (Key × V)} {ds : List (Key × D)} : H a = some (.frz o (.dK kv)) → kv.map (·.1) = ds.map (·.1) → RpA K H (kv.map (·.2)) (ds.map (·.2)) → Rp K H (.ref a) (.dk ds)
  | dicT {a : Addr} {o : Obj} {kv : List (List Key × V)} {ds : List (List Key × D)} : H a = some (.frz o (.dT kv)) → kv.map (·.1) = ds.map (·.1) → RpA K H (kv.map (·.2)) (ds.map (·.2)) → Rp K H (.ref a) (.dt ds)
  | ptup {a : Addr} {o : Obj} {xs : List V} {ds : List D} : H a = some (.frz o (.tup xs)) → o.dict = none → RpA K H xs ds → Rp K H (.ref a) (.pt ds)
inductive RpA (K : PySem.W.Frag) (H : Hp) : List V → List D → Prop
  | nil : RpA K H [] []
  | cons {v : V} {vs : List V} {d : D} {ds : List D} : Rp K H v d → RpA K H vs ds → RpA K H (v :: vs) (d :: ds)
end

/-! ### frames -/
/-- it tells of no code object -/
def NC (φ : Heap → Prop) : Prop := ∀ c q, HO.ext φ ≠ LamX.CodeO c q
theorem nc_of {φ : Heap → Prop} {a : Addr} (h : ∀ hp : Heap, φ hp → ∃ o, hp.get? a = some o ∧ ∀ vs, o.data ≠ .fields vs) : NC φ := by
  intro c q e
  unfold LamX.CodeO at e
  injection e with e
  have at_ : ∀ i, i < a + c + 1 → (Heap.get? ⟨Array.replicate (a + c + 1) ⟨.none, none, .fields #[.none, .str q 0], #[]⟩, {}⟩ i) = some ⟨.none, none, .fields #[.none, .str q 0], #[]⟩ := fun i hi => by
    unfold Heap.get?
    simp [hi]
  have hw : φ ⟨Array.replicate (a + c + 1) ⟨.none, none, .fields #[.none, .str q 0], #[]⟩, {}⟩ := by
    rw [e]
    exact ⟨_, _, 0, at_ c (Nat.lt_succ_of_le (Nat.le_add_left c a)), rfl, rfl⟩
  obtain ⟨o, e1, e2⟩ := h _ hw
  rw [at_ a (Nat.lt_succ_of_le (Nat.le_add_right a c))] at e1
  cases e1
  exact e2 _ rfl
/-- a list stays a list, a dict a dict (or is frozen); a table grows -/
inductive Lk : HO → HO → Prop
  | l {xs ys : List V} : Lk (.lst xs) (.lst ys)
  | lf {xs ys : List V} {o : Obj} : Lk (.lst xs) (.frz o (.lst ys))
  | k {a b : List (Key × V)} : Lk (.dK a) (.dK b)
  | kf {a b : List (Key × V)} {o : Obj} : Lk (.dK a) (.frz o (.dK b))
  | t {a b : List (List Key × V)} : Lk (.dT a) (.dT b)
  | tf {a b : List (List Key × V)} {o : Obj} : Lk (.dT a) (.frz o (.dT b))
  | tb {a b : Array Value} : Lk (.tbl a) (.tbl b)
  | e {φ ψ : Heap → Prop} : NC φ → Lk (.ext φ) (.ext ψ)
theorem Lk.trans {o p q : HO} (h : Lk o p) (h2 : Lk p q) : Lk o q := by
  cases h <;> cases h2 <;> constructor
  assumption
/-- all stays but what stands where M says: that stays of its kind -/
def Fr (M : Addr → Prop) (H H' : Hp) : Prop := ∀ a o, H a = some o → H' a = some o ∨ (M a ∧ ∃ p, H' a = some p ∧ Lk o p)
theorem Fr.refl {M : Addr → Prop} {H : Hp} : Fr M H H := fun _ _ e => .inl e
theorem Fr.trans {M : Addr → Prop} {H H1 H2 : Hp} (h : Fr M H H1) (h2 : Fr M H1 H2) : Fr M H H2 := fun a o e => by
  rcases h a o e with e1 | ⟨m, p, e1, l⟩
  · exact h2 a o e1
  · rcases h2 a p e1 with e2 | ⟨_, q, e2, l2⟩
    · exact .inr ⟨m, p, e2, l⟩
    · exact .inr ⟨m, q, e2, l.trans l2⟩
theorem Fr.wide {M N : Addr → Prop} {H H' : Hp} (h : Fr M H H') (w : ∀ a, M a → N a) : Fr N H H' := fun a o e => by
  rcases h a o e with z | ⟨m, l⟩
  · exact .inl z
  · exact .inr ⟨w a m, l⟩
theorem Fr.of {M : Addr → Prop} {H H' : Hp} (h : ∀ a o, H a = some o → H' a = some o) : Fr M H H' := fun a o e => .inl (h a o e)
theorem Fr.new {M : Addr → Prop} {H : Hp} {p : Addr} {o : HO} (h : H p = none) : Fr M H (upd H p o) := fun a u e => .inl (by rw [upd_ne (ne_of_none e h)]; exact e)
theorem Fr.put {M : Addr → Prop} {H : Hp} {p : Addr} {xs ys : List V} (m : M p) (h : H p = some (.lst xs)) : Fr M H (upd H p (.lst ys)) := fun a u e => by
  by_cases z : a = p
  · subst z
    rw [h] at e
    cases e
    exact .inr ⟨m, _, upd_same, .l⟩
  · exact .inl (by rw [upd_ne z]; exact e)
/-- something of its kind is put where M says -/
theorem Fr.putL {M : Addr → Prop} {H : Hp} {p : Addr} {x y : HO} (m : M p) (h : H p = some x) (l : Lk x y) : Fr M H (upd H p y) := fun a u e => by
  by_cases z : a = p
  · subst z
    rw [h] at e
    cases e
    exact .inr ⟨m, _, upd_same, l⟩
  · exact .inl (by rw [upd_ne z]; exact e)
theorem Fr.back {M : Addr → Prop} {H H' : Hp} {p : Addr} (h : Fr M H H') (n : H' p = none) : H p = none := by
  cases e : H p with
  | none => rfl
  | some o =>
    rcases h p o e with z | ⟨_, _, z, _⟩ <;> (rw [n] at z; cases z)
theorem Fr.tup {M : Addr → Prop} {H H' : Hp} {p : Addr} {xs : List V} (h : Fr M H H') (e : H p = some (.tup xs)) : H' p = some (.tup xs) := by
  rcases h p _ e with z | ⟨_, _, _, z⟩
  · exact z
  · cases z
theorem Fr.frz {M : Addr → Prop} {H H' : Hp} {p : Addr} {o : Obj} {u : HO} (h : Fr M H H') (e : H p = some (.frz o u)) : H' p = some (.frz o u) := by
  rcases h p _ e with z | ⟨_, _, _, z⟩
  · exact z
  · cases z
theorem Fr.code {M : Addr → Prop} {H H' : Hp} {p c : Addr} {q : Str} (h : Fr M H H') (e : H p = some (LamX.CodeO c q)) : H' p = some (LamX.CodeO c q) := by
  rcases h p _ e with z | ⟨_, _, _, z⟩
  · exact z
  · unfold LamX.CodeO at z
    cases z with
    | e n => exact absurd rfl (n c q)
theorem Fr.keep {M : Addr → Prop} {H H' : Hp} {p : Addr} {o : HO} (h : Fr M H H') (m : ¬ M p) (e : H p = some o) : H' p = some o := by
  rcases h p o e with z | ⟨z, _⟩
  · exact z
  · exact absurd z m

section
variable {K : PySem.W.Frag} {M : Addr → Prop} {H H' : Hp}
theorem sqT_fr {a : Addr} {xs : List V} (f : Fr M H H') (h : SqT K H a xs) : SqT K H' a xs := by
  rcases h with (h | ⟨o, h⟩) | h
  · exact .inl (.inl (f.tup h))
  · exact .inl (.inr ⟨o, f.frz h⟩)
  · exact .inr h
theorem TpH.fr {a : Addr} {xs : List V} (h : TpH K H a xs) (f : Fr M H H') : TpH K H' a xs := by
  cases h with
  | h e => exact .h (f.tup e)
  | c e0 e1 e2 e3 e4 e5 => exact .c e0 e1 e2 e3 e4 e5
theorem obT_fr {a : Addr} {t : Kd} (f : Fr M H H') (h : ObT K H t a) : ObT K H' t a := by
  cases h with
  | u e1 e2 e3 e4 => exact .u e1 e2 e3 e4
  | l e =>
    rcases e with e | ⟨o, e⟩
    · rcases f _ _ e with z | ⟨_, _, z, l⟩
      · exact .l (.inl z)
      · cases l with
        | l => exact .l (.inl z)
        | lf => exact .l (.inr ⟨_, z⟩)
    · exact .l (.inr ⟨o, f.frz e⟩)
  | d e =>
    rcases e with e | ⟨o, e⟩
    · rcases f _ _ e with z | ⟨_, _, z, l⟩
      · exact .d (.inl z)
      · cases l with
        | k => exact .d (.inl z)
        | kf => exact .d (.inr ⟨_, z⟩)
    · exact .d (.inr ⟨o, f.frz e⟩)
mutual
theorem Rp.fr (f : Fr M H H') : ∀ {v : V} {d : D}, Rp K H v d → Rp K H' v d
  | _, _, .non => .non
  | _, _, .bl b => .bl b
  | _, _, .int i => .int i
  | _, _, .str x => .str x
  | _, _, .tup h r => .tup (h.fr f) (RpA.fr f r)
  | _, _, .obj h => .obj (obT_fr f h)
  | _, _, .lst h r => .lst (f.frz h) (RpA.fr f r)
  | _, _, .dicK h l r => .dicK (f.frz h) l (RpA.fr f r)
  | _, _, .dicT h l r => .dicT (f.frz h) l (RpA.fr f r)
  | _, _, .ptup h e r => .ptup (f.frz h) e (RpA.fr f r)
theorem RpA.fr (f : Fr M H H') : ∀ {vs : List V} {ds : List D}, RpA K H vs ds → RpA K H' vs ds
  | _, _, .nil => .nil
  | _, _, .cons h r => .cons (Rp.fr f h) (RpA.fr f r)
end
theorem RpA.len {vs : List V} {ds : List D} (h : RpA K H vs ds) : vs.length = ds.length := by
  induction ds generalizing vs with
  | nil => cases h; rfl
  | cons d ds ih => cases h with | cons a b => simp [ih b]
theorem RpA.get {vs : List V} {ds : List D} (h : RpA K H vs ds) {i : Nat} {d : D} (e : ds[i]? = some d) : ∃ v, vs[i]? = some v ∧ Rp K H v d := by
  induction ds generalizing vs i with
  | nil => simp at e
  | cons x ds ih =>
    cases h with
    | cons a b =>
      cases i with
      | zero => simp at e; subst e; exact ⟨_, rfl, a⟩
      | succ i => exact ih b (by simpa using e)
theorem RpA.getV {vs : List V} {ds : List D} (h : RpA K H vs ds) {i : Nat} {v : V} (e : vs[i]? = some v) : ∃ d, ds[i]? = some d ∧ Rp K H v d := by
  induction vs generalizing ds i with
  | nil => simp at e
  | cons x vs ih =>
    cases h with
    | cons a b =>
      cases i with
      | zero => simp at e; subst e; exact ⟨_, rfl, a⟩
      | succ i => exact ih b (by simpa using e)
theorem RpA.append {vs vs' : List V} {ds ds' : List D} (h : RpA K H vs ds) (h' : RpA K H vs' ds') : RpA K H (vs ++ vs') (ds ++ ds') := by
  induction ds generalizing vs with
  | nil => cases h; exact h'
  | cons d ds ih => cases h with | cons a b => exact .cons a (ih b)
theorem RpA.reverse {vs : List V} {ds : List D} (h : RpA K H vs ds) : RpA K H vs.reverse ds.reverse := by
  induction ds generalizing vs with
  | nil => cases h; exact .nil
  | cons d ds ih =>
    cases h with
    | cons a b =>
      rw [List.reverse_cons, List.reverse_cons]
      exact (ih b).append (.cons a .nil)
theorem RpA.take {vs : List V} {ds : List D} (h : RpA K H vs ds) : ∀ n : Nat, RpA K H (vs.take n) (ds.take n) := by
  induction ds generalizing vs with
  | nil => cases h; intro n; simp; exact .nil
  | cons d ds ih =>
    cases h with
    | cons a b =>
      intro n
      cases n with
      | zero => exact .nil
      | succ n => exact .cons a (ih b n)
theorem RpA.drop {vs : List V} {ds : List D} (h : RpA K H vs ds) : ∀ n : Nat, RpA K H (vs.drop n) (ds.drop n) := by
  induction ds generalizing vs with
  | nil => cases h; intro n; simp; exact .nil
  | cons d ds ih =>
    cases h with
    | cons a b =>
      intro n
      cases n with
      | zero => exact .cons a b
      | succ n => exact ih b n
end

/-! ### what a slot holds, what an expression gives -/
/-- what else a slot may hold: o, what is its own -/
structure GSl where
  holds : PySem.W.Frag → Hp → V → List Addr → Prop
  stable : ∀ {K : PySem.W.Frag} {H H' : Hp} {M : Addr → Prop} {v : V} {o : List Addr}, Fr M H H' → (∀ p ∈ o, ¬ M p) → holds K H v o → holds K H' v o
inductive Sl where
  | un
  | va (d : D)
  /-- a list of this def's own: nobody else has it -/
  | ow (ds : List D)
  /-- a list that is only read -/
  | li (ds : List D)
  /-- a dict of this def's own -/
  | od (c : Dc)
  /-- a dict of this def's own, of lists of its own; its keys tuples, ints and texts -/
  | dl (kvs : List (List Key × List D)) | dm (kvs : List (Key × List D))
  | gh (g : GSl)
inductive Res where
  | va (d : D)
  /-- a new list -/
  | ow (ds : List D)
  /-- a list that stands still -/
  | li (ds : List D)
  /-- a list of the def's own, looked at -/
  | rd (ds : List D)
  /-- a new dict; a dict of the def's own, looked at -/
  | od (c : Dc) | ro (c : Dc)
  /-- something new of any kind -/
  | gh (g : GSl)
def Res.seq : Res → Option (List D)
  | .va (.lst ds) => some ds
  | .va _ => none
  | .od _ => none
  | .ro _ => none
  | .gh _ => none
  | .ow ds => some ds
  | .li ds => some ds
  | .rd ds => some ds

/-- what calls may change behind one's back (a law's draws): where it stands, what holds of it (b: how much has been drawn at most) -/
structure Vol where
  S : Addr → Prop
  J : Nat → Hp → Prop
  there : ∀ b H a, J b H → S a → H a ≠ none
  stay : ∀ b H H', J b H → Fr (fun a => ¬ S a) H H' → J b H'
def noVol : Vol := ⟨fun _ => False, fun _ _ => True, fun _ _ _ _ h => h.elim, fun _ _ _ _ _ => trivial⟩

/-- a dict stands at p: its keys and values as data -/
inductive DcO (K : PySem.W.Frag) (H : Hp) (p : Addr) : Dc → Prop
  | k {kv : List (Key × V)} {ds : List (Key × D)} : H p = some (.dK kv) → kv.map (·.1) = ds.map (·.1) → RpA K H (kv.map (·.2)) (ds.map (·.2)) → DcO K H p (.k ds)
  | t {kv : List (List Key × V)} {ds : List (List Key × D)} : H p = some (.dT kv) → kv.map (·.1) = ds.map (·.1) → RpA K H (kv.map (·.2)) (ds.map (·.2)) → DcO K H p (.t ds)
theorem DcO.fr {K : PySem.W.Frag} {M : Addr → Prop} {H H' : Hp} {p : Addr} {c : Dc} (g : Fr M H H') (m : ¬ M p) (h : DcO K H p c) : DcO K H' p c := by
  cases h with
  | k e l r => exact .k (g.keep m e) l (r.fr g)
  | t e l r => exact .t (g.keep m e) l (r.fr g)
theorem DcO.some {K : PySem.W.Frag} {H : Hp} {p : Addr} {c : Dc} (h : DcO K H p c) : ∃ o, H p = .some o := by
  cases h with
  | k e _ _ => exact ⟨_, e⟩
  | t e _ _ => exact ⟨_, e⟩
/-- the lists in a dict of one's own -/
inductive DL (K : PySem.W.Frag) (H : Hp) {κ : Type} : List (κ × V) → List (κ × List D) → List Addr → Prop
  | nil : DL K H [] [] []
  | cons {k : κ} {r : Addr} {xs : List V} {es : List D} {kv : List (κ × V)} {ds : List (κ × List D)} {rs : List Addr} : H r = some (.lst xs) → RpA K H xs es → DL K H kv ds rs → DL K H ((k, .ref r) :: kv) ((k, es) :: ds) (r :: rs)
theorem DL.fr {K : PySem.W.Frag} {κ : Type} {M : Addr → Prop} {H H' : Hp} {kv : List (κ × V)} {ds : List (κ × List D)} {rs : List Addr} (g : Fr M H H') (m : ∀ r ∈ rs, ¬ M r) (h : DL K H kv ds rs) : DL K H' kv ds rs := by
  induction h with
  | nil => exact .nil
  | cons e r _ ih => exact .cons (g.keep (m _ List.mem_cons_self) e) (r.fr g) (ih fun x hx => m x (List.mem_cons_of_mem _ hx))
/-- a slot, what stands in it, the list that is its own -/
inductive Slot (K : PySem.W.Frag) (Z : Vol) (os : List Addr) (H : Hp) : Sl → Option V → List Addr → Prop
  | un {v : Option V} : Slot K Z os H .un v []
  | va {v : V} {d : D} : Rp K H v d → Slot K Z os H (.va d) (some v) []
  | ow {p : Addr} {xs : List V} {ds : List D} : H p = some (.lst xs) → RpA K H xs ds → Slot K Z os H (.ow ds) (some (.ref p)) [p]
  | li {p : Addr} {xs : List V} {ds : List D} : H p = some (.lst xs) → ¬ Z.S p → p ∉ os → RpA K H xs ds → Slot K Z os H (.li ds) (some (.ref p)) []
  | od {p : Addr} {c : Dc} : DcO K H p c → Slot K Z os H (.od c) (some (.ref p)) [p]
  | dl {p : Addr} {kv : List (List Key × V)} {ds : List (List Key × List D)} {rs : List Addr} : H p = some (.dT kv) → DL K H kv ds rs → Slot K Z os H (.dl ds) (some (.ref p)) (p :: rs)
  | dm {p : Addr} {kv : List (Key × V)} {ds : List (Key × List D)} {rs : List Addr} : H p = some (.dK kv) → DL K H kv ds rs → Slot K Z os H (.dm ds) (some (.ref p)) (p :: rs)
  | gh {g : GSl} {v : V} {o : List Addr} : g.holds K H v o → Slot K Z os H (.gh g) (some v) o
inductive Sls (K : PySem.W.Frag) (Z : Vol) (os : List Addr) (H : Hp) : List Sl → L2.St → List Addr → Prop
  | nil : Sls K Z os H [] [] []
  | cons {s : Sl} {v : Option V} {o1 : List Addr} {δ : List Sl} {σ : L2.St} {o : List Addr} : Slot K Z os H s v o1 → Sls K Z os H δ σ o → Sls K Z os H (s :: δ) (v :: σ) (o1 ++ o)

/-- where one stands: the def's context, what may change, the heap at the entry -/
structure Cn where
  X : Cx
  Z : Vol
  H0 : Hp
abbrev Cn.K (C : Cn) : PySem.W.Frag := C.X.K

/-- the state: os the def's own lists -/
structure Sts (C : Cn) (os : List Addr) (b : Nat) (δ : List Sl) (σ : L2.St) (H : Hp) : Prop where
  fr : Fr C.Z.S C.H0 H
  j : C.Z.J b H
  new : ∀ p ∈ os, C.H0 p = none ∧ ¬ C.Z.S p ∧ ∃ o, H p = some o
  sl : ∃ o : List Addr, o.Nodup ∧ (∀ p ∈ o, p ∈ os) ∧ Sls C.K C.Z os H δ σ o

/-- a value v, got from H on, behind in H', is r -/
inductive RV (K : PySem.W.Frag) (Z : Vol) (os : List Addr) (H H' : Hp) : V → Res → Prop
  | va {v : V} {d : D} : Rp K H' v d → RV K Z os H H' v (.va d)
  | ow {p : Addr} {xs : List V} {ds : List D} : H p = none → H' p = some (.lst xs) → ¬ Z.S p → RpA K H' xs ds → RV K Z os H H' (.ref p) (.ow ds)
  | li {p : Addr} {xs : List V} {ds : List D} : H' p = some (.lst xs) → ¬ Z.S p → p ∉ os → RpA K H' xs ds → RV K Z os H H' (.ref p) (.li ds)
  | rd {p : Addr} {xs : List V} {ds : List D} : H' p = some (.lst xs) → ¬ Z.S p → p ∈ os → RpA K H' xs ds → RV K Z os H H' (.ref p) (.rd ds)
  | od {p : Addr} {c : Dc} : H p = none → ¬ Z.S p → DcO K H' p c → RV K Z os H H' (.ref p) (.od c)
  | ro {p : Addr} {c : Dc} : ¬ Z.S p → p ∈ os → DcO K H' p c → RV K Z os H H' (.ref p) (.ro c)
  | gh {v : V} {g : GSl} {o : List Addr} : g.holds K H' v o → o.Nodup → (∀ p ∈ o, H p = none ∧ (∃ x, H' p = some x) ∧ ¬ Z.S p) → RV K Z os H H' v (.gh g)

section
variable {K : PySem.W.Frag} {Z : Vol} {os : List Addr} {H0 H H1 H2 : Hp} {δ : List Sl} {σ : L2.St} {v : V} {r : Res}
theorem RV.on (h : RV K Z os H H1 v r) (f : Fr Z.S H1 H2) : RV K Z os H H2 v r := by
  cases h with
  | va h => exact .va (h.fr f)
  | ow n e ns r => exact .ow n (f.keep ns e) ns (r.fr f)
  | li e ns no r => exact .li (f.keep ns e) ns no (r.fr f)
  | rd e ns no r => exact .rd (f.keep ns e) ns no (r.fr f)
  | od n ns e => exact .od n ns (e.fr f ns)
  | ro ns no e => exact .ro ns no (e.fr f ns)
  | @gh _ g o hh nd hn => exact .gh (g.stable f (fun p hp => (hn p hp).2.2) hh) nd fun p hp => ⟨(hn p hp).1, let ⟨x, e⟩ := (hn p hp).2.1; ⟨x, f.keep (hn p hp).2.2 e⟩, (hn p hp).2.2⟩
/-- got from earlier on -/
theorem RV.from (h : RV K Z os H1 H2 v r) (g : Fr Z.S H H1) : RV K Z os H H2 v r := by
  cases h with
  | va h => exact .va h
  | ow n e ns r => exact .ow (g.back n) e ns r
  | li e ns no r => exact .li e ns no r
  | rd e ns no r => exact .rd e ns no r
  | od n ns e => exact .od (g.back n) ns e
  | ro ns no e => exact .ro ns no e
  | gh hh nd hn => exact .gh hh nd fun p hp => ⟨g.back (hn p hp).1, (hn p hp).2⟩
theorem Slot.fr {s : Sl} {w : Option V} {o : List Addr} (f : Fr Z.S H H1) (ho : ∀ p ∈ o, ¬ Z.S p) (h : Slot K Z os H s w o) : Slot K Z os H1 s w o := by
  cases h with
  | un => exact .un
  | va r => exact .va (r.fr f)
  | ow e r => exact .ow (f.keep (ho _ List.mem_cons_self) e) (r.fr f)
  | li e ns no r => exact .li (f.keep ns e) ns no (r.fr f)
  | od e => exact .od (e.fr f (ho _ List.mem_cons_self))
  | dl e d => exact .dl (f.keep (ho _ List.mem_cons_self) e) (d.fr f fun r hr => ho r (List.mem_cons_of_mem _ hr))
  | dm e d => exact .dm (f.keep (ho _ List.mem_cons_self) e) (d.fr f fun r hr => ho r (List.mem_cons_of_mem _ hr))
  | @gh g _ _ h => exact .gh (g.stable f ho h)
theorem Sls.fr {o : List Addr} (f : Fr Z.S H H1) (ho : ∀ p ∈ o, ¬ Z.S p) (h : Sls K Z os H δ σ o) : Sls K Z os H1 δ σ o := by
  induction h with
  | nil => exact .nil
  | cons a _ ih => exact .cons (a.fr f fun p hp => ho p (List.mem_append_left _ hp)) (ih fun p hp => ho p (List.mem_append_right _ hp))
theorem Sls.len {o : List Addr} (h : Sls K Z os H δ σ o) : σ.length = δ.length := by
  induction h with
  | nil => rfl
  | cons _ _ ih => simp [ih]
/-- a slot is looked at -/
theorem Sls.at {o : List Addr} {i : Nat} {s : Sl} (h : Sls K Z os H δ σ o) (e : δ[i]? = some s) : ∃ w o1, σ[i]? = some w ∧ Slot K Z os H s w o1 ∧ ∀ p ∈ o1, p ∈ o := by
  induction h generalizing i with
  | nil => simp at e
  | cons a _ ih =>
    cases i with
    | zero =>
      simp at e
      subst e
      exact ⟨_, _, rfl, a, fun p hp => List.mem_append_left _ hp⟩
    | succ i =>
      obtain ⟨w, o1, h1, h2, h3⟩ := ih (by simpa using e)
      exact ⟨w, o1, by simpa using h1, h2, fun p hp => List.mem_append_right _ (h3 p hp)⟩
/-- a slot is set -/
theorem Sls.put {o : List Addr} {i : Nat} {s : Sl} {w : Option V} {q : List Addr} (h : Sls K Z os H δ σ o) (nd : o.Nodup) (hq : q.Nodup) (dis : ∀ p ∈ q, p ∉ o) (a : Slot K Z os H s w q) :
    ∃ o', o'.Nodup ∧ (∀ p ∈ o', p ∈ q ∨ p ∈ o) ∧ Sls K Z os H (δ.set i s) (σ.set i w) o' := by
  induction h generalizing i with
  | nil => exact ⟨[], List.nodup_nil, fun p hp => (nomatch hp), .nil⟩
  | @cons s1 v1 o1 δ1 σ1 o2 a1 t ih =>
    have n1 := (List.nodup_append.mp nd).1
    have n2 := (List.nodup_append.mp nd).2.1
    have n3 := (List.nodup_append.mp nd).2.2
    cases i with
    | zero =>
      refine ⟨q ++ o2, List.nodup_append.mpr ⟨hq, n2, fun x hx y hy e => ?_⟩, fun p hp => ?_, .cons a t⟩
      · subst e
        exact dis x hx (List.mem_append_right _ hy)
      · rcases List.mem_append.mp hp with z | z
        · exact .inl z
        · exact .inr (List.mem_append_right _ z)
    | succ i =>
      obtain ⟨o', h1, h2, h3⟩ := ih (i := i) n2 fun p hp z => dis p hp (List.mem_append_right _ z)
      refine ⟨o1 ++ o', List.nodup_append.mpr ⟨n1, h1, fun x hx y hy e => ?_⟩, fun p hp => ?_, .cons a1 h3⟩
      · subst e
        rcases h2 x hy with z | z
        · exact dis x z (List.mem_append_left _ hx)
        · exact n3 x hx x z rfl
      · rcases List.mem_append.mp hp with z | z
        · exact .inr (List.mem_append_left _ z)
        · rcases h2 p z with y | y
          · exact .inl y
          · exact .inr (List.mem_append_right _ y)
/-- one more list of the def's own, another heap: new in H, so none of those that are only read -/
theorem Sls.more {o : List Addr} {p : Addr} (h : Sls K Z os H δ σ o) (n : H p = none) : Sls K Z (p :: os) H δ σ o := by
  induction h with
  | nil => exact .nil
  | cons a _ ih =>
    refine .cons ?_ ih
    cases a with
    | un => exact .un
    | va r => exact .va r
    | ow e r => exact .ow e r
    | li e ns no r => exact .li e ns (fun z => (List.mem_cons.mp z).elim (fun q => by rw [q, n] at e; cases e) no) r
    | od e => exact .od e
    | dl e d => exact .dl e d
    | dm e d => exact .dm e d
    | gh h => exact .gh h
/-- the own list at p is written; it is at no other slot than i -/
theorem Sls.write {o : List Addr} {p : Addr} {x y : HO} (h : Sls K Z os H δ σ o) (e : H p = some x) (l : Lk x y) (no : p ∉ o) (hp : p ∈ os) : Sls K Z os (upd H p y) δ σ o := by
  have f : Fr (fun a => a = p) H (upd H p y) := Fr.putL rfl e l
  induction h with
  | nil => exact .nil
  | cons a _ ih =>
    refine .cons ?_ (ih fun z => no (List.mem_append_right _ z))
    cases a with
    | un => exact .un
    | va r => exact .va (r.fr f)
    | ow e1 r => exact .ow (by rw [upd_ne (fun z => no (by rw [← z]; simp))]; exact e1) (r.fr f)
    | li e1 ns n1 r => exact .li (by rw [upd_ne (fun z => n1 (by rw [z]; exact hp))]; exact e1) ns n1 (r.fr f)
    | od e1 => exact .od (e1.fr f (fun z => no (by rw [← z]; simp)))
    | dl e1 d => exact .dl (by rw [upd_ne (fun z => no (by rw [← z]; simp))]; exact e1) (d.fr f fun r hr z => no (by rw [← z]; simp [hr]))
    | dm e1 d => exact .dm (by rw [upd_ne (fun z => no (by rw [← z]; simp))]; exact e1) (d.fr f fun r hr z => no (by rw [← z]; simp [hr]))
    | @gh g _ _ h => exact .gh (g.stable f (fun a ha z => no (by rw [← show a = p from z]; exact List.mem_append_left _ ha)) h)
end

section
variable {C : Cn} {os : List Addr} {b : Nat} {H H1 : Hp} {δ : List Sl} {σ : L2.St} {v : V}
theorem Sts.on {b' : Nat} (h : Sts C os b δ σ H) (f : Fr C.Z.S H H1) (j : C.Z.J b' H1) : Sts C os b' δ σ H1 := by
  obtain ⟨o, nd, sub, sl⟩ := h.sl
  exact ⟨h.fr.trans f, j, fun p hp => ⟨(h.new p hp).1, (h.new p hp).2.1, let ⟨o, e⟩ := (h.new p hp).2.2; ⟨o, f.keep (h.new p hp).2.1 e⟩⟩, o, nd, sub, sl.fr f fun p hp => (h.new p (sub p hp)).2.1⟩
/-- how the heap and the own lists go on -/
structure Gr (Z : Vol) (os : List Addr) (H : Hp) (os' : List Addr) (H' : Hp) : Prop where
  fr : Fr (fun a => Z.S a ∨ a ∈ os) H H'
  os : ∀ q ∈ os', q ∈ os ∨ H q = none
theorem Gr.refl {Z : Vol} : Gr Z os H os H := ⟨Fr.refl, fun _ h => .inl h⟩
theorem Gr.trans {Z : Vol} {os1 os2 : List Addr} {H2 : Hp} (a : Gr Z os H os1 H1) (b : Gr Z os1 H1 os2 H2) : Gr Z os H os2 H2 := by
  refine ⟨fun x o e => ?_, fun q hq => ?_⟩
  · rcases a.fr x o e with e1 | ⟨m, p, e1, l⟩
    · rcases b.fr x o e1 with e2 | ⟨m, l⟩
      · exact .inl e2
      · rcases m with m | m
        · exact .inr ⟨.inl m, l⟩
        · rcases a.os x m with z | z
          · exact .inr ⟨.inr z, l⟩
          · rw [z] at e; cases e
    · rcases b.fr x p e1 with e2 | ⟨_, q, e2, l2⟩
      · exact .inr ⟨m, p, e2, l⟩
      · exact .inr ⟨m, q, e2, l.trans l2⟩
  · rcases b.os q hq with z | z
    · exact a.os q z
    · exact .inr (a.fr.back z)
theorem Gr.of {Z : Vol} (f : Fr Z.S H H1) : Gr Z os H os H1 := ⟨f.wide fun _ => .inl, fun _ h => .inl h⟩
end

/-! ### the judgements, by what they mean -/
def WE (X : Cx) (e : Expr) : TE := fun σ H Q => ∀ (pins : List (Addr × Obj)) (s : Shared), Inv X pins σ H s → wpAny (model X.prog X.w) X.A (eval e X.env) (EP X pins σ Q) X.xe s
def WT (X : Cx) (e : Expr) : TT := fun σ H Q => ∀ (pins : List (Addr × Obj)) (s : Shared), Inv X pins σ H s → wpAny (model X.prog X.w) X.A (isTrue e X.env (eval e X.env)) (TP X pins σ Q) X.xe s
def WWT (X : Cx) (e : Expr) : TT := fun σ H Q => ∀ (whole : Sem Value) (pins : List (Addr × Obj)) (s : Shared), Inv X pins σ H s → wpAny (model X.prog X.w) X.A (isTrue e X.env whole) (TP X pins σ Q) X.xe s
def WA (X : Cx) (es : List Expr) : TA := fun σ H Q => ∀ (pos : Pos) (pins : List (Addr × Obj)) (s : Shared), Inv X pins σ H s → wpAny (model X.prog X.w) X.A (spliced (backTo pos (starEach es X.env))) (AP X pins σ Q) X.xe s
def WSs (X : Cx) (st : List Stmt) : TS := fun D σ H => ∀ (pins : List (Addr × Obj)) (s : Shared), Inv X pins σ H s → wpAny (model X.prog X.w) X.A (execs st X.env) (SP X pins D) X.xe s
section
variable {X : Cx} {e : Expr} {es : List Expr} {st : Stmt} {ss : List Stmt} {σ : L2.St} {H : Hp}
theorem peW : PE X e (WE X e) := ⟨fun pins s _ _ _ I h => h pins s I⟩
theorem ptW : PT X e (WT X e) := ⟨fun pins s _ _ _ I h => h pins s I⟩
theorem pwW : PW X e (WWT X e) := ⟨fun w pins s _ _ _ I h => h w pins s I⟩
theorem paW : PA X es (WA X es) := ⟨fun pos pins s _ _ _ I h => h pos pins s I⟩
theorem pssW : PSs X ss (WSs X ss) := ⟨fun pins s _ _ _ I h => h pins s I⟩
theorem WE.of {t : TE} {Q : VK} (p : PE X e t) (h : t σ H Q) : WE X e σ H Q := fun pins s I => p.run pins s σ H Q I h
theorem WT.of {t : TT} {Q : Bool → Hp → Prop} (p : PT X e t) (h : t σ H Q) : WT X e σ H Q := fun pins s I => p.run pins s σ H Q I h
theorem WWT.of {t : TT} {Q : Bool → Hp → Prop} (p : PW X e t) (h : t σ H Q) : WWT X e σ H Q := fun w pins s I => p.run w pins s σ H Q I h
theorem WA.of {t : TA} {Q : List V → Hp → Prop} (p : PA X es t) (h : t σ H Q) : WA X es σ H Q := fun pos pins s I => p.run pos pins s σ H Q I h
theorem WSs.of {t : TS} {D : Ends} (p : PSs X ss t) (h : t D σ H) : WSs X ss D σ H := fun pins s I => p.run pins s σ H D I h
end

inductive RVs (K : PySem.W.Frag) (Z : Vol) (os : List Addr) (H H' : Hp) : List V → List Res → Prop
  | nil : RVs K Z os H H' [] []
  | cons {v : V} {vs : List V} {r : Res} {rs : List Res} : RV K Z os H H' v r → RVs K Z os H H' vs rs → RVs K Z os H H' (v :: vs) (r :: rs)

def EV (C : Cn) (b : Nat) (δ : List Sl) (e : Expr) (P : Nat → Res → Prop) : Prop :=
  ∀ os σ H, Sts C os b δ σ H → ∀ Q : VK, (∀ v H' b' r, Fr C.Z.S H H' → C.Z.J b' H' → RV C.K C.Z os H H' v r → P b' r → Q v H') → WE C.X e σ H Q
def EVA (C : Cn) (b : Nat) (δ : List Sl) (es : List Expr) (P : Nat → List Res → Prop) : Prop :=
  ∀ os σ H, Sts C os b δ σ H → ∀ Q : List V → Hp → Prop, (∀ vs H' b' rs, Fr C.Z.S H H' → C.Z.J b' H' → RVs C.K C.Z os H H' vs rs → P b' rs → Q vs H') → WA C.X es σ H Q
def ET (C : Cn) (b : Nat) (δ : List Sl) (e : Expr) (P : Nat → Bool → Prop) : Prop :=
  ∀ os σ H, Sts C os b δ σ H → ∀ Q : Bool → Hp → Prop, (∀ k H' b', Fr C.Z.S H H' → C.Z.J b' H' → P b' k → Q k H') → WT C.X e σ H Q
/-- a test within and, or -/
def EW (C : Cn) (b : Nat) (δ : List Sl) (e : Expr) (P : Nat → Bool → Prop) : Prop :=
  ∀ os σ H, Sts C os b δ σ H → ∀ Q : Bool → Hp → Prop, (∀ k H' b', Fr C.Z.S H H' → C.Z.J b' H' → P b' k → Q k H') → WWT C.X e σ H Q
/-- where a block may end -/
structure Fin where
  N : Nat → List Sl → Prop
  B : Nat → List Sl → Prop
  T : Nat → List Sl → Prop
  R : Nat → Res → Prop
structure EndsOk (C : Cn) (F : Fin) (os : List Addr) (H : Hp) (D : Ends) : Prop where
  nx : ∀ b' δ' os' σ' H', F.N b' δ' → Sts C os' b' δ' σ' H' → Gr C.Z os H os' H' → D.nx σ' H'
  bk : ∀ b' δ' os' σ' H', F.B b' δ' → Sts C os' b' δ' σ' H' → Gr C.Z os H os' H' → D.bk σ' H'
  ct : ∀ b' δ' os' σ' H', F.T b' δ' → Sts C os' b' δ' σ' H' → Gr C.Z os H os' H' → D.ct σ' H'
  rt : ∀ v H' b' r, F.R b' r → RV C.K C.Z [] C.H0 H' v r → Fr C.Z.S C.H0 H' → C.Z.J b' H' → D.rt v H'
theorem EndsOk.on {C : Cn} {F : Fin} {os os1 : List Addr} {H H1 : Hp} {D : Ends} (h : EndsOk C F os H D) (g : Gr C.Z os H os1 H1) : EndsOk C F os1 H1 D :=
  ⟨fun b' δ' os' σ' H' n s g' => h.nx b' δ' os' σ' H' n s (g.trans g'), fun b' δ' os' σ' H' n s g' => h.bk b' δ' os' σ' H' n s (g.trans g'), fun b' δ' os' σ' H' n s g' => h.ct b' δ' os' σ' H' n s (g.trans g'), h.rt⟩
def SV (C : Cn) (b : Nat) (δ : List Sl) (ss : List Stmt) (F : Fin) : Prop :=
  ∀ os σ H, Sts C os b δ σ H → ∀ D : Ends, EndsOk C F os H D → WSs C.X ss D σ H
end PD
set_option Elab.async false
set_option linter.all false
set_option maxRecDepth 100000
set_option maxHeartbeats 4000000
namespace PD
open PySem PySem.Spec PyProof.Rows L2

/-! ### expressions -/
section
variable {C : Cn} {b : Nat} {δ : List Sl} {P : Nat → Res → Prop} {pos : Pos} {e e1 e2 : Expr} {es : List Expr}
theorem EV.imp {P' : Nat → Res → Prop} (h : EV C b δ e P) (i : ∀ b' r, P b' r → P' b' r) : EV C b δ e P' := fun os σ H st Q k => h os σ H st Q fun v H' b' r f j rv p => k v H' b' r f j rv (i b' r p)
theorem ev_var (i : Nat) {x : Str} {d : D} (h : δ[i]? = some (.va d)) (q : P b (.va d)) (hN : C.X.N[i]? = some x := by rfl)
    (hv : Vis C.X.env.scope x := by first | exact Or.inl rfl | exact Or.inr (Or.inl rfl) | exact Or.inr (Or.inr rfl)) (hd : (x == ("__debug__" : Str)) = false := by decide) (hcd : (x == ("__classdict__" : Str)) = false := by decide) : EV C b δ (.Name x pos) P := by
  intro os σ H st Q k
  obtain ⟨o, _, sub, sl⟩ := st.sl
  obtain ⟨w, o1, e, a, _⟩ := sl.at h
  cases a with
  | va r => exact WE.of (pe_var hN hv hd hcd) ⟨_, e, k _ H b _ Fr.refl st.j (.va r) q⟩
theorem ev_varO (i : Nat) {x : Str} {ds : List D} (h : δ[i]? = some (.ow ds)) (q : P b (.rd ds)) (hN : C.X.N[i]? = some x := by rfl)
    (hv : Vis C.X.env.scope x := by first | exact Or.inl rfl | exact Or.inr (Or.inl rfl) | exact Or.inr (Or.inr rfl)) (hd : (x == ("__debug__" : Str)) = false := by decide) (hcd : (x == ("__classdict__" : Str)) = false := by decide) : EV C b δ (.Name x pos) P := by
  intro os σ H st Q k
  obtain ⟨o, _, sub, sl⟩ := st.sl
  obtain ⟨w, o1, e, a, ho⟩ := sl.at h
  cases a with
  | ow e1 r =>
    have hp := sub _ (ho _ List.mem_cons_self)
    exact WE.of (pe_var hN hv hd hcd) ⟨_, e, k _ H b _ Fr.refl st.j (.rd e1 (st.new _ hp).2.1 hp r) q⟩
theorem ev_int {i : Int} {j : Nat} (q : P b (.va (.int i))) : EV C b δ (.Constant (.int i) j pos) P := fun os σ H st Q k => WE.of pe_int (k _ H b _ Fr.refl st.j (.va (.int i)) q)
theorem ev_str {x : Str} {j : Nat} (q : P b (.va (.str x))) : EV C b δ (.Constant (.str x) j pos) P := fun os σ H st Q k => WE.of pe_str (k _ H b _ Fr.refl st.j (.va (.str x)) q)
theorem ev_bl {k0 : Bool} {j : Nat} (q : P b (.va (.bl k0))) : EV C b δ (.Constant (.bool k0) j pos) P := fun os σ H st Q k => WE.of pe_bl (k _ H b _ Fr.refl st.j (.va (.bl k0)) q)
theorem ev_non {j : Nat} (q : P b (.va .non)) : EV C b δ (.Constant .none j pos) P := fun os σ H st Q k => WE.of pe_non (k _ H b _ Fr.refl st.j (.va .non) q)
/-- a constant of the module -/
theorem ev_glS {x y : Str} {t : Tok} (hm : C.X.mg x = some (.str y t)) (q : P b (.va (.str y))) (hg : Gl C.X x := by rfl) (hd : (x == ("__debug__" : Str)) = false := by decide) : EV C b δ (.Name x pos) P :=
  fun os σ H st Q k => WE.of (pe_glob hg hm (v := .str y) ⟨t, rfl⟩ hd) (k _ H b _ Fr.refl st.j (.va (.str y)) q)
theorem ev_glI {x : Str} {i : Int} {t : Tok} (hm : C.X.mg x = some (.int i t)) (q : P b (.va (.int i))) (hg : Gl C.X x := by rfl) (hd : (x == ("__debug__" : Str)) = false := by decide) : EV C b δ (.Name x pos) P :=
  fun os σ H st Q k => WE.of (pe_glob hg hm (v := .int i) ⟨t, rfl⟩ hd) (k _ H b _ Fr.refl st.j (.va (.int i)) q)

/-! several in a row -/
theorem eva_nil {P : Nat → List Res → Prop} (q : P b []) : EVA C b δ [] P := fun os σ H st Q k => WA.of pa_nil (k [] H b [] Fr.refl st.j .nil q)
theorem eva_cons {P : Nat → List Res → Prop} (h : EV C b δ e (fun b' r => EVA C b' δ es fun b2 rs => P b2 (r :: rs))) (hs : starEach (e :: es) C.X.env = (false, eval e C.X.env) :: starEach es C.X.env := by rfl) : EVA C b δ (e :: es) P := by
  intro os σ H st Q k
  refine WA.of (pa_cons peW paW hs) ?_
  refine h os σ H st _ fun v H1 b1 r f1 j1 rv hr => ?_
  refine hr os σ H1 (st.on f1 j1) _ fun vs H2 b2 rs f2 j2 rvs hq => ?_
  have up : ∀ {vs : List V} {rs : List Res}, RVs C.K C.Z os H1 H2 vs rs → RVs C.K C.Z os H H2 vs rs := by
    intro vs rs h
    induction h with
    | nil => exact .nil
    | cons a _ ih => exact .cons (a.from f1) ih
  exact k _ H2 b2 _ (f1.trans f2) j2 (.cons (rv.on f2) (up rvs)) hq
def vas : List Res → Option (List D)
  | [] => some []
  | .va d :: rs => (vas rs).map (d :: ·)
  | _ :: _ => none
theorem rvs_vas {K : PySem.W.Frag} {Z : Vol} {os : List Addr} {H H' : Hp} {vs : List V} {rs : List Res} {ds : List D} (h : RVs K Z os H H' vs rs) (e : vas rs = some ds) : RpA K H' vs ds := by
  induction h generalizing ds with
  | nil => cases e; exact .nil
  | @cons v vs r rs a _ ih =>
    cases a with
    | @va _ d a =>
      simp only [vas] at e
      cases e2 : vas rs with
      | none => rw [e2] at e; cases e
      | some l =>
        rw [e2] at e
        cases e
        exact .cons a (ih e2)
    | _ => cases e
theorem sz1 {n : Nat} (h : n ≤ 16000000) : n ≤ sizeLine := Nat.le_trans h (by decide)
theorem ev_tup {x1 : Nat} (h : EVA C b δ es (fun b' rs => ∃ ds, vas rs = some ds ∧ ds.length ≤ 16000000 ∧ P b' (.va (.tup ds)))) : EV C b δ (.Tuple es x1 pos) P := by
  intro os σ H st Q k
  refine WE.of (pe_tup paW) ?_
  refine h os σ H st _ fun vs H1 b1 rs f1 j1 rv hr => ?_
  obtain ⟨ds, e, hl, q⟩ := hr
  have ra := rvs_vas rv e
  refine ⟨by rw [ra.len]; exact sz1 hl, fun p hp => ?_⟩
  have fn : Fr C.Z.S H1 (upd H1 p (.tup vs)) := Fr.new hp
  refine k _ _ b1 _ (f1.trans fn) (C.Z.stay _ _ _ j1 (Fr.new hp)) (.va (.tup (.h upd_same) (ra.fr fn))) q
theorem jnew {Z : Vol} {b : Nat} {H : Hp} {p : Addr} {o : HO} (j : Z.J b H) (hp : H p = none) : Z.J b (upd H p o) := Z.stay _ _ _ j (Fr.new hp)
theorem snew {Z : Vol} {b : Nat} {H : Hp} {p : Addr} (j : Z.J b H) (hp : H p = none) : ¬ Z.S p := fun s => Z.there b H p j s hp
theorem ev_lst (h : EVA C b δ es (fun b' rs => ∃ ds, vas rs = some ds ∧ ds.length ≤ 16000000 ∧ P b' (.ow ds))) : EV C b δ (.List es pos) P := by
  intro os σ H st Q k
  refine WE.of (pe_lst paW) ?_
  refine h os σ H st _ fun vs H1 b1 rs f1 j1 rv hr => ?_
  obtain ⟨ds, e, hl, q⟩ := hr
  have ra := rvs_vas rv e
  refine ⟨by rw [ra.len]; exact sz1 hl, fun p hp => ?_⟩
  have fn : Fr C.Z.S H1 (upd H1 p (.lst vs)) := Fr.new hp
  exact k _ _ b1 _ (f1.trans fn) (jnew j1 hp) (.ow (f1.back hp) upd_same (snew j1 hp) (ra.fr fn)) q
/-! operators on values: r by values, told by data -/
theorem ev_bin {op : Operator} {r : R2} (ho : OpR C.X (binaryOp op) r)
    (h : EV C b δ e1 (fun b1 r1 => EV C b1 δ e2 fun b2 r2 => ∀ (os : List Addr) (H H' : Hp) (x y : V), C.Z.J b2 H' → RV C.K C.Z os H H' x r1 → RV C.K C.Z os H H' y r2 → ∀ Q : VK, (∀ v H2 r3, Fr C.Z.S H' H2 → C.Z.J b2 H2 → RV C.K C.Z os H' H2 v r3 → P b2 r3 → Q v H2) → r x y H' Q)) : EV C b δ (.BinOp e1 op e2 pos) P := by
  intro os σ H st Q k
  refine WE.of (pe_op ho peW peW) ?_
  refine h os σ H st _ fun v1 H1 b1 r1 f1 j1 rv1 h2 => ?_
  refine h2 os σ H1 (st.on f1 j1) _ fun v2 H2 b2 r2 f2 j2 rv2 h3 => ?_
  exact h3 os H H2 v1 v2 j2 (rv1.on f2) (rv2.from f1) _ fun v H3 r3 f3 j3 rv3 p => k v H3 b2 r3 ((f1.trans f2).trans f3) j3 (rv3.from (f1.trans f2)) p
theorem ev_cmp {op : CmpOp} {r : R2} (ho : OpR C.X (compareOp op) r) (hm : behindInMarks op e2 = false)
    (h : EV C b δ e1 (fun b1 r1 => EV C b1 δ e2 fun b2 r2 => ∀ (os : List Addr) (H H' : Hp) (x y : V), C.Z.J b2 H' → RV C.K C.Z os H H' x r1 → RV C.K C.Z os H H' y r2 → ∀ Q : VK, (∀ k, P b2 (.va (.bl k)) → Q (.bl k) H') → r x y H' Q)) : EV C b δ (.Compare e1 [op] [e2] pos) P := by
  intro os σ H st Q k
  refine WE.of (pe_cmpR ho peW peW hm) ?_
  refine h os σ H st _ fun v1 H1 b1 r1 f1 j1 rv1 h2 => ?_
  refine h2 os σ H1 (st.on f1 j1) _ fun v2 H2 b2 r2 f2 j2 rv2 h3 => ?_
  exact h3 os H H2 v1 v2 j2 (rv1.on f2) (rv2.from f1) _ fun kk p => k _ H2 b2 _ (f1.trans f2) j2 (.va (.bl kk)) p
/-- every expression is a test by its truth; where it is a truth value -/
theorem et_val {Pt : Nat → Bool → Prop} (h : EV C b δ e (fun b' r => ∃ k, r = .va (.bl k) ∧ Pt b' k))
    (he : ∀ whole, isTrue e C.X.env whole = (do let v ← whole; standAt e.pos; holding [v] (truthy v)) := by intro _; rfl) : ET C b δ e Pt := by
  intro os σ H st Q k
  refine WT.of (pt_truth peW he) ?_
  refine h os σ H st _ fun v H1 b1 r f j rv hr => ?_
  obtain ⟨kk, rfl, q⟩ := hr
  cases rv with | va rv => ?_
  cases rv
  exact ⟨kk, rfl, k kk H1 b1 f j q⟩
theorem et_cmp {op : CmpOp} {r : R2} {Pt : Nat → Bool → Prop} (ho : OpR C.X (compareOp op) r) (hm : behindInMarks op e2 = false)
    (h : EV C b δ e1 (fun b1 r1 => EV C b1 δ e2 fun b2 r2 => ∀ (os : List Addr) (H H' : Hp) (x y : V), C.Z.J b2 H' → RV C.K C.Z os H H' x r1 → RV C.K C.Z os H H' y r2 → ∀ Q : VK, (∀ k, Pt b2 k → Q (.bl k) H') → r x y H' Q)) : ET C b δ (.Compare e1 [op] [e2] pos) Pt := by
  intro os σ H st Q k
  refine WT.of (pt_cmpR ho peW peW hm) ?_
  refine h os σ H st _ fun v1 H1 b1 r1 f1 j1 rv1 h2 => ?_
  refine h2 os σ H1 (st.on f1 j1) _ fun v2 H2 b2 r2 f2 j2 rv2 h3 => ?_
  exact h3 os H H2 v1 v2 j2 (rv1.on f2) (rv2.from f1) _ fun kk p => ⟨kk, rfl, k kk H2 b2 (f1.trans f2) j2 p⟩
theorem et_not {Pt : Nat → Bool → Prop} (h : ET C b δ e (fun b' k => Pt b' (!k))) : ET C b δ (.UnaryOp .Not e pos) Pt := by
  intro os σ H st Q k
  refine WT.of (pt_not ptW) ?_
  exact h os σ H st _ fun kk H1 b1 f j q => k _ H1 b1 f j q
end
end PD
set_option Elab.async false
set_option linter.all false
set_option maxRecDepth 100000
set_option maxHeartbeats 4000000
namespace PD
open PySem PySem.Spec PyProof.Rows L2

/-! ### calls of own defs -/
inductive Ar where
  | va (d : D)
  | li (ds : List D)
  /-- a thing that the def doesn't look at -/
  | no
def Res.ar : Res → Ar
  | .va d => .va d
  | .ow ds => .li ds
  | .li ds => .li ds
  | .rd ds => .li ds
  | .od _ => .no
  | .ro _ => .no
  | .gh _ => .no
def Ar.sl : Ar → Sl
  | .va d => .va d
  | .li ds => .li ds
  | .no => .un
def Res.out : Res → Bool
  | .va _ => true
  | .ow _ => true
  | .od _ => true
  | .gh _ => true
  | _ => false
inductive ArV (K : PySem.W.Frag) (Z : Vol) (H : Hp) : V → Ar → Prop
  | va {v : V} {d : D} : Rp K H v d → ArV K Z H v (.va d)
  | li {p : Addr} {xs : List V} {ds : List D} : H p = some (.lst xs) → ¬ Z.S p → RpA K H xs ds → ArV K Z H (.ref p) (.li ds)
  | no {v : V} : ArV K Z H v .no
inductive ArVs (K : PySem.W.Frag) (Z : Vol) (H : Hp) : List V → List Ar → Prop
  | nil : ArVs K Z H [] []
  | cons {v : V} {vs : List V} {a : Ar} {as : List Ar} : ArV K Z H v a → ArVs K Z H vs as → ArVs K Z H (v :: vs) (a :: as)
theorem RV.ar {K : PySem.W.Frag} {Z : Vol} {os : List Addr} {H H' : Hp} {v : V} {r : Res} (h : RV K Z os H H' v r) : ArV K Z H' v r.ar := by
  cases h with
  | va h => exact .va h
  | ow n e ns r => exact .li e ns r
  | li e ns no r => exact .li e ns r
  | rd e ns no r => exact .li e ns r
  | od n ns e => exact .no
  | ro ns no e => exact .no
  | gh _ _ _ => exact .no
theorem RVs.ar {K : PySem.W.Frag} {Z : Vol} {os : List Addr} {H H' : Hp} {vs : List V} {rs : List Res} (h : RVs K Z os H H' vs rs) : ArVs K Z H' vs (rs.map Res.ar) := by
  induction h with
  | nil => exact .nil
  | cons a _ ih => exact .cons a.ar ih
theorem ArVs.len {K : PySem.W.Frag} {Z : Vol} {H : Hp} {vs : List V} {as : List Ar} (h : ArVs K Z H vs as) : vs.length = as.length := by
  induction h with
  | nil => rfl
  | cons _ _ ih => simp [ih]
/-- what a def promises, by data: pre ahead, post behind (b: what has been drawn at most) -/
def spD (Z : Vol) (K : PySem.W.Frag) (n : Nat) (pre : Nat → List Ar → Prop) (post : Nat → List Ar → Nat → Res → Prop) : Sp := fun vs H Q _ =>
  ∃ b as, as.length = n ∧ ArVs K Z H vs as ∧ Z.J b H ∧ pre b as ∧ ∀ v H' b' r, Fr Z.S H H' → Z.J b' H' → RV K Z [] H H' v r → r.out = true → post b as b' r → Q v H'
/-- a def of the module as its callers know it -/
structure Df (P : Program) (w : World) (K : PySem.W.Frag) (mg : Str → Option Value) (base : Heap) (x : Str) (k : Nat) (ps : List Str) (sp : Sp) : Prop where
  ok : ∃ f fd, FnOk P w K mg base CX0 k f fd ps sp ∧ mg x = some (.ref f) ∧ PySem.W.keepIn K (.ref f) = true ∧ Binds K fd ps []
theorem RV.any {K : PySem.W.Frag} {Z : Vol} {os os' : List Addr} {H H' : Hp} {v : V} {r : Res} (h : RV K Z os H H' v r) (o : r.out = true) : RV K Z os' H H' v r := by
  cases h with
  | va h => exact .va h
  | ow n e ns r => exact .ow n e ns r
  | li e ns no r => cases o
  | rd e ns no r => cases o
  | od n ns e => exact .od n ns e
  | ro ns no e => cases o
  | gh hh nd hn => exact .gh hh nd hn
section
variable {C : Cn} {b : Nat} {δ : List Sl} {P : Nat → Res → Prop} {pos p0 : Pos} {e e1 e2 : Expr} {es : List Expr}
theorem ev_call {x : Str} {k n : Nat} {ps : List Str} {pre : Nat → List Ar → Prop} {post : Nat → List Ar → Nat → Res → Prop} (F : Df C.X.prog C.X.w C.X.K C.X.mg C.X.base x k ps (spD C.Z C.K n pre post)) (hr : Room k C.X.A)
    (h : EVA C b δ (e :: es) (fun b1 rs => rs.length = n ∧ pre b1 (rs.map Res.ar) ∧ ∀ b2 r, r.out = true → post b1 (rs.map Res.ar) b2 r → P b2 r)) (hg : Gl C.X x := by rfl)
    (hdb : (x == ("__debug__" : Str)) = false := by decide) (he : starEach (e :: es) C.X.env = (false, eval e C.X.env) :: starEach es C.X.env := by rfl) (hpl : (backTo pos (starEach es C.X.env)).any (·.1) = false := by rfl) :
    EV C b δ (.Call (.Name x p0) (e :: es) [] pos) P := by
  obtain ⟨f, fd, ok, hm, hk, hb⟩ := F.ok
  intro os σ H st Q q
  refine WE.of (pe_call ok hr hg hm hk hb .nil pass0 paW hdb he hpl) ?_
  refine h os σ H st _ fun vs H1 b1 rs f1 j1 rv hh => ?_
  obtain ⟨hl, hp, hq⟩ := hh
  show spD C.Z C.K n pre post (vs ++ []) H1 Q E0
  rw [List.append_nil]
  exact ⟨b1, rs.map Res.ar, by simpa using hl, rv.ar, j1, hp, fun v H' b' r f2 j2 rv2 ho po => q v H' b' r (f1.trans f2) j2 ((rv2.any ho).from f1) (hq b' r ho po)⟩
end

/-! ### a def's body -/
theorem sls_un {K : PySem.W.Frag} {Z : Vol} {os : List Addr} {H : Hp} : ∀ n : Nat, Sls K Z os H (List.replicate n .un) (List.replicate n none) []
  | 0 => .nil
  | n + 1 => by
    have h := Sls.cons (K := K) (Z := Z) (os := os) (H := H) (Slot.un (v := none)) (sls_un n)
    exact h
theorem sls_start {K : PySem.W.Frag} {Z : Vol} {H : Hp} {vs : List V} {as : List Ar} (h : ArVs K Z H vs as) (n : Nat) : Sls K Z [] H (as.map Ar.sl ++ List.replicate n .un) (vs.map some ++ List.replicate n none) [] := by
  induction h with
  | nil => exact sls_un n
  | cons a _ ih =>
    cases a with
    | va r =>
      have z := Sls.cons (Slot.va (K := K) (Z := Z) (os := []) (H := H) r) ih
      exact z
    | li e ns r =>
      have z := Sls.cons (Slot.li (K := K) (Z := Z) (os := []) (H := H) e ns (by simp) r) ih
      exact z
    | no =>
      exact Sls.cons .un ih
/-- what a def's block may come to -/
def retF (post : Nat → Res → Prop) : Fin := ⟨fun b' _ => post b' (.va .non), fun _ _ => False, fun _ _ => False, fun b' r => r.out = true ∧ post b' r⟩
section
variable {P : Program} {w : World} {K : PySem.W.Frag} {mg : Str → Option Value} {base : Heap} {Z : Vol}
theorem fn_body {x qual : Str} {st : Stmt} {f : Addr} {fd : FuncData} {N ps : List Str} {k n : Nat} {pre : Nat → List Ar → Prop} {post : Nat → List Ar → Nat → Res → Prop} (F : Fun K x qual st f fd) (S : FnScope N ps (defScope st)) (hn : ps.length = n)
    (body : ∀ (cdv : Value) (A : Around) (outer : List Env) (s : Shared) (H : Hp) (E : XK) (b : Nat) (as : List Ar), Room k (A.deeper (envOfC qual (defScope st) s.heap.objs.size f cdv)) → as.length = n → pre b as →
      SV ⟨(cxOf CX0 P w K mg base N qual (defScope st) f cdv A outer s H E).nox, Z, H⟩ b (as.map Ar.sl ++ List.replicate (N.length - n) .un) (defBody st) (retF (post b as))) :
    FnOk P w K mg base CX0 (k + 1) f fd ps (spD Z K n pre post) := by
  refine F.ok S (fun vs H Q E h => ?_) (fun cdv A outer s H vs Q E hr h => ?_)
  · obtain ⟨b, as, hl, hv, _⟩ := h
    rw [hv.len, hl, hn]
  · obtain ⟨b, as, hl, hv, hj, hp, hq⟩ := h
    refine ⟨_, pssW, ?_⟩
    refine body cdv A outer s H E b as hr hl hp [] _ H ⟨Fr.refl, hj, fun p z => (nomatch z), [], List.nodup_nil, fun p z => (nomatch z), ?_⟩ _ ⟨fun b' δ' os' σ' H' z s g => ?_, fun _ _ _ _ _ z _ _ => z.elim, fun _ _ _ _ _ z _ _ => z.elim, fun v H' b' r z rv f j => ?_⟩
    · show Sls K Z [] H _ (L2.start N vs) []
      unfold L2.start
      rw [hv.len, hl]
      exact sls_start hv _
    · exact hq .non H' b' (.va .non) s.fr s.j (.va .non) rfl z
    · exact hq v H' b' r f j rv z.1 z.2
theorem Df.of {x : Str} {st : Stmt} {f : Addr} {fd : FuncData} {ps : List Str} {k : Nat} {sp : Sp} (F : Fun K x x st f fd) (ok : FnOk P w K mg base CX0 k f fd ps sp) (hm : mg x = some (.ref f)) (hb : Binds K fd ps []) : Df P w K mg base x k ps sp :=
  ⟨f, fd, ok, hm, F.kp, hb⟩
end

/-! ### statements -/
def Res.sl : Res → Option Sl
  | .va d => some (.va d)
  | .ow ds => some (.ow ds)
  | .li ds => some (.li ds)
  | .rd _ => none
  | .od c => some (.od c)
  | .ro _ => none
  | .gh g => some (.gh g)
section
variable {C : Cn} {b : Nat} {δ : List Sl} {F : Fin} {pos p0 : Pos} {e e1 e2 c : Expr} {rest ss : List Stmt}
theorem sv_nil (h : F.N b δ) : SV C b δ [] F := fun os σ H st D ed => WSs.of pss_nil (ed.nx b δ os σ H h st Gr.refl)
theorem SV.imp {F' : Fin} (h : SV C b δ ss F) (n : ∀ b' δ', F.N b' δ' → F'.N b' δ') (k : ∀ b' δ', F.B b' δ' → F'.B b' δ') (t : ∀ b' δ', F.T b' δ' → F'.T b' δ') (r : ∀ b' r, F.R b' r → F'.R b' r) : SV C b δ ss F' :=
  fun os σ H st D ed => h os σ H st D ⟨fun b' δ' os' σ' H' z => ed.nx b' δ' os' σ' H' (n _ _ z), fun b' δ' os' σ' H' z => ed.bk b' δ' os' σ' H' (k _ _ z), fun b' δ' os' σ' H' z => ed.ct b' δ' os' σ' H' (t _ _ z), fun v H' b' r' z => ed.rt v H' b' r' (r _ _ z)⟩
/-- slot i gets what an expression gave -/
theorem Sts.put {os : List Addr} {σ : L2.St} {H H1 : Hp} {b1 : Nat} {r : Res} {s : Sl} {v : V} {i : Nat} (st : Sts C os b δ σ H) (f : Fr C.Z.S H H1) (j : C.Z.J b1 H1) (rv : RV C.K C.Z os H H1 v r) (hs : r.sl = some s) :
    ∃ os', Sts C os' b1 (δ.set i s) (σ.set i (some v)) H1 ∧ Gr C.Z os H os' H1 := by
  have st1 := st.on f j
  obtain ⟨o, nd, sub, sl⟩ := st1.sl
  cases rv with
  | va rv =>
    cases hs
    obtain ⟨o', n', s', l'⟩ := sl.put (i := i) nd List.nodup_nil (fun p z => (nomatch z)) (Slot.va rv)
    exact ⟨os, ⟨st1.fr, j, st1.new, o', n', fun p hp => (s' p hp).elim (fun z => (nomatch z)) (sub p), l'⟩, Gr.of f⟩
  | @ow p xs ds n e ns rv =>
    cases hs
    have hn : p ∉ os := fun z => by
      obtain ⟨x, q⟩ := (st.new p z).2.2
      rw [n] at q; cases q
    obtain ⟨o0, nd0, sub0, sl0⟩ := st.sl
    have sl1 : Sls C.K C.Z (p :: os) H1 δ σ o0 := (sl0.more n).fr f fun q hq => (st.new q (sub0 q hq)).2.1
    obtain ⟨o', n', s', l'⟩ := sl1.put (i := i) nd0 (q := [p]) (by simp) (fun q hq z => hn (sub0 p (by rw [← List.mem_singleton.mp hq]; exact z))) (Slot.ow e rv)
    refine ⟨p :: os, ⟨st1.fr, j, fun q hq => ?_, o', n', fun q hq => ?_, l'⟩, ⟨f.wide fun _ => .inl, fun q hq => ?_⟩⟩
    · rcases List.mem_cons.mp hq with z | z
      · rw [z]
        exact ⟨st.fr.back n, ns, _, e⟩
      · exact st1.new q z
    · rcases s' q hq with z | z
      · exact List.mem_cons.mpr (.inl (List.mem_singleton.mp z))
      · exact List.mem_cons_of_mem _ (sub0 q z)
    · rcases List.mem_cons.mp hq with z | z
      · rw [z]
        exact .inr n
      · exact .inl z
  | li e ns no rv =>
    cases hs
    obtain ⟨o', n', s', l'⟩ := sl.put (i := i) nd List.nodup_nil (fun p z => (nomatch z)) (Slot.li e ns no rv)
    exact ⟨os, ⟨st1.fr, j, st1.new, o', n', fun p hp => (s' p hp).elim (fun z => (nomatch z)) (sub p), l'⟩, Gr.of f⟩
  | rd e ns no rv => cases hs
  | @od p c n ns e =>
    cases hs
    have hn : p ∉ os := fun z => by
      obtain ⟨x, q⟩ := (st.new p z).2.2
      rw [n] at q; cases q
    obtain ⟨o0, nd0, sub0, sl0⟩ := st.sl
    have sl1 : Sls C.K C.Z (p :: os) H1 δ σ o0 := (sl0.more n).fr f fun q hq => (st.new q (sub0 q hq)).2.1
    obtain ⟨o', n', s', l'⟩ := sl1.put (i := i) nd0 (q := [p]) (by simp) (fun q hq z => hn (sub0 p (by rw [← List.mem_singleton.mp hq]; exact z))) (Slot.od e)
    refine ⟨p :: os, ⟨st1.fr, j, fun q hq => ?_, o', n', fun q hq => ?_, l'⟩, ⟨f.wide fun _ => .inl, fun q hq => ?_⟩⟩
    · rcases List.mem_cons.mp hq with z | z
      · rw [z]
        exact ⟨st.fr.back n, ns, e.some⟩
      · exact st1.new q z
    · rcases s' q hq with z | z
      · exact List.mem_cons.mpr (.inl (List.mem_singleton.mp z))
      · exact List.mem_cons_of_mem _ (sub0 q z)
    · rcases List.mem_cons.mp hq with z | z
      · rw [z]
        exact .inr n
      · exact .inl z
  | ro ns no e => cases hs
  | @gh _ g o1 hh nd1 hn =>
    cases hs
    have no : ∀ q ∈ o1, q ∉ os := fun q hq z => by
      obtain ⟨x, e⟩ := (st.new q z).2.2
      rw [(hn q hq).1] at e; cases e
    obtain ⟨o0, nd0, sub0, sl0⟩ := st.sl
    have more : ∀ l : List Addr, (∀ q ∈ l, H q = none) → Sls C.K C.Z (l ++ os) H δ σ o0 := by
      intro l
      induction l with
      | nil => intro _; exact sl0
      | cons q l ih => intro h; exact (ih fun x hx => h x (List.mem_cons_of_mem _ hx)).more (h q List.mem_cons_self)
    have sl1 : Sls C.K C.Z (o1 ++ os) H1 δ σ o0 := (more o1 fun q hq => (hn q hq).1).fr f fun q hq => (st.new q (sub0 q hq)).2.1
    obtain ⟨o', n', s', l'⟩ := sl1.put (i := i) nd0 nd1 (fun q hq z => no q hq (sub0 q z)) (Slot.gh hh)
    refine ⟨o1 ++ os, ⟨st1.fr, j, fun q hq => ?_, o', n', fun q hq => ?_, l'⟩, ⟨f.wide fun _ => .inl, fun q hq => ?_⟩⟩
    · rcases List.mem_append.mp hq with z | z
      · exact ⟨st.fr.back (hn q z).1, (hn q z).2.2, (hn q z).2.1⟩
      · exact st1.new q z
    · rcases s' q hq with z | z
      · exact List.mem_append_left _ z
      · exact List.mem_append_right _ (sub0 q z)
    · rcases List.mem_append.mp hq with z | z
      · exact .inr (hn q z).1
      · exact .inl z
theorem sv_set (i : Nat) {x : Str} (h : EV C b δ e (fun b1 r => ∃ s, r.sl = some s ∧ SV C b1 (δ.set i s) rest F)) (hN : C.X.N.Nodup) (hi : C.X.N[i]? = some x := by rfl) (hx : Loc C.X.env.scope x := by first | exact Or.inl rfl | exact Or.inr rfl)
    (hs : swapsWith e (some (.Name x p0)) pos.line C.X.env = pure false := by rfl) (hf : C.X.fn x = true ∨ C.X.env.scope.names.lookup x = some .local := by first | exact .inl rfl | exact .inr rfl) : SV C b δ (.Assign [.Name x p0] e pos :: rest) F := by
  intro os σ H st D ed
  refine WSs.of (pss_cons (ps_set hN hi hx peW hs hf) pssW) ?_
  refine h os σ H st _ fun v H1 b1 r f1 j1 rv hr => ?_
  obtain ⟨s, hs, q⟩ := hr
  obtain ⟨os', st', g⟩ := st.put (i := i) f1 j1 rv hs
  exact q os' _ H1 st' D (ed.on g)
theorem sv_ret (h : EV C b δ e (fun b' r => F.R b' r)) (ho : ∀ b' r, F.R b' r → r.out = true := by exact fun _ _ h => h.1) : SV C b δ (.Return (some e) pos :: rest) F := by
  intro os σ H st D ed
  refine WSs.of (pss_cons (ps_ret peW) pssW) ?_
  refine h os σ H st _ fun v H1 b1 r f1 j1 rv hr => ?_
  exact ed.rt v H1 b1 r hr ((rv.any (ho _ _ hr)).from st.fr) (st.fr.trans f1) j1
/-- return of a list of one's own, by its name -/
theorem sv_retO (i : Nat) {x : Str} {ds : List D} (h : δ[i]? = some (.ow ds)) (q : F.R b (.ow ds)) (hN : C.X.N[i]? = some x := by rfl)
    (hv : Vis C.X.env.scope x := by first | exact Or.inl rfl | exact Or.inr (Or.inl rfl) | exact Or.inr (Or.inr rfl)) (hd : (x == ("__debug__" : Str)) = false := by decide) (hcd : (x == ("__classdict__" : Str)) = false := by decide) :
    SV C b δ (.Return (some (.Name x p0)) pos :: rest) F := by
  intro os σ H st D ed
  refine WSs.of (pss_cons (ps_ret (pe_var hN hv hd hcd)) pssW) ?_
  obtain ⟨o, _, sub, sl⟩ := st.sl
  obtain ⟨w, o1, e, a, ho⟩ := sl.at h
  cases a with
  | ow e1 r =>
    obtain ⟨n, ns, _⟩ := st.new _ (sub _ (ho _ List.mem_cons_self))
    exact ⟨_, e, ed.rt _ H b _ q (.ow n e1 ns r) st.fr st.j⟩
theorem sv_if (h : ET C b δ c (fun b1 k => if k = true then SV C b1 δ ss { F with N := fun b2 δ2 => SV C b2 δ2 rest F } else SV C b1 δ els { F with N := fun b2 δ2 => SV C b2 δ2 rest F })) : SV C b δ (.If c ss els pos :: rest) F := by
  intro os σ H st D ed
  refine WSs.of (pss_cons (ps_if ptW pssW pssW) pssW) ?_
  refine h os σ H st _ fun k H1 b1 f1 j1 hk => ?_
  have st1 := st.on f1 j1
  have ed1 := ed.on (Gr.of (os := os) f1)
  have ed2 : EndsOk C { F with N := fun b2 δ2 => SV C b2 δ2 rest F } os H1 { D with nx := WSs C.X rest D } :=
    ⟨fun b' δ' os' σ' H' n s g => n os' σ' H' s D (ed1.on g), ed1.bk, ed1.ct, ed1.rt⟩
  cases k with
  | true => exact hk os σ H1 st1 _ ed2
  | false => exact hk os σ H1 st1 _ ed2
theorem sv_expr (h : EV C b δ e (fun b1 _ => SV C b1 δ rest F)) (hs : swapsWith e none pos.line C.X.env = pure false := by rfl) : SV C b δ (.Expr e pos :: rest) F := by
  intro os σ H st D ed
  refine WSs.of (pss_cons (ps_expr peW hs) pssW) ?_
  refine h os σ H st _ fun v H1 b1 r f1 j1 rv hr => ?_
  exact hr os σ H1 (st.on f1 j1) D (ed.on (Gr.of f1))
end
end PD
set_option Elab.async false
set_option linter.all false
set_option maxRecDepth 100000
set_option maxHeartbeats 4000000
namespace PD
open PySem PySem.Spec PyProof.Rows L2

section
variable {C : Cn} {b : Nat} {δ : List Sl} {P : Nat → Res → Prop} {Pt : Nat → Bool → Prop} {pos p0 : Pos} {e e1 e2 c : Expr} {es : List Expr}
/-! ### and, or, not, if .. else -/
theorem ev_one {op : BoolOp} (h : EV C b δ e P) : EV C b δ (.BoolOp op [e] pos) P := fun os σ H st Q k => WE.of (pe_one peW) (h os σ H st Q k)
theorem ev_and (h : EV C b δ e (fun b1 r => ∃ k, r = .va (.bl k) ∧ if k = true then EV C b1 δ (.BoolOp .And (e2 :: es) pos) P else P b1 (.va (.bl false)))) : EV C b δ (.BoolOp .And (e :: e2 :: es) pos) P := by
  intro os σ H st Q q
  refine WE.of (pe_and peW peW) ?_
  refine h os σ H st _ fun v H1 b1 r f j rv hr => ?_
  obtain ⟨k, rfl, hk⟩ := hr
  cases rv with | va rv => ?_
  cases rv
  refine ⟨k, rfl, ?_⟩
  cases k with
  | true => exact hk os σ H1 (st.on f j) Q fun v H2 b2 r2 f2 j2 rv2 p => q v H2 b2 r2 (f.trans f2) j2 (rv2.from f) p
  | false => exact q _ H1 b1 _ f j (.va (.bl false)) hk
theorem ev_or (h : EV C b δ e (fun b1 r => ∃ k, r = .va (.bl k) ∧ if k = true then P b1 (.va (.bl true)) else EV C b1 δ (.BoolOp .Or (e2 :: es) pos) P)) : EV C b δ (.BoolOp .Or (e :: e2 :: es) pos) P := by
  intro os σ H st Q q
  refine WE.of (pe_or peW peW) ?_
  refine h os σ H st _ fun v H1 b1 r f j rv hr => ?_
  obtain ⟨k, rfl, hk⟩ := hr
  cases rv with | va rv => ?_
  cases rv
  refine ⟨k, rfl, ?_⟩
  cases k with
  | true => exact q _ H1 b1 _ f j (.va (.bl true)) hk
  | false => exact hk os σ H1 (st.on f j) Q fun v H2 b2 r2 f2 j2 rv2 p => q v H2 b2 r2 (f.trans f2) j2 (rv2.from f) p
theorem ev_if (h : ET C b δ c (fun b1 k => if k = true then EV C b1 δ e P else EV C b1 δ e2 P)) : EV C b δ (.IfExp c e e2 pos) P := by
  intro os σ H st Q q
  refine WE.of (pe_ifExp ptW peW peW) ?_
  refine h os σ H st _ fun k H1 b1 f j hk => ?_
  cases k with
  | true => exact hk os σ H1 (st.on f j) Q fun v H2 b2 r2 f2 j2 rv2 p => q v H2 b2 r2 (f.trans f2) j2 (rv2.from f) p
  | false => exact hk os σ H1 (st.on f j) Q fun v H2 b2 r2 f2 j2 rv2 p => q v H2 b2 r2 (f.trans f2) j2 (rv2.from f) p
/-- and, or as a test: the parts are tests -/
theorem et_pw (h : EW C b δ e Pt) : ET C b δ e Pt := fun os σ H st Q k => WT.of pwW.pt (h os σ H st Q k)
theorem ew_and1 (h : ET C b δ e Pt) : EW C b δ (.BoolOp .And [e] pos) Pt := fun os σ H st Q k => WWT.of (pw_and1 ptW) (h os σ H st Q k)
theorem ew_or1 (h : ET C b δ e Pt) : EW C b δ (.BoolOp .Or [e] pos) Pt := fun os σ H st Q k => WWT.of (pw_or1 ptW) (h os σ H st Q k)
theorem ew_and (h : ET C b δ e (fun b1 k => if k = true then EW C b1 δ (.BoolOp .And (e2 :: es) pos) Pt else Pt b1 false)) : EW C b δ (.BoolOp .And (e :: e2 :: es) pos) Pt := by
  intro os σ H st Q q
  refine WWT.of (pw_and ptW pwW) ?_
  refine h os σ H st _ fun k H1 b1 f j hk => ?_
  cases k with
  | true => exact hk os σ H1 (st.on f j) Q fun k2 H2 b2 f2 j2 p => q k2 H2 b2 (f.trans f2) j2 p
  | false => exact q false H1 b1 f j hk
theorem ew_or (h : ET C b δ e (fun b1 k => if k = true then Pt b1 true else EW C b1 δ (.BoolOp .Or (e2 :: es) pos) Pt)) : EW C b δ (.BoolOp .Or (e :: e2 :: es) pos) Pt := by
  intro os σ H st Q q
  refine WWT.of (pw_or ptW pwW) ?_
  refine h os σ H st _ fun k H1 b1 f j hk => ?_
  cases k with
  | true => exact q true H1 b1 f j hk
  | false => exact hk os σ H1 (st.on f j) Q fun k2 H2 b2 f2 j2 p => q k2 H2 b2 (f.trans f2) j2 p

/-! ### calls of built-ins: r by values, told by data -/
end
end PD
set_option Elab.async false
set_option linter.all false
set_option maxRecDepth 100000
set_option maxHeartbeats 4000000
namespace PD
open PySem PySem.Spec PyProof.Rows L2

/-! ### kinds -/
def D.ty : D → String
  | .non => "NoneType" | .bl _ => "bool" | .int _ => "int" | .str _ => "str" | .tup _ => "tuple" | .obj t _ => t.name | .lst _ => "list" | .dk _ => "dict" | .dt _ => "dict" | .pt _ => "tuple"
def Res.ty : Res → String
  | .va d => d.ty
  | .od _ => "dict"
  | .ro _ => "dict"
  | _ => "list"
def Res.tyB : Res → String → Option Bool
  | .gh _, _ => none
  | r, t => kitB r.ty t
theorem tyB_kit {r : Res} {t : String} {k : Bool} (h : r.tyB t = some k) : kitB r.ty t = some k := by
  cases r with
  | gh _ => cases h
  | _ => exact h
/-- its type; a frozen dict of tuple keys apart -/
def TyZ (K : PySem.W.Frag) (H : Hp) (v : V) (t : Value) : Prop := TyX K H v t ∨ ∃ a o kvs, v = .ref a ∧ H a = some (.frz o (.dT kvs)) ∧ t = .type "dict"
theorem kit_ofZ {X : Cx} {pins : List (Addr × Obj)} {σ : L2.St} {H : Hp} {s : Shared} {x : V} {u t : Value} (I : Inv X pins σ H s) (rx : RelV x u) (ty : TyZ X.K H x t) : ∃ P : Heap → Prop, PySem.W.KitX X.K u t P ∧ P s.heap ∧ u ≠ .builtin "__main__.__loader__#opaque" := by
  rcases ty with ty | ⟨a, ob, kvs, rfl, ea, rfl⟩
  · exact kit_of I rx ty
  · cases (show u = Value.ref a from rx)
    obtain ⟨_, _, _, vs, _, o, es, ep, h1, h2, _⟩ := (show ObjOk X.prog X.w H s.heap a (.frz ob (.dT kvs)) from I.hok a _ ea)
    exact ⟨_, PySem.W.kitx_dict, ⟨o, h1, h2.1⟩, fun z => nomatch z⟩
def rIsiZ (K : PySem.W.Frag) : List V → Hp → VK → Prop := fun xs H Q => ∃ (x c : V) (t u : Value) (b : Bool), xs = [x, c] ∧ ClsV c u ∧ TyZ K H x t ∧ PySem.W.kitOne K t u = some b ∧ Q (.bl b) H
theorem call_isiZ {X : Cx} : CallR X (.builtin "isinstance") (rIsiZ X.K) := by
  intro pins s σ H xs us Q I r h
  obtain ⟨x, c, t, u, b, rfl, k, ty, e, q⟩ := h
  obtain ⟨u1, u2, rfl, r1, r2⟩ := vals2 r
  have e2 := k.eq r2
  subst e2
  obtain ⟨P, Z, p, hx⟩ := kit_ofZ I r1 ty
  exact PySem.W.kia_one Z I.kIn p e hx fun tk => ⟨.bl b, H, I.tok tk, rfl, q⟩
theorem rp_ty {K : PySem.W.Frag} {H : Hp} {v : V} {d : D} (h : Rp K H v d) : TyZ K H v (.type d.ty) := by
  cases h with
  | non => exact .inl (.base .non)
  | bl b => exact .inl (.base (.bl b))
  | int i => exact .inl (.base (.int i))
  | str x => exact .inl (.base (.str x))
  | tup h r =>
    cases h with
    | h e => exact .inl (.base (.tup e))
    | c _ e c => exact .inl (.kTuple e c)
  | obj h =>
    cases h with
    | l e =>
      rcases e with e | ⟨o, e⟩
      · exact .inl (.base (.lst e))
      · exact .inl (.base (.frz e))
    | d e =>
      rcases e with e | ⟨o, e⟩
      · exact .inl (.base (.dK e))
      · exact .inl (.fDict e)
    | u e1 e2 _ _ => exact .inl (.kTuple e1 e2)
  | lst e _ => exact .inl (.base (.frz e))
  | dicK e _ _ => exact .inl (.fDict e)
  | dicT e _ _ => exact .inr ⟨_, _, _, rfl, e, rfl⟩
  | ptup e _ _ => exact .inl (.fTuple e)
theorem dco_ty {K : PySem.W.Frag} {H : Hp} {p : Addr} {c : Dc} (h : DcO K H p c) : TyX K H (.ref p) (.type "dict") := by
  cases h with
  | k e _ _ => exact .base (.dK e)
  | t e _ _ => exact .base (.dT e)
theorem rv_ty {K : PySem.W.Frag} {Z : Vol} {os : List Addr} {H H' : Hp} {v : V} {r : Res} (h : RV K Z os H H' v r) {t : String} {k : Bool} (hk : r.tyB t = some k) : TyZ K H' v (.type r.ty) := by
  cases h with
  | va h => exact rp_ty h
  | ow n e ns r => exact .inl (.base (.lst e))
  | li e ns no r => exact .inl (.base (.lst e))
  | rd e ns no r => exact .inl (.base (.lst e))
  | od n ns e => exact .inl (dco_ty e)
  | ro ns no e => exact .inl (dco_ty e)
  | gh _ _ _ => cases hk
theorem rp_bls {K : PySem.W.Frag} {H : Hp} : ∀ {xs : List V} {bs : List Bool}, RpA K H xs (bs.map D.bl) → xs = bs.map V.bl
  | _, [], .nil => rfl
  | _, k :: bs, .cons a r => by
    cases a
    rw [rp_bls r]
    rfl
/-- a list that stands still for calls, or for ever -/
def LsF (Z : Vol) (H : Hp) (p : Addr) (xs : List V) : Prop := (H p = some (.lst xs) ∧ ¬ Z.S p) ∨ ∃ o, H p = some (.frz o (.lst xs))
theorem LsF.sq {Z : Vol} {H : Hp} {p : Addr} {xs : List V} {K : PySem.W.Frag} (h : LsF Z H p xs) : SqL K H p xs := by
  rcases h with ⟨h, _⟩ | h
  · exact .inl (.inl h)
  · exact .inl (.inr h)
theorem LsF.fr {Z : Vol} {H H' : Hp} {p : Addr} {xs : List V} (h : LsF Z H p xs) (f : Fr Z.S H H') : LsF Z H' p xs := by
  rcases h with ⟨h, ns⟩ | ⟨o, h⟩
  · exact .inl ⟨f.keep ns h, ns⟩
  · exact .inr ⟨o, f.frz h⟩
theorem RV.seq_ {K : PySem.W.Frag} {Z : Vol} {os : List Addr} {H H' : Hp} {v : V} {r : Res} {ds : List D} (h : RV K Z os H H' v r) (e : r.seq = some ds) : ∃ p xs, v = .ref p ∧ LsF Z H' p xs ∧ RpA K H' xs ds := by
  cases h with
  | va h =>
    cases h with
    | lst e1 r => cases e; exact ⟨_, _, rfl, .inr ⟨_, e1⟩, r⟩
    | _ => cases e
  | ow n e1 ns r => cases e; exact ⟨_, _, rfl, .inl ⟨e1, ns⟩, r⟩
  | li e1 ns no r => cases e; exact ⟨_, _, rfl, .inl ⟨e1, ns⟩, r⟩
  | rd e1 ns no r => cases e; exact ⟨_, _, rfl, .inl ⟨e1, ns⟩, r⟩
  | od n ns e1 => cases e
  | ro ns no e1 => cases e
  | gh _ _ _ => cases e

section
variable {C : Cn} {b : Nat} {δ : List Sl} {P : Nat → Res → Prop} {Pt : Nat → Bool → Prop} {pos p0 p1 : Pos} {e e1 e2 e3 c : Expr} {es : List Expr}
/-- what the module leaves of the built-in names -/
structure Blt (X : Cx) : Prop where
  isi : X.mg "isinstance" = none
  len : X.mg "len" = none
  all : X.mg "all" = none
  any : X.mg "any" = none
  tuple : X.mg "tuple" = none
  list : X.mg "list" = none
  str : X.mg "str" = none
  int : X.mg "int" = none
  bool : X.mg "bool" = none
  dict : X.mg "dict" = none
  set : X.mg "set" = none
  range : X.mg "range" = none
  enumerate : X.mg "enumerate" = none
  reversed : X.mg "reversed" = none
  sorted : X.mg "sorted" = none
  repr : X.mg "repr" = none
/-- isinstance(e, T), T a built-in class -/
theorem ev_isi {T : Str} {t : String} (B : Blt C.X) (hmT : C.X.mg T = none) (hvT : bootBuiltins T = some (.type t))
    (h : EV C b δ e (fun b1 r => ∃ k, r.tyB t = some k ∧ P b1 (.va (.bl k)))) (hg : Gl C.X "isinstance" := by rfl) (hgT : Gl C.X T := by rfl) (hnT : T ≠ "__name__" := by decide) (hdT : (T == ("__debug__" : Str)) = false := by decide)
    (hsx : starEach [e, .Name T p1] C.X.env = (false, eval e C.X.env) :: starEach [.Name T p1] C.X.env := by rfl) (hs2 : starEach [.Name T p1] C.X.env = [(false, eval (.Name T p1) C.X.env)] := by rfl) (hpl : (backTo pos (starEach [.Name T p1] C.X.env)).any (·.1) = false := by rfl) :
    EV C b δ (.Call (.Name "isinstance" p0) [e, .Name T p1] [] pos) P := by
  intro os σ H st Q q
  refine WE.of (pe_callB call_isiZ hg B.isi (by decide +kernel) (pa_cons peW (pa_cons (pe_bltn (v := .ty t) hgT hmT hvT rfl hnT hdT) pa_nil hs2) hsx) (by decide) (by decide) hsx hpl) ?_
  refine h os σ H st _ fun v H1 b1 r f1 j1 rv hh => ?_
  obtain ⟨k, hk, hq⟩ := hh
  exact ⟨v, .ty t, .type r.ty, .type t, k, rfl, .ty t, rv_ty rv hk, kit_ty (tyB_kit hk), q _ H1 b1 _ f1 j1 (.va (.bl k)) hq⟩
def D.isS : D → Bool
  | .str _ => true
  | _ => false
def D.isT : D → Bool
  | .tup _ => true
  | .pt _ => true
  | .obj .unit _ => true
  | _ => false
def D.isB : D → Bool
  | .bl _ => true
  | _ => false
def D.isD : D → Bool
  | .obj .dict _ => true
  | .dk _ => true
  | .dt _ => true
  | _ => false
theorem isi_s (d : D) : kitB d.ty "str" = some d.isS := by
  have kNoneType : kitB "NoneType" "str" = some false := by decide +kernel
  have kbool : kitB "bool" "str" = some false := by decide +kernel
  have kint : kitB "int" "str" = some false := by decide +kernel
  have kstr : kitB "str" "str" = some true := by decide +kernel
  have ktuple : kitB "tuple" "str" = some false := by decide +kernel
  have klist : kitB "list" "str" = some false := by decide +kernel
  have kdict : kitB "dict" "str" = some false := by decide +kernel
  rcases d with _ | _ | _ | _ | _ | ⟨_ | _ | _, _⟩ | _ | _ | _ | _
  · exact kNoneType
  · exact kbool
  · exact kint
  · exact kstr
  · exact ktuple
  · exact klist
  · exact kdict
  · exact ktuple
  · exact klist
  · exact kdict
  · exact kdict
  · exact ktuple
theorem isi_t (d : D) : kitB d.ty "tuple" = some d.isT := by
  have kNoneType : kitB "NoneType" "tuple" = some false := by decide +kernel
  have kbool : kitB "bool" "tuple" = some false := by decide +kernel
  have kint : kitB "int" "tuple" = some false := by decide +kernel
  have kstr : kitB "str" "tuple" = some false := by decide +kernel
  have ktuple : kitB "tuple" "tuple" = some true := by decide +kernel
  have klist : kitB "list" "tuple" = some false := by decide +kernel
  have kdict : kitB "dict" "tuple" = some false := by decide +kernel
  rcases d with _ | _ | _ | _ | _ | ⟨_ | _ | _, _⟩ | _ | _ | _ | _
  · exact kNoneType
  · exact kbool
  · exact kint
  · exact kstr
  · exact ktuple
  · exact klist
  · exact kdict
  · exact ktuple
  · exact klist
  · exact kdict
  · exact kdict
  · exact ktuple
theorem isi_d (d : D) : kitB d.ty "dict" = some d.isD := by
  have kNoneType : kitB "NoneType" "dict" = some false := by decide +kernel
  have kbool : kitB "bool" "dict" = some false := by decide +kernel
  have kint : kitB "int" "dict" = some false := by decide +kernel
  have kstr : kitB "str" "dict" = some false := by decide +kernel
  have ktuple : kitB "tuple" "dict" = some false := by decide +kernel
  have klist : kitB "list" "dict" = some false := by decide +kernel
  have kdict : kitB "dict" "dict" = some true := by decide +kernel
  rcases d with _ | _ | _ | _ | _ | ⟨_ | _ | _, _⟩ | _ | _ | _ | _
  · exact kNoneType
  · exact kbool
  · exact kint
  · exact kstr
  · exact ktuple
  · exact klist
  · exact kdict
  · exact ktuple
  · exact klist
  · exact kdict
  · exact kdict
  · exact ktuple
/-- the length, where it has one -/
inductive Lenr : Res → Nat → Prop
  | str {x : Str} : x.length ≤ 16000000 → Lenr (.va (.str x)) x.length
  | tup {ds : List D} : Lenr (.va (.tup ds)) ds.length
  | pt {ds : List D} : Lenr (.va (.pt ds)) ds.length
  | seq {r : Res} {ds : List D} : r.seq = some ds → Lenr r ds.length
theorem ev_len (B : Blt C.X) (h : EV C b δ e (fun b1 r => ∃ n, Lenr r n ∧ P b1 (.va (.int n)))) (hg : Gl C.X "len" := by rfl)
    (hsx : starEach [e] C.X.env = (false, eval e C.X.env) :: starEach [] C.X.env := by rfl) (hpl : (backTo pos (starEach [] C.X.env)).any (·.1) = false := by rfl) : EV C b δ (.Call (.Name "len" p0) [e] [] pos) P := by
  intro os σ H st Q q
  refine WE.of (pe_callB call_len hg B.len PySem.boot_len (pa_cons peW pa_nil hsx) (by decide) (by decide) hsx hpl) ?_
  refine h os σ H st _ fun v H1 b1 r f1 j1 rv hh => ?_
  obtain ⟨n, hl, hq⟩ := hh
  refine ⟨v, n, rfl, ?_, q _ H1 b1 _ f1 j1 (.va (.int n)) hq⟩
  cases hl with
  | str hx => cases rv with | va rv => cases rv; exact ⟨sz1 hx, rfl⟩
  | tup => cases rv with | va rv => cases rv with | tup h r => exact .inr ⟨_, h.sq, r.len.symm⟩
  | pt => cases rv with | va rv => cases rv with | ptup h _ r => exact .inr ⟨_, .inl (.inr ⟨_, h⟩), r.len.symm⟩
  | seq hs =>
    obtain ⟨p, xs, rfl, e, ra⟩ := rv.seq_ hs
    exact .inl ⟨xs, e.sq, ra.len.symm⟩
theorem ev_all (hc : C.X.calm = true) (B : Blt C.X) (h : EV C b δ e (fun b1 r => ∃ bs : List Bool, r.seq = some (bs.map D.bl) ∧ P b1 (.va (.bl (bs.all id))))) (hg : Gl C.X "all" := by rfl)
    (hsx : starEach [e] C.X.env = (false, eval e C.X.env) :: starEach [] C.X.env := by rfl) (hpl : (backTo pos (starEach [] C.X.env)).any (·.1) = false := by rfl) : EV C b δ (.Call (.Name "all" p0) [e] [] pos) P := by
  intro os σ H st Q q
  refine WE.of (pe_callB (cr_all hc) hg B.all (by decide +kernel) (pa_cons peW pa_nil hsx) (by decide) (by decide) hsx hpl) ?_
  refine h os σ H st _ fun v H1 b1 r f1 j1 rv hh => ?_
  obtain ⟨bs, hs, hq⟩ := hh
  obtain ⟨p, xs, rfl, e, ra⟩ := rv.seq_ hs
  obtain rfl := rp_bls ra
  exact ⟨p, bs, rfl, e.sq, q _ H1 b1 _ f1 j1 (.va (.bl _)) hq⟩
theorem ev_any (hc : C.X.calm = true) (B : Blt C.X) (h : EV C b δ e (fun b1 r => ∃ bs : List Bool, r.seq = some (bs.map D.bl) ∧ P b1 (.va (.bl (bs.any id))))) (hg : Gl C.X "any" := by rfl)
    (hsx : starEach [e] C.X.env = (false, eval e C.X.env) :: starEach [] C.X.env := by rfl) (hpl : (backTo pos (starEach [] C.X.env)).any (·.1) = false := by rfl) : EV C b δ (.Call (.Name "any" p0) [e] [] pos) P := by
  intro os σ H st Q q
  refine WE.of (pe_callB (cr_any hc) hg B.any (by decide +kernel) (pa_cons peW pa_nil hsx) (by decide) (by decide) hsx hpl) ?_
  refine h os σ H st _ fun v H1 b1 r f1 j1 rv hh => ?_
  obtain ⟨bs, hs, hq⟩ := hh
  obtain ⟨p, xs, rfl, e, ra⟩ := rv.seq_ hs
  obtain rfl := rp_bls ra
  exact ⟨p, bs, rfl, e.sq, q _ H1 b1 _ f1 j1 (.va (.bl _)) hq⟩
/-- tuple(a list) -/
theorem ev_tuple (B : Blt C.X) (h : EV C b δ e (fun b1 r => ∃ ds, r.seq = some ds ∧ P b1 (.va (.tup ds)))) (hg : Gl C.X "tuple" := by rfl)
    (hsx : starEach [e] C.X.env = (false, eval e C.X.env) :: starEach [] C.X.env := by rfl) (hpl : (backTo pos (starEach [] C.X.env)).any (·.1) = false := by rfl) : EV C b δ (.Call (.Name "tuple" p0) [e] [] pos) P := by
  intro os σ H st Q q
  refine WE.of (pe_callTy call_tuple_of hg B.tuple (by decide +kernel) (pa_cons peW pa_nil hsx) (by decide) (by decide) hsx hpl) ?_
  refine h os σ H st _ fun v H1 b1 r f1 j1 rv hh => ?_
  obtain ⟨ds, hs, hq⟩ := hh
  obtain ⟨p, xs, rfl, e, ra⟩ := rv.seq_ hs
  refine ⟨p, xs, rfl, .inl ⟨e.sq, fun l hl => ?_⟩⟩
  have fn : Fr C.Z.S H1 (upd H1 l (.tup xs)) := Fr.new hl
  exact q _ _ b1 _ (f1.trans fn) (jnew j1 hl) (.va (.tup (.h upd_same) (ra.fr fn))) hq
/-! ### comparisons -/
def D.sc : D → D → Option Bool
  | .int i, .int j => some (decide (i = j))
  | .bl i, .bl j => some (decide (i = j))
  | .str i, .str j => some (decide (i = j))
  | _, _ => none
theorem sc_ok {K : PySem.W.Frag} {H : Hp} {v w : V} {d e : D} {k : Bool} (h : d.sc e = some k) (r : Rp K H v d) (q : Rp K H w e) : scal v w = true ∧ decide (v = w) = k := by
  cases r <;> cases q <;> first
    | (cases h; done)
    | (simp only [D.sc, Option.some.injEq] at h
       subst h
       exact ⟨rfl, by simp⟩)
/-- == of two ints, two texts, two truth values -/
theorem ev_eq (h : EV C b δ e1 (fun b1 r1 => EV C b1 δ e2 fun b2 r2 => ∃ d1 d2 k, r1 = .va d1 ∧ r2 = .va d2 ∧ d1.sc d2 = some k ∧ P b2 (.va (.bl k)))) : EV C b δ (.Compare e1 [.Eq] [e2] pos) P := by
  refine ev_cmp op_eq (nomark _) (h.imp fun b1 r1 h2 => h2.imp fun b2 r2 ⟨d1, d2, k, e1, e2, hk, hq⟩ => ?_)
  subst e1 e2
  intro os H H' x y j rx ry Q q
  cases rx with | va rx => ?_
  cases ry with | va ry => ?_
  obtain ⟨s1, s2⟩ := sc_ok hk rx ry
  exact ⟨s1, by rw [s2]; exact q k hq⟩
theorem et_eq (h : EV C b δ e1 (fun b1 r1 => EV C b1 δ e2 fun b2 r2 => ∃ d1 d2 k, r1 = .va d1 ∧ r2 = .va d2 ∧ d1.sc d2 = some k ∧ Pt b2 k)) : ET C b δ (.Compare e1 [.Eq] [e2] pos) Pt := by
  refine et_cmp op_eq (nomark _) (h.imp fun b1 r1 h2 => h2.imp fun b2 r2 ⟨d1, d2, k, e1, e2, hk, hq⟩ => ?_)
  subst e1 e2
  intro os H H' x y j rx ry Q q
  cases rx with | va rx => ?_
  cases ry with | va ry => ?_
  obtain ⟨s1, s2⟩ := sc_ok hk rx ry
  exact ⟨s1, by rw [s2]; exact q k hq⟩
theorem ev_ne (h : EV C b δ e1 (fun b1 r1 => EV C b1 δ e2 fun b2 r2 => ∃ d1 d2 k, r1 = .va d1 ∧ r2 = .va d2 ∧ d1.sc d2 = some k ∧ P b2 (.va (.bl (!k))))) : EV C b δ (.Compare e1 [.NotEq] [e2] pos) P := by
  refine ev_cmp op_ne (nomark _) (h.imp fun b1 r1 h2 => h2.imp fun b2 r2 ⟨d1, d2, k, e1, e2, hk, hq⟩ => ?_)
  subst e1 e2
  intro os H H' x y j rx ry Q q
  cases rx with | va rx => ?_
  cases ry with | va ry => ?_
  obtain ⟨s1, s2⟩ := sc_ok hk rx ry
  exact ⟨s1, by rw [s2]; exact q (!k) hq⟩
theorem et_ne (h : EV C b δ e1 (fun b1 r1 => EV C b1 δ e2 fun b2 r2 => ∃ d1 d2 k, r1 = .va d1 ∧ r2 = .va d2 ∧ d1.sc d2 = some k ∧ Pt b2 (!k))) : ET C b δ (.Compare e1 [.NotEq] [e2] pos) Pt := by
  refine et_cmp op_ne (nomark _) (h.imp fun b1 r1 h2 => h2.imp fun b2 r2 ⟨d1, d2, k, e1, e2, hk, hq⟩ => ?_)
  subst e1 e2
  intro os H H' x y j rx ry Q q
  cases rx with | va rx => ?_
  cases ry with | va ry => ?_
  obtain ⟨s1, s2⟩ := sc_ok hk rx ry
  exact ⟨s1, by rw [s2]; exact q (!k) hq⟩
/-- the order of two ints -/
theorem ev_ord {op : CmpOp} {f : Int → Int → Bool} (ho : OpR C.X (compareOp op) (rI0 fun i j => .bl (f i j))) (hm : behindInMarks op e2 = false)
    (h : EV C b δ e1 (fun b1 r1 => EV C b1 δ e2 fun b2 r2 => ∃ i j, r1 = .va (.int i) ∧ r2 = .va (.int j) ∧ P b2 (.va (.bl (f i j))))) : EV C b δ (.Compare e1 [op] [e2] pos) P := by
  refine ev_cmp ho hm (h.imp fun b1 r1 h2 => h2.imp fun b2 r2 ⟨i, j, e1, e2, hq⟩ => ?_)
  subst e1 e2
  intro os H H' x y jj rx ry Q q
  cases rx with | va rx => ?_
  cases ry with | va ry => ?_
  cases rx; cases ry
  exact ⟨i, j, rfl, rfl, q _ hq⟩
theorem et_ord {op : CmpOp} {f : Int → Int → Bool} (ho : OpR C.X (compareOp op) (rI0 fun i j => .bl (f i j))) (hm : behindInMarks op e2 = false)
    (h : EV C b δ e1 (fun b1 r1 => EV C b1 δ e2 fun b2 r2 => ∃ i j, r1 = .va (.int i) ∧ r2 = .va (.int j) ∧ Pt b2 (f i j))) : ET C b δ (.Compare e1 [op] [e2] pos) Pt := by
  refine et_cmp ho hm (h.imp fun b1 r1 h2 => h2.imp fun b2 r2 ⟨i, j, e1, e2, hq⟩ => ?_)
  subst e1 e2
  intro os H H' x y jj rx ry Q q
  cases rx with | va rx => ?_
  cases ry with | va ry => ?_
  cases rx; cases ry
  exact ⟨i, j, rfl, rfl, q _ hq⟩
/-- a <= b <= c and its like, of ints -/
theorem et_chain {op op' : CmpOp} {f g : Int → Int → Bool} (hm : lastMarks [op, op'] [e2, e3] = false) (ho : OpR C.X (compareOp op) (rI0 fun i j => .bl (f i j))) (ho' : OpR C.X (compareOp op') (rI0 fun i j => .bl (g i j)))
    (h : EV C b δ e1 (fun b1 r1 => EV C b1 δ e2 fun b2 r2 => ∃ i j, r1 = .va (.int i) ∧ r2 = .va (.int j) ∧ if f i j = true then EV C b2 δ e3 (fun b3 r3 => ∃ k, r3 = .va (.int k) ∧ Pt b3 (g j k)) else Pt b2 false)) :
    ET C b δ (.Compare e1 [op, op'] [e2, e3] pos) Pt := by
  intro os σ H st Q q
  refine WT.of (pt_chain ho ho' peW peW peW hm) ?_
  refine h os σ H st _ fun v1 H1 b1 r1 f1 j1 rv1 h2 => ?_
  refine h2 os σ H1 (st.on f1 j1) _ fun v2 H2 b2 r2 f2 j2 rv2 h3 => ?_
  obtain ⟨i, j, rfl, rfl, h3⟩ := h3
  cases rv1 with | va rv1 => ?_
  cases rv2 with | va rv2 => ?_
  cases rv1; cases rv2
  refine ⟨i, j, rfl, rfl, f i j, rfl, ?_⟩
  cases e : f i j with
  | true =>
    rw [e] at h3
    refine iteT (h3 os σ H2 ((st.on f1 j1).on f2 j2) _ fun v3 H3 b3 r3 f3 j3 rv3 h4 => ?_)
    obtain ⟨k, rfl, h4⟩ := h4
    cases rv3 with | va rv3 => ?_
    cases rv3
    exact ⟨j, k, rfl, rfl, g j k, rfl, q _ H3 b3 ((f1.trans f2).trans f3) j3 h4⟩
  | false =>
    rw [e] at h3
    exact iteF ⟨false, rfl, q false H2 b2 (f1.trans f2) j2 h3⟩
def D.isN : D → Bool
  | .non => true
  | _ => false
theorem isN_ok {K : PySem.W.Frag} {H : Hp} {v : V} {d : D} (r : Rp K H v d) : decide (v = .non) = d.isN := by cases r <;> simp [D.isN]
/-- is None -/
theorem et_isN {jj : Nat} {pj : Pos} (h : EV C b δ e (fun b1 r => ∃ d, r = .va d ∧ Pt b1 d.isN)) : ET C b δ (.Compare e [.Is] [.Constant .none jj pj] pos) Pt := by
  intro os σ H st Q q
  refine WT.of (pt_cmp (pc_isN peW)) ?_
  refine h os σ H st _ fun v H1 b1 r f1 j1 rv hh => ?_
  obtain ⟨d, rfl, hq⟩ := hh
  cases rv with | va rv => ?_
  exact ⟨_, rfl, by rw [isN_ok rv]; exact q _ H1 b1 f1 j1 hq⟩
theorem et_notN {jj : Nat} {pj : Pos} (h : EV C b δ e (fun b1 r => ∃ d, r = .va d ∧ Pt b1 (!d.isN))) : ET C b δ (.Compare e [.IsNot] [.Constant .none jj pj] pos) Pt := by
  intro os σ H st Q q
  refine WT.of (pt_cmp (pc_notN peW)) ?_
  refine h os σ H st _ fun v H1 b1 r f1 j1 rv hh => ?_
  obtain ⟨d, rfl, hq⟩ := hh
  cases rv with | va rv => ?_
  exact ⟨_, rfl, by rw [isN_ok rv]; exact q _ H1 b1 f1 j1 hq⟩
/-- one sign in a text -/
theorem ev_inS (hm : behindInMarks .In e2 = false := by rfl) (h : EV C b δ e1 (fun b1 r1 => EV C b1 δ e2 fun b2 r2 => ∃ c z, r1 = .va (.str ⟨#[c]⟩) ∧ r2 = .va (.str z) ∧ P b2 (.va (.bl (decide (c ∈ z.cps.toList)))))) : EV C b δ (.Compare e1 [.In] [e2] pos) P := by
  refine ev_cmp op_in_sign hm (h.imp fun b1 r1 h2 => h2.imp fun b2 r2 ⟨c, z, e1, e2, hq⟩ => ?_)
  subst e1 e2
  intro os H H' x y jj rx ry Q q
  cases rx with | va rx => ?_
  cases ry with | va ry => ?_
  cases rx; cases ry
  exact ⟨c, z, rfl, rfl, q _ hq⟩
/-- t[i] of a tuple, of a list -/
theorem ev_ix (h : EV C b δ e1 (fun b1 r1 => EV C b1 δ e2 fun b2 r2 => ∃ ds i d, (r1 = .va (.tup ds) ∨ r1.seq = some ds) ∧ r2 = .va (.int i) ∧ atI ds i = some d ∧ P b2 (.va d))) (hs : PlainIx e2 := by exact fun _ _ => rfl) : EV C b δ (.Subscript e1 e2 pos) P := by
  intro os σ H st Q q
  refine WE.of (pe_ix ix_seq peW peW hs) ?_
  refine h os σ H st _ fun v1 H1 b1 r1 f1 j1 rv1 h2 => ?_
  refine h2 os σ H1 (st.on f1 j1) _ fun v2 H2 b2 r2 f2 j2 rv2 h3 => ?_
  obtain ⟨ds, i, d, hr, rfl, hi, hq⟩ := h3
  cases rv2 with | va rv2 => ?_
  cases rv2
  have at_ : ∀ {xs : List V}, RpA C.K H2 xs ds → ∃ v, atI xs i = some v ∧ Rp C.K H2 v d := fun {xs} ra => by
    unfold atI at hi ⊢
    rw [ra.len]
    cases e : ixN ds.length i with
    | none => rw [e] at hi; cases hi
    | some k =>
      rw [e] at hi
      obtain ⟨v, h1, h2⟩ := ra.get (i := k) hi
      exact ⟨v, h1, h2⟩
  rcases hr with rfl | hs
  · cases rv1 with
    | va rv1 =>
      cases rv1 with
      | tup hh ra =>
        obtain ⟨v, h1, h2⟩ := at_ (ra.fr f2)
        exact .inr (.inl ⟨_, _, i, v, rfl, rfl, sqT_fr f2 hh.sq, h1, q _ H2 b2 _ (f1.trans f2) j2 (.va h2) hq⟩)
  · obtain ⟨p, xs, rfl, e, ra⟩ := rv1.seq_ hs
    obtain ⟨v, h1, h2⟩ := at_ (ra.fr f2)
    exact .inl ⟨_, _, i, v, rfl, rfl, (e.fr f2).sq, h1, q _ H2 b2 _ (f1.trans f2) j2 (.va h2) hq⟩
/-- a + b of ints -/
theorem ev_add (h : EV C b δ e1 (fun b1 r1 => EV C b1 δ e2 fun b2 r2 => ∃ i j, r1 = .va (.int i) ∧ r2 = .va (.int j) ∧ P b2 (.va (.int (i + j))))) : EV C b δ (.BinOp e1 .Add e2 pos) P := by
  refine ev_bin op_add (h.imp fun b1 r1 h2 => h2.imp fun b2 r2 ⟨i, j, e1, e2, hq⟩ => ?_)
  subst e1 e2
  intro os H H' x y jj rx ry Q q
  cases rx with | va rx => ?_
  cases ry with | va ry => ?_
  cases rx; cases ry
  exact ⟨i, j, rfl, rfl, q _ H' _ Fr.refl jj (.va (.int _)) hq⟩
/-- t + u of tuples -/
theorem ev_cat (h : EV C b δ e1 (fun b1 r1 => EV C b1 δ e2 fun b2 r2 => ∃ ds es, r1 = .va (.tup ds) ∧ r2 = .va (.tup es) ∧ ds.length + es.length ≤ 16000000 ∧ P b2 (.va (.tup (ds ++ es))))) : EV C b δ (.BinOp e1 .Add e2 pos) P := by
  refine ev_bin op_catA (h.imp fun b1 r1 h2 => h2.imp fun b2 r2 ⟨ds, es, e1, e2, hl, hq⟩ => ?_)
  subst e1 e2
  intro os H H' x y jj rx ry Q q
  cases rx with | va rx => ?_
  cases ry with | va ry => ?_
  cases rx with | @tup a xs _ hx ra => ?_
  cases ry with | @tup c ys _ hy rc => ?_
  refine ⟨a, c, xs, ys, rfl, rfl, hx.sq, hy.sq, by rw [ra.len, rc.len]; exact sz1 hl, fun z => ?_, fun _ z => ?_, fun _ _ p hp => ?_⟩
  · subst z
    cases ra
    exact q _ H' _ Fr.refl jj (.va (.tup hy rc)) hq
  · subst z
    cases rc
    exact q _ H' _ Fr.refl jj (.va (.tup hx ra)) (by rw [List.append_nil] at hq; exact hq)
  · have fn : Fr C.Z.S H' (upd H' p (.tup (xs ++ ys))) := Fr.new hp
    exact q _ _ _ fn (jnew jj hp) (.va (.tup (.h upd_same) ((ra.append rc).fr fn))) hq
end
end PD
set_option Elab.async false
set_option linter.all false
set_option maxRecDepth 100000
set_option maxHeartbeats 4000000
namespace PD
open PySem PySem.Spec PyProof.Rows L2

/-! ### targets -/
inductive Pat where
  | nm (i : Nat)
  | tp (ps : List Pat)
mutual
def gPat (K : PySem.W.Frag) : Pat → TG
  | .nm i => gName i
  | .tp ps => gTup K ps.length (gPats K ps)
def gPats (K : PySem.W.Frag) : List Pat → TGs
  | [] => gNil
  | p :: ps => gCons (gPat K p) (gPats K ps)
end
mutual
def bindP : Pat → D → List Sl → Option (List Sl)
  | .nm i, d, δ => some (δ.set i (.va d))
  | .tp ps, .tup ds, δ => bindPs ps ds δ
  | .tp _, _, _ => none
def bindPs : List Pat → List D → List Sl → Option (List Sl)
  | [], [], δ => some δ
  | p :: ps, d :: ds, δ => (bindP p d δ).bind (bindPs ps ds)
  | _, _, _ => none
end
mutual
def Pat.slots : Pat → List Nat
  | .nm i => [i]
  | .tp ps => slotsAll ps
def slotsAll : List Pat → List Nat
  | [] => []
  | p :: ps => p.slots ++ slotsAll ps
end
theorem wipe_set (σ : L2.St) (i : Nat) (x : Option V) : ∀ vs : List Nat, i ∈ vs → wipe (σ.set i x) vs = wipe σ vs := by
  have key : ∀ vs : List Nat, (i ∉ vs → wipe (σ.set i x) vs = (wipe σ vs).set i x) ∧ (i ∈ vs → wipe (σ.set i x) vs = wipe σ vs) := by
    intro vs
    induction vs with
    | nil => exact ⟨fun _ => rfl, fun h => (nomatch h)⟩
    | cons v vs ih =>
      refine ⟨fun h => ?_, fun h => ?_⟩
      · unfold wipe
        rw [ih.1 fun z => h (List.mem_cons_of_mem _ z), List.set_comm _ _ (fun z => h (by rw [z]; exact List.mem_cons_self))]
      · unfold wipe
        by_cases hv : i ∈ vs
        · rw [ih.2 hv]
        · rw [ih.1 hv]
          have e : i = v := by
            rcases List.mem_cons.mp h with z | z
            · exact z
            · exact absurd z hv
          subst e
          rw [List.set_set]
  exact fun vs h => (key vs).2 h
def wipeD (δ : List Sl) : List Nat → List Sl
  | [] => δ
  | v :: vs => (wipeD δ vs).set v .un
section
variable {C : Cn} {os : List Addr} {b : Nat} {H : Hp}
theorem Sts.wipe {δ : List Sl} {σ : L2.St} (st : Sts C os b δ σ H) : ∀ vs : List Nat, Sts C os b (wipeD δ vs) (wipe σ vs) H
  | [] => st
  | v :: vs => by
    have ih := Sts.wipe st vs
    obtain ⟨o, nd, sub, sl⟩ := ih.sl
    obtain ⟨o', n', s', l'⟩ := sl.put (i := v) nd List.nodup_nil (fun p z => (nomatch z)) (Slot.un (v := none))
    exact ⟨ih.fr, ih.j, ih.new, o', n', fun p hp => (s' p hp).elim (fun z => (nomatch z)) (sub p), l'⟩
theorem Sts.va1 {δ : List Sl} {σ : L2.St} {v : V} {d : D} (st : Sts C os b δ σ H) (i : Nat) (r : Rp C.K H v d) : Sts C os b (δ.set i (.va d)) (σ.set i (some v)) H := by
  obtain ⟨o, nd, sub, sl⟩ := st.sl
  obtain ⟨o', n', s', l'⟩ := sl.put (i := i) nd List.nodup_nil (fun p z => (nomatch z)) (Slot.va r)
  exact ⟨st.fr, st.j, st.new, o', n', fun p hp => (s' p hp).elim (fun z => (nomatch z)) (sub p), l'⟩
mutual
theorem bind_ok : ∀ (p : Pat) {d : D} {v : V} {δ δ' : List Sl} {σ : L2.St}, Rp C.K H v d → Sts C os b δ σ H → bindP p d δ = some δ' →
    ∃ σ', Sts C os b δ' σ' H ∧ (∀ vs, (∀ i ∈ p.slots, i ∈ vs) → wipe σ' vs = wipe σ vs) ∧ ∀ Q : L2.St → Hp → Prop, Q σ' H → gPat C.K p v σ H Q
  | .nm i, d, v, δ, δ', σ, r, st, e => by
    simp only [bindP, Option.some.injEq] at e
    subst e
    exact ⟨_, st.va1 i r, fun vs h => wipe_set _ _ _ _ (h i (by simp [Pat.slots])), fun Q q => q⟩
  | .tp ps, d, v, δ, δ', σ, r, st, e => by
    cases d with
    | tup ds =>
      cases r with
      | @tup a xs _ h ra =>
        simp only [bindP] at e
        obtain ⟨σ', h1, h2, h3, h4⟩ := binds_ok ps ra st e
        exact ⟨σ', h1, fun vs hv => h2 vs (by simpa only [Pat.slots] using hv), fun Q q => ⟨a, xs, rfl, h.sq, h3, h4 Q q⟩⟩
    | _ => simp only [bindP] at e; cases e
theorem binds_ok : ∀ (ps : List Pat) {ds : List D} {xs : List V} {δ δ' : List Sl} {σ : L2.St}, RpA C.K H xs ds → Sts C os b δ σ H → bindPs ps ds δ = some δ' →
    ∃ σ', Sts C os b δ' σ' H ∧ (∀ vs, (∀ i ∈ slotsAll ps, i ∈ vs) → wipe σ' vs = wipe σ vs) ∧ xs.length = ps.length ∧ ∀ Q : L2.St → Hp → Prop, Q σ' H → gPats C.K ps xs σ H Q
  | [], ds, xs, δ, δ', σ, r, st, e => by
    cases ds with
    | nil =>
      cases r
      simp only [bindPs, Option.some.injEq] at e
      subst e
      exact ⟨σ, st, fun _ _ => rfl, rfl, fun Q q => ⟨rfl, q⟩⟩
    | cons d ds => simp only [bindPs] at e; cases e
  | p :: ps, ds, xs, δ, δ', σ, r, st, e => by
    cases ds with
    | nil => simp only [bindPs] at e; cases e
    | cons d ds =>
      cases r with
      | @cons v vs _ _ r1 r2 =>
        simp only [bindPs] at e
        cases e1 : bindP p d δ with
        | none => rw [e1] at e; cases e
        | some δ1 =>
          rw [e1] at e
          obtain ⟨σ1, s1, w1, g1⟩ := bind_ok p r1 st e1
          obtain ⟨σ2, s2, w2, l2, g2⟩ := binds_ok ps r2 s1 e
          refine ⟨σ2, s2, fun us hu => ?_, by simp [l2], fun Q q => ⟨v, vs, rfl, g1 _ (g2 Q q)⟩⟩
          rw [w2 us fun i hi => hu i (by simp only [slotsAll]; exact List.mem_append_right _ hi), w1 us fun i hi => hu i (by simp only [slotsAll]; exact List.mem_append_left _ hi)]
end
end

/-! ### what is walked -/
/-- J gives the ds, one after the other, wherever all that it leans on stands -/
structure WkF (K : PySem.W.Frag) (Z : Vol) (J : It) (ds : List D) (H : Hp) : Prop where
  go : ∀ H', Fr Z.S H H' → ∀ i, i < ds.length → J.go i H' ∧ ∀ x H2, J.yld i H' x H2 → Fr (fun _ => False) H' H2 ∧ ∃ d, ds[i]? = some d ∧ Rp K H2 x d
  stop : ∀ H', Fr Z.S H H' → ∀ i, ds.length ≤ i → J.stop i H'
structure Wk (K : PySem.W.Frag) (Z : Vol) (J : It) (ds : List D) (os : List Addr) (H : Hp) : Prop where
  go : ∀ os' H', Gr Z os H os' H' → ∀ i, i < ds.length → J.go i H' ∧ ∀ x H2, J.yld i H' x H2 → Fr (fun _ => False) H' H2 ∧ ∃ d, ds[i]? = some d ∧ Rp K H2 x d
  stop : ∀ os' H', Gr Z os H os' H' → ∀ i, ds.length ≤ i → J.stop i H'
theorem Wk.f {K : PySem.W.Frag} {Z : Vol} {J : It} {ds : List D} {os : List Addr} {H : Hp} (h : Wk K Z J ds os H) : WkF K Z J ds H := ⟨fun H' f => h.go os H' (Gr.of f), fun H' f => h.stop os H' (Gr.of f)⟩
theorem Gr.keepT {Z : Vol} {os os' : List Addr} {H H' : Hp} {K : PySem.W.Frag} {a : Addr} {xs : List V} (g : Gr Z os H os' H') (h : SqT K H a xs) : SqT K H' a xs := sqT_fr g.fr h
theorem Gr.keepL {Z : Vol} {os os' : List Addr} {H H' : Hp} {a : Addr} {xs : List V} (g : Gr Z os H os' H') (h : H a = some (.lst xs)) (ns : ¬ Z.S a) (no : a ∉ os) : H' a = some (.lst xs) := g.fr.keep (fun z => z.elim ns no) h

def WI (X : Cx) (tg iter : Expr) : TI := fun σ H R => ∀ (pins : List (Addr × Obj)) (s : Shared), Inv X pins σ H s →
  wpAny (model X.prog X.w) X.A (eval iter X.env) (fun v s1 => wpAny (model X.prog X.w) X.A (pyIter v) (PIE X pins σ tg R) X.xe s1) X.xe s
theorem piW {X : Cx} {tg iter : Expr} : PI X tg iter (WI X tg iter) := ⟨fun pins s _ _ _ I h => h pins s I⟩
theorem WI.of {X : Cx} {tg iter : Expr} {σ : L2.St} {H : Hp} {wi : TI} {R : It → Hp → Prop} (p : PI X tg iter wi) (h : wi σ H R) : WI X tg iter σ H R := fun pins s I => p.run pins s σ H R I h
/-- what a for walks -/
def EI (C : Cn) (b : Nat) (δ : List Sl) (tg iter : Expr) (P : Nat → List D → Prop) : Prop :=
  ∀ os σ H, Sts C os b δ σ H → ∀ R : It → Hp → Prop, (∀ J H' b' ds, Fr C.Z.S H H' → C.Z.J b' H' → Wk C.K C.Z J ds os H' → P b' ds → R J H') → WI C.X tg iter σ H R
/-- what a comprehension walks -/
def EIc (C : Cn) (b : Nat) (δ : List Sl) (tg iter : Expr) (P : Nat → List D → Prop) : Prop :=
  ∀ os σ H, Sts C os b δ σ H → ∀ R : It → Hp → Prop, (∀ J H' b' ds, Fr C.Z.S H H' → C.Z.J b' H' → WkF C.K C.Z J ds H' → P b' ds → R J H') → WI C.X tg iter σ H R
section
variable {C : Cn} {b : Nat} {δ : List Sl} {P : Nat → List D → Prop} {tg iter e : Expr} {pos p0 : Pos}
theorem EI.c (h : EI C b δ tg iter P) : EIc C b δ tg iter P := fun os σ H st R k => h os σ H st R fun J H' b' ds f j w p => k J H' b' ds f j w.f p
theorem wk_list {K : PySem.W.Frag} {Z : Vol} {os : List Addr} {H : Hp} {a : Addr} {xs : List V} {ds : List D} (e : H a = some (.lst xs)) (ns : ¬ Z.S a) (no : a ∉ os) (ra : RpA K H xs ds) : Wk K Z (Itl K a) ds os H := by
  refine ⟨fun os' H' g i hi => ?_, fun os' H' g i hi => ⟨xs, SqL.of (g.keepL e ns no), by rw [ra.len]; exact hi⟩⟩
  have e' := g.keepL e ns no
  have hx : i < xs.length := by rw [ra.len]; exact hi
  refine ⟨⟨xs, xs[i], SqL.of e', by simp [hx]⟩, fun x H2 y => ?_⟩
  obtain ⟨rfl, y⟩ := y
  obtain ⟨d, h1, h2⟩ := (ra.fr g.fr).getV (y xs (SqL.of e'))
  exact ⟨Fr.refl, d, h1, h2⟩
theorem wkF_list {K : PySem.W.Frag} {Z : Vol} {H : Hp} {a : Addr} {xs : List V} {ds : List D} (e : H a = some (.lst xs)) (ns : ¬ Z.S a) (ra : RpA K H xs ds) : WkF K Z (Itl K a) ds H := (wk_list (os := []) e ns (by simp) ra).f
theorem wk_frz {K : PySem.W.Frag} {Z : Vol} {os : List Addr} {H : Hp} {a : Addr} {o : Obj} {xs : List V} {ds : List D} (e : H a = some (.frz o (.lst xs))) (ra : RpA K H xs ds) : Wk K Z (Itl K a) ds os H := by
  refine ⟨fun os' H' g i hi => ?_, fun os' H' g i hi => ⟨xs, .inl (.inr ⟨o, g.fr.frz e⟩), by rw [ra.len]; exact hi⟩⟩
  have e' : SqL K H' a xs := .inl (.inr ⟨o, g.fr.frz e⟩)
  have hx : i < xs.length := by rw [ra.len]; exact hi
  refine ⟨⟨xs, xs[i], e', by simp [hx]⟩, fun x H2 y => ?_⟩
  obtain ⟨rfl, y⟩ := y
  obtain ⟨d, h1, h2⟩ := (ra.fr g.fr).getV (y xs e')
  exact ⟨Fr.refl, d, h1, h2⟩
theorem wkF_ls {K : PySem.W.Frag} {Z : Vol} {H : Hp} {a : Addr} {xs : List V} {ds : List D} (e : LsF Z H a xs) (ra : RpA K H xs ds) : WkF K Z (Itl K a) ds H := by
  rcases e with ⟨e, ns⟩ | ⟨o, e⟩
  · exact wkF_list e ns ra
  · exact (wk_frz (os := []) e ra).f
theorem wk_tup {K : PySem.W.Frag} {Z : Vol} {os : List Addr} {H : Hp} {a : Addr} {xs : List V} {ds : List D} (e : SqT K H a xs) (ra : RpA K H xs ds) : Wk K Z (Itt K a) ds os H := by
  refine ⟨fun os' H' g i hi => ?_, fun os' H' g i hi => ⟨xs, g.keepT e, by rw [ra.len]; exact hi⟩⟩
  have e' := g.keepT e
  have hx : i < xs.length := by rw [ra.len]; exact hi
  refine ⟨⟨xs, xs[i], e', by simp [hx]⟩, fun x H2 y => ?_⟩
  obtain ⟨rfl, y⟩ := y
  obtain ⟨d, h1, h2⟩ := (ra.fr g.fr).getV (y xs e')
  exact ⟨Fr.refl, d, h1, h2⟩
theorem ei_tup (h : EV C b δ iter (fun b1 r => ∃ ds, r = .va (.tup ds) ∧ P b1 ds)) : EI C b δ tg iter P := by
  intro os σ H st R k
  refine WI.of (pi_tup peW) ?_
  refine h os σ H st _ fun v H1 b1 r f1 j1 rv hr => ?_
  obtain ⟨ds, rfl, q⟩ := hr
  cases rv with | va rv => ?_
  cases rv with | @tup a xs _ hh ra => ?_
  exact ⟨a, rfl, ⟨xs, hh.sq⟩, k _ H1 b1 ds f1 j1 (wk_tup hh.sq ra) q⟩
theorem ei_list (h : EV C b δ iter (fun b1 r => ∃ ds, (r = .ow ds ∨ r = .li ds ∨ r = .va (.lst ds)) ∧ P b1 ds)) : EI C b δ tg iter P := by
  intro os σ H st R k
  refine WI.of (pi_list peW) ?_
  refine h os σ H st _ fun v H1 b1 r f1 j1 rv hr => ?_
  obtain ⟨ds, hr, q⟩ := hr
  rcases hr with rfl | rfl | rfl
  · cases rv with
    | @ow p xs _ n e ns ra =>
      refine ⟨p, rfl, ⟨xs, SqL.of e⟩, k _ H1 b1 ds f1 j1 (wk_list e ns (fun z => ?_) ra) q⟩
      obtain ⟨_, y⟩ := (st.new p z).2.2
      rw [n] at y; cases y
  · cases rv with
    | @li p xs _ e ns no ra => exact ⟨p, rfl, ⟨xs, SqL.of e⟩, k _ H1 b1 ds f1 j1 (wk_list e ns no ra) q⟩
  · cases rv with
    | va rv =>
      cases rv with
      | @lst p o xs _ e ra => exact ⟨p, rfl, ⟨xs, .inl (.inr ⟨o, e⟩)⟩, k _ H1 b1 ds f1 j1 (wk_frz e ra) q⟩
theorem eic_list (h : EV C b δ iter (fun b1 r => ∃ ds, r.seq = some ds ∧ P b1 ds)) : EIc C b δ tg iter P := by
  intro os σ H st R k
  refine WI.of (pi_list peW) ?_
  refine h os σ H st _ fun v H1 b1 r f1 j1 rv hr => ?_
  obtain ⟨ds, hr, q⟩ := hr
  obtain ⟨p, xs, rfl, e, ra⟩ := rv.seq_ hr
  exact ⟨p, rfl, ⟨xs, e.sq⟩, k _ H1 b1 ds f1 j1 (wkF_ls e ra) q⟩
theorem ei_range (B : Blt C.X) (h : EV C b δ e (fun b1 r => ∃ n : Nat, r = .va (.int n) ∧ n ≤ 16000000 ∧ P b1 ((List.range n).map fun i => D.int (i : Nat)))) (hg : Gl C.X "range" := by rfl) (hs : starEach [e] C.X.env = [(false, eval e C.X.env)] := by rfl) :
    EI C b δ tg (.Call (.Name "range" p0) [e] [] pos) P := by
  intro os σ H st R k
  refine WI.of (pi_range1 hg B.range (pa_cons peW pa_nil hs) hs) ?_
  refine h os σ H st _ fun v H1 b1 r f1 j1 rv hr => ?_
  obtain ⟨n, rfl, hn, q⟩ := hr
  cases rv with | va rv => ?_
  cases rv
  refine ⟨(n : Int), rfl, by omega, by omega, k _ H1 b1 _ f1 j1 ⟨fun os' H' g i hi => ⟨show i < n by simpa using hi, fun x H2 y => ?_⟩, fun os' H' g i hi => show n ≤ i by simpa using hi⟩ q⟩
  obtain ⟨rfl, rfl⟩ := y
  have hi' : i < n := by simpa using hi
  refine ⟨Fr.refl, .int i, by simp [hi'], ?_⟩
  have e : (0 : Int) + (i : Nat) = (i : Nat) := by omega
  rw [e]
  exact .int _
end
end PD
set_option Elab.async false
set_option linter.all false
set_option maxRecDepth 100000
set_option maxHeartbeats 4000000
namespace PD
open PySem PySem.Spec PyProof.Rows L2

/-! ### a list comprehension -/
abbrev Cn.blk (C : Cn) (s : Shared) (H : Hp) (scope : Scope) (cenv : Env) (fp : List Addr) : Cn := ⟨C.X.blk s H scope cenv fp, C.Z, C.H0⟩
def ETs (C : Cn) (b : Nat) (δ : List Sl) (ifs : List Expr) (P : Nat → Bool → Prop) : Prop :=
  match ifs with
  | [] => P b true
  | [c] => ET C b δ c P
  | _ => False
def WTs (X : Cx) (ifs : List Expr) : TT := fun σ H Q => ∀ (pins : List (Addr × Obj)) (s : Shared), Inv X pins σ H s →
    wpAny (model X.prog X.w) X.A (forIn ifs true fun c r => if r = true then do let ok ← isTrue c X.env (eval c X.env); pure (ForInStep.yield ok) else pure (ForInStep.yield r)) (TP X pins σ Q) X.xe s
theorem WTs.of {X : Cx} {ifs : List Expr} {σ : L2.St} {H : Hp} {t : TT} {Q : Bool → Hp → Prop} (p : PTs X ifs t) (h : t σ H Q) : WTs X ifs σ H Q := fun pins s I => p.run pins s σ H Q I h
section
variable {C : Cn} {b : Nat} {δ : List Sl} {P : Nat → Res → Prop} {tg iter elt e : Expr} {ifs : List Expr} {pos p0 : Pos} {scope : Scope}
/-- the element's reading, in any block -/
def WEb (X : Cx) (scope : Scope) (elt : Expr) : TE := fun σ H Q => ∀ (s : Shared) (H' : Hp) (Cc : Addr) (cl : List (Str × Addr)) (fp : List Addr), WE (X.blk s H' scope (compEnvC scope cl Cc X.env) fp) elt σ H Q
def WTsb (X : Cx) (scope : Scope) (ifs : List Expr) : TT := fun σ H Q => ∀ (s : Shared) (H' : Hp) (Cc : Addr) (cl : List (Str × Addr)) (fp : List Addr), WTs (X.blk s H' scope (compEnvC scope cl Cc X.env) fp) ifs σ H Q
theorem peWb {X : Cx} (s : Shared) (H' : Hp) (Cc : Addr) (cl : List (Str × Addr)) (fp : List Addr) : PE (X.blk s H' scope (compEnvC scope cl Cc X.env) fp) elt (WEb X scope elt) := ⟨fun pins s1 σ H Q I h => h s H' Cc cl fp pins s1 I⟩
theorem ptsWb {X : Cx} (s : Shared) (H' : Hp) (Cc : Addr) (cl : List (Str × Addr)) (fp : List Addr) : PTs (X.blk s H' scope (compEnvC scope cl Cc X.env) fp) ifs (WTsb X scope ifs) := ⟨fun pins s1 σ H Q I h => h s H' Cc cl fp pins s1 I⟩
theorem wipe_wipe (σ : L2.St) : ∀ vs : List Nat, wipe (wipe σ vs) vs = wipe σ vs := by
  have key : ∀ (us : List Nat) (τ : L2.St), (∀ i ∈ us, ∀ v, τ[i]? ≠ some (some v)) → wipe τ us = τ := by
    intro us
    induction us with
    | nil => intro τ _; rfl
    | cons v us ih =>
      intro τ h
      unfold wipe
      rw [ih τ fun i hi => h i (List.mem_cons_of_mem _ hi)]
      refine List.ext_getElem? fun j => ?_
      by_cases e : v = j
      · subst e
        by_cases hl : v < τ.length
        · rw [List.getElem?_set_self hl]
          cases q : τ[v]? with
          | none => rw [List.getElem?_eq_none_iff] at q; omega
          | some w =>
            cases w with
            | none => rfl
            | some u => exact absurd q (h v List.mem_cons_self u)
        · rw [List.getElem?_eq_none (by simpa using hl), List.getElem?_eq_none (by simpa using hl)]
      · rw [List.getElem?_set_ne e]
  intro vs
  exact key vs _ fun i hi v e => (wipe_some e).2 hi
theorem ets_w {Pt : Nat → Bool → Prop} {os : List Addr} {σ : L2.St} {H : Hp} {Q : Bool → Hp → Prop} (h : ETs C b δ ifs Pt) (st : Sts C os b δ σ H) (k : ∀ k H' b', Fr C.Z.S H H' → C.Z.J b' H' → Pt b' k → Q k H') : WTs C.X ifs σ H Q := by
  match ifs, h with
  | [], h => exact WTs.of pts_nil (k true H b Fr.refl st.j h)
  | [c], h => exact WTs.of (pts_one ptW) (h os σ H st Q k)
/-- Iv: what is known of the items gone through and of the list so far -/
theorem ev_lc (p : Pat) (own : List (Str × Nat)) (hc : C.X.calm = true) (hN : C.X.N.Nodup) (ok : BlkOk C.X.N C.X.env.scope scope own)
    (hg : ∀ (s : Shared) (H : Hp) (Cc : Addr) (cl : List (Str × Addr)) (fp : List Addr), PG (C.X.blk s H scope (compEnvC scope cl Cc C.X.env) fp) tg (gPat C.X.K p))
    (hp : ∀ i ∈ p.slots, i ∈ own.map (·.2))
    (h : EIc C b δ tg iter (fun b1 ds => ds.length ≤ 16000000 ∧ ∃ Iv : Nat → List D → List D → Prop, Iv b1 [] [] ∧
      (∀ (pre : List D) (d : D) (post acc : List D) (b2 : Nat), ds = pre ++ d :: post → Iv b2 pre acc →
        ∃ δ', bindP p d (wipeD δ (own.map (·.2))) = some δ' ∧ ∀ (s : Shared) (H : Hp) (Cc : Addr) (cl : List (Str × Addr)) (fp : List Addr), ETs (C.blk s H scope (compEnvC scope cl Cc C.X.env) fp) b2 δ' ifs fun b3 k =>
          if k = true then ∀ (s : Shared) (H : Hp) (Cc : Addr) (cl : List (Str × Addr)) (fp : List Addr), EV (C.blk s H scope (compEnvC scope cl Cc C.X.env) fp) b3 δ' elt (fun b4 r => ∃ y, r = .va y ∧ Iv b4 (pre ++ [d]) (acc ++ [y])) else Iv b3 (pre ++ [d]) acc) ∧
      ∀ b2 acc, Iv b2 ds acc → P b2 (.ow acc)))
    (hs : ∀ x, foldedSetIterable iter C.X.env x = pure x := by intro _; rfl) : EV C b δ (.ListComp elt [⟨tg, iter, ifs, 0⟩] scope pos) P := by
  intro os σ H st Q q
  refine WE.of (pe_lc hc hN piW ok hg (fun s H Cc cl fp => ptsWb s H Cc cl fp) (fun s H Cc cl fp => peWb s H Cc cl fp) hs) ?_
  refine h os σ H st _ fun J H1 b1 ds f1 j1 W hh => ?_
  obtain ⟨hl, Iv, i0, step, last⟩ := hh
  intro D0 hD
  have nsD : ¬ C.Z.S D0 := snew j1 hD
  -- the state at turn i: i items gone through, the list so far
  refine ⟨fun i m H2 => m = ds.length - i ∧ i ≤ ds.length ∧ ∃ b2 acc xs, Fr C.Z.S H1 H2 ∧ C.Z.J b2 H2 ∧ Iv b2 (ds.take i) acc ∧ acc.length ≤ i ∧ H2 D0 = some (.lst xs) ∧ RpA C.K H2 xs acc, ⟨ds.length, ?_⟩, ?_⟩
  · exact ⟨by omega, Nat.zero_le _, b1, [], [], Fr.new hD, jnew j1 hD, by simpa using i0, Nat.le_refl _, upd_same, .nil⟩
  · rintro i m H2 ⟨rfl, hi, b2, acc, xs, f2, j2, iv, la, hD2, ra⟩
    by_cases hlt : i < ds.length
    · obtain ⟨go, item⟩ := W.go H2 f2 i hlt
      refine .inr ⟨go, fun H' => ∃ b2 acc xs, Fr C.Z.S H1 H' ∧ C.Z.J b2 H' ∧ Iv b2 (ds.take (i + 1)) acc ∧ acc.length ≤ i + 1 ∧ H' D0 = some (.lst xs) ∧ RpA C.K H' xs acc, fun H' z => ⟨ds.length - (i + 1), by omega, rfl, hlt, z⟩, fun x H3 y => ?_⟩
      obtain ⟨f3, d, hd, rx⟩ := item x H3 y
      have f3' : Fr C.Z.S H2 H3 := f3.wide fun _ z => z.elim
      have j3 : C.Z.J b2 H3 := C.Z.stay _ _ _ j2 (f3.wide fun _ z => z.elim)
      have eds : ds = ds.take i ++ d :: ds.drop (i + 1) := by
        obtain ⟨hh, e⟩ := List.getElem?_eq_some_iff.mp hd
        rw [← e, ← List.drop_eq_getElem_cons hh, List.take_append_drop]
      have etk : ds.take (i + 1) = ds.take i ++ [d] := by
        rw [List.take_succ, hd]
        rfl
      have st3 : Sts C os b2 (wipeD δ (own.map (·.2))) (wipe σ (own.map (·.2))) H3 := (st.on (f1.trans (f2.trans f3')) j3).wipe _
      obtain ⟨δ', hb, hstep⟩ := step (ds.take i) d (ds.drop (i + 1)) acc b2 eds iv
      obtain ⟨σ', st4, hw, hgo⟩ := bind_ok p rx st3 hb
      refine hgo _ ⟨by rw [hw _ hp, wipe_wipe], fun s0 H0 Cc cl fp => ?_⟩
      have ctx : ∀ s H Cc cl fp {b' δ' σ' H'}, Sts C os b' δ' σ' H' → Sts (C.blk s H scope (compEnvC scope cl Cc C.X.env) fp) os b' δ' σ' H' := fun s H Cc cl fp b' δ' σ' H' z => ⟨z.fr, z.j, z.new, z.sl⟩
      refine ets_w (hstep s0 H0 Cc cl fp) (ctx s0 H0 Cc cl fp st4) fun k H4 b3 f4 j4 hk => ?_
      have f4' : Fr C.Z.S H3 H4 := f4
      have D4 : H4 D0 = some (.lst xs) := f4'.keep nsD (f3'.keep nsD hD2)
      cases k with
      | false => exact ⟨b3, acc, xs, f2.trans (f3'.trans f4'), j4, by rw [etk]; exact hk, by omega, D4, (ra.fr f3').fr f4'⟩
      | true =>
        show WEb C.X scope elt σ' H4 _
        intro s5 H5 Cc5 cl5 fp5
        refine hk s5 H5 Cc5 cl5 fp5 os σ' H4 (ctx s5 H5 Cc5 cl5 fp5 (st4.on f4' j4)) _ fun v H6 b4 r f6 j6 rv hy => ?_
        obtain ⟨y, rfl, iv'⟩ := hy
        cases rv with | va rv => ?_
        have f6' : Fr C.Z.S H4 H6 := f6
        have D6 : H6 D0 = some (.lst xs) := f6'.keep nsD D4
        have fD : Fr (fun a => a = D0) H6 (upd H6 D0 (.lst (xs ++ [v]))) := Fr.put rfl D6
        have ra6 : RpA C.K H6 xs acc := ((ra.fr f3').fr f4').fr f6'
        have n1 : H1 D0 = none := hD
        refine ⟨xs, D6, by rw [ra6.len]; exact Nat.lt_of_lt_of_le (show acc.length < 16000001 by omega) (by decide), b4, acc ++ [y], xs ++ [v], ?_, ?_, by rw [etk]; exact iv', by simp; omega, upd_same, (ra6.append (.cons rv .nil)).fr fD⟩
        · intro a o ea
          have ne : a ≠ D0 := ne_of_none ea n1
          rcases (f2.trans (f3'.trans (f4'.trans f6'))) a o ea with z | z
          · exact .inl (by rw [upd_ne ne]; exact z)
          · obtain ⟨m, q, z1, z2⟩ := z
            exact .inr ⟨m, q, by rw [upd_ne ne]; exact z1, z2⟩
        · exact C.Z.stay _ _ _ j6 (Fr.putL nsD D6 .l)
    · have e : i = ds.length := by omega
      subst e
      rw [List.take_length] at iv
      exact .inl ⟨W.stop H2 f2 _ (Nat.le_refl _), q _ H2 b2 _ (f1.trans f2) j2 (.ow (f1.back hD) hD2 nsD ra) (last b2 acc iv)⟩
end
end PD
set_option Elab.async false
set_option linter.all false
set_option maxRecDepth 100000
set_option maxHeartbeats 4000000
namespace PD
open PySem PySem.Spec PyProof.Rows L2
section
variable {C : Cn} {b : Nat} {δ : List Sl} {F : Fin} {pos p0 p1 apos : Pos} {e e1 e2 c tg iter : Expr} {rest ss : List Stmt} {es : List Expr}

/-! ### for -/
theorem sv_for (p : Pat) (hc : C.X.calm = true) (hp : PassesOwn (model C.X.prog C.X.w) C.X.A C.X.env C.X.xe) (hg : PG C.X tg (gPat C.X.K p))
    (h : EI C b δ tg iter (fun b1 ds => ∃ Iv : List D → Nat → List Sl → Prop, Iv [] b1 δ ∧
      (∀ (pre : List D) (d : D) (post : List D) (b2 : Nat) (δ2 : List Sl), ds = pre ++ d :: post → Iv pre b2 δ2 →
        ∃ δ', bindP p d δ2 = some δ' ∧ SV C b2 δ' ss ⟨Iv (pre ++ [d]), fun b3 δ3 => SV C b3 δ3 rest F, Iv (pre ++ [d]), F.R⟩) ∧
      ∀ b2 δ2, Iv ds b2 δ2 → SV C b2 δ2 rest F))
    (hs : ∀ x, foldedSetIterable iter C.X.env x = pure x := by intro _; rfl) : SV C b δ (.For tg iter ss [] pos :: rest) F := by
  intro os σ H st D ed
  refine WSs.of (pss_cons (ps_for hp hc piW hg pssW hs) pssW) ?_
  refine h os σ H st _ fun J H1 b1 ds f1 j1 W hh => ?_
  obtain ⟨Iv, i0, step, last⟩ := hh
  have st1 := st.on f1 j1
  refine ⟨fun i m σ2 H2 => m = ds.length - i ∧ i ≤ ds.length ∧ ∃ b2 δ2 os2, Sts C os2 b2 δ2 σ2 H2 ∧ Gr C.Z os H1 os2 H2 ∧ Iv (ds.take i) b2 δ2, ⟨ds.length, ?_⟩, ?_⟩
  · exact ⟨by omega, Nat.zero_le _, b1, δ, os, st1, Gr.refl, by simpa using i0⟩
  · rintro i m σ2 H2 ⟨rfl, hi, b2, δ2, os2, st2, g2, iv⟩
    by_cases hlt : i < ds.length
    · obtain ⟨go, item⟩ := W.go os2 H2 g2 i hlt
      refine .inr ⟨go, fun σ' H' => ∃ b2 δ2 os2, Sts C os2 b2 δ2 σ' H' ∧ Gr C.Z os H1 os2 H' ∧ Iv (ds.take (i + 1)) b2 δ2, fun σ' H' z => ⟨ds.length - (i + 1), by omega, rfl, hlt, z⟩, fun x H3 y => ?_⟩
      obtain ⟨f3, d, hd, rx⟩ := item x H3 y
      have f3' : Fr C.Z.S H2 H3 := f3.wide fun _ z => z.elim
      have j3 : C.Z.J b2 H3 := C.Z.stay _ _ _ st2.j (f3.wide fun _ z => z.elim)
      have eds : ds = ds.take i ++ d :: ds.drop (i + 1) := by
        obtain ⟨hh, e⟩ := List.getElem?_eq_some_iff.mp hd
        rw [← e, ← List.drop_eq_getElem_cons hh, List.take_append_drop]
      have etk : ds.take (i + 1) = ds.take i ++ [d] := by
        rw [List.take_succ, hd]
        rfl
      obtain ⟨δ', hb, hstep⟩ := step (ds.take i) d (ds.drop (i + 1)) b2 δ2 eds iv
      obtain ⟨σ', st4, _, hgo⟩ := bind_ok p rx (st2.on f3' j3) hb
      refine hgo _ ?_
      have g3 : Gr C.Z os H1 os2 H3 := g2.trans (Gr.of f3')
      refine hstep os2 σ' H3 st4 _ ⟨fun b' δ5 os' σ5 H5 n s g => ⟨b', δ5, os', s, g3.trans g, by rw [etk]; exact n⟩, fun b' δ5 os' σ5 H5 n s g => ?_, fun b' δ5 os' σ5 H5 n s g => ⟨b', δ5, os', s, g3.trans g, by rw [etk]; exact n⟩, ed.rt⟩
      exact n os' σ5 H5 s D (ed.on ((Gr.of f1).trans (g3.trans g)))
    · have e : i = ds.length := by omega
      subst e
      rw [List.take_length] at iv
      exact .inl ⟨W.stop os2 H2 g2 _ (Nat.le_refl _), last b2 δ2 iv os2 σ2 H2 st2 D (ed.on ((Gr.of f1).trans g2))⟩
/-! ### while, by a word and a measure of the state -/
theorem sv_while (Iv : Nat → List Sl → Prop) (μ : List Sl → Nat) (hp : PassesOwn (model C.X.prog C.X.w) C.X.A C.X.env C.X.xe) (h0 : Iv b δ)
    (h : ∀ b2 δ2, Iv b2 δ2 → ET C b2 δ2 c (fun b3 k => if k = true then SV C b3 δ2 ss ⟨fun b4 δ4 => Iv b4 δ4 ∧ μ δ4 < μ δ2, fun b4 δ4 => SV C b4 δ4 rest F, fun b4 δ4 => Iv b4 δ4 ∧ μ δ4 < μ δ2, F.R⟩ else SV C b3 δ2 rest F)) :
    SV C b δ (.While c ss [] pos :: rest) F := by
  intro os σ H st D ed
  refine WSs.of (pss_cons (ps_while hp ptW pssW) pssW) ?_
  refine ⟨fun m σ2 H2 => ∃ b2 δ2 os2, m = μ δ2 ∧ Sts C os2 b2 δ2 σ2 H2 ∧ Gr C.Z os H os2 H2 ∧ Iv b2 δ2, ⟨_, b, δ, os, rfl, st, Gr.refl, h0⟩, ?_⟩
  rintro m σ2 H2 ⟨b2, δ2, os2, rfl, st2, g2, iv⟩
  refine h b2 δ2 iv os2 σ2 H2 st2 _ fun k H3 b3 f3 j3 hk => ?_
  have st3 := st2.on f3 j3
  have g3 : Gr C.Z os H os2 H3 := g2.trans (Gr.of f3)
  cases k with
  | true =>
    refine iteT ⟨fun σ' H' => ∃ m', m' < μ δ2 ∧ ∃ b2 δ2 os2, m' = μ δ2 ∧ Sts C os2 b2 δ2 σ' H' ∧ Gr C.Z os H os2 H' ∧ Iv b2 δ2, fun σ' H' z => z, ?_⟩
    have hk : SV C b3 δ2 ss _ := hk
    exact hk os2 σ2 H3 st3 _ ⟨fun b' δ5 os' σ5 H5 n s g => ⟨_, n.2, b', δ5, os', rfl, s, g3.trans g, n.1⟩, fun b' δ5 os' σ5 H5 n s g => n os' σ5 H5 s D (ed.on (g3.trans g)), fun b' δ5 os' σ5 H5 n s g => ⟨_, n.2, b', δ5, os', rfl, s, g3.trans g, n.1⟩, ed.rt⟩
  | false =>
    refine iteF ?_
    have hk : SV C b3 δ2 rest F := hk
    exact hk os2 σ2 H3 st3 D (ed.on g3)
/-- the truth of a list of one's own, at its name -/
theorem et_own (i : Nat) {x : Str} {ds : List D} {Pt : Nat → Bool → Prop} (h : δ[i]? = some (.ow ds)) (q : Pt b (!ds.isEmpty)) (hN : C.X.N[i]? = some x := by rfl)
    (hv : Vis C.X.env.scope x := by first | exact Or.inl rfl | exact Or.inr (Or.inl rfl) | exact Or.inr (Or.inr rfl)) (hd : (x == ("__debug__" : Str)) = false := by decide) (hcd : (x == ("__classdict__" : Str)) = false := by decide)
    (he : ∀ whole, isTrue (.Name x pos) C.X.env whole = (do let v ← whole; standAt (Expr.Name x pos).pos; holding [v] (truthy v)) := by intro _; rfl) : ET C b δ (.Name x pos) Pt := by
  intro os σ H st Q k
  obtain ⟨o, _, sub, sl⟩ := st.sl
  obtain ⟨w, o1, e, a, ho⟩ := sl.at h
  cases a with
  | @ow p xs _ e1 r =>
    have em : xs.isEmpty = ds.isEmpty := by
      have := r.len
      cases xs <;> cases ds <;> simp_all
    exact WT.of (pt_truth (pe_var hN hv hd hcd) he) ⟨_, e, !ds.isEmpty, .inl ⟨xs, SqL.of e1, by rw [em]⟩, k _ H b Fr.refl st.j q⟩

/-! ### lists of one's own changed by their methods -/
/-- what stands elsewhere is untouched where p is written -/
theorem Slot.write {K : PySem.W.Frag} {Z : Vol} {os : List Addr} {H : Hp} {s : Sl} {v : Option V} {o : List Addr} {p : Addr} {x y : HO} (h : Slot K Z os H s v o) (e : H p = some x) (l : Lk x y) (no : p ∉ o) (hp : p ∈ os) : Slot K Z os (upd H p y) s v o := by
  have f : Fr (fun a => a = p) H (upd H p y) := Fr.putL rfl e l
  cases h with
  | un => exact .un
  | va r => exact .va (r.fr f)
  | ow e1 r => exact .ow (by rw [upd_ne (fun z => no (by rw [← z]; simp))]; exact e1) (r.fr f)
  | li e1 ns n1 r => exact .li (by rw [upd_ne (fun z => n1 (by rw [z]; exact hp))]; exact e1) ns n1 (r.fr f)
  | od e1 => exact .od (e1.fr f (fun z => no (by rw [← z]; simp)))
  | dl e1 d => exact .dl (by rw [upd_ne (fun z => no (by rw [← z]; simp))]; exact e1) (d.fr f fun r hr z => no (by rw [← z]; simp [hr]))
  | dm e1 d => exact .dm (by rw [upd_ne (fun z => no (by rw [← z]; simp))]; exact e1) (d.fr f fun r hr z => no (by rw [← z]; simp [hr]))
  | @gh g _ _ h => exact .gh (g.stable f (fun a ha z => no (by rw [← show a = p from z]; exact ha)) h)
/-- the own object at slot i is written; its slot changes -/
theorem Sls.putG {K : PySem.W.Frag} {Z : Vol} {os : List Addr} {H : Hp} {δ : List Sl} {σ : L2.St} {o : List Addr} {i : Nat} {s s' : Sl} {p : Addr} {x y : HO} {q : List Addr} (h : Sls K Z os H δ σ o) (nd : o.Nodup) (sub : ∀ q ∈ o, q ∈ os) (hi : δ[i]? = some s) (hσ : σ[i]? = some (some (.ref p)))
    (hp : H p = some x) (l : Lk x y) (own : ∀ o1, Slot K Z os H s (some (.ref p)) o1 → p ∈ o1) (hq : q = [p] ∨ q = []) (new : Slot K Z os (upd H p y) s' (some (.ref p)) q) :
    ∃ o', o'.Nodup ∧ (∀ a ∈ o', a ∈ o) ∧ Sls K Z os (upd H p y) (δ.set i s') σ o' := by
  induction h generalizing i with
  | nil => simp at hi
  | @cons s1 v1 o1 δ1 σ1 o2 a t ih =>
    have n1 := (List.nodup_append.mp nd).1
    have n2 := (List.nodup_append.mp nd).2.1
    have n3 := (List.nodup_append.mp nd).2.2
    cases i with
    | zero =>
      simp only [List.getElem?_cons_zero, Option.some.injEq] at hi hσ
      subst hi
      subst hσ
      have po := own _ a
      have pn : p ∉ o2 := fun z => n3 p po p z rfl
      refine ⟨q ++ o2, List.nodup_append.mpr ⟨?_, n2, fun x hx y hy e => ?_⟩, fun b hb => ?_, .cons new (t.write hp l pn (sub p (List.mem_append_left _ po)))⟩
      · rcases hq with rfl | rfl <;> simp
      · rcases hq with rfl | rfl
        · have := List.mem_singleton.mp hx
          subst e
          subst this
          exact pn hy
        · cases hx
      · rcases List.mem_append.mp hb with z | z
        · rcases hq with rfl | rfl
          · rw [List.mem_singleton.mp z]
            exact List.mem_append_left _ po
          · cases z
        · exact List.mem_append_right _ z
    | succ i =>
      have hi' : δ1[i]? = some s := by simpa using hi
      have hσ' : σ1[i]? = some (some (.ref p)) := by simpa using hσ
      obtain ⟨w, o3, z1, z2, z3⟩ := t.at hi'
      rw [hσ'] at z1
      cases z1
      have p2 : p ∈ o2 := z3 p (own _ z2)
      obtain ⟨o', h1, h2, h3⟩ := ih n2 (fun q hq => sub q (List.mem_append_right _ hq)) hi' hσ'
      refine ⟨o1 ++ o', List.nodup_append.mpr ⟨n1, h1, fun x hx y hy e => ?_⟩, fun b hb => ?_, .cons (a.write hp l (fun z => n3 p z p p2 rfl) (sub p (List.mem_append_right _ p2))) h3⟩
      · subst e
        exact n3 x hx x (h2 x hy) rfl
      · rcases List.mem_append.mp hb with z | z
        · exact List.mem_append_left _ z
        · exact List.mem_append_right _ (h2 b z)
/-- the own object at slot i is written -/
theorem Sts.putG {os : List Addr} {σ : L2.St} {H : Hp} {i : Nat} {s s' : Sl} {p : Addr} {x y : HO} {q : List Addr} (st : Sts C os b δ σ H) (hi : δ[i]? = some s) (hσ : σ[i]? = some (some (.ref p)))
    (hp : H p = some x) (l : Lk x y) (hpo : p ∈ os) (own : ∀ o1, Slot C.K C.Z os H s (some (.ref p)) o1 → p ∈ o1) (hq : q = [p] ∨ q = []) (new : Slot C.K C.Z os (upd H p y) s' (some (.ref p)) q) :
    Sts C os b (δ.set i s') σ (upd H p y) ∧ Gr C.Z os H os (upd H p y) := by
  obtain ⟨o, nd, sub, sl⟩ := st.sl
  obtain ⟨o', h1, h2, h3⟩ := sl.putG nd sub hi hσ hp l own hq new
  refine ⟨⟨?_, ?_, ?_, o', h1, fun a ha => sub a (h2 a ha), h3⟩, ⟨Fr.putL (.inr hpo) hp l, fun q hq => .inl hq⟩⟩
  · intro a o0 ea
    have ne : a ≠ p := ne_of_none ea (st.new p hpo).1
    rcases st.fr a o0 ea with z | ⟨m, q, z1, z2⟩
    · exact .inl (by rw [upd_ne ne]; exact z)
    · exact .inr ⟨m, q, by rw [upd_ne ne]; exact z1, z2⟩
  · exact C.Z.stay _ _ _ st.j (Fr.putL (st.new p hpo).2.1 hp l)
  · intro q hq
    refine ⟨(st.new q hq).1, (st.new q hq).2.1, ?_⟩
    by_cases z : q = p
    · rw [z]
      exact ⟨_, upd_same⟩
    · obtain ⟨zs, y⟩ := (st.new q hq).2.2
      exact ⟨zs, by rw [upd_ne z]; exact y⟩
theorem Sts.own {os : List Addr} {σ : L2.St} {H : Hp} {i : Nat} {ds : List D} (st : Sts C os b δ σ H) (hi : δ[i]? = some (.ow ds)) :
    ∃ p xs, σ[i]? = some (some (.ref p)) ∧ p ∈ os ∧ H p = some (.lst xs) ∧ RpA C.K H xs ds ∧
      ∀ ds' ys, RpA C.K H ys ds' → Sts C os b (δ.set i (.ow ds')) σ (upd H p (.lst ys)) ∧ Gr C.Z os H os (upd H p (.lst ys)) := by
  obtain ⟨o, nd, sub, sl⟩ := st.sl
  obtain ⟨w, o1, e, a, ho⟩ := sl.at hi
  cases a with
  | @ow p xs _ e1 r =>
    have hp := sub p (ho p (by simp))
    refine ⟨p, xs, e, hp, e1, r, fun ds' ys ra => st.putG hi e e1 .l hp (fun o1 z => ?_) (.inl rfl) (.ow upd_same (ra.fr (Fr.putL (M := fun a => a = p) rfl e1 .l)))⟩
    cases z
    simp
/-- the own dict at slot i -/
theorem Sts.ownD {os : List Addr} {σ : L2.St} {H : Hp} {i : Nat} {c : Dc} (st : Sts C os b δ σ H) (hi : δ[i]? = some (.od c)) :
    ∃ p, σ[i]? = some (some (.ref p)) ∧ p ∈ os ∧ ¬ C.Z.S p ∧ DcO C.K H p c ∧
      ∀ x y c', H p = some x → Lk x y → DcO C.K (upd H p y) p c' → Sts C os b (δ.set i (.od c')) σ (upd H p y) ∧ Gr C.Z os H os (upd H p y) := by
  obtain ⟨o, nd, sub, sl⟩ := st.sl
  obtain ⟨w, o1, e, a, ho⟩ := sl.at hi
  cases a with
  | @od p _ e1 =>
    have hp := sub p (ho p (by simp))
    refine ⟨p, e, hp, (st.new p hp).2.1, e1, fun x y c' hx l dn => st.putG hi e hx l hp (fun o1 z => ?_) (.inl rfl) (.od dn)⟩
    cases z
    simp
/-- x.append(e) -/
theorem sv_append (i : Nat) {x : Str} (hline : (apos.endLine == p1.line) = true) (h : EV C b δ e (fun b1 r => ∃ d ds, r = .va d ∧ δ[i]? = some (.ow ds) ∧ ds.length < 16000000 ∧ SV C b1 (δ.set i (.ow (ds ++ [d]))) rest F))
    (hN : C.X.N[i]? = some x := by rfl) (hv : Vis C.X.env.scope x := by first | exact Or.inl rfl | exact Or.inr (Or.inl rfl) | exact Or.inr (Or.inr rfl)) (hd : (x == ("__debug__" : Str)) = false := by decide) (hcd : (x == ("__classdict__" : Str)) = false := by decide)
    (hi : ∃ ds, δ[i]? = some (.ow ds) := by exact ⟨_, rfl⟩)
    (hbase : attributeBase (.Name x p0) "append" C.X.env (eval (.Name x p0) C.X.env) = eval (.Name x p0) C.X.env := by rfl)
    (hfew : ((backTo p1 (starEach [e] C.X.env)).all (fun x => !x.1) && (backToKw p1 (keywordEach [] C.X.env)).all (fun x => x.1.isSome) && decide ([e].length + ([] : List Keyword).length + (if ([] : List Keyword).isEmpty then 0 else 1) < 30)) = true := by rfl)
    (hs : starEach [e] C.X.env = (false, eval e C.X.env) :: starEach [] C.X.env := by rfl) (hplain : (backTo p1 (starEach [] C.X.env)).any (·.1) = false := by rfl)
    (hsw : swapsWith (.Call (.Attribute (.Name x p0) "append" apos) [e] [] p1) none pos.line C.X.env = pure false := by rfl) :
    SV C b δ (.Expr (.Call (.Attribute (.Name x p0) "append" apos) [e] [] p1) pos :: rest) F := by
  intro os σ H st D ed
  refine WSs.of (pss_cons (ps_expr (pe_bm PySem.F.plainAttrs_list PySem.F.slot_list_append PySem.F.type_list_append mt_append (pe_var hN hv hd hcd) (pa_cons peW pa_nil hs) hbase hfew hline hs hplain) hsw) pssW) ?_
  obtain ⟨ds0, hi0⟩ := hi
  obtain ⟨p, xs, e1, hp, ep, ra, go⟩ := st.own hi0
  refine ⟨_, e1, .inl ⟨rfl, xs, SqL.of ep⟩, ?_⟩
  refine h os σ H st _ fun v H1 b1 r f1 j1 rv hr => ?_
  obtain ⟨d, ds, rfl, hi1, hl, q⟩ := hr
  cases rv with | va rv => ?_
  have st1 := st.on f1 j1
  obtain ⟨p', xs', e1', hp', ep', ra', go'⟩ := st1.own hi1
  rw [e1] at e1'
  cases e1'
  obtain ⟨s2, g2⟩ := go' (ds ++ [d]) (xs' ++ [v]) (ra'.append (.cons rv .nil))
  refine ⟨p, xs', v, rfl, rfl, ep', by rw [ra'.len]; exact Nat.lt_of_lt_of_le hl (by decide), ?_⟩
  exact q os σ _ s2 D (ed.on ((Gr.of f1).trans g2))
/-- x.extend(a list) -/
theorem sv_extend (i : Nat) {x : Str} (hline : (apos.endLine == p1.line) = true) (h : EV C b δ e (fun b1 r => ∃ es ds, r = .ow es ∧ δ[i]? = some (.ow ds) ∧ ds.length + es.length ≤ 16000000 ∧ SV C b1 (δ.set i (.ow (ds ++ es))) rest F))
    (hN : C.X.N[i]? = some x := by rfl) (hv : Vis C.X.env.scope x := by first | exact Or.inl rfl | exact Or.inr (Or.inl rfl) | exact Or.inr (Or.inr rfl)) (hd : (x == ("__debug__" : Str)) = false := by decide) (hcd : (x == ("__classdict__" : Str)) = false := by decide)
    (hi : ∃ ds, δ[i]? = some (.ow ds) := by exact ⟨_, rfl⟩)
    (hbase : attributeBase (.Name x p0) "extend" C.X.env (eval (.Name x p0) C.X.env) = eval (.Name x p0) C.X.env := by rfl)
    (hfew : ((backTo p1 (starEach [e] C.X.env)).all (fun x => !x.1) && (backToKw p1 (keywordEach [] C.X.env)).all (fun x => x.1.isSome) && decide ([e].length + ([] : List Keyword).length + (if ([] : List Keyword).isEmpty then 0 else 1) < 30)) = true := by rfl)
    (hs : starEach [e] C.X.env = (false, eval e C.X.env) :: starEach [] C.X.env := by rfl) (hplain : (backTo p1 (starEach [] C.X.env)).any (·.1) = false := by rfl)
    (hsw : swapsWith (.Call (.Attribute (.Name x p0) "extend" apos) [e] [] p1) none pos.line C.X.env = pure false := by rfl) :
    SV C b δ (.Expr (.Call (.Attribute (.Name x p0) "extend" apos) [e] [] p1) pos :: rest) F := by
  intro os σ H st D ed
  refine WSs.of (pss_cons (ps_expr (pe_bm PySem.F.plainAttrs_list PySem.F.slot_list_extend PySem.F.type_list_extend mt_extend (pe_var hN hv hd hcd) (pa_cons peW pa_nil hs) hbase hfew hline hs hplain) hsw) pssW) ?_
  obtain ⟨ds0, hi0⟩ := hi
  obtain ⟨p, xs, e1, hp, ep, ra, go⟩ := st.own hi0
  refine ⟨_, e1, .inl ⟨rfl, xs, SqL.of ep⟩, ?_⟩
  refine h os σ H st _ fun v H1 b1 r f1 j1 rv hr => ?_
  obtain ⟨es, ds, rfl, hi1, hl, q⟩ := hr
  cases rv with | @ow l zs _ n el ns rl => ?_
  have st1 := st.on f1 j1
  obtain ⟨p', xs', e1', hp', ep', ra', go'⟩ := st1.own hi1
  rw [e1] at e1'
  cases e1'
  obtain ⟨s2, g2⟩ := go' (ds ++ es) (xs' ++ zs) (ra'.append rl)
  refine ⟨p, l, xs', zs, rfl, rfl, ep', el, by rw [ra'.len, rl.len]; exact sz1 hl, ?_⟩
  exact q os σ _ s2 D (ed.on ((Gr.of f1).trans g2))
end
end PD
set_option Elab.async false
set_option linter.all false
set_option maxRecDepth 100000
set_option maxHeartbeats 4000000
namespace PD
open PySem PySem.Spec PyProof.Rows L2
section
variable {C : Cn} {b : Nat} {δ : List Sl} {F : Fin} {pos p0 p1 apos : Pos} {e e1 e2 c tg iter : Expr} {rest ss : List Stmt} {es : List Expr}
/-- a, b = e -/
theorem sv_unpack (p : Pat) (hg : PG C.X tg (gPat C.X.K p)) (h : EV C b δ e (fun b1 r => ∃ d δ', r = .va d ∧ bindP p d δ = some δ' ∧ SV C b1 δ' rest F)) (hs : swapsWithSole [tg] e pos.line C.X.env = pure false := by rfl) (hw : swappedStores [tg] e C.X.env = pure none := by rfl)
    (h1 : (assignEach [tg] C.X.env).map (·.2) = [assign tg C.X.env] := by rfl) : SV C b δ (.Assign [tg] e pos :: rest) F := by
  intro os σ H st D ed
  refine WSs.of (pss_cons (ps_asg peW hg hs hw h1) pssW) ?_
  refine h os σ H st _ fun v H1 b1 r f1 j1 rv hr => ?_
  obtain ⟨d, δ', rfl, hb, q⟩ := hr
  cases rv with | va rv => ?_
  obtain ⟨σ', s2, _, go⟩ := bind_ok p rv (st.on f1 j1) hb
  exact go _ (q os σ' H1 s2 D (ed.on (Gr.of f1)))
/-- a, b = x.pop() -/
theorem sv_popU (p : Pat) (i : Nat) {x : Str} {ds : List D} {d : D} {δ' : List Sl} (hg : PG C.X tg (gPat C.X.K p)) (hi : δ[i]? = some (.ow (ds ++ [d]))) (hb : bindP p d (δ.set i (.ow ds)) = some δ') (q : SV C b δ' rest F) (hline : (apos.endLine == p1.line) = true)
    (hN : C.X.N[i]? = some x := by rfl) (hv : Vis C.X.env.scope x := by first | exact Or.inl rfl | exact Or.inr (Or.inl rfl) | exact Or.inr (Or.inr rfl)) (hd : (x == ("__debug__" : Str)) = false := by decide) (hcd : (x == ("__classdict__" : Str)) = false := by decide)
    (hbase : attributeBase (.Name x p0) "pop" C.X.env (eval (.Name x p0) C.X.env) = eval (.Name x p0) C.X.env := by rfl)
    (hs : swapsWithSole [tg] (.Call (.Attribute (.Name x p0) "pop" apos) [] [] p1) pos.line C.X.env = pure false := by rfl) (hw : swappedStores [tg] (.Call (.Attribute (.Name x p0) "pop" apos) [] [] p1) C.X.env = pure none := by rfl)
    (h1 : (assignEach [tg] C.X.env).map (·.2) = [assign tg C.X.env] := by rfl) : SV C b δ (.Assign [tg] (.Call (.Attribute (.Name x p0) "pop" apos) [] [] p1) pos :: rest) F := by
  intro os σ H st D ed
  refine WSs.of (pss_cons (ps_asg (pe_bm0 PySem.F.plainAttrs_list PySem.F.slot_list_pop PySem.F.type_list_pop mt_pop (pe_var hN hv hd hcd) hbase hline) hg hs hw h1) pssW) ?_
  obtain ⟨p2, xs, e1, hp, ep, ra, go⟩ := st.own hi
  refine ⟨_, e1, .inl ⟨rfl, xs, SqL.of ep⟩, ?_⟩
  have hl : xs.length = ds.length + 1 := by rw [ra.len]; simp
  obtain ⟨v, hv2, rv⟩ := ra.get (i := ds.length) (d := d) (by simp)
  have hr : RpA C.K H xs.dropLast ds := by
    have := ra.take ds.length
    rw [List.take_left'  rfl] at this
    rw [List.dropLast_eq_take, hl]
    exact this
  obtain ⟨s2, g2⟩ := go ds xs.dropLast hr
  refine ⟨p2, xs, v, rfl, rfl, ep, by rw [hl]; exact hv2, ?_⟩
  obtain ⟨σ', s3, _, go3⟩ := bind_ok p (rv.fr (M := fun a => a = p2) (Fr.put rfl ep)) s2 hb
  exact go3 _ (q os σ' _ s3 D (ed.on g2))
/-- x += e of ints -/
theorem sv_augI (i : Nat) {x : Str} {n : Int} (hi : δ[i]? = some (.va (.int n))) (h : EV C b δ e (fun b1 r => ∃ m, r = .va (.int m) ∧ SV C b1 (δ.set i (.va (.int (n + m)))) rest F)) (hN : C.X.N.Nodup) (hix : C.X.N[i]? = some x := by rfl) (hx : Loc C.X.env.scope x := by first | exact Or.inl rfl | exact Or.inr rfl)
    (hf : C.X.fn x = true ∨ C.X.env.scope.names.lookup x = some .local := by first | exact .inl rfl | exact .inr rfl) : SV C b δ (.AugAssign (.Name x p0) .Add e pos :: rest) F := by
  intro os σ H st D ed
  refine WSs.of (pss_cons (ps_aug hN hix hx peW ip_add hf) pssW) ?_
  obtain ⟨o, _, sub, sl⟩ := st.sl
  obtain ⟨w, o1, e1, a, _⟩ := sl.at hi
  cases a with
  | va r =>
    cases r
    refine ⟨_, e1, ?_⟩
    refine h os σ H st _ fun v H1 b1 r f1 j1 rv hr => ?_
    obtain ⟨m, rfl, q⟩ := hr
    cases rv with | va rv => ?_
    cases rv
    refine ⟨n, m, rfl, rfl, ?_⟩
    exact q os _ H1 ((st.on f1 j1).va1 i (.int (n + m))) D (ed.on (Gr.of f1))
end
/-- a text, sign by sign -/
theorem ei_str {C : Cn} {b : Nat} {δ : List Sl} {P : Nat → List D → Prop} {tg iter : Expr} (h : EV C b δ iter (fun b1 r => ∃ x : Str, r = .va (.str x) ∧ P b1 (x.cps.toList.map fun c => D.str ⟨#[c]⟩))) : EI C b δ tg iter P := by
  intro os σ H st R k
  refine WI.of (pi_str peW) ?_
  refine h os σ H st _ fun v H1 b1 r f1 j1 rv hr => ?_
  obtain ⟨x, rfl, q⟩ := hr
  cases rv with | va rv => ?_
  cases rv
  refine ⟨x, rfl, k _ H1 b1 _ f1 j1 ⟨fun os' H' g i hi => ?_, fun os' H' g i hi => ?_⟩ q⟩
  · have hi' : i < x.cps.size := by simpa using hi
    refine ⟨hi', fun y H2 z => ?_⟩
    obtain ⟨rfl, c, hc, rfl⟩ := z
    refine ⟨Fr.refl, _, ?_, .str _⟩
    rw [List.getElem?_map, Array.getElem?_toList, hc]
    rfl
  · show x.cps.size ≤ i
    simpa using hi
end PD
set_option Elab.async false
set_option linter.all false
set_option maxRecDepth 100000
set_option maxHeartbeats 4000000
namespace PD
open PySem PySem.Spec PyProof.Rows L2

/-- a def that is a function of data: g tells what it gives, where it is asked -/
def spP (Z : Vol) (K : PySem.W.Frag) (n : Nat) (g : List D → Option Res) : Sp :=
  spD Z K n (fun _ as => ∃ ds r, as = ds.map Ar.va ∧ g ds = some r) (fun b as b' r => b' = b ∧ ∃ ds, as = ds.map Ar.va ∧ g ds = some r)
theorem vas_ar : ∀ {rs : List Res} {ds : List D}, vas rs = some ds → rs.map Res.ar = ds.map Ar.va ∧ rs.length = ds.length
  | [], ds, h => by cases h; exact ⟨rfl, rfl⟩
  | r :: rs, ds, h => by
    cases r with
    | va d =>
      simp only [vas] at h
      cases e : vas rs with
      | none => rw [e] at h; cases h
      | some l =>
        rw [e] at h
        cases h
        obtain ⟨h1, h2⟩ := vas_ar e
        exact ⟨by simp [Res.ar, h1], by simp [h2]⟩
    | _ => cases h
theorem map_va_inj : ∀ {ds es : List D}, ds.map Ar.va = es.map Ar.va → ds = es
  | [], [], _ => rfl
  | [], _ :: _, h => by cases h
  | _ :: _, [], h => by cases h
  | d :: ds, e :: es, h => by
    simp only [List.map_cons, List.cons.injEq, Ar.va.injEq] at h
    rw [h.1, map_va_inj h.2]
section
variable {C : Cn} {b : Nat} {δ : List Sl} {P : Nat → Res → Prop} {pos p0 : Pos} {e : Expr} {es : List Expr}
theorem ev_callP {x : Str} {k n : Nat} {ps : List Str} {g : List D → Option Res} (F : Df C.X.prog C.X.w C.X.K C.X.mg C.X.base x k ps (spP C.Z C.K n g)) (hr : Room k C.X.A)
    (h : EVA C b δ (e :: es) (fun b1 rs => ∃ ds r, vas rs = some ds ∧ ds.length = n ∧ g ds = some r ∧ P b1 r)) (hg : Gl C.X x := by rfl)
    (hdb : (x == ("__debug__" : Str)) = false := by decide) (he : starEach (e :: es) C.X.env = (false, eval e C.X.env) :: starEach es C.X.env := by rfl) (hpl : (backTo pos (starEach es C.X.env)).any (·.1) = false := by rfl) :
    EV C b δ (.Call (.Name x p0) (e :: es) [] pos) P := by
  refine ev_call F hr (fun os σ H st Q k => h os σ H st Q fun vs H' b' rs f j rv hh => k vs H' b' rs f j rv ?_) hg hdb he hpl
  obtain ⟨ds, r, h1, h2, h3, h4⟩ := hh
  obtain ⟨a1, a2⟩ := vas_ar h1
  refine ⟨by rw [a2, h2], ⟨ds, r, a1, h3⟩, fun b2 r2 _ ⟨hb, ds', e1, e2⟩ => ?_⟩
  rw [a1] at e1
  rw [← map_va_inj e1, h3] at e2
  cases e2
  rw [hb]
  exact h4
end
section
variable {P : Program} {w : World} {K : PySem.W.Frag} {mg : Str → Option Value} {base : Heap} {Z : Vol}
theorem fn_pure {x qual : Str} {st : Stmt} {f : Addr} {fd : FuncData} {N ps : List Str} {k n : Nat} {g : List D → Option Res} (F : Fun K x qual st f fd) (S : FnScope N ps (defScope st)) (hn : ps.length = n) (ho : ∀ ds r, g ds = some r → r.out = true)
    (body : ∀ (cdv : Value) (A : Around) (outer : List Env) (s : Shared) (H : Hp) (E : XK) (b : Nat) (ds : List D) (r : Res), Room k (A.deeper (envOfC qual (defScope st) s.heap.objs.size f cdv)) → ds.length = n → g ds = some r →
      SV ⟨(cxOf CX0 P w K mg base N qual (defScope st) f cdv A outer s H E).nox, Z, H⟩ b (ds.map Sl.va ++ List.replicate (N.length - n) .un) (defBody st) (retF fun b' r' => b' = b ∧ r' = r)) :
    FnOk P w K mg base CX0 (k + 1) f fd ps (spP Z K n g) := by
  refine fn_body F S hn fun cdv A outer s H E b as hr hl hp => ?_
  obtain ⟨ds, r, rfl, hg⟩ := hp
  have e : (ds.map Ar.va).map Ar.sl = ds.map Sl.va := by rw [List.map_map]; rfl
  rw [e]
  refine (body cdv A outer s H E b ds r hr (by simpa using hl) hg).imp (fun b' _ h => ?_) (fun _ _ h => h.elim) (fun _ _ h => h.elim) (fun b' r' h => ?_)
  · exact ⟨h.1, ds, rfl, by rw [hg, h.2]⟩
  · exact ⟨h.1, h.2.1, ds, rfl, by rw [hg, h.2.2]⟩
end
end PD
namespace PD
open PySem PySem.Spec PyProof.Rows L2
section
variable {C : Cn} {b : Nat} {δ : List Sl} {P : Nat → Res → Prop} {tg iter elt e c : Expr} {pos p0 : Pos} {scope : Scope}
/-- [elt for tg in iter], elt a function of the item -/
theorem ev_map (p : Pat) (own : List (Str × Nat)) (g : D → D) (hc : C.X.calm = true) (hN : C.X.N.Nodup) (ok : BlkOk C.X.N C.X.env.scope scope own)
    (hg : ∀ (s : Shared) (H : Hp) (Cc : Addr) (cl : List (Str × Addr)) (fp : List Addr), PG (C.X.blk s H scope (compEnvC scope cl Cc C.X.env) fp) tg (gPat C.X.K p))
    (hp : ∀ i ∈ p.slots, i ∈ own.map (·.2))
    (h : EIc C b δ tg iter (fun b1 ds => ds.length ≤ 16000000 ∧ (∀ d ∈ ds, ∃ δ', bindP p d (wipeD δ (own.map (·.2))) = some δ' ∧
      ∀ (s : Shared) (H : Hp) (Cc : Addr) (cl : List (Str × Addr)) (fp : List Addr), EV (C.blk s H scope (compEnvC scope cl Cc C.X.env) fp) b1 δ' elt (fun b4 r => b4 = b1 ∧ r = .va (g d))) ∧ P b1 (.ow (ds.map g))))
    (hs : ∀ x, foldedSetIterable iter C.X.env x = pure x := by intro _; rfl) : EV C b δ (.ListComp elt [⟨tg, iter, [], 0⟩] scope pos) P := by
  refine ev_lc p own hc hN ok hg hp (fun os σ H st R k => h os σ H st R fun J H1 b1 ds f j w hh => k J H1 b1 ds f j w ?_) hs
  obtain ⟨hl, step, last⟩ := hh
  refine ⟨hl, fun b' pre acc => b' = b1 ∧ acc = pre.map g, ⟨rfl, rfl⟩, fun pre d post acc b2 e iv => ?_, fun b2 acc iv => ?_⟩
  · obtain ⟨rfl, rfl⟩ := iv
    obtain ⟨δ', hb, hstep⟩ := step d (by rw [e]; simp)
    refine ⟨δ', hb, fun s H Cc cl fp => ?_⟩
    unfold ETs
    refine iteT fun s H Cc cl fp => ?_
    refine (hstep s H Cc cl fp).imp fun b4 r hr => ?_
    exact ⟨g d, hr.2, hr.1, by simp⟩
  · obtain ⟨rfl, rfl⟩ := iv
    exact last
/-- [elt for tg in iter if c] -/
theorem ev_filt (p : Pat) (own : List (Str × Nat)) (t : D → Bool) (g : D → D) (hc : C.X.calm = true) (hN : C.X.N.Nodup) (ok : BlkOk C.X.N C.X.env.scope scope own)
    (hg : ∀ (s : Shared) (H : Hp) (Cc : Addr) (cl : List (Str × Addr)) (fp : List Addr), PG (C.X.blk s H scope (compEnvC scope cl Cc C.X.env) fp) tg (gPat C.X.K p))
    (hp : ∀ i ∈ p.slots, i ∈ own.map (·.2))
    (h : EIc C b δ tg iter (fun b1 ds => ds.length ≤ 16000000 ∧ (∀ d ∈ ds, ∃ δ', bindP p d (wipeD δ (own.map (·.2))) = some δ' ∧
      (∀ (s : Shared) (H : Hp) (Cc : Addr) (cl : List (Str × Addr)) (fp : List Addr), ET (C.blk s H scope (compEnvC scope cl Cc C.X.env) fp) b1 δ' c (fun b3 k => b3 = b1 ∧ k = t d)) ∧
      (t d = true → ∀ (s : Shared) (H : Hp) (Cc : Addr) (cl : List (Str × Addr)) (fp : List Addr), EV (C.blk s H scope (compEnvC scope cl Cc C.X.env) fp) b1 δ' elt (fun b4 r => b4 = b1 ∧ r = .va (g d)))) ∧ P b1 (.ow ((ds.filter t).map g))))
    (hs : ∀ x, foldedSetIterable iter C.X.env x = pure x := by intro _; rfl) : EV C b δ (.ListComp elt [⟨tg, iter, [c], 0⟩] scope pos) P := by
  refine ev_lc p own hc hN ok hg hp (fun os σ H st R k => h os σ H st R fun J H1 b1 ds f j w hh => k J H1 b1 ds f j w ?_) hs
  obtain ⟨hl, step, last⟩ := hh
  refine ⟨hl, fun b' pre acc => b' = b1 ∧ acc = (pre.filter t).map g, ⟨rfl, rfl⟩, fun pre d post acc b2 e iv => ?_, fun b2 acc iv => ?_⟩
  · obtain ⟨rfl, rfl⟩ := iv
    obtain ⟨δ', hb, htest, hstep⟩ := step d (by rw [e]; simp)
    refine ⟨δ', hb, fun s H Cc cl fp => ?_⟩
    intro os σ H2 st2 Q k2
    refine htest s H Cc cl fp os σ H2 st2 Q fun kk H' b' f' j' hk => k2 kk H' b' f' j' ?_
    obtain ⟨rfl, rfl⟩ := hk
    cases ht : t d with
    | true =>
      refine iteT fun s H Cc cl fp => (hstep ht s H Cc cl fp).imp fun b4 r hr => ?_
      exact ⟨g d, hr.2, hr.1, by simp [List.filter_append, List.filter_cons, ht]⟩
    | false => exact iteF ⟨rfl, by simp [List.filter_append, List.filter_cons, ht]⟩
  · obtain ⟨rfl, rfl⟩ := iv
    exact last
end
end PD
set_option Elab.async false
set_option linter.all false
set_option maxRecDepth 100000
set_option maxHeartbeats 4000000
/-! What the program's parts are, as functions of data. -/
namespace G
open PySem PD
/-- five things, the first one the word of elements -/
def isE5 : List D → Bool
  | [.str x, _, _, _, _] => decide (x = "element")
  | _ => false
mutual
/-- no text, no tuple beyond this size, all the way down; the declarations of elements are tuples whose object is known -/
def sm : D → Bool
  | .str x => decide (x.length ≤ 100000)
  | .tup ds => decide (ds.length ≤ 50000) && (if isE5 ds = true then sm5 ds else sms ds)
  | .pt _ => false
  | .obj .unit _ => false
  | _ => true
def sms : List D → Bool
  | [] => true
  | d :: ds => sm d && sms ds
def sm5 : List D → Bool
  | [_, n, .pt ds, a, .tup cs] => sm n && (decide (ds.length ≤ 50000) && sms ds) && sm a && (decide (cs.length ≤ 50000) && sms cs)
  | _ => false
end
/-- .. children, declarations by themselves -/
def smK : D → Bool
  | .tup ds => decide (ds.length ≤ 50000) && sms ds
  | d => sm d
def smD : D → Bool
  | .pt ds => decide (ds.length ≤ 50000) && sms ds
  | .tup _ => false
  | d => sm d
theorem sm_mem : ∀ {ds : List D} {d : D}, sms ds = true → d ∈ ds → sm d = true
  | [], _, _, h => nomatch h
  | x :: xs, d, h, hm => by
    have h' : sm x = true ∧ sms xs = true := by simpa [sms] using h
    rcases List.mem_cons.mp hm with rfl | hm
    · exact h'.1
    · exact sm_mem h'.2 hm
theorem isE5_short {ds : List D} (h : ds.length ≠ 5) : isE5 ds = false := by
  unfold isE5
  split
  · exact absurd rfl h
  · rfl
theorem sm_str {x : Str} (h : sm (.str x) = true) : x.length ≤ 16000000 := Nat.le_trans (show x.length ≤ 100000 by simpa [sm] using h) (by decide)
theorem sm_tup {ds : List D} (h : sm (.tup ds) = true) (h5 : isE5 ds = false := by first | rfl | exact isE5_short (by simp)) : ds.length ≤ 50000 ∧ sms ds = true := by
  rw [sm, h5, Bool.and_eq_true, decide_eq_true_eq] at h
  exact ⟨h.1, by simpa using h.2⟩
theorem smK_tup {ds : List D} (h : smK (.tup ds) = true) : ds.length ≤ 50000 ∧ sms ds = true := by simpa [smK] using h
theorem smD_pt {ds : List D} (h : smD (.pt ds) = true) : ds.length ≤ 50000 ∧ sms ds = true := by simpa [smD] using h
theorem sm_el {n de a ch : D} (h : sm (.tup [.str "element", n, de, a, ch]) = true) : (∃ ds cs, de = .pt ds ∧ ch = .tup cs) ∧ sm n = true ∧ smD de = true ∧ sm a = true ∧ smK ch = true := by
  rw [sm, show isE5 [.str "element", n, de, a, ch] = true from rfl, Bool.and_eq_true] at h
  have h2 : sm5 [.str "element", n, de, a, ch] = true := by simpa using h.2
  unfold sm5 at h2
  split at h2
  · rename_i e
    injection e with _ e
    injection e with e1 e
    injection e with e2 e
    injection e with e3 e
    injection e with e4 _
    subst e1 e2 e3 e4
    simp only [Bool.and_eq_true] at h2
    exact ⟨⟨_, _, rfl, rfl⟩, h2.1.1.1, by rw [smD, Bool.and_eq_true]; exact h2.1.1.2, h2.1.2, by rw [smK, Bool.and_eq_true]; exact h2.2⟩
  · cases h2
/-- of signs, least to most of them -/
def mdo (signs : Str) (lo hi : Int) : D → Bool
  | .str x => decide (lo ≤ (x.length : Int)) && decide ((x.length : Int) ≤ hi) && x.cps.toList.all fun c => decide (c ∈ signs.cps.toList)
  | _ => false
def letters : Str := "abcdefghijklmnopqrstuvwxyz"
def addrS : Str := "abcdefghijklmnopqrstuvwxyz0123456789./:-"
def plainS : Str := "abcdefghijklmnopqrstuvwxyz0123456789 ./-"
def isText (w : Str) : D → Bool
  | .str x => decide (x = w)
  | _ => false
def isPrefix (d : D) : Bool := mdo letters 0 8 d && !isText "xmlns" d
def isLocal (d : D) : Bool := mdo letters 1 8 d && !isText "xmlns" d
def isAddr (d : D) : Bool := mdo addrS 1 20 d
def isWord (d : D) : Bool := mdo letters 1 8 d
def isPlain (d : D) : Bool := mdo plainS 0 20 d
def isPair : D → Bool
  | .tup ds => decide ((ds.length : Int) = 2)
  | _ => false
def isName : D → Bool
  | .tup [a, b] => isPrefix a && isLocal b
  | _ => false
def begins (w : Str) : D → Bool
  | .tup (.str x :: _) => decide (x = w)
  | _ => false
def isHole : D → Bool
  | .tup [.str x, h] => decide (x = "hole") && isWord h
  | _ => false
def isEmptyS : D → Bool
  | .str x => decide ((x.length : Int) = 0)
  | _ => false
def isDecl : D → Bool
  | .tup [a, b] => isPrefix a && (isAddr b || isEmptyS b)
  | _ => false
def isAttr : D → Bool
  | .tup [n, v] => isName n && (isPlain v || isName v)
  | _ => false
theorem mdo_str {s : Str} {lo hi : Int} {d : D} (h : mdo s lo hi d = true) : ∃ x, d = .str x := by
  cases d with
  | str x => exact ⟨x, rfl⟩
  | _ => cases h
/-- a truth value of data that is small -/
def gB (f : D → Bool) : List D → Option Res
  | [d] => if sm d = true then some (.va (.bl (f d))) else none
  | _ => none
theorem gB_out {f : D → Bool} : ∀ (ds : List D) (r : Res), gB f ds = some r → r.out = true := by
  intro ds r h
  unfold gB at h
  split at h
  · split at h
    · cases h; rfl
    · cases h
  · cases h
theorem gB_of {f : D → Bool} {d : D} (h : sm d = true) : gB f [d] = some (.va (.bl (f d))) := by
  show (if sm d = true then _ else _) = _
  rw [if_pos h]
theorem gB_one {f : D → Bool} {ds : List D} {r : Res} (h : gB f ds = some r) : ∃ d, ds = [d] ∧ sm d = true ∧ r = .va (.bl (f d)) := by
  unfold gB at h
  split at h
  · rename_i d
    split at h
    · rename_i hs
      cases h
      exact ⟨d, rfl, hs, rfl⟩
    · cases h
  · cases h
def gMade : List D → Option Res
  | [d, .str s, .int lo, .int hi] => if sm d = true then some (.va (.bl (mdo s lo hi d))) else none
  | _ => none
def gBegins : List D → Option Res
  | [d, .str w] => if sm d = true then some (.va (.bl (begins w d))) else none
  | _ => none
end G
set_option Elab.async false
set_option linter.all false
set_option maxRecDepth 100000
set_option maxHeartbeats 4000000
namespace G
open PySem PD
/-! ### children, elements -/
/-- bt: a text stood ahead -/
def kidsOk : Bool → List D → Bool
  | _, [] => true
  | bt, d :: ds => if d.isS then !(bt || isEmptyS d || !isPlain d) && kidsOk true ds else (begins "element" d || isHole d) && kidsOk false ds
def areChildren : D → Bool
  | .tup ds => kidsOk false ds
  | _ => false
/-- the items of a list, each once -/
def nodupB [DecidableEq α] : List α → Bool
  | [] => true
  | x :: xs => !decide (x ∈ xs) && nodupB xs
def strOf : D → Str
  | .str x => x
  | _ => ""
def fstOf : D → D
  | .tup (a :: _) => a
  | _ => .non
def sndOf : D → D
  | .tup (_ :: a :: _) => a
  | _ => .non
def nameOf (d : D) : Str × Str := (strOf (fstOf d), strOf (sndOf d))
def areDecls : D → Bool
  | .pt ds => ds.all isDecl && nodupB (ds.map fun d => strOf (fstOf d))
  | _ => false
def areAttrs : D → Bool
  | .tup ds => ds.all isAttr && nodupB (ds.map fun d => nameOf (fstOf d))
  | _ => false
/-- the first item by which a thing is no element by itself -/
def wrongItem : D → Option Str
  | .tup [k, n, de, at_, ch] =>
    if begins "element" (.tup [k, n, de, at_, ch]) then
      if isName n then if areDecls de then if areAttrs at_ then if areChildren ch then none else some "children" else some "attributes" else some "declarations" else some "name"
    else some "form"
  | _ => some "form"
def optD : Option Str → D
  | none => .non
  | some x => .str x
/-- the children of an element -/
def kidsOf : D → List D
  | .tup [k, a, b, c, .tup ch] => if isE5 [k, a, b, c, .tup ch] = true then ch else []
  | _ => []
theorem kids_lt : ∀ (d : D), (kidsOf d ≠ [] → sizeOf (kidsOf d) < sizeOf d) := by
  intro d h
  unfold kidsOf at h ⊢
  split
  · split
    · simp; omega
    · rename_i z
      simp [z] at h
  · rename_i z
    split at h
    · rename_i z2
      exact absurd rfl (z _ _ _ _ _)
    · exact absurd rfl h
/-- the elements among children, with their paths -/
def elemsAt (p : List D) : Nat → List D → List (List D × D)
  | _, [] => []
  | k, c :: cs => if begins "element" c then (p ++ [.int (k : Nat)], c) :: elemsAt p (k + 1) cs else elemsAt p (k + 1) cs
theorem elemsAt_size (p : List D) : ∀ (k : Nat) (cs : List D) (q : List D × D), q ∈ elemsAt p k cs → sizeOf q.2 < sizeOf cs
  | _, [], _, h => nomatch h
  | k, c :: cs, q, h => by
    unfold elemsAt at h
    split at h
    · rcases List.mem_cons.mp h with rfl | h
      · simp; omega
      · have := elemsAt_size p (k + 1) cs q h
        simp; omega
    · have := elemsAt_size p (k + 1) cs q h
      simp; omega
/-- an element and all within it, in their order -/
def pre (p : List D) (d : D) : List (List D × D) :=
  (p, d) :: ((elemsAt p 0 (kidsOf d)).attach.flatMap fun q => pre q.1.1 q.1.2)
termination_by sizeOf d
decreasing_by
  have h := elemsAt_size p 0 (kidsOf d) q.1 q.2
  have h2 : kidsOf d ≠ [] := fun e => by
    have hq := q.2
    have e2 : elemsAt p 0 (kidsOf d) = [] := by rw [e]; rfl
    have hn : ∀ (l : List (List D × D)) (x : List D × D), l = [] → x ∈ l → False := fun l x z hx => by rw [z] at hx; cases hx
    exact hn _ _ e2 hq
  have := kids_lt d h2
  omega
theorem pre_eq (p : List D) (d : D) : pre p d = (p, d) :: (elemsAt p 0 (kidsOf d)).flatMap fun q => pre q.1 q.2 := by
  rw [pre]
  congr 1
  have h : ∀ (l : List (List D × D)), (l.attach.flatMap fun q => pre q.1.1 q.1.2) = l.flatMap fun q => pre q.1 q.2 := fun l => by
    rw [List.flatMap_def, List.flatMap_def]
    congr 1
    exact List.attach_map_val (l := l) (f := fun q : List D × D => pre q.1 q.2)
  exact h _
def preAll (st : List (List D × D)) : List (List D × D) := st.flatMap fun q => pre q.1 q.2
theorem preAll_cons (p : List D) (d : D) (st : List (List D × D)) : preAll ((p, d) :: st) = (p, d) :: preAll (elemsAt p 0 (kidsOf d) ++ st) := by
  unfold preAll
  rw [List.flatMap_cons, pre_eq, List.flatMap_append]
  rfl
theorem preAll_len (st : List (List D × D)) : st.length ≤ (preAll st).length := by
  induction st with
  | nil => exact Nat.le_refl _
  | cons q st ih =>
    obtain ⟨p, d⟩ := q
    unfold preAll at ih ⊢
    rw [List.flatMap_cons, pre_eq, List.length_append, List.length_cons, List.length_cons]
    omega
/-- what is first wrong along a list of things in their order; n have been looked at -/
def fw : Nat → List (List D × D) → Option (List D × Str)
  | _, [] => none
  | n, (p, d) :: r => if n + 1 ≤ 60 ∧ p.length < 8 then (match wrongItem d with | some it => some (p, it) | none => fw (n + 1) r) else some (p, "form")
def holeStrs : List D → List D
  | [] => []
  | c :: cs => if begins "hole" c then sndOf c :: holeStrs cs else holeStrs cs
/-- the first element with a hole that was told ahead of it -/
def fh : List Str → List (List D × D) → Option (List D × Str)
  | _, [] => none
  | told, (p, d) :: r => if nodupB (told ++ (holeStrs (kidsOf d)).map strOf) then fh (told ++ (holeStrs (kidsOf d)).map strOf) r else some (p, "hole")
def fault (d : D) : Option (List D × Str) :=
  match fw 0 (pre [] d) with
  | some x => some x
  | none => fh [] (pre [] d)
def pairD (q : List D × D) : D := .tup [.tup q.1, q.2]
def faultD : Option (List D × Str) → D
  | none => .non
  | some (p, it) => .tup [.tup p, .str it]
end G
set_option Elab.async false
set_option linter.all false
set_option maxRecDepth 100000
set_option maxHeartbeats 2000000
/-! Sets of few tuples of texts and ints (at most four: the table is never laid anew). The way through a table is HandS.TupSets' (TabOk, go_spec). -/
namespace KS
open PySem PySem.Spec PyProof.Rows L2
abbrev kh (P : Program) (w : World) (k : List Key) : Int := tupleKeyHash (mixKind P w) k
abbrev IsK (P : Program) (w : World) (h : Heap) (k : List Key) (a : Addr) : Prop := IsTupleKey (mixKind P w) h k a
section
variable {P : Program} {w : World} {A : Around} {E : Value → Shared → Prop} {s : Shared}
def Flat (v : Value) : Prop := (∃ i t, v = Value.int i t) ∨ ∃ x t, v = Value.str x t
theorem items_flat {k : List Key} {vs : List Value} (h : ItemsAre (mixKind P w) k vs) : ∀ v ∈ vs, Flat v := by
  induction h with
  | nil => intro v hv; cases hv
  | @cons k0 v' ks vs h1 _ ih =>
    intro v hv
    rcases List.mem_cons.mp hv with e | hv
    · subst e
      rcases keyIs_shape h1 with ⟨i, t, _, e⟩ | ⟨x, t, _, e⟩
      · exact .inl ⟨i, t, e⟩
      · exact .inr ⟨x, t, e⟩
    · exact ih v hv
theorem ofAClass_flat (n : Nat) {v : Value} (h : Flat v) : ofAClassStatement n v = pure false := by
  rcases h with ⟨i, t, rfl⟩ | ⟨x, t, rfl⟩ <;> (cases n <;> rfl)
theorem hashBy_flat (n : Nat) {v : Value} (h : Flat v) : ∃ c, hashByValue n v = pure c := by
  rcases h with ⟨i, t, rfl⟩ | ⟨x, t, rfl⟩
  · exact ⟨true, by cases n <;> rfl⟩
  · exact ⟨false, by cases n <;> rfl⟩
theorem ofAClass_k {k : List Key} {b : Addr} {Q : Bool → Shared → Prop} (hk : IsK P w s.heap k b) (h : Q false s) : wpAny (model P w) A (ofAClassStatement 8 (.ref b)) Q E s := by
  have hT := hk.typeIs
  obtain ⟨o, items, n, ho, _, hd, hi⟩ := hk
  unfold ofAClassStatement
  refine wpAny_bind (wpAny_typeOf hT ?_)
  dsimp only
  have e : (("tuple" : String) == "tuple") = true := by decide
  simp only [e, if_true, Bool.not_true, Bool.false_eq_true, if_false]
  try refine wpAny_bind (wpAny_pure ?_)
  try simp only [Bool.not_true, Bool.false_eq_true, if_false]
  show wpAny _ _ (seqItems? (.ref b) >>= _) _ _ s
  refine wpAny_bind (wpAny_seqItems ho hd ?_)
  dsimp only
  refine wpAny_bind ?_
  show wpAny _ _ (forIn items _ _) _ _ s
  rw [← Array.forIn_toList]
  refine wpAny_forIn_list _ (fun rest r s' => r.1 = none ∧ s' = s ∧ ∀ v ∈ rest, Flat v) _ ?_ ?_ _ _ ⟨rfl, rfl, items_flat hi⟩
  · rintro v rest r s' ⟨hr, rfl, hall⟩
    rw [ofAClass_flat _ (hall v List.mem_cons_self)]
    refine wpAny_bind (wpAny_pure ?_)
    simp only [Bool.false_eq_true, if_false]
    exact wpAny_pure ⟨rfl, rfl, fun u hu' => hall u (List.mem_cons_of_mem _ hu')⟩
  · rintro ⟨r1, r2⟩ s' ⟨hr, rfl, _⟩
    simp only at hr
    subst hr
    exact wpAny_pure h
theorem hashBy_k {k : List Key} {b : Addr} {Q : Bool → Shared → Prop} (hk : IsK P w s.heap k b) (h : ∀ c, Q c s) : wpAny (model P w) A (hashByValue 8 (.ref b)) Q E s := by
  have hT := hk.typeIs
  obtain ⟨o, items, n, ho, _, hd, hi⟩ := hk
  unfold hashByValue
  refine wpAny_bind (wpAny_specialOf hT PySem.F.slot_tuple_hash.lookup ?_)
  show wpAny _ _ (seqItems? (.ref b) >>= _) _ _ s
  refine wpAny_bind (wpAny_seqItems ho hd ?_)
  refine wpAny_bind ?_
  show wpAny _ _ (forIn items _ _) _ _ s
  rw [← Array.forIn_toList]
  refine wpAny_forIn_list _ (fun rest r s' => r.1 = none ∧ s' = s ∧ ∀ v ∈ rest, Flat v) _ ?_ ?_ _ _ ⟨rfl, rfl, items_flat hi⟩
  · rintro v rest r s' ⟨hr, rfl, hall⟩
    obtain ⟨c, ec⟩ := hashBy_flat 7 (hall v List.mem_cons_self)
    rw [ec]
    refine wpAny_bind (wpAny_pure ?_)
    cases c with
    | true =>
      simp only [Bool.not_true, Bool.false_eq_true, if_false]
      exact wpAny_pure ⟨rfl, rfl, fun u hu' => hall u (List.mem_cons_of_mem _ hu')⟩
    | false =>
      simp only [Bool.not_false, if_true]
      exact wpAny_pure (wpAny_pure (h false))
  · rintro ⟨r1, r2⟩ s' ⟨hr, rfl, _⟩
    simp only at hr
    subst hr
    exact wpAny_pure (h true)
theorem seen_k {k : List Key} {b : Addr} {Q : Bool → Shared → Prop} (hk : IsK P w s.heap k b) {ys : List Value} (hy : ∀ y ∈ ys, ∃ k' c, y = Value.ref c ∧ IsK P w s.heap k' c) (h : Q false s) :
    wpAny (model P w) A (searchCouldBeSeen (.ref b) ys) Q E s := by
  unfold searchCouldBeSeen
  refine wpAny_bind ?_
  refine wpAny_forIn_list _ (fun rest r s' => r.1 = none ∧ s' = s ∧ ∀ y ∈ rest, ∃ k' c, y = Value.ref c ∧ IsK P w s.heap k' c) _ ?_ ?_ _ _ ⟨rfl, rfl, hy⟩
  · rintro v rest r s' ⟨hr, rfl, hall⟩
    obtain ⟨k', c, rfl, hc⟩ := hall v List.mem_cons_self
    have rest' : ∀ y ∈ rest, ∃ k' c, y = Value.ref c ∧ IsK P w s'.heap k' c := fun u hu' => hall u (List.mem_cons_of_mem _ hu')
    dsimp only
    by_cases hv : (b == c || (carriedByValue (.ref b) && carriedByValue (.ref c))) = true
    · exact wp_if_pos hv (wpAny_pure ⟨rfl, rfl, rest'⟩)
    · refine wp_if_neg hv ?_
      refine wpAny_bind (wpAny_eqIsQuiet_tuple hk ?_)
      simp only [Bool.not_true, Bool.false_eq_true, if_false]
      refine wpAny_bind (wpAny_eqIsQuiet_tuple hc ?_)
      simp only [Bool.not_true, Bool.false_eq_true, if_false]
      refine wpAny_bind (ofAClass_k hk ?_)
      simp only [Bool.false_eq_true, if_false]
      refine wpAny_bind (ofAClass_k hc ?_)
      simp only [Bool.false_eq_true, if_false]
      exact wpAny_pure ⟨rfl, rfl, rest'⟩
  · rintro ⟨r1, r2⟩ s' ⟨hr, rfl, _⟩
    simp only at hr
    subst hr
    exact wpAny_pure h
end
end KS
set_option Elab.async false
set_option linter.all false
set_option maxRecDepth 100000
set_option maxHeartbeats 2000000
namespace KS
open PySem PySem.Spec PyProof.Rows L2
section
variable {P : Program} {w : World} {A : Around} {E : Value → Shared → Prop} {s : Shared}
abbrev Row := Addr × List Key
def rowE (P : Program) (w : World) (p : Row) : Int × Value := (kh P w p.2, .ref p.1)
/-- the set at a: the keys L, by their tuples, in the table's order; at most four -/
structure KSet (P : Program) (w : World) (h : Heap) (a : Addr) (L : List Row) (es : Array (Int × Value)) (ep : Nat) (t : SetTable) : Prop where
  ob : ∃ o, h.get? a = some o ∧ o.ExactSet ∧ o.data = .set es ep t
  rows : es.toList = L.map (rowE P w)
  tab : TabOk t (L.map fun p => kh P w p.2)
  nd : (L.map (·.2)).Nodup
  tup : ∀ p ∈ L, IsK P w h p.2 p.1
  led : w.params.followText "set-order" = true ∨ t.led = true
  m7 : t.mask = 7
  few : L.length ≤ 4
variable {a : Addr} {L : List Row} {es : Array (Int × Value)} {ep : Nat} {t : SetTable}
theorem KSet.size (R : KSet P w s.heap a L es ep t) : es.size = L.length := by
  have h := congrArg List.length R.rows
  rw [Array.length_toList, List.length_map] at h
  exact h
theorem KSet.place (R : KSet P w s.heap a L es ep t) : t.place.size = L.length := by
  have h := R.tab.sz
  rwa [List.length_map] at h
theorem KSet.fits (R : KSet P w s.heap a L es ep t) : t.fits es.size = true := by
  have h1 := R.place
  have h2 := R.size
  have h3 := R.few
  have h4 := R.m7
  unfold SetTable.fits SetTable.fill
  rw [R.tab.dm, Bool.and_eq_true, beq_iff_eq, decide_eq_true_eq]
  show t.place.size = es.size ∧ t.place.size + 0 ≤ t.mask
  omega
theorem KSet.entry (R : KSet P w s.heap a L es ep t) {i : Nat} {p : Row} (h : L[i]? = some p) : es[i]? = some (kh P w p.2, Value.ref p.1) := by
  rw [← Array.getElem?_toList, R.rows, List.getElem?_map, h]
  rfl
theorem KSet.gw (R : KSet P w s.heap a L es ep t) : ¬ t.gaveWay = true := by
  unfold SetTable.gaveWay
  rw [mask_odd R.tab.mok]
  decide
abbrev st0 (m : Nat) (h : Int) (c : Nat) : SetTable.Probe := nth m (runAt m (SetTable.bits h % (m + 1)) (SetTable.bits h)) c
theorem nth_dummy (m : Nat) : ∀ (n : Nat) (p : SetTable.Probe), p.dummy = none → (nth m p n).dummy = none
  | 0, _, h => h
  | n + 1, p, h => nth_dummy m n (adv m p) (by unfold adv; split <;> exact h)
/-- the search from the c-th step of the way on: K the first free place of the way -/
theorem search_go (R : KSet P w s.heap a L es ep t) {x : Addr} {k : List Key} (hx : IsK P w s.heap k x) (hu : A.units < cLine) {K : Nat} (hKf : K < 10 * SetTable.turns t.mask)
    (hK : way t.mask (kh P w k) K ∉ t.place.toList) (hKb : ∀ c, c < K → way t.mask (kh P w k) c ∈ t.place.toList) {Q : SetFound → Shared → Prop}
    (hin : k ∈ L.map (·.2) → Q (.there none) s) (hout : k ∉ L.map (·.2) → Q (.free (way t.mask (kh P w k) K) false) s) :
    ∀ (f c : Nat) (stand : Option SetTable.Probe), stand.getD (t.probeStart (kh P w k)) = st0 t.mask (kh P w k) c → c ≤ K → K - c < f →
      (∀ (i : Nat) (p : Row), L[i]? = some p → p.2 = k → ∃ c', c ≤ c' ∧ c' < K ∧ t.place.toList[i]? = some (way t.mask (kh P w k) c')) →
      wpAny (model P w) A (setSearchFrom a (.ref x) (kh P w k) true f stand) Q E s := by
  intro f
  induction f with
  | zero => intro c stand _ _ hf _; exact absurd hf (Nat.not_lt_zero _)
  | succ f ih =>
    intro c stand hst hc hf hre
    obtain ⟨o, ho, hex, hd⟩ := R.ob
    rw [setSearchFrom_succ]
    refine wpAny_bind (wpAny_setState_of ho hd R.fits ?_)
    dsimp only
    refine wp_if_neg R.gw ?_
    try refine wpAny_bind (wpAny_pure ?_)
    have sh : ∀ q, nth t.mask (st0 t.mask (kh P w k) c) q = st0 t.mask (kh P w k) (c + q) := fun q => (nth_add t.mask c _ q).symm
    have e1 : ∀ q, (nth t.mask (st0 t.mask (kh P w k) c) q).j = way t.mask (kh P w k) (c + q) := fun q => congrArg SetTable.Probe.j (sh q)
    have spec := go_spec t R.tab.ris R.tab.dm (fun i => (es[i]?.map (·.1)).getD 0) (kh P w k) (10 * SetTable.turns t.mask) (K - c) _ (nth_dummy t.mask c _ rfl) (by omega)
      (fun q hq => by rw [e1]; exact hKb (c + q) (by omega)) (by rw [e1, show c + (K - c) = K by omega]; exact hK)
    have hash : ∀ (i : Nat) (p : Row), L[i]? = some p → (fun i => (es[i]?.map (·.1)).getD 0) i = kh P w p.2 := fun i p hp => by
      show (es[i]?.map (·.1)).getD 0 = _
      rw [R.entry hp]
      rfl
    rcases spec with ⟨q, i, hq, hi, hh, hno, hpr⟩ | ⟨hno, hpr⟩
    · rw [show t.probe (fun i => (es[i]?.map (·.1)).getD 0) (kh P w k) (stand.getD (t.probeStart (kh P w k))) = some (.candidate (way t.mask (kh P w k) (c + q)) i (st0 t.mask (kh P w k) (c + (q + 1)))) by rw [hst, ← e1, ← sh]; exact hpr]
      dsimp only
      rw [e1] at hi
      have hil : i < L.length := by
        have h1 : i < t.place.toList.length := (List.getElem?_eq_some_iff.mp hi).1
        rw [Array.length_toList, R.place] at h1
        exact h1
      obtain ⟨p, hp⟩ : ∃ p, L[i]? = some p := ⟨_, List.getElem?_eq_getElem hil⟩
      have hmem : p ∈ L := List.mem_of_getElem? hp
      have hsl : t.slot (way t.mask (kh P w k) (c + q)) = .live i := slot_live R.tab.ris hi
      have rest : wpAny (model P w) A (searchRest a (.ref x) (kh P w k) true f es t (way t.mask (kh P w k) (c + q)) i (st0 t.mask (kh P w k) (c + (q + 1)))) Q E s := by
        unfold searchRest
        rw [R.entry hp]
        dsimp only
        refine wpAny_bind (wpAny_holding (wpAny_eqBool_tuple hu (R.tup p hmem) hx ?_))
        refine wpAny_bind (wpAny_setState_of ho hd R.fits ?_)
        dsimp only
        by_cases hkk : p.2 = k
        · exact wp_if_pos (by simp [hkk]) (wpAny_pure (hin (List.mem_map.mpr ⟨p, hmem, hkk⟩)))
        · refine wp_if_neg (by simp [hkk]) ?_
          try refine wpAny_bind (wpAny_pure ?_)
          rw [sameMem]
          dsimp only
          simp only [if_true, hsl, R.entry hp]
          refine wpAny_bind (wpAny_isSame_ref_self (wpAny_bind (wpAny_pure ?_)))
          simp only [if_true]
          refine wp_if_neg (by simp [hkk]) ?_
          refine ih (c + (q + 1)) _ rfl (by omega) (by omega) fun i0 p0 h0 hk0 => ?_
          obtain ⟨c', a1, a2, a3⟩ := hre i0 p0 h0 hk0
          refine ⟨c', ?_, a2, a3⟩
          rcases Nat.lt_trichotomy c' (c + q) with z | z | z
          · exact absurd ((hash i0 p0 h0).trans (congrArg (kh P w) hk0)) (hno (c' - c) i0 (by omega) (by rw [e1, show c + (c' - c) = c' by omega]; exact a3))
          · rw [z] at a3
            have s0 := slot_live R.tab.ris a3
            rw [hsl] at s0
            injection s0 with s0
            rw [← s0, hp] at h0
            exact absurd ((congrArg Prod.snd (Option.some.inj h0)).trans hk0) hkk
          · omega
      by_cases hl : t.led = true
      · refine wp_if_neg (by simp [hl]) ?_
        try refine wpAny_bind (wpAny_pure ?_)
        exact rest
      · refine wp_if_pos (by simp [hl]) ?_
        refine wpAny_bind (seen_k hx (fun y hy => ?_) ?_)
        · obtain ⟨e, he, ee⟩ := List.mem_map.mp hy
          have he1 : e ∈ es ∧ e.1 = kh P w k := by simpa using he
          have he2 : e ∈ es.toList := by simpa using he1.1
          rw [R.rows] at he2
          obtain ⟨p2, hp2, e2⟩ := List.mem_map.mp he2
          exact ⟨p2.2, p2.1, by rw [← ee, ← e2]; rfl, R.tup p2 hp2⟩
        · refine wp_if_neg (by decide) ?_
          try refine wpAny_bind (wpAny_pure ?_)
          exact rest
    · rw [show t.probe (fun i => (es[i]?.map (·.1)).getD 0) (kh P w k) (stand.getD (t.probeStart (kh P w k))) = some (.empty (way t.mask (kh P w k) K) none) by
          have e2 : way t.mask (kh P w k) K = (nth t.mask (st0 t.mask (kh P w k) c) (K - c)).j := by rw [e1, show c + (K - c) = K by omega]
          rw [hst, e2]
          exact hpr]
      dsimp only
      refine wpAny_pure (hout fun hm => ?_)
      obtain ⟨p0, h0, hk0⟩ := List.mem_map.mp hm
      obtain ⟨i0, hi0, e0⟩ := List.getElem_of_mem h0
      have h00 : L[i0]? = some p0 := by rw [List.getElem?_eq_getElem hi0, e0]
      obtain ⟨c', a1, a2, a3⟩ := hre i0 p0 h00 hk0
      exact hno (c' - c) i0 (by omega) (by rw [e1, show c + (c' - c) = c' by omega]; exact a3) ((hash i0 p0 h00).trans (congrArg (kh P w) hk0))
theorem search_k (R : KSet P w s.heap a L es ep t) {x : Addr} {k : List Key} (hx : IsK P w s.heap k x) (hu : A.units < cLine) {Q : SetFound → Shared → Prop} (hin : k ∈ L.map (·.2) → Q (.there none) s)
    (hout : ∀ K, k ∉ L.map (·.2) → way t.mask (kh P w k) K ∉ t.place.toList → (∀ c, c < K → way t.mask (kh P w k) c ∈ t.place.toList) → Q (.free (way t.mask (kh P w k) K) false) s) :
    wpAny (model P w) A (setSearch a (.ref x) (kh P w k) true) Q E s := by
  obtain ⟨K, hKf, hK, hKb⟩ := R.tab.first (by rw [List.length_map, R.m7]; exact Nat.le_trans R.few (by decide)) (kh P w k)
  have hbig : K < 100000 := by
    rw [R.m7] at hKf
    exact Nat.lt_trans hKf (by decide)
  unfold setSearch
  refine search_go R hx hu hKf hK hKb hin (fun hn => hout K hn hK hKb) 100000 0 none rfl (Nat.zero_le _) (by omega) fun i p hp hk => ?_
  have hi : (L.map fun p => kh P w p.2)[i]? = some (kh P w k) := by rw [List.getElem?_map, hp, ← hk]; rfl
  have hil : i < t.place.toList.length := by
    rw [Array.length_toList, R.place]
    exact (List.getElem?_eq_some_iff.mp hp).1
  have hj := List.getElem?_eq_getElem hil
  obtain ⟨c, hc, e⟩ := R.tab.before hK hi hj
  exact ⟨c, Nat.zero_le _, hc, by rw [hj, e]⟩
end
end KS
set_option Elab.async false
set_option linter.all false
set_option maxRecDepth 100000
set_option maxHeartbeats 2000000
namespace KS
open PySem PySem.Spec PyProof.Rows L2
section
variable {P : Program} {w : World} {A : Around} {E : Value → Shared → Prop} {s : Shared} {a : Addr} {L : List Row} {es : Array (Int × Value)} {ep : Nat} {t : SetTable}
theorem isK_same {h h' : Heap} {k : List Key} {a b : Addr} {o : Obj} {es : Array (Int × Value)} {ep : Nat} {t : SetTable} (hb : IsK P w h k b) (ho : h.get? a = some o) (hd : o.data = .set es ep t) (hs : Heap.SameBut a h h') : IsK P w h' k b := by
  obtain ⟨o', items, n, ho', hc, hd', hi⟩ := hb
  refine ⟨o', items, n, (hs.2 b fun z => ?_).trans ho', hc, hd', hi⟩
  subst z
  rw [ho] at ho'
  cases ho'
  rw [hd] at hd'
  cases hd'
theorem tab_plain {t : SetTable} {hs : List Int} (T : TabOk t hs) (b : Bool) : TabOk { t with plain := b } hs := ⟨T.ris, T.dm, T.sz, T.mok, T.bd, T.reach⟩
/-- a.add(x), x the tuple of k: at most four members behind it -/
theorem add_k (R : KSet P w s.heap a L es ep t) {x : Addr} {k : List Key} (hx : IsK P w s.heap k x) (hu : A.units < cLine) (hfew : L.length + 1 ≤ 4) {Q : Bool → Shared → Prop}
    (hQ : ∀ b h' L' es' ep' t', Heap.SameBut a s.heap h' → KSet P w h' a L' es' ep' t' → (k ∈ L.map (·.2) → L' = L) → (k ∉ L.map (·.2) → L'.Perm ((x, k) :: L)) → Q b { s with heap := h' }) :
    wpAny (model P w) A (setAddHashed a (.ref x) (kh P w k)) Q E s := by
  obtain ⟨o, ho, hex, hd⟩ := R.ob
  have hsl := R.size
  unfold setAddHashed
  refine wpAny_holding ?_
  rw [show (100000 : Nat) = 99999 + 1 from rfl, setAddHashedIn_succ]
  refine wpAny_bind (wpAny_setState_of ho hd R.fits ?_)
  dsimp only
  refine wp_if_neg (by simp [byScan, Value.scannable]) ?_
  try refine wpAny_bind (wpAny_pure ?_)
  refine wpAny_bind (search_k R hx hu (fun hm => ?_) fun K hm hK hb => ?_)
  · dsimp only
    exact wpAny_pure (hQ false s.heap L es ep t (Heap.SameBut.refl a s.heap) R (fun _ => rfl) fun z => absurd hm z)
  · dsimp only
    refine wpAny_bind (wpAny_setState_of ho hd R.fits ?_)
    dsimp only
    obtain ⟨q1, q2, q3, q4, q5, q6, q7, q8, q9⟩ := R.tab.put hK hb
    generalize hpt : t.put (way t.mask (kh P w k) K) = pt at q1 q3 q4 q5 q6 q7 q8 q9 ⊢
    obtain ⟨t1, p⟩ := pt
    dsimp only at q1 q3 q4 q5 q6 q7 q8 q9 ⊢
    subst q1
    have nofull : ∀ b : Bool, ({ t1 with plain := b } : SetTable).tooFull = false := fun b => by
      have h9 : ({ t1 with plain := b } : SetTable).fill = t1.fill := rfl
      unfold SetTable.tooFull
      rw [h9]
      refine decide_eq_false ?_
      have h := q9
      rw [List.length_map] at h
      have : ({ t1 with plain := b } : SetTable).mask = 7 := by show t1.mask = 7; rw [q4, R.m7]
      rw [this, h]
      omega
    -- the table behind, and the set
    have fin : ∀ b : Bool, wpAny (model P w) A (do
        storeSet a (SetTable.insertAt es (SetTable.below t.place (way t.mask (kh P w k) K)) (kh P w k, Value.ref x)) { t1 with plain := b }
        if (!false && ({ t1 with plain := b } : SetTable).tooFull) = true then setRelay a (SetTable.grown (es.size + 1))
        return true) Q E s := fun b => by
      have hin : (SetTable.insertAt es (SetTable.below t.place (way t.mask (kh P w k) K)) (kh P w k, Value.ref x)).toList = (L.take (SetTable.below t.place (way t.mask (kh P w k) K)) ++ (x, k) :: L.drop (SetTable.below t.place (way t.mask (kh P w k) K))).map (rowE P w) := by
        rw [SetTable.toList_insertAt, R.rows, List.map_append, List.map_cons, List.map_take, List.map_drop]
        rfl
      generalize hpp : SetTable.below t.place (way t.mask (kh P w k) K) = p at q2 q3 hin ⊢
      have pm : (L.take p ++ (x, k) :: L.drop p).Perm ((x, k) :: L) := by
        have h : (L.take p ++ (x, k) :: L.drop p).Perm ((x, k) :: (L.take p ++ L.drop p)) := List.perm_middle
        rwa [List.take_append_drop] at h
      have hlen : (L.take p ++ (x, k) :: L.drop p).length = L.length + 1 := pm.length_eq
      have hhs : (L.take p ++ (x, k) :: L.drop p).map (fun p => kh P w p.2) = (L.map fun p => kh P w p.2).take p ++ kh P w k :: (L.map fun p => kh P w p.2).drop p := by
        rw [List.map_append, List.map_cons, List.map_take, List.map_drop]
      rw [← hhs] at q3
      have nd1 : ((L.take p ++ (x, k) :: L.drop p).map (·.2)).Nodup := by
        refine (pm.map (·.2)).nodup_iff.mpr ?_
        rw [List.map_cons]
        exact List.nodup_cons.mpr ⟨hm, R.nd⟩
      have hes : (SetTable.insertAt es p (kh P w k, Value.ref x)).size = L.length + 1 := by
        have h := congrArg List.length hin
        rw [Array.length_toList, List.length_map, hlen] at h
        exact h
      generalize SetTable.insertAt es p (kh P w k, Value.ref x) = es1 at hin hes ⊢
      generalize L.take p ++ (x, k) :: L.drop p = L1 at pm hlen q3 nd1 hin
      refine wpAny_bind (wpAny_storeSet_of ho hd ?_ (by rw [hes, sizeLine_eq]; omega))
      have sb : Heap.SameBut a s.heap (s.heap.update a (Obj.putSet es1 { t1 with plain := b })) := Heap.SameBut.update ..
      have ho1 := store_at (es' := es1) (t' := ({ t1 with plain := b } : SetTable)) ho hd
      generalize s.heap.update a (Obj.putSet es1 { t1 with plain := b }) = h1 at sb ho1 ⊢
      refine wp_if_neg (by rw [nofull b]; decide) ?_
      try refine wpAny_bind (wpAny_pure ?_)
      refine wpAny_pure (hQ true h1 L1 es1 (ep + 1) { t1 with plain := b } sb ⟨⟨_, ho1, ⟨hex.1, hex.2.1, hex.2.2⟩, rfl⟩, hin, tab_plain q3 b, nd1, fun p hp => ?_, by rw [show ({ t1 with plain := b } : SetTable).led = t1.led from rfl, q5]; exact R.led, by rw [show ({ t1 with plain := b } : SetTable).mask = t1.mask from rfl, q4]; exact R.m7, by rw [hlen]; exact hfew⟩ (fun z => absurd z hm) fun _ => pm)
      rcases List.mem_cons.mp (pm.mem_iff.mp hp) with e | hp
      · rw [e]; exact isK_same hx ho hd sb
      · exact isK_same (R.tup p hp) ho hd sb
    have eta : ∀ b, t1.plain = b → ({ t1 with plain := b } : SetTable) = t1 := fun b e => by cases t1; cases e; rfl
    by_cases hp1 : t1.plain = true
    · refine wp_if_pos hp1 (wpAny_bind (hashBy_k hx fun c => ?_))
      cases c with
      | true =>
        have f := fin true
        rw [eta true hp1] at f
        exact f
      | false => exact fin false
    · refine wp_if_neg hp1 (wpAny_bind (wpAny_pure ?_))
      have f := fin false
      rw [eta false (by simpa using hp1)] at f
      exact f
end
end KS
set_option Elab.async false
set_option linter.all false
set_option maxRecDepth 100000
set_option maxHeartbeats 2000000
/-! Set comprehensions over any family of sets: O D i the set at D in the state i; Add says how adding goes on. (HandS.SetBool has it for truth values.) -/
namespace KS
open PySem PySem.Spec PyProof.Rows L2 PpSet
structure Fam (P : Program) (w : World) (K : PySem.W.Frag) (A : Around) where
  ι : Type
  O : Addr → ι → HO
  i0 : ι
  Add : ι → Hp → V → (ι → Prop) → Prop
  new : ∀ (H : Hp) (h : Heap), ObjOk P w H (h.push { cls := .type "set", dict := none, data := .set #[] 0 (.fresh 0 0 (!w.params.followText "set-order")) }) h.objs.size (O h.objs.size i0)
  add : ∀ (X : Cx) (pins : List (Addr × Obj)) (σ : L2.St) (H : Hp) (s : Shared) (E : Value → Shared → Prop) (D : Addr) (i : ι) (R : ι → Prop) (y : V) (z : Value) (Q : Value → Shared → Prop), X.prog = P → X.w = w → X.K = K → X.A = A →
    Inv X pins σ H s → H D = some (O D i) → RelV y z → Add i H y R → (∀ i' s', R i' → Inv X pins σ (upd H D (O D i')) s' → Q .none s') → wpAny (model P w) A (call (.builtin "set.add") [.ref D, z]) Q E s
section
variable {X : Cx}
/-- {elt for target in iter if ..}: D the new set -/
def tScG {P : Program} {w : World} {K : PySem.W.Frag} {A : Around} (F : Fam P w K A) (wi : TI) (g : TG) (tt : TT) (te : TE) (vs : List Nat) : TE := fun σ H Q => wi σ H fun J H1 => ∀ D, H1 D = none → ∃ W : Nat → Nat → Hp → Prop, (∃ m, W 0 m (upd H1 D (F.O D F.i0))) ∧ ∀ i m H, W i m H →
  (J.stop i H ∧ Q (.ref D) H) ∨ (J.go i H ∧ ∃ Nx : Hp → Prop, (∀ H', Nx H' → ∃ m', m' < m ∧ W (i + 1) m' H') ∧ ∀ x H', J.yld i H x H' → g x (wipe σ vs) H' fun σ2 H2 => wipe σ2 vs = wipe σ vs ∧ tt σ2 H2 fun b H3 =>
    if b = true then te σ2 H3 fun y H4 => ∃ st : F.ι, H4 D = some (F.O D st) ∧ F.Add st H4 y fun st' => Nx (upd H4 D (F.O D st')) else Nx H3)
theorem core {F : Fam X.prog X.w X.K X.A} {pins : List (Addr × Obj)} {s : Shared} {σ : L2.St} {H : Hp} {Q : VK} {elt tg iter : Expr} {ifs : List Expr} {scope : Scope} {own : List (PySem.Str × Nat)} {pos pos' : Pos} {wi : TI} {g : TG} {tt : TT} {te : TE} {use : Option (Value → Sem Unit)} {Qf : Value → Shared → Prop}
    (hc : X.calm = true) (hN : X.N.Nodup) (I : Inv X pins σ H s) (hi : PI X tg iter wi) (ok : BlkOk X.N X.env.scope scope own)
    (hg : ∀ (s : Shared) (H : Hp) (C : Addr) (cl : List (PySem.Str × Addr)) (fp : List Addr), PG (X.blk s H scope (compEnvC scope cl C X.env) fp) tg g) (ht : ∀ (s : Shared) (H : Hp) (C : Addr) (cl : List (PySem.Str × Addr)) (fp : List Addr), PTs (X.blk s H scope (compEnvC scope cl C X.env) fp) ifs tt)
    (he : ∀ (s : Shared) (H : Hp) (C : Addr) (cl : List (PySem.Str × Addr)) (fp : List Addr), PE (X.blk s H scope (compEnvC scope cl C X.env) fp) elt te) (hs : ∀ x, foldedSetIterable iter X.env x = pure x)
    (h : tScG F wi g tt te (own.map (·.2)) σ H Q)
    (hRR : ∀ D C s' m H', Inv X pins σ H' s' → Q (.ref D) H' → s'.heap.Ns C m → FpOk X pins H' C → compPost (model X.prog X.w) X.A X.xe use Qf (.ref D) C (.ok .next) s') :
    wpAny (model X.prog X.w) X.A (comprehension (.SetComp elt [⟨tg, iter, ifs, 0⟩] scope pos) scope X.env pos' (newSet (.type "set")) false (eval iter X.env) use) Qf X.xe s := by
  have hfree : ∀ y ∈ scope.names, y.2 = .free → ∃ c, X.env.cells.lookup y.1 = some c := fun y hy e => by
    rcases ok.free y hy e with k | k
    · exact I.ok.has _ (.inl k)
    · exact I.ok.has _ (.inr k)
  refine wpAny_comprehension_free (use := use) rfl hs (closure_ok hfree) ok.kind (fun y hy e => by rw [ok.uniq y hy, e])
    (thn (hi.run pins s σ H _ I h) fun xv s1 hx => thn hx fun itv s2 h2 => ?_)
  obtain ⟨it, fp, tn, J, H2, e, I2, T, st2, f2, q⟩ := h2
  subst e
  refine newSet_ok (newEnv_comp ?_)
  generalize hD : s2.heap.objs.size = D
  obtain ⟨W, ⟨m0, w0⟩, turn⟩ := q D (I2.hok.fresh (Nat.le_of_eq hD))
  generalize hs3 : ({ s2 with heap := s2.heap.push { cls := .type "set", dict := none, data := .set #[] 0 (.fresh 0 0 (!X.w.params.followText "set-order")) } } : Shared) = s3
  have I3 : Inv X pins σ (upd H2 D (F.O D F.i0)) s3 := by
    rw [← hs3]
    refine I2.laid (t' := s2.toks) (fun b o e => Heap.get?_push_of_some _ e) (Nat.le_of_eq hD) ?_
    rw [← hD]
    exact F.new _ _
  have h3 : s3.heap = s2.heap.push { cls := .type "set", dict := none, data := .set #[] 0 (.fresh 0 0 (!X.w.params.followText "set-order")) } := by rw [← hs3]
  have sz : ∀ b ∈ fp, b < s2.heap.objs.size := fun b hb => by
    obtain ⟨o, e, _⟩ := T.obj _ _ st2 b hb
    exact Heap.lt_size e
  have f3 : ∀ b ∈ fp, FpOk X pins (upd H2 D (F.O D F.i0)) b ∧ b < s3.heap.objs.size := fun b hb => by
    have hlt := sz b hb
    refine ⟨⟨?_, (f2 b hb).2⟩, by rw [h3, Heap.size_push]; exact Nat.lt_succ_of_lt hlt⟩
    rw [upd_ne (by rw [← hD]; exact Nat.ne_of_lt hlt)]
    exact (f2 b hb).1
  have st3 : tn 0 s3.heap := T.keep _ _ _ st2 fun b _ o e => by rw [h3]; exact Heap.get?_push_of_some _ e
  have I4 := block_start I3 ok hN f3
  generalize hH3 : upd H2 D (F.O D F.i0) = H3 at I3 I4 w0 f3
  show codeAny _ _ (.compStart (.SetComp elt [⟨tg, iter, ifs, 0⟩] scope pos) 0 (.ref it) (.ref D) (compEnvC scope (cellsFrom (s3.heap.objs.size + 1) scope.names (cloFrom X.env.cells scope.names [])) s3.heap.objs.size X.env)) (compPost (model X.prog X.w) X.A X.xe use Qf (.ref D) s3.heap.objs.size) { s3 with heap := pushCells (s3.heap.push { cls := .type "dict", data := .dict #[] }) scope.names }
  generalize hcl : cellsFrom (s3.heap.objs.size + 1) scope.names (cloFrom X.env.cells scope.names []) = cl at I4 ⊢
  have pg := hg s3 H3 s3.heap.objs.size cl fp
  have pt := ht s3 H3 s3.heap.objs.size cl fp
  have pe := he s3 H3 s3.heap.objs.size cl fp
  have nfp : ∀ b ∈ fp, H3 b = none := fun b hb => (f3 b hb).1.1
  generalize hce : compEnvC scope cl s3.heap.objs.size X.env = ce at I4 pg pt pe ⊢
  have cL : ce.locals = s3.heap.objs.size := by subst hce; rfl
  generalize hs4 : ({ s3 with heap := pushCells (s3.heap.push { cls := .type "dict", data := .dict #[] }) scope.names } : Shared) = s4 at I4 ⊢
  have st4 : tn 0 s4.heap := T.keep _ _ _ st3 fun b _ o e => by rw [← hs4]; exact pushCells_keeps _ _ _ _ (Heap.get?_push_of_some _ e)
  have stat : ∀ {σ' : L2.St} {H' : Hp} {s' : Shared}, Inv (X.blk s3 H3 scope ce fp) [] σ' H' s' → (∀ b ∈ fp, H' b = none) → ∀ b ∈ fp, FpOk (X.blk s3 H3 scope ce fp) [] H' b := fun {σ' H' s'} I' hn b hb =>
    ⟨hn b hb, (I'.ok.exf b hb).1, I'.ok.exfs b hb, .inl hb, fun x c e => (I'.ok.exf b hb).2 x c e, fun p hp => absurd (show p ∈ ([] : List (Addr × Obj)) ++ [] from hp) (by simp)⟩
  have loop : codeAny (model X.prog X.w) X.A (.compLoop (.SetComp elt [⟨tg, iter, ifs, 0⟩] scope pos) 0 (.ref it) (.ref D) ce) (compPost (model X.prog X.w) X.A X.xe use Qf (.ref D) s3.heap.objs.size) s4 := by
    refine compLoopS_any (fun n s' => ∃ i H', Inv (X.blk s3 H3 scope ce fp) [] (wipe σ (own.map (·.2))) H' s' ∧ tn i s'.heap ∧ (∀ b ∈ fp, H' b = none) ∧ W i n H') ?_ m0 ⟨0, H3, I4, st4, nfp, w0⟩
    rintro n s5 ⟨i, H5, I5, st5, n5, w5⟩
    rcases turn i n H5 w5 with ⟨stop, qq⟩ | ⟨go, Nx, hNx, step⟩
    · have td := T.done (X.blk s3 H3 scope ce fp) rfl rfl rfl hc i [] s5 _ H5 (fun _ _ => False) I5 (stat I5 n5) st5 stop
      refine thnF td fun r s6 ⟨hr, I6⟩ => ?_
      subst hr
      have I7 : Inv X pins σ H5 s6 := I3.call' (ch := fp) I6.os I6.base I6.hok I6.bare fun b hb => ⟨(f3 b hb).1.2.2.2.1, (f3 b hb).1.2.1, (f3 b hb).1.2.2.2.2.1, (f3 b hb).1.2.2.2.2.2⟩
      have nC : H5 s3.heap.objs.size = none := by
        have z : H5 ce.locals = none := I6.free
        rw [cL] at z
        exact z
      obtain ⟨m, hn, _⟩ := I6.loc
      have hn : s6.heap.Ns ce.locals m := hn
      rw [cL] at hn
      exact hRR D s3.heap.objs.size s6 m H5 I7 qq hn (I3.fpOk (Nat.le_refl _) nC)
    · have ti := T.item (X.blk s3 H3 scope ce fp) rfl rfl rfl hc i [] s5 _ H5 (fun _ _ => False) I5 (stat I5 n5) st5 go
      refine thnF ti fun r s6 ⟨u, hr, h6⟩ => ?_
      subst hr
      refine thnF h6 fun _ s7 ⟨x, H7, I7, r7, y7, st7, n7⟩ => ?_
      have I7' := I7.pinned (stat I7 n7) (T.obj _ _ st7)
      refine thnF (pg.run _ s7 _ H7 x u _ I7' r7 (step x H7 y7)) fun _ s8 ⟨σ8, H8, I8, hw8, q8⟩ => ?_
      refine thnF (pt.run _ s8 σ8 H8 _ I8 q8) fun b s9 ⟨H9, I9, q9⟩ => ?_
      have fin : ∀ {s' : Shared} {H' : Hp}, Inv (X.blk s3 H3 scope ce fp) ([] ++ pinsAt fp s7.heap) σ8 H' s' → Nx H' → ∃ m, m < n ∧ ∃ i H', Inv (X.blk s3 H3 scope ce fp) [] (wipe σ (own.map (·.2))) H' s' ∧ tn i s'.heap ∧ (∀ b ∈ fp, H' b = none) ∧ W i m H' := fun {s' H'} I' nx => by
        obtain ⟨m', hm, w'⟩ := hNx H' nx
        have pin' : ∀ b ∈ fp, ∀ o, s7.heap.get? b = some o → s'.heap.get? b = some o ∧ H' b = none := fun b hb o e =>
          let z := I'.pin (b, o) (List.mem_append_right _ (List.mem_append_right _ (mem_pinsAt hb e)))
          ⟨z.1, z.2.1⟩
        have hl : (wipe σ (own.map (·.2))).length = σ8.length := by rw [← hw8, wipe_length]
        refine ⟨m', hm, i + 1, H', (I'.unpinned (pins := [])).weak hl (fun j v e => ?_), T.keep _ _ _ st7 fun b hb o e => (pin' b hb o e).1, fun b hb => ?_, w'⟩
        · rw [← hw8] at e
          exact (wipe_some e).1
        · obtain ⟨o, e, _⟩ := T.obj _ _ st7 b hb
          exact (pin' b hb o e).2
      cases b with
      | false =>
        simp only [Bool.false_eq_true, if_false] at q9 ⊢
        exact fin I9 q9
      | true =>
        simp only [if_true] at q9 ⊢
        refine thnF (pe.run _ s9 σ8 H9 _ I9 q9) fun z s10 ⟨yv, H10, I10, r10, st, hD10, ha10⟩ => ?_
        exact F.add (X.blk s3 H3 scope ce fp) _ _ _ _ _ _ _ _ _ _ _ rfl rfl rfl rfl I10 hD10 r10 ha10 fun st' s11 nx I11 => fin I11 nx
  exact codeAny_compStart_set loop (T.self X.A 0 _ _ _ st4 loop)
theorem pe_scG {F : Fam X.prog X.w X.K X.A} {elt tg iter : Expr} {ifs : List Expr} {scope : Scope} {own : List (PySem.Str × Nat)} {pos : Pos} {wi : TI} {g : TG} {tt : TT} {te : TE} (hc : X.calm = true) (hN : X.N.Nodup) (hi : PI X tg iter wi) (ok : BlkOk X.N X.env.scope scope own)
    (hg : ∀ (s : Shared) (H : Hp) (C : Addr) (cl : List (PySem.Str × Addr)) (fp : List Addr), PG (X.blk s H scope (compEnvC scope cl C X.env) fp) tg g) (ht : ∀ (s : Shared) (H : Hp) (C : Addr) (cl : List (PySem.Str × Addr)) (fp : List Addr), PTs (X.blk s H scope (compEnvC scope cl C X.env) fp) ifs tt)
    (he : ∀ (s : Shared) (H : Hp) (C : Addr) (cl : List (PySem.Str × Addr)) (fp : List Addr), PE (X.blk s H scope (compEnvC scope cl C X.env) fp) elt te) (hs : ∀ x, foldedSetIterable iter X.env x = pure x := by intro _; rfl) :
    PE X (.SetComp elt [⟨tg, iter, ifs, 0⟩] scope pos) (tScG F wi g tt te (own.map (·.2))) := by
  refine ⟨fun pins s σ H Q I h => ?_⟩
  rw [eval_SetComp]
  refine core hc hN I hi ok hg ht he hs h fun D C s' m H' I' q hn f => ⟨m, hn, fun h'' sb => ?_⟩
  obtain ⟨f0, f1, f2, f3, f4, f5⟩ := f
  exact ⟨.ref D, H', I'.turned (t' := s'.toks) (fun b o hb e => (sb.2 b hb).trans e) f0 f1 f3 f4 f5, rfl, q⟩
end
end KS
set_option Elab.async false
set_option linter.all false
set_option maxRecDepth 100000
set_option maxHeartbeats 4000000
namespace PD
open PySem PySem.Spec PyProof.Rows L2
section
variable {C : Cn} {b : Nat} {δ : List Sl} {F : Fin} {pos p0 p1 apos : Pos} {e e1 e2 c tg iter : Expr} {rest ss els : List Stmt} {es : List Expr}
/-- an if, what holds behind it told once -/
theorem sv_ifJ (J : Nat → List Sl → Prop) (h : ET C b δ c (fun b1 k => if k = true then SV C b1 δ ss { F with N := J } else SV C b1 δ els { F with N := J })) (k : ∀ b' δ', J b' δ' → SV C b' δ' rest F) : SV C b δ (.If c ss els pos :: rest) F := by
  refine sv_if fun os σ H st Q q => h os σ H st Q fun kk H' b' f j hk => q kk H' b' f j ?_
  cases kk with
  | true => exact SV.imp (F' := { F with N := fun b2 δ2 => SV C b2 δ2 rest F }) hk k (fun _ _ z => z) (fun _ _ z => z) (fun _ _ z => z)
  | false => exact SV.imp (F' := { F with N := fun b2 δ2 => SV C b2 δ2 rest F }) hk k (fun _ _ z => z) (fun _ _ z => z) (fun _ _ z => z)
end
end PD
set_option Elab.async false
set_option linter.all false
set_option maxRecDepth 100000
set_option maxHeartbeats 2000000
/-! enumerate of a tuple: as a list, as what is walked -/
namespace EN
open PySem PySem.Spec PyProof.Rows L2
section
variable {prog : Program} {w : World} {A : Around} {E : Value → Shared → Prop} {s : Shared}
theorem alive {M : Model} {a : Addr} {Q : Option Obj → Shared → Prop} (h : Q (s.heap.get? a) s) : wpAny M A (loadIfAlive a) Q E s := fun _ _ _ => h
/-- an enumerate whose own tuple is out and kept by somebody -/
abbrev Gone (h : Heap) (e it : Addr) (c : Int) (T : Addr) (b : Bool) (item : Value) : Prop :=
  h.get? e = some { cls := .type "enumerate", dict := none, data := .fields #[rawInt T, .bool b, .ref it, rawInt c, .none, item], slots := #[] }
theorem next_gone {e it : Addr} {fp : List Addr} {n i : Nat} {c : Int} {P : Nat → Value → Prop} {St : Nat → Heap → Prop} {item : Value} {T : Addr} {b : Bool} {o : Obj} {Q : Value → Shared → Prop}
    (D : Draws prog w A it fp n P St) (he : Gone s.heap e it c T b item) (hT : s.heap.get? T = some o) (hTe : T ≠ e) (hTi : T ≠ it) (hst : St i s.heap) (hlt : i < n) (hne : e ≠ it) (hef : e ∉ fp)
    (hQ : ∀ x h' tk b', P i x → Gone h' e it (c + 1) T b' item → St (i + 1) h' →
      h'.get? s.heap.objs.size = some { cls := .type "tuple", data := .seq #[.int c tk, x] } → h'.objs.size = s.heap.objs.size + 1 →
      (∀ b o, b ≠ e → b ≠ it → s.heap.get? b = some o → h'.get? b = some o) → Q (.ref s.heap.objs.size) { s with heap := h', toks := tk + 1 }) :
    wpAny (model prog w) A (Builtin.«enumerate.__next__» ⟨[.ref e], []⟩) (fun fin s' => ∃ v, fin = .done (.ret v) ∧ Q v s') E s := by
  obtain ⟨hp, g, d, tk₀, os⟩ := s
  show wpAny _ _ (field (.ref e) 2 >>= _) _ _ _
  refine wpAny_bind (wpAny_field he rfl (x := .ref it) rfl ?_)
  refine wpAny_bind (D.item i _ _ _ hlt hst fun x h1 tk hx st1 sb1 => ?_)
  have e1 : Gone h1 e it c T b item := (sb1.2 e hne).trans he
  show wpAny _ _ (field (.ref e) 3 >>= _) _ _ ⟨h1, g, d, tk, os⟩
  refine wpAny_bind (wpAny_field e1 rfl (x := rawInt c) rfl ?_)
  show wpAny _ _ (field (.ref e) 4 >>= _) _ _ ⟨h1, g, d, tk, os⟩
  refine wpAny_bind (wpAny_field e1 rfl (x := .none) rfl ?_)
  show wpAny _ _ (mkInt c >>= _) _ _ ⟨h1, g, d, tk, os⟩
  refine wpAny_bind (wpAny_mkInt ?_)
  show wpAny _ _ (setField (.ref e) 3 (rawInt (c + 1)) >>= _) _ _ ⟨h1, g, d, tk + 1, os⟩
  refine wpAny_bind (wpAny_setField_rec e1 (by simp) fun h2 e2 sb2 => ?_)
  replace sb2 : Heap.SameBut e h1 h2 := sb2
  replace e2 : Gone h2 e it (c + 1) T b item := e2
  show wpAny _ _ (setField (.ref e) 4 .none >>= _) _ _ ⟨h2, g, d, tk + 1, os⟩
  refine wpAny_bind (wpAny_setField_rec e2 (by simp) fun h3 e3 sb3 => ?_)
  replace sb3 : Heap.SameBut e h2 h3 := sb3
  replace e3 : Gone h3 e it (c + 1) T b item := e3
  show wpAny _ _ (newTuple [.int c tk, x] >>= _) _ _ ⟨h3, g, d, tk + 1, os⟩
  refine wpAny_bind (wpAny_newTuple ?_)
  have e4 : Gone (h3.push { cls := .type "tuple", data := .seq #[.int c tk, x] }) e it (c + 1) T b item := Heap.get?_push_of_some _ e3
  have z3 : h3.objs.size = hp.objs.size := by rw [sb3.1, sb2.1, sb1.1]
  have n4 : (h3.push { cls := .type "tuple", data := .seq #[.int c tk, x] }).get? hp.objs.size = some { cls := .type "tuple", data := .seq #[.int c tk, x] } := by rw [← z3]; exact Heap.get?_push_size _ rfl
  have z4 : (h3.push { cls := .type "tuple", data := .seq #[.int c tk, x] }).objs.size = hp.objs.size + 1 := by rw [Heap.size_push, z3]
  have k3 : ∀ b o, b ≠ e → b ≠ it → hp.get? b = some o → h3.get? b = some o := fun b o he hi hb => sb3.extBut b o he (sb2.extBut b o he (sb1.extBut b o hi hb))
  have k4 : ∀ b o, b ≠ e → b ≠ it → hp.get? b = some o → (h3.push { cls := .type "tuple", data := .seq #[.int c tk, x] }).get? b = some o := fun b o he hi hb => Heap.get?_push_of_some _ (k3 b o he hi hb)
  have st4 : St (i + 1) (h3.push { cls := .type "tuple", data := .seq #[.int c tk, x] }) := D.frame _ _ _ st1 fun b hb o y => by
    have hbe : b ≠ e := fun q => hef (q ▸ hb)
    exact Heap.get?_push_of_some _ (sb3.extBut b o hbe (sb2.extBut b o hbe y))
  rw [z3]
  generalize (h3.push { cls := .type "tuple", data := .seq #[.int c tk, x] }) = h4 at e4 n4 z4 k4 st4 ⊢
  have hel : e < hp.objs.size := Heap.lt_size he
  show wpAny _ _ (Builtin.SmallTypes.ownedTupleIsFree (.ref e) >>= _) _ _ ⟨h4, g, d, tk + 1, os⟩
  refine wpAny_bind ?_
  unfold Builtin.SmallTypes.ownedTupleIsFree
  refine wpAny_bind (wpAny_field e4 rfl (x := rawInt T) rfl ?_)
  show wpAny _ _ (loadIfAlive ((T : Int)).toNat >>= _) _ _ _
  refine wpAny_bind (alive ?_)
  rw [Int.toNat_natCast, show (Shared.heap ⟨h4, g, d, tk + 1, os⟩).get? T = some o from k4 T o hTe hTi hT]
  dsimp only
  simp only [Option.isNone_some, Bool.false_eq_true, if_false]
  refine wpAny_bind (wpAny_field e4 rfl (x := .bool b) rfl ?_)
  have fin : ∀ h' b', Gone h' e it (c + 1) T b' item → (∀ a u, a ≠ e → h4.get? a = some u → h'.get? a = some u) → h'.objs.size = h4.objs.size → Q (.ref hp.objs.size) ⟨h', g, d, tk + 1, os⟩ := fun h' b' e' k' z' =>
    hQ x h' tk b' hx e' (D.frame _ _ _ st4 fun a ha u y => k' a u (fun q => hef (q ▸ ha)) y) (k' _ _ (Nat.ne_of_gt hel) n4) (by rw [z', z4]) fun a u h1 h2 h3 => k' a u h1 (k4 a u h1 h2 h3)
  cases b with
  | true =>
    have t1 : (Value.bool true != Value.bool true) = false := by decide
    rw [if_neg (by rw [t1]; exact Bool.false_ne_true)]
    refine wpAny_pure ?_
    simp only [Bool.false_eq_true, if_false]
    exact wpAny_pure ⟨_, rfl, fin h4 true e4 (fun a u _ y => y) rfl⟩
  | false =>
    have t1 : (Value.bool false != Value.bool true) = true := by decide
    rw [if_pos t1]
    refine wpAny_bind (wpAny_setField_rec e4 (by simp) fun h5 e5 sb5 => ?_)
    replace sb5 : Heap.SameBut e h4 h5 := sb5
    refine wpAny_pure ?_
    simp only [Bool.false_eq_true, if_false]
    exact wpAny_pure ⟨_, rfl, fin h5 true e5 (fun a u hn y => (sb5.2 a hn).trans y) sb5.1⟩
/-- an enumerate at the count c, its own tuple free or kept by somebody -/
def En (h : Heap) (e it : Addr) (c : Int) : Prop :=
  (∃ old, IsEnum h e it c old) ∨ ∃ T b item o, Gone h e it c T b item ∧ h.get? T = some o ∧ T ≠ e ∧ T ≠ it
theorem En.ty {e it : Addr} {c : Int} (h : En s.heap e it c) : s.TypeIs (.ref e) "enumerate" := by
  rcases h with ⟨old, h⟩ | ⟨T, b, i, o, h, _⟩
  · exact ⟨_, h, rfl⟩
  · exact ⟨_, h, rfl⟩
theorem En.keep {h h' : Heap} {e it : Addr} {c : Int} (x : En h e it c) (S : Addr) (hS : S ≠ e) (hT : ∀ T, h.get? T ≠ none → T ≠ S → ∀ o, h.get? T = some o → h'.get? T = some o) (hL : ∃ o, h'.get? S = some o) : En h' e it c := by
  rcases x with ⟨old, x⟩ | ⟨T, b, i, o, x, t, h1, h2⟩
  · exact .inl ⟨old, hT e (by rw [x]; simp) (Ne.symm hS) _ x⟩
  · have hx := hT e (by rw [x]; simp) (Ne.symm hS) _ x
    by_cases z : T = S
    · obtain ⟨o', e'⟩ := hL
      exact .inr ⟨T, b, i, o', hx, by rw [z]; exact e', h1, h2⟩
    · exact .inr ⟨T, b, i, o, hx, hT T (by rw [t]; simp) z _ t, h1, h2⟩
theorem next_item {e it : Addr} {fp : List Addr} {n i : Nat} {c : Int} {P : Nat → Value → Prop} {St : Nat → Heap → Prop} {Q : Option Value → Shared → Prop}
    (D : Draws prog w A.in1 it fp n P St) (he : En s.heap e it c) (hst : St i s.heap) (hlt : i < n) (hne : e ≠ it) (hef : e ∉ fp)
    (hQ : ∀ x h' tk, P i x → En h' e it (c + 1) → St (i + 1) h' →
      h'.get? s.heap.objs.size = some { cls := .type "tuple", data := .seq #[.int c tk, x] } → h'.objs.size = s.heap.objs.size + 1 →
      (∀ b o, b ≠ e → b ≠ it → s.heap.get? b = some o → h'.get? b = some o) → Q (some (.ref s.heap.objs.size)) { s with heap := h', toks := tk + 1 }) :
    wpAny (model prog w) A (pyNext (.ref e)) Q E s := by
  have hty := he.ty
  have hel : e < s.heap.objs.size := by obtain ⟨o, h, _⟩ := hty; exact Heap.lt_size h
  have hil : it < s.heap.objs.size := by obtain ⟨o, h⟩ := D.live _ _ hst; exact Heap.lt_size h
  rcases he with ⟨old, he⟩ | ⟨T, b, item, o, he, hT, h1, h2⟩
  · refine wpAny_pyNext_enum_itemC D he hst hlt hne hef fun x h' tk hx ho st' ht hz hk => hQ x h' tk hx ?_ st' ht hz hk
    exact .inr ⟨_, _, _, _, ho, ht, Nat.ne_of_gt hel, Nat.ne_of_gt hil⟩
  · unfold pyNext
    refine wpAny_bind (wpAny_attempt (wpAny_callSpecial?_slot (name := Str.ofString "__next__") hty PySem.F.slot_enumerate_next
      (wpAny_call_entry PySem.F.slot_enumerate_next hty PySem.F.entry_enumerate_next
        (next_gone D he hT h1 h2 hst hlt hne hef fun x h' tk b' hx ho st' ht hz hk => wpAny_pure (hQ x h' tk hx (.inr ⟨T, b', item, o, ho, hk _ _ h1 h2 hT, h1, h2⟩) st' ht hz hk)) (PySem.F.args_enumerate_next_1 _))))
theorem next_end {e it : Addr} {fp : List Addr} {n : Nat} {c : Int} {P : Nat → Value → Prop} {St : Nat → Heap → Prop} {Q : Option Value → Shared → Prop}
    (D : Draws prog w A.in1 it fp n P St) (he : En s.heap e it c) (hst : St n s.heap)
    (hQ : ∀ h', Heap.ExtBut it s.heap h' → Q none { s with heap := h' }) : wpAny (model prog w) A (pyNext (.ref e)) Q E s := by
  have hty := he.ty
  rcases he with ⟨old, he⟩ | ⟨T, b, item, o, he, hT, h1, h2⟩
  · exact wpAny_pyNext_enum_endD D he hst hQ
  · unfold pyNext
    refine wpAny_bind (wpAny_attempt (wpAny_callSpecial?_slot (name := Str.ofString "__next__") hty PySem.F.slot_enumerate_next
      (wpAny_call_entry PySem.F.slot_enumerate_next hty PySem.F.entry_enumerate_next ?_ (PySem.F.args_enumerate_next_1 _))))
    show wpAny _ _ (field (.ref e) 2 >>= _) _ _ _
    refine wpAny_bind (wpAny_field he rfl (x := .ref it) rfl ?_)
    refine wpAny_bind (D.done _ _ _ hst fun h' x he' hx' => ?_)
    obtain ⟨o, ho, hc⟩ := hx'
    refine wpAny_bind (wpAny_isInstance (T := "StopIteration") (b := true) ⟨o, ho, hc⟩ isSubtype_stop ?_)
    exact wpAny_pure (hQ _ he')
/-- what has been collected: pairs of a count and an item -/
def Got (h : Heap) (P : Nat → Value → Prop) (lo : Addr) (acc : Array Value) (i : Nat) : Prop :=
  acc.size = i ∧ ∀ j, j < i → ∃ T t x, (lo ≤ T ∧ acc[j]? = some (.ref T)) ∧ h.get? T = some { cls := .type "tuple", data := .seq #[.int (j : Nat) t, x] } ∧ P j x
theorem Got.keep {h h' : Heap} {P : Nat → Value → Prop} {lo : Addr} {acc : Array Value} {i : Nat} (g : Got h P lo acc i) (k : ∀ T xs, h.get? T = some { cls := .type "tuple", data := .seq xs } → h'.get? T = some { cls := .type "tuple", data := .seq xs }) : Got h' P lo acc i :=
  ⟨g.1, fun j hj => let ⟨T, t, x, h1, h2, h3⟩ := g.2 j hj; ⟨T, t, x, h1, k _ _ h2, h3⟩⟩
theorem Got.push {h : Heap} {P : Nat → Value → Prop} {lo : Addr} {acc : Array Value} {i : Nat} (g : Got h P lo acc i) {T : Addr} (hl : lo ≤ T) {t : Tok} {x : Value} (e : h.get? T = some { cls := .type "tuple", data := .seq #[.int (i : Nat) t, x] }) (p : P i x) : Got h P lo (acc.push (.ref T)) (i + 1) := by
  refine ⟨by rw [Array.size_push, g.1], fun j hj => ?_⟩
  by_cases z : j = i
  · subst z
    exact ⟨T, t, x, ⟨hl, by rw [Array.getElem?_push, if_pos g.1.symm]⟩, e, p⟩
  · obtain ⟨T', t', x', h1, h2, h3⟩ := g.2 j (by omega)
    exact ⟨T', t', x', ⟨h1.1, by rw [Array.getElem?_push, if_neg (by rw [g.1]; exact z)]; exact h1.2⟩, h2, h3⟩
abbrev LstAt (h : Heap) (S : Addr) (acc : Array Value) (c : Nat) : Prop := h.get? S = some { cls := .type "list", dict := none, data := .seq acc c, slots := #[] }
theorem loop {lo e it S : Addr} {fp : List Addr} {n : Nat} {P : Nat → Value → Prop} {St : Nat → Heap → Prop} {R : Result → Shared → Prop} {res : Value}
    (D : Draws prog w A.in1.in1 it fp n P St) (hne : e ≠ it) (hef : e ∉ fp) (hSe : S ≠ e) (hSi : S ≠ it) (hSf : S ∉ fp) (hn : n ≤ sizeLine) (hIt : ∀ i h, St i h → ∀ xs, h.get? it ≠ some { cls := .type "tuple", data := .seq xs }) :
    ∀ (k i : Nat) (s : Shared) (acc : Array Value) (c : Nat), n - i = k → i ≤ n → En s.heap e it (i : Nat) → St i s.heap → LstAt s.heap S acc c → Got s.heap P lo acc i → lo ≤ s.heap.objs.size →
    (∀ h' tk acc' c', (∀ b o, b ≠ S → b ≠ e → b ≠ it → s.heap.get? b = some o → h'.get? b = some o) → LstAt h' S acc' c' → Got h' P lo acc' n → R (.ok (.ret res)) { s with heap := h', toks := tk }) →
    codeAny (model prog w) A (.builtin "list.extend.loop" ⟨[.ref S, .ref e, res], []⟩) R s := by
  intro k
  induction k with
  | zero =>
    intro i s acc c hk hi he hst hS hg hlo hR
    have hin : i = n := by omega
    subst hin
    refine codeAny_builtin PySem.F.entry_extend_loop ?_
    rw [Around.under_plainId PySem.F.plain_extend_loop _]
    show wpAny _ A.in1 (pyNext (.ref e) >>= _) _ _ s
    refine wpAny_bind (next_end D he hst fun h' xb => ?_)
    refine wpAny_pure (hR h' s.toks acc c (fun b o _ _ hb h => xb b o hb h) (xb S _ hSi hS) (hg.keep fun T xs h => xb T _ (fun z => ?_) h))
    subst z
    exact hIt _ _ hst _ h
  | succ k ih =>
    intro i s acc c hk hi he hst hS hg hlo hR
    have hlt : i < n := by omega
    refine codeAny_builtin PySem.F.entry_extend_loop ?_
    rw [Around.under_plainId PySem.F.plain_extend_loop _]
    show wpAny _ A.in1 (pyNext (.ref e) >>= _) _ _ s
    refine wpAny_bind (next_item D he hst hlt hne hef fun x h' tk hx he' hst' ht hz hk' => ?_)
    have hS' : LstAt h' S acc c := hk' S _ hSe hSi hS
    have hNe : ∀ {b : Addr} {o : Obj}, s.heap.get? b = some o → b ≠ s.heap.objs.size := fun h => Nat.ne_of_lt (Heap.lt_size h)
    have hg' : Got h' P lo (acc.push (.ref s.heap.objs.size)) (i + 1) := Got.push (hg.keep fun T xs h => hk' T _ (fun z => ?_) (fun z => ?_) h) hlo ht hx
    · show wpAny _ A.in1 (updateSeq S (·.push (.ref s.heap.objs.size)) >>= _) _ _ _
      refine wpAny_bind (wpAny_updateSeq hS' rfl (wpAny_pure ⟨plainId_quiet PySem.F.plain_extend_loop _, ?_⟩) (by rw [hg.1]; omega) (by show (acc.push _).size ≤ sizeLine + 1; rw [Array.size_push, hg.1]; omega))
      have hS2 := Heap.get?_update_self (Obj.mapSeq (·.push (Value.ref s.heap.objs.size))) hS' rfl
      have oth : ∀ b o, b ≠ S → h'.get? b = some o → (h'.update S (Obj.mapSeq (·.push (Value.ref s.heap.objs.size)))).get? b = some o := fun b o hb e => (Heap.get?_update_other _ _ (Ne.symm hb)).trans e
      have nS : ∀ T xs, h'.get? T = some { cls := .type "tuple", data := .seq xs } → T ≠ S := fun T xs h z => by
        rw [z, hS'] at h
        simp at h
      refine ih (i + 1) _ (acc.push (.ref s.heap.objs.size)) _ (by omega) hlt ?_ (D.frame _ _ _ hst' fun b hb o y => oth b o (fun z => hSf (z ▸ hb)) y) hS2 (hg'.keep fun T xs h => oth T _ (nS T xs h) h) (by show lo ≤ (h'.update S _).objs.size; rw [Heap.size_update, hz]; exact Nat.le_succ_of_le hlo) fun h'' tk' acc' c' kk hl hgo => ?_
      · have e1 : ((i + 1 : Nat) : Int) = (i : Int) + 1 := by omega
        rw [e1]
        exact he'.keep S hSe (fun T _ hT o h => oth T o hT h) ⟨_, hS2⟩
      · exact hR h'' tk' acc' c' (fun b o hb h1 h2 h => kk b o hb h1 h2 (oth b o hb (hk' b o h1 h2 h))) hl hgo
    · obtain ⟨o, h1, h2⟩ := he.ty
      rw [z] at h
      rw [h] at h1
      cases h1
      simp at h2
    · subst z
      exact hIt _ _ hst _ h
theorem no_len : typeLookup (.type "enumerate") "__len__" = pure none := by rw [typeLookup_type, builtinLookup_eq_fast]; kernel_rfl
theorem no_hint : typeLookup (.type "enumerate") "__length_hint__" = pure none := by rw [typeLookup_type, builtinLookup_eq_fast]; kernel_rfl
theorem extend_en {lo e it S : Addr} {fp : List Addr} {n : Nat} {P : Nat → Value → Prop} {St : Nat → Heap → Prop} {R : Result → Shared → Prop} {res old : Value} {c0 : Nat}
    (D : Draws prog w A.in1.in1 it fp n P St) (hne : e ≠ it) (hef : e ∉ fp) (hSe : S ≠ e) (hSi : S ≠ it) (hSf : S ∉ fp) (hn : n ≤ sizeLine) (hIt : ∀ i h, St i h → ∀ xs, h.get? it ≠ some { cls := .type "tuple", data := .seq xs })
    (he : IsEnum s.heap e it 0 old) (hst : St 0 s.heap) (hS : LstAt s.heap S #[] c0) (hlo : lo ≤ s.heap.objs.size)
    (hR : ∀ h' tk acc' c', (∀ b o, b ≠ S → b ≠ e → b ≠ it → s.heap.get? b = some o → h'.get? b = some o) → LstAt h' S acc' c' → Got h' P lo acc' n → R (.ok (.ret res)) { s with heap := h', toks := tk }) :
    wpAny (model prog w) A.in1 (Builtin.List.listExtendWith (.ref S) (.ref e) res)
      (fun fin s' => match fin with | .done f => R (.ok f) s' | .again c' => c'.quiet = true ∧ codeAny (model prog w) A c' R s') (fun e s' => R (.error e) s') s := by
  have hT : s.TypeIs (.ref e) "enumerate" := ⟨_, he, rfl⟩
  unfold Builtin.List.listExtendWith
  refine wpAny_bind (wpAny_typeOf hT ?_)
  have h1 : Builtin.List.listSameRef (.ref S) (.ref e) = false := by simp [Builtin.List.listSameRef, hSe]
  have h2 : (Value.type "enumerate" == Value.type "list") = false := by decide
  have h3 : (Value.type "enumerate" == Value.type "tuple") = false := by decide
  simp only [h1, h2, h3, Bool.or_false, Bool.false_eq_true, if_false]
  refine wpAny_bind (wpAny_pyIter_enum he ?_)
  refine wpAny_bind (wpAny_holding ?_)
  unfold Builtin.List.listLengthHint
  refine wpAny_bind (wpAny_specialOf hT no_len ?_)
  show wpAny _ A.in1 (specialOf (Value.ref e) (Str.ofString "__length_hint__") >>= _) _ _ _
  refine wpAny_bind (wpAny_specialOf hT no_hint ?_)
  refine wpAny_pure ?_
  show wpAny _ A.in1 (rule "list.extend.makes-room" >>= fun _ => Builtin.List.listTouch (.ref S) >>= fun _ => again (.builtin "list.extend.loop" ⟨[.ref S, .ref e, res], []⟩)) _ _ _
  refine wpAny_bind (wpAny_rule ?_)
  refine wpAny_bind ?_
  show wpAny _ A.in1 (updateSeq S (·.push .none) >>= fun _ => updateSeq S (·.pop)) _ _ _
  refine wpAny_bind (wpAny_updateSeq hS rfl ?_)
  have hS2 := Heap.get?_update_self (Obj.mapSeq (·.push Value.none)) hS rfl
  refine wpAny_updateSeq hS2 rfl ?_
  have hS3 := Heap.get?_update_self (Obj.mapSeq (·.pop)) hS2 rfl
  have oth : ∀ b o, b ≠ S → s.heap.get? b = some o → ((s.heap.update S (Obj.mapSeq (·.push Value.none))).update S (Obj.mapSeq (·.pop))).get? b = some o :=
    fun b o hb e => (Heap.get?_update_other _ _ (Ne.symm hb)).trans ((Heap.get?_update_other _ _ (Ne.symm hb)).trans e)
  refine wpAny_pure ⟨plainId_quiet PySem.F.plain_extend_loop _, loop D hne hef hSe hSi hSf hn hIt n 0 _ _ _ rfl (Nat.zero_le _) (.inl ⟨old, oth e _ (Ne.symm hSe) he⟩) (D.frame _ _ _ hst fun b hb o y => oth b o (fun z => hSf (z ▸ hb)) y) hS3 ⟨rfl, fun j hj => absurd hj (Nat.not_lt_zero _)⟩ (by show lo ≤ ((s.heap.update S _).update S _).objs.size; rw [Heap.size_update, Heap.size_update]; exact hlo) fun h' tk acc' c' k hl hg => ?_⟩
  exact hR h' tk acc' c' (fun b o hb h1 h2 h => k b o hb h1 h2 (oth b o hb h)) hl hg
theorem call_list_en {e it : Addr} {fp : List Addr} {n : Nat} {P : Nat → Value → Prop} {St : Nat → Heap → Prop} {Q : Value → Shared → Prop} {old : Value}
    (D : Draws prog w A.in1.in1.in1 it fp n P St) (hne : e ≠ it) (hef : e ∉ fp) (hfp : ∀ b ∈ fp, b < s.heap.objs.size) (hn : n ≤ sizeLine) (hIt : ∀ i h, St i h → ∀ xs, h.get? it ≠ some { cls := .type "tuple", data := .seq xs })
    (he : IsEnum s.heap e it 0 old) (hst : St 0 s.heap)
    (hQ : ∀ h' tk acc' c', (∀ b o, b ≠ e → b ≠ it → s.heap.get? b = some o → h'.get? b = some o) → LstAt h' s.heap.objs.size acc' c' → Got h' P s.heap.objs.size acc' n → Q (.ref s.heap.objs.size) { s with heap := h', toks := tk }) :
    wpAny (model prog w) A (call (.type "list") [.ref e]) Q E s := by
  have hel : e < s.heap.objs.size := Heap.lt_size he
  have hil : it < s.heap.objs.size := by obtain ⟨o, h⟩ := D.live _ _ hst; exact Heap.lt_size h
  refine callType_codes (Q₁ := fun obj s₁ => obj = .ref s.heap.objs.size ∧ s₁ = { s with heap := s.heap.push { cls := .type "list", data := .seq #[] } }) PySem.F.called_list (PySem.F.typeCall_list_1 _) PySem.F.entry_list_init
    (code_list_new _ ⟨rfl, rfl⟩) fun obj s₁ h₁ => ?_
  obtain ⟨rfl, rfl⟩ := h₁
  have hS : (s.heap.push { cls := .type "list", data := .seq #[] }).get? s.heap.objs.size = some { cls := .type "list", data := .seq #[] } := Heap.get?_push_size _ rfl
  refine ⟨⟨_, hS, rfl⟩, PySem.F.args_list_init_2 _ _, ?_⟩
  show wpAny _ _ (do let old ← Builtin.List.listItems (.ref s.heap.objs.size); Builtin.List.listUpdate (.ref s.heap.objs.size) (fun _ => #[]); letGo old.toList.reverse; Builtin.List.listExtendWith (.ref s.heap.objs.size) (.ref e) .none) _ _ _
  refine wpAny_bind ?_
  unfold Builtin.List.listItems
  refine wpAny_bind (wpAny_seqItems hS rfl (wpAny_pure ?_))
  show wpAny _ _ (updateSeq s.heap.objs.size (fun _ => #[]) >>= fun _ => letGo (#[] : Array Value).toList.reverse >>= fun _ => Builtin.List.listExtendWith (.ref s.heap.objs.size) (.ref e) .none) _ _ _
  refine wpAny_bind (wpAny_updateSeq hS rfl ?_)
  have hS2 := Heap.get?_update_self (Obj.mapSeq (fun _ => (#[] : Array Value))) hS rfl
  have oth : ∀ b o, s.heap.get? b = some o → ((s.heap.push { cls := .type "list", data := .seq #[] }).update s.heap.objs.size (Obj.mapSeq (fun _ => (#[] : Array Value)))).get? b = some o := fun b o h =>
    (Heap.get?_update_other _ _ (Nat.ne_of_gt (Heap.lt_size h))).trans (Heap.get?_push_of_some _ h)
  refine wpAny_bind (wpAny_letGo ?_)
  refine extend_en (A := A.in1) D hne hef (Nat.ne_of_gt hel) (Nat.ne_of_gt hil) (fun z => Nat.lt_irrefl _ (hfp _ z)) hn hIt (oth e _ he) (D.frame _ _ _ hst fun b hb o y => oth b o y) hS2 (by show s.heap.objs.size ≤ ((s.heap.push _).update _ _).objs.size; rw [Heap.size_update, Heap.size_push]; exact Nat.le_succ _) fun h' tk acc' c' k hl hg => ?_
  exact ⟨rfl, hQ h' tk acc' c' (fun b o h1 h2 h => k b o (Nat.ne_of_lt (Heap.lt_size h)) h1 h2 (oth b o h)) hl hg⟩
end
end EN
set_option Elab.async false
set_option linter.all false
set_option maxRecDepth 100000
set_option maxHeartbeats 2000000
namespace EN
open PySem PySem.Spec PyProof.Rows L2
set_option maxHeartbeats 2000000 in
theorem meets_new {v : Value} {o : Obj} {H : Heap → Prop} (B : Begins v o H) :
    Meets (Builtin.«enumerate.__new__» ⟨[.type "enumerate", v], []⟩) (fun _ R s => H s.heap ∧
      R (.ok (.ret (.ref (s.heap.push o).objs.size))) { s with heap := (s.heap.push o).push { cls := .type "enumerate", data := .fields #[.none, .bool false, .ref s.heap.objs.size, rawInt 0, .none, .none] } }) :=
  .of_wp fun prog w A R s h => by
    obtain ⟨hp, g, d, tk, os⟩ := s; obtain ⟨h1, h⟩ := h
    have hsub := sub_enumerate
    have q1 : ∀ {A' : Around} {E : Value → Shared → Prop} {Q : Value → Shared → Prop}, Q (.ref hp.objs.size) ⟨hp.push o, g, d, tk, os⟩ → wpAny (model prog w) A' (pyIter v) Q E ⟨hp, g, d, tk, os⟩ :=
      fun q => B.iter prog w _ _ ⟨hp, g, d, tk, os⟩ _ h1 q
    wp_walk using q1
    refine wpAny_stack_any fun st => wpAny_pure ?_
    split
    · rename_i c _ _ _ _ _
      cases (c == Value.type "enumerate")
      · wp_walk using q1
        exact ⟨_, rfl, h⟩
      · wp_walk using q1
        exact ⟨_, rfl, h⟩
    · wp_walk using q1
      exact ⟨_, rfl, h⟩
section
variable {prog : Program} {w : World} {A : Around} {E : Value → Shared → Prop} {s : Shared}
/-- enumerate(v): its two new cells -/
theorem call_en {v : Value} {o : Obj} {H : Heap → Prop} {Q : Value → Shared → Prop} (B : Begins v o H) (h1 : H s.heap)
    (h : ∀ h', IsEnum h' (s.heap.objs.size + 1) s.heap.objs.size 0 .none → h'.get? s.heap.objs.size = some o → h'.objs.size = s.heap.objs.size + 2 →
      (∀ b u, s.heap.get? b = some u → h'.get? b = some u) → Q (.ref (s.heap.objs.size + 1)) { s with heap := h' }) :
    wpAny (model prog w) A (call (.type "enumerate") [v]) Q E s := by
  refine callType_new PySem.F.called_enumerate (by decide) (PySem.F.typeCall_enumerate_1 _) (PySem.F.newCall_enumerate_1 _) (fun obj => PySem.F.args_object_init_2 obj _) PySem.F.entry_enumerate_new (meets_new B) ⟨h1, ?_⟩
  have hz : (s.heap.push o).objs.size = s.heap.objs.size + 1 := Heap.size_push ..
  show _ ∧ _
  rw [hz]
  have he : IsEnum ((s.heap.push o).push { cls := .type "enumerate", data := .fields #[.none, .bool false, .ref s.heap.objs.size, rawInt 0, .none, .none] }) (s.heap.objs.size + 1) s.heap.objs.size 0 .none := by
    have := Heap.get?_push_size (s.heap.push o) (o := { cls := .type "enumerate", data := .fields #[.none, .bool false, .ref s.heap.objs.size, rawInt 0, .none, .none] }) rfl
    rw [hz] at this; exact this
  exact ⟨⟨_, he, rfl⟩, h _ he (Heap.get?_push_of_some _ (Heap.get?_push_size _ B.free)) (by rw [Heap.size_push, hz]) fun b u x => Heap.get?_push_of_some _ (Heap.get?_push_of_some _ x)⟩
end
end EN
set_option Elab.async false
set_option linter.all false
set_option maxRecDepth 100000
set_option maxHeartbeats 2000000
namespace EN
open PySem PySem.Spec PyProof.Rows L2
/-! ### many new objects at once -/
def upds (H N : Hp) : Hp := fun b => match N b with | some o => some o | none => H b
theorem upds_new {H N : Hp} {b : Addr} {o : HO} (h : N b = some o) : upds H N b = some o := by unfold upds; rw [h]
theorem upds_old {H N : Hp} {b : Addr} (h : N b = none) : upds H N b = H b := by unfold upds; rw [h]
section
variable {X : Cx} {pins : List (Addr × Obj)} {σ : L2.St} {H : Hp} {s : Shared}
theorem lays {N : Hp} {h' : Heap} {t' : Nat} (I : Inv X pins σ H s) (k : ∀ b u, s.heap.get? b = some u → h'.get? b = some u) (hN : ∀ b o, N b = some o → s.heap.objs.size ≤ b)
    (new : ∀ b o, N b = some o → ObjOk X.prog X.w (upds H N) h' b o) : Inv X pins σ (upds H N) { s with heap := h', toks := t' } := by
  have lt0 : ∀ {b : Addr}, b < s.heap.objs.size → N b = none := fun {b} hb => by
    cases e : N b with
    | none => rfl
    | some o => exact absurd (hN b o e) (Nat.not_le_of_lt hb)
  have old : ∀ {b : Addr} {o : HO}, H b = some o → N b = none := fun {b o} e => lt0 (I.hok.lt e)
  refine I.un ⟨fun b u q _ _ _ => k b u q, fun b u q _ _ _ => ⟨u.slots, k b u q⟩, fun b u q n _ => by rw [upds_old (lt0 (Heap.lt_size q))]; exact n, fun b u q _ => ⟨u, k b u q⟩,
    fun b xs q => by rw [upds_old (old q)]; exact q, fun b u xs q => by rw [upds_old (old q)]; exact q, fun b ps q => ⟨#[], by rw [upds_old (old q), q]; simp⟩⟩ fun b u e => ?_
  cases hb : N b with
  | some o1 =>
    rw [upds_new hb] at e
    cases e
    exact new b _ hb
  | none =>
    rw [upds_old hb] at e
    exact (I.hok b u e).stay (fun c v _ q => k c v q) (fun c q => by rw [upds_old (old q)]; exact q) fun c xs q => by rw [upds_old (old q)]; exact q
end
def adr : Value → Addr
  | .ref a => a
  | _ => 0
theorem vals_adr : ∀ {l : List Value}, (∀ v ∈ l, ∃ T, v = .ref T) → Vals (l.map fun v => V.ref (adr v)) l
  | [], _ => .nil
  | v :: l, h => by
    obtain ⟨T, rfl⟩ := h v List.mem_cons_self
    exact .cons rfl (vals_adr fun u hu => h u (List.mem_cons_of_mem _ hu))
/-- the list and its pairs -/
def news (p : Addr) (ts : List Addr) (xs : List V) : Hp := fun b =>
  if b = p then some (.lst (ts.map V.ref)) else match ts.findIdx? (fun T => decide (T = b)) with
    | some j => match xs[j]? with | some x => some (.tup [.int (j : Nat), x]) | none => none
    | none => none
theorem news_at {p : Addr} {ts : List Addr} {xs : List V} {b : Addr} {o : HO} (h : news p ts xs b = some o) : (b = p ∧ o = .lst (ts.map V.ref)) ∨ ∃ (j : Nat) (x : V), ts[j]? = some b ∧ xs[j]? = some x ∧ o = .tup [.int (j : Nat), x] := by
  unfold news at h
  split at h
  · rename_i e
    cases h
    exact .inl ⟨e, rfl⟩
  · split at h
    · rename_i j e
      split at h
      · rename_i x ex
        cases h
        obtain ⟨hj, pj, _⟩ := List.findIdx?_eq_some_iff_getElem.mp e
        exact .inr ⟨j, x, by rw [List.getElem?_eq_getElem hj, of_decide_eq_true pj], ex, rfl⟩
      · cases h
    · cases h
theorem news_tup {p : Addr} {ts : List Addr} {xs : List V} {b : Addr} {j : Nat} (hp : b ≠ p) (hl : ts.length = xs.length) (hj : ts[j]? = some b) : ∃ (j' : Nat) (x : V), ts[j']? = some b ∧ xs[j']? = some x ∧ news p ts xs b = some (.tup [.int (j' : Nat), x]) := by
  unfold news
  rw [if_neg hp]
  cases e : ts.findIdx? (fun T => decide (T = b)) with
  | none =>
    have := List.findIdx?_eq_none_iff.mp e b (List.mem_of_getElem? hj)
    simp at this
  | some j' =>
    obtain ⟨hj', pj, _⟩ := List.findIdx?_eq_some_iff_getElem.mp e
    have hx : j' < xs.length := by rw [← hl]; exact hj'
    refine ⟨j', xs[j'], by rw [List.getElem?_eq_getElem hj', of_decide_eq_true pj], List.getElem?_eq_getElem hx, ?_⟩
    simp only [List.getElem?_eq_getElem hx]
/-- list(enumerate(a tuple)): a new list of new pairs -/
def tListEn (K : PySem.W.Frag) (te : TE) : TE := fun σ H Q => te σ H fun v H1 => ∃ t xs, v = .ref t ∧ SqT K H1 t xs ∧ ∀ (p : Addr) (ts : List Addr) (H2 : Hp), (∀ a o, H1 a = some o → H2 a = some o) → H1 p = none → H2 p = some (.lst (ts.map V.ref)) → ts.length = xs.length →
  (∀ (j : Nat) (T : Addr), ts[j]? = some T → ∃ x, xs[j]? = some x ∧ H2 T = some (.tup [.int (j : Nat), x])) → Q (.ref p) H2
section
variable {X : Cx}
theorem pe_listEn {e : Expr} {te : TE} {p p2 pos pos2 : Pos} (hc : X.calm = true) (hg : Gl X "list") (hm : X.mg "list" = none) (hg2 : Gl X "enumerate") (hm2 : X.mg "enumerate" = none) (he : PE X e te)
    (hs : starEach [e] X.env = (false, eval e X.env) :: starEach [] X.env := by rfl)
    (hs2 : starEach [.Call (.Name "enumerate" p2) [e] [] pos2] X.env = (false, eval (.Call (.Name "enumerate" p2) [e] [] pos2) X.env) :: starEach [] X.env := by rfl) :
    PE X (.Call (.Name "list" p) [.Call (.Name "enumerate" p2) [e] [] pos2] [] pos) (tListEn X.K te) := by
  refine ⟨fun pins s σ H Q I h => ?_⟩
  refine Call_ (ld_blt I hg hm boot_list (PyProof.Rows.callWith_type1 (args_cons (Call_ (ld_blt I hg2 hm2 PyProof.Rows.boot_enumerate (PyProof.Rows.callWith_type1 (args_cons (thn (he.run pins s σ H _ I h) fun u s1 ⟨v, H1, I1, r1, q1⟩ => args_nil ?_) hs) hs rfl))) hs2) hs2 rfl))
  obtain ⟨t, xs, ev, hq, q⟩ := q1
  subst ev
  obtain rfl : u = Value.ref t := r1
  obtain ⟨its, rv, p', hz⟩ := I1.tuple hq
  refine call_en (begins_tuple t its.toArray) p' fun h2 hen hit hsz hk => args_nil ?_
  have I2 : Inv X pins σ H1 { s1 with heap := h2 } := I1.kept (t' := s1.toks) hk
  have hlt : t < s1.heap.objs.size := p'.lt
  have hn : its.toArray.size = xs.length := by rw [List.size_toArray, ← rv.length]
  have D := Draws.tuple (prog := X.prog) (w := X.w) (A := X.A.in1.in1.in1) (by simpa using I1.ok.hd hc) s1.heap.objs.size t (Nat.ne_of_lt hlt) its.toArray
  refine call_list_en (s := { s1 with heap := h2 }) D (Nat.succ_ne_self _) (fun z => ?_) (fun b hb => ?_) (by rw [hn]; exact hz) (fun i h st xs' z => ?_) hen ⟨⟨_, hit, rfl, rfl⟩, let ⟨o, ho, r⟩ := p'; ⟨o, hk _ _ ho, r⟩⟩ fun h' tk acc c hk' hl hg => ?_
  · rcases List.mem_cons.mp z with z | z
    · exact Nat.succ_ne_self _ z
    · rw [← List.mem_singleton.mp z] at hlt
      exact Nat.not_succ_lt_self hlt
  · show b < h2.objs.size
    rw [hsz]
    rcases List.mem_cons.mp hb with z | z
    · rw [z]; exact Nat.lt_add_of_pos_right (by decide)
    · rw [List.mem_singleton.mp z]; exact Nat.lt_trans hlt (Nat.lt_add_of_pos_right (by decide))
  · obtain ⟨⟨o, ho, hcl, _⟩, _⟩ := st
    rw [z] at ho
    cases ho
    simp at hcl
  · obtain ⟨hsz2, hall⟩ := hg
    have hlen : (acc.toList.map adr).length = xs.length := by rw [List.length_map, Array.length_toList, hsz2, hn]
    have at_ : ∀ (j : Nat) (T : Addr), (acc.toList.map adr)[j]? = some T → ∃ t u x, h2.objs.size ≤ T ∧ its[j]? = some u ∧ xs[j]? = some x ∧ RelV x u ∧ h'.get? T = some { cls := .type "tuple", data := .seq #[.int (j : Nat) t, u] } := fun j T hT => by
      obtain ⟨hj, _⟩ := List.getElem?_eq_some_iff.mp hT
      have hjx : j < xs.length := by rw [← hlen]; exact hj
      obtain ⟨T', t', u, ⟨hlo, ha⟩, hh, hu⟩ := hall j (by rw [hn]; exact hjx)
      have eT : T' = T := by
        rw [List.getElem?_map, Array.getElem?_toList, ha] at hT
        exact Option.some.inj hT
      subst eT
      have hu' : its[j]? = some u := by simpa using hu
      obtain ⟨u', hu2, ru⟩ := rv.get (i := j) (x := xs[j]) (List.getElem?_eq_getElem hjx)
      rw [hu'] at hu2
      cases hu2
      exact ⟨t', u, xs[j], hlo, hu', List.getElem?_eq_getElem hjx, ru, hh⟩
    have hP : ∀ (j : Nat) (T : Addr), (acc.toList.map adr)[j]? = some T → T ≠ h2.objs.size := fun j T hT z => by
      obtain ⟨t, u, x, _, _, _, _, hh⟩ := at_ j T hT
      rw [z, show h'.get? h2.objs.size = _ from hl] at hh
      simp at hh
    have k1 : ∀ b u, s1.heap.get? b = some u → h'.get? b = some u := fun b u e => hk' b u (fun z => ?_) (fun z => ?_) (hk b u e)
    · have I3 : Inv X pins σ (upds H1 (news h2.objs.size (acc.toList.map adr) xs)) { s1 with heap := h', toks := tk } := lays I1 k1 (fun b o e => ?_) fun b o e => ?_
      · refine ⟨.ref h2.objs.size, _, I3, rfl, q h2.objs.size (acc.toList.map adr) _ (fun a o e => ?_) (I1.hok.fresh (by rw [hsz]; exact Nat.le_add_right _ _)) (upds_new (by unfold news; rw [if_pos rfl])) hlen fun j T hT => ?_⟩
        · have : news h2.objs.size (acc.toList.map adr) xs a = none := by
            cases e2 : news h2.objs.size (acc.toList.map adr) xs a with
            | none => rfl
            | some o2 =>
              have ha := I1.hok.lt e
              rcases news_at e2 with ⟨e3, _⟩ | ⟨j, x, hT, _, _⟩
              · rw [e3, hsz] at ha
                exact absurd ha (Nat.not_lt_of_le (Nat.le_add_right _ _))
              · obtain ⟨_, _, _, hlo, _⟩ := at_ j a hT
                rw [hsz] at hlo
                exact absurd (Nat.lt_of_lt_of_le ha (Nat.le_trans (Nat.le_add_right _ 2) hlo)) (Nat.lt_irrefl _)
          rw [upds_old this]
          exact e
        · obtain ⟨j', x, h1, h2', h3⟩ := news_tup (hP j T hT) hlen hT
          obtain ⟨t1, u1, x1, _, i1, y1, _, g1⟩ := at_ j T hT
          obtain ⟨t2, u2, x2, _, i2, y2, _, g2⟩ := at_ j' T h1
          rw [g1] at g2
          have ej : (j : Int) = (j' : Int) := by
            simp at g2
            omega
          have ej2 : j = j' := by omega
          subst ej2
          exact ⟨x, h2', upds_new h3⟩
      · rcases news_at e with ⟨e1, _⟩ | ⟨j, x, hT, _, _⟩
        · rw [e1, hsz]; exact Nat.le_add_right _ _
        · obtain ⟨_, _, _, hlo, _⟩ := at_ j b hT
          rw [hsz] at hlo
          exact Nat.le_trans (Nat.le_add_right _ 2) hlo
      · rcases news_at e with ⟨e1, e2⟩ | ⟨j, x, hT, hx, e2⟩
        · subst e1 e2
          refine ⟨by rw [List.length_map, hlen]; exact hz, acc.toList, c, ?_, ?_⟩
          · rw [List.map_map]
            refine vals_adr fun v hv => ?_
            obtain ⟨j, hj⟩ := List.mem_iff_getElem?.mp hv
            have hjn : j < its.toArray.size := by rw [← hsz2, ← Array.length_toList]; exact (List.getElem?_eq_some_iff.mp hj).1
            obtain ⟨T, _, _, ⟨_, ha⟩, _⟩ := hall j hjn
            rw [Array.getElem?_toList, ha] at hj
            exact ⟨T, (Option.some.inj hj).symm⟩
          · rw [Array.toArray_toList]
            exact hl
        · subst e2
          obtain ⟨t, u, x', _, _, hx', ru, hh⟩ := at_ j b hT
          rw [hx] at hx'
          cases hx'
          exact ⟨by show 2 ≤ sizeLine; decide, [.int (j : Nat) t, u], .cons ⟨_, rfl⟩ (.cons ru .nil), ⟨_, hh, rfl, _, rfl⟩⟩
    · rw [z] at e
      exact absurd (Heap.lt_size e) (Nat.not_lt_of_le (Nat.le_add_right _ 1))
    · rw [z] at e
      exact absurd (Heap.lt_size e) (Nat.lt_irrefl _)
end
end EN
set_option Elab.async false
set_option linter.all false
set_option maxRecDepth 100000
set_option maxHeartbeats 4000000
namespace PD
open PySem PySem.Spec PyProof.Rows L2
/-! ### enumerate, reversed -/
def enumD : Nat → List D → List D
  | _, [] => []
  | k, d :: ds => .tup [.int (k : Nat), d] :: enumD (k + 1) ds
theorem enumD_len : ∀ (ds : List D) (k : Nat), (enumD k ds).length = ds.length
  | [], _ => rfl
  | d :: ds, k => by simp [enumD, enumD_len ds (k + 1)]
theorem enumD_get : ∀ (ds : List D) (k j : Nat), (enumD k ds)[j]? = (ds[j]?).map fun d => D.tup [.int ((k + j : Nat) : Nat), d]
  | [], _, _ => by simp [enumD]
  | d :: ds, k, 0 => by simp [enumD]
  | d :: ds, k, j + 1 => by
    simp only [enumD, List.getElem?_cons_succ]
    rw [enumD_get ds (k + 1) j]
    rw [show k + 1 + j = k + (j + 1) by omega]
theorem RpA.ofGet {K : PySem.W.Frag} {H : Hp} : ∀ {vs : List V} {ds : List D}, vs.length = ds.length → (∀ (i : Nat) (v : V) (d : D), vs[i]? = some v → ds[i]? = some d → Rp K H v d) → RpA K H vs ds
  | [], [], _, _ => .nil
  | v :: vs, d :: ds, hl, h => .cons (h 0 v d rfl rfl) (RpA.ofGet (by simpa using hl) fun i v' d' h1 h2 => h (i + 1) v' d' (by simpa using h1) (by simpa using h2))
  | [], _ :: _, hl, _ => by simp at hl
  | _ :: _, [], hl, _ => by simp at hl
section
variable {C : Cn} {b : Nat} {δ : List Sl} {P : Nat → Res → Prop} {pos p0 p1 pos2 : Pos} {e : Expr}
theorem ev_listEn (B : Blt C.X) (hc : C.X.calm = true) (h : EV C b δ e (fun b1 r => ∃ ds, r = .va (.tup ds) ∧ P b1 (.ow (enumD 0 ds)))) (hg : Gl C.X "list" := by rfl) (hg2 : Gl C.X "enumerate" := by rfl)
    (hs : starEach [e] C.X.env = (false, eval e C.X.env) :: starEach [] C.X.env := by rfl)
    (hs2 : starEach [.Call (.Name "enumerate" p1) [e] [] pos2] C.X.env = (false, eval (.Call (.Name "enumerate" p1) [e] [] pos2) C.X.env) :: starEach [] C.X.env := by rfl) :
    EV C b δ (.Call (.Name "list" p0) [.Call (.Name "enumerate" p1) [e] [] pos2] [] pos) P := by
  intro os σ H st Q q
  refine WE.of (EN.pe_listEn hc hg B.list hg2 B.enumerate peW hs hs2) ?_
  refine h os σ H st _ fun v H1 b1 r f1 j1 rv hr => ?_
  obtain ⟨ds, rfl, hq⟩ := hr
  cases rv with | va rv => ?_
  cases rv with | @tup t xs _ hx ra => ?_
  refine ⟨t, xs, rfl, hx.sq, fun p ts H2 k hp hl hn hall => ?_⟩
  have f2 : Fr C.Z.S H1 H2 := Fr.of k
  have j2 : C.Z.J b1 H2 := C.Z.stay _ _ _ j1 (Fr.of k)
  have ns : ¬ C.Z.S p := fun z => C.Z.there _ _ _ j1 z hp
  refine q _ H2 b1 _ (f1.trans f2) j2 (.ow (f1.back hp) hl ns (RpA.ofGet ?_ fun i v d hv hd => ?_)) hq
  · rw [List.length_map, enumD_len, hn, ra.len]
  · rw [enumD_get] at hd
    rw [List.getElem?_map] at hv
    cases eT : ts[i]? with
    | none => rw [eT] at hv; cases hv
    | some T =>
      rw [eT] at hv
      cases hv
      obtain ⟨x, hx1, hT⟩ := hall i T eT
      obtain ⟨d1, hd1, rx⟩ := ra.getV hx1
      rw [hd1] at hd
      cases hd
      rw [Nat.zero_add]
      exact .tup (.h hT) (.cons (.int _) (.cons (rx.fr f2) .nil))
theorem eic_rev {P : Nat → List D → Prop} {tg : Expr} (B : Blt C.X) (h : EV C b δ e (fun b1 r => ∃ ds, r.seq = some ds ∧ P b1 ds.reverse)) (hg : Gl C.X "reversed" := by rfl)
    (hs : starEach [e] C.X.env = (false, eval e C.X.env) :: starEach [] C.X.env := by rfl) : EIc C b δ tg (.Call (.Name "reversed" p0) [e] [] pos) P := by
  intro os σ H st R k
  refine WI.of (RT.pi_revA hg B.reversed peW hs) ?_
  refine h os σ H st _ fun v H1 b1 r f1 j1 rv hr => ?_
  obtain ⟨ds, hr, q⟩ := hr
  obtain ⟨p, xs, rfl, e1, ra⟩ := rv.seq_ hr
  have hl := ra.len
  refine ⟨p, xs, rfl, .inl ⟨e1.sq, k _ H1 b1 ds.reverse f1 j1 ⟨fun H' f i hi => ?_, fun H' f i hi => ?_⟩ q⟩⟩
  · have e' := (e1.fr f).sq (K := C.K)
    have hi' : i < xs.length := by rw [hl]; simpa using hi
    have hj : xs.length - 1 - i < xs.length := by omega
    refine ⟨⟨hi', xs, xs[xs.length - 1 - i], e', List.getElem?_eq_getElem hj⟩, fun x H2 y => ?_⟩
    obtain ⟨rfl, y⟩ := y
    obtain ⟨d, h1, h2⟩ := (ra.fr f).getV (y xs e')
    refine ⟨Fr.refl, d, ?_, h2⟩
    rw [List.getElem?_reverse (by rw [← hl]; exact hi'), ← hl]
    exact h1
  · show xs.length ≤ i
    rw [hl]
    simpa using hi
end
end PD
set_option Elab.async false
set_option linter.all false
set_option maxRecDepth 100000
set_option maxHeartbeats 2000000
namespace KS
open PySem PySem.Spec PyProof.Rows L2
/-! ### sets of texts -/
def textFam (P : Program) (w : World) (K : PySem.W.Frag) (A : Around) : Fam P w K A where
  ι := (Key → Bool) × Nat
  O := fun D i => SetK P w D i.1 i.2
  i0 := (fun _ => false, 0)
  Add := fun i _ y R => ∃ x : Str, y = .str x ∧ i.2 + 1 < scanBound ∧ R (fun j => i.1 j || decide (j = .inr x), if i.1 (.inr x) = true then i.2 else i.2 + 1)
  new := fun H h => setK_new ⟨_, #[], 0, _, Heap.get?_push_size _ rfl, ⟨rfl, rfl, rfl⟩, rfl, (fun e he => by simp at he), (fun k => by simp), (by decide), (by rfl), rfl⟩
  add := by
    intro X pins σ H s E D i R y z Q hP hw hK hA I hD r ha h
    subst hP hw hK hA
    obtain ⟨x, rfl, room, hR⟩ := ha
    have ry : RelV (kV (.inr x)) z := r
    refine call_set_add (kV_is ry) (key_scan ry) (setK_get I hD) room fun h' sb new => ?_
    have he : ∃ u, h'.get? D = some u := by
      have ⟨o, _, _, _, ho, _⟩ := new
      exact ⟨o, ho⟩
    exact h _ _ hR (I.write (e := D) (t' := s.toks + 1) (by rw [hD]; trivial) (.inl rfl) (fun b u hb hu => (sb.2 b hb).trans hu) he (setK_new new))
/-! ### sets of tuples of texts and ints -/
/-- the set, without the tuples themselves -/
def KS0 (P : Program) (w : World) (h : Heap) (a : Addr) (L : List Row) : Prop := ∃ es ep t, (∃ o, h.get? a = some o ∧ o.ExactSet ∧ o.data = .set es ep t) ∧ es.toList = L.map (rowE P w) ∧ TabOk t (L.map fun p => kh P w p.2) ∧ (L.map (·.2)).Nodup ∧
  (w.params.followText "set-order" = true ∨ t.led = true) ∧ t.mask = 7 ∧ L.length ≤ 4
theorem KSet.zero {P : Program} {w : World} {h : Heap} {a : Addr} {L : List Row} {es : Array (Int × Value)} {ep : Nat} {t : SetTable} (R : KSet P w h a L es ep t) : KS0 P w h a L := ⟨es, ep, t, R.ob, R.rows, R.tab, R.nd, R.led, R.m7, R.few⟩
theorem KS0.full {P : Program} {w : World} {h : Heap} {a : Addr} {L : List Row} (R : KS0 P w h a L) (ht : ∀ p ∈ L, IsK P w h p.2 p.1) : ∃ es ep t, KSet P w h a L es ep t := by
  obtain ⟨es, ep, t, h1, h2, h3, h4, h5, h6, h7⟩ := R
  exact ⟨es, ep, t, h1, h2, h3, h4, ht, h5, h6, h7⟩
def KSO (P : Program) (w : World) (a : Addr) (L : List Row) : HO := .ext fun h => KS0 P w h a L
theorem kso_new {P : Program} {w : World} {H : Hp} {h : Heap} {a : Addr} {L : List Row} (R : KS0 P w h a L) : ObjOk P w H h a (KSO P w a L) := by
  have ⟨_, _, _, ⟨o, ho, _⟩, _⟩ := R
  refine ⟨R, ⟨o, ho⟩, fun h1 h2 q k => ?_⟩
  obtain ⟨es, ep, t, ⟨o, ho, r⟩, q⟩ := q
  exact ⟨es, ep, t, ⟨o, k o ho, r⟩, q⟩
theorem isK_of {X : Cx} {pins : List (Addr × Obj)} {σ : L2.St} {H : Hp} {s : Shared} {b : Addr} {k : List Key} (I : Inv X pins σ H s) (h : SqT X.K H b (k.map kV)) : IsK X.prog X.w s.heap k b := by
  obtain ⟨its, rv, ⟨o, ho, hc, n, hd⟩, _⟩ := I.tuple h
  refine ⟨o, its.toArray, n, ho, hc, hd, ?_⟩
  have conv : ∀ {ks : List Key} {us : List Value}, Vals (ks.map kV) us → ItemsAre (mixKind X.prog X.w) ks us := by
    intro ks
    induction ks with
    | nil => intro us r; cases r; exact .nil
    | cons k ks ih =>
      intro us r
      cases r with
      | cons r t => exact .cons (kV_is r) (ih t)
  rw [List.toList_toArray]
  exact conv rv
def keyFam (P : Program) (w : World) (K : PySem.W.Frag) (A : Around) (hu : A.units + 1 < cLine) : Fam P w K A where
  ι := List Row
  O := fun D L => KSO P w D L
  i0 := []
  Add := fun L H y R => ∃ a k, y = .ref a ∧ SqT K H a (k.map kV) ∧ (∀ p ∈ L, SqT K H p.1 (p.2.map kV)) ∧ L.length + 1 ≤ 4 ∧ ∀ L', (k ∈ L.map (·.2) → L' = L) → (k ∉ L.map (·.2) → L'.Perm ((a, k) :: L)) → R L'
  new := fun H h => kso_new ⟨#[], 0, _, ⟨_, Heap.get?_push_size _ rfl, ⟨rfl, rfl, rfl⟩, rfl⟩, rfl, ⟨List.Pairwise.nil, rfl, rfl, .inl rfl, fun x hx => (by cases hx), fun i h j hi => (by simp at hi)⟩, List.nodup_nil, by
    show _ ∨ (!w.params.followText "set-order") = true
    cases w.params.followText "set-order"
    · exact .inr rfl
    · exact .inl rfl, rfl, by decide⟩
  add := by
    intro X pins σ H s E D L R y z Q hP hw hK hA I hD r ha h
    subst hP hw hK hA
    obtain ⟨a, k, rfl, hq, hL, hl, hR⟩ := ha
    cases r
    have hx := isK_of I hq
    have R0 : KS0 X.prog X.w s.heap D L := (I.hok D _ hD).1
    obtain ⟨es, ep, t, hS⟩ := R0.full fun p hp => isK_of I (hL p hp)
    obtain ⟨o, ho, hex, hd⟩ := hS.ob
    refine wpAny_call_entry PySem.F.slot_set_add ⟨o, ho, hex.1⟩ PySem.F.entry_set_add ?_ (PySem.F.args_set_add_2 _ _)
    unfold Builtin.«set.add» Builtin.Frozenset.oneOther
    simp only [List.isEmpty_nil, bind_assoc]
    unfold Builtin.Frozenset.addrOf setAdd
    refine wpAny_bind (wpAny_pure ?_)
    try dsimp only
    refine wpAny_bind (wpAny_pure ?_)
    try dsimp only
    refine wpAny_bind ?_
    refine wpAny_holding ?_
    refine wpAny_bind (wpAny_pyHash_tuple (A := X.A.in1) hu hx ?_)
    refine add_k (A := X.A.in1) (s := { s with toks := s.toks + (k.length + 1) }) hS hx hu hl fun b h' L' es' ep' t' sb hS' c1 c2 => ?_
    show wpAny _ _ (ret Value.none) _ _ _
    have he : ∃ u, h'.get? D = some u := let ⟨o, ho, _⟩ := hS'.ob; ⟨o, ho⟩
    exact wpAny_pure ⟨_, rfl, h L' _ (hR L' c1 c2) (I.write (e := D) (t' := s.toks + (k.length + 1)) (by rw [hD]; trivial) (.inl rfl) (fun b u hb hu => (sb.2 b hb).trans hu) he (kso_new hS'.zero))⟩
end KS
set_option Elab.async false
set_option linter.all false
set_option maxRecDepth 100000
set_option maxHeartbeats 4000000
namespace PD
open PySem PySem.Spec PyProof.Rows L2 KS
/-! ### how many different ones -/
def cntR [DecidableEq α] : List α → Nat
  | [] => 0
  | x :: xs => if x ∈ xs then cntR xs else cntR xs + 1
def cnt [DecidableEq α] (xs : List α) : Nat := cntR xs.reverse
theorem cnt_snoc [DecidableEq α] (xs : List α) (x : α) : cnt (xs ++ [x]) = if x ∈ xs then cnt xs else cnt xs + 1 := by
  unfold cnt
  rw [List.reverse_append]
  simp [cntR]
theorem cntR_le [DecidableEq α] : ∀ xs : List α, cntR xs ≤ xs.length
  | [] => Nat.le_refl _
  | x :: xs => by
    have := cntR_le xs
    unfold cntR
    split <;> simp <;> omega
theorem cnt_le [DecidableEq α] (xs : List α) : cnt xs ≤ xs.length := by
  have := cntR_le xs.reverse
  rw [List.length_reverse] at this
  exact this
theorem cntR_nodup [DecidableEq α] : ∀ xs : List α, cntR xs = xs.length ↔ xs.Nodup
  | [] => by simp [cntR]
  | x :: xs => by
    have h1 := cntR_le xs
    have h2 := cntR_nodup xs
    unfold cntR
    rw [List.nodup_cons, List.length_cons]
    by_cases h : x ∈ xs
    · rw [if_pos h]
      exact ⟨fun z => by omega, fun z => absurd h z.1⟩
    · rw [if_neg h]
      exact ⟨fun z => ⟨h, h2.mp (by omega)⟩, fun z => by rw [h2.mpr z.2]⟩
theorem cnt_nodup [DecidableEq α] (xs : List α) : cnt xs = xs.length ↔ xs.Nodup := by
  have := cntR_nodup xs.reverse
  rw [List.length_reverse, (List.reverse_perm xs).nodup_iff] at this
  exact this
/-! ### len of a set -/
def LenO (P : Program) (w : World) (H : Hp) (a : Addr) (n : Nat) : Prop := (∃ S, H a = some (SetK P w a S n)) ∨ ∃ L, H a = some (KSO P w a L) ∧ n = L.length
theorem cr_lenO {X : Cx} : CallR X (.builtin "len") (fun xs H Q => ∃ a n, xs = [V.ref a] ∧ LenO X.prog X.w H a n ∧ n < 4096 ∧ Q (.int (n : Nat)) H) := by
  intro pins s σ H xs us Q I r h
  obtain ⟨a, n, rfl, hl, hn, q⟩ := h
  cases r with
  | cons r rr =>
    cases rr
    cases r
    have fin : ∀ {o : Obj} {es : Array (Int × Value)} {ep : Nat} {t : SetTable}, s.heap.get? a = some o → o.ExactSet → o.data = .set es ep t → t.fits es.size = true → es.size = n → wpAny (model X.prog X.w) X.A (call (.builtin "len") [.ref a]) (EP X pins σ Q) X.xe s := fun ho hex hd hf hs =>
      call_len_set ho hex hd hf (by rw [hs]; omega) ⟨.int (n : Nat), H, I.tok _, ⟨_, by rw [hs]⟩, q⟩
    rcases hl with ⟨S, e⟩ | ⟨L, e, rfl⟩
    · obtain ⟨o, es, ep, t, ho, hex, hd, _, _, _, hf, hs⟩ := setK_get I e
      exact fin ho hex hd hf hs
    · obtain ⟨es, ep, t, ⟨o, ho, hex, hd⟩, hr, tab, _, _, m7, few⟩ := (I.hok a _ e).1
      have hsz : es.size = L.length := by
        have h := congrArg List.length hr
        rwa [Array.length_toList, List.length_map] at h
      refine fin ho hex hd ?_ hsz
      have hp := tab.sz
      rw [List.length_map] at hp
      unfold SetTable.fits SetTable.fill
      rw [tab.dm, Bool.and_eq_true, beq_iff_eq, decide_eq_true_eq]
      show t.place.size = es.size ∧ t.place.size + 0 ≤ t.mask
      omega

/-- the tuples stay -/
def Tk (H H' : Hp) : Prop := (∀ a xs, H a = some (.tup xs) → H' a = some (.tup xs)) ∧ ∀ a o u, H a = some (.frz o u) → H' a = some (.frz o u)
theorem Tk.fr {M : Addr → Prop} {H H' : Hp} (f : Fr M H H') : Tk H H' := ⟨fun _ _ e => f.tup e, fun _ _ _ e => f.frz e⟩
theorem Tk.sq {K : PySem.W.Frag} {H H' : Hp} {a : Addr} {xs : List V} (t : Tk H H') (h : SqT K H a xs) : SqT K H' a xs := by
  rcases h with (h | ⟨o, h⟩) | h
  · exact .inl (.inl (t.1 _ _ h))
  · exact .inl (.inr ⟨o, t.2 _ _ _ h⟩)
  · exact .inr h
theorem Tk.upd {H : Hp} {D : Addr} {φ ψ : Heap → Prop} (h : H D = some (.ext φ)) : Tk H (upd H D (.ext ψ)) := by
  refine ⟨fun a xs e => ?_, fun a o u e => ?_⟩
  · rw [upd_ne (ne_of e h (by intro z; cases z))]; exact e
  · rw [upd_ne (ne_of e h (by intro z; cases z))]; exact e
/-- a family told by data: what is known of a set when the things ks have been put in -/
structure FamD (C : Cn) where
  F : Fam C.X.prog C.X.w C.X.K C.X.A
  α : Type
  dec : DecidableEq α
  D : α → D
  Rel : Hp → List α → F.ι → Prop
  fr : ∀ {H H' ks st}, Tk H H' → Rel H ks st → Rel H' ks st
  zero : ∀ H, Rel H [] F.i0
  most : Nat
  step : ∀ {H ks st v k}, Rel H ks st → Rp C.K H v (D k) → ks.length < most → F.Add st H v fun st' => ∀ H', Tk H H' → Rel H' (ks ++ [k]) st'
  mono : ∀ {H st v} {R R' : F.ι → Prop}, F.Add st H v R → (∀ i, R i → R' i) → F.Add st H v R'
  len : ∀ {H ks st a}, Rel H ks st → H a = some (F.O a st) → LenO C.X.prog C.X.w H a (cnt ks)
  ext : ∀ a st, ∃ φ, F.O a st = .ext φ ∧ NC φ
section
variable {C : Cn} {b : Nat} {δ : List Sl} {P : Nat → Res → Prop} {tg iter elt e : Expr} {pos p0 : Pos} {scope : Scope}
/-- len({elt for tg in iter}) -/
theorem ev_lenSC (G : FamD C) (p : Pat) (own : List (Str × Nat)) (g : D → G.α) (hc : C.X.calm = true) (hN : C.X.N.Nodup) (ok : BlkOk C.X.N C.X.env.scope scope own)
    (hg : ∀ (s : Shared) (H : Hp) (Cc : Addr) (cl : List (Str × Addr)) (fp : List Addr), PG (C.X.blk s H scope (compEnvC scope cl Cc C.X.env) fp) tg (gPat C.X.K p))
    (hp : ∀ i ∈ p.slots, i ∈ own.map (·.2)) (B : Blt C.X)
    (h : EIc C b δ tg iter (fun b1 ds => ds.length ≤ G.most ∧ ds.length < 4096 ∧ (∀ d ∈ ds, ∃ δ', bindP p d (wipeD δ (own.map (·.2))) = some δ' ∧
      ∀ (s : Shared) (H : Hp) (Cc : Addr) (cl : List (Str × Addr)) (fp : List Addr), EV (C.blk s H scope (compEnvC scope cl Cc C.X.env) fp) b1 δ' elt (fun b4 r => b4 = b1 ∧ r = .va (G.D (g d)))) ∧ P b1 (.va (.int ((@cnt _ G.dec (ds.map g) : Nat))))))
    (hgl : Gl C.X "len" := by rfl) (hs : ∀ x, foldedSetIterable iter C.X.env x = pure x := by intro _; rfl)
    (hsx : starEach [.SetComp elt [⟨tg, iter, [], 0⟩] scope pos] C.X.env = (false, eval (.SetComp elt [⟨tg, iter, [], 0⟩] scope pos) C.X.env) :: starEach [] C.X.env := by rfl)
    (hpl : (backTo p1 (starEach [] C.X.env)).any (·.1) = false := by rfl) : EV C b δ (.Call (.Name "len" p0) [.SetComp elt [⟨tg, iter, [], 0⟩] scope pos] [] p1) P := by
  intro os σ H st Q q
  refine WE.of (pe_callB cr_lenO hgl B.len PySem.boot_len (pa_cons (pe_scG (F := G.F) hc hN piW ok hg (fun s H Cc cl fp => ptsWb s H Cc cl fp) (fun s H Cc cl fp => peWb s H Cc cl fp) hs) pa_nil hsx) (by decide) (by decide) hsx hpl) ?_
  refine h os σ H st _ fun J H1 b1 ds f1 j1 W hh => ?_
  obtain ⟨hl, hl2, step, last⟩ := hh
  intro D0 hD
  have nsD : ¬ C.Z.S D0 := snew j1 hD
  refine ⟨fun i m H2 => m = ds.length - i ∧ i ≤ ds.length ∧ ∃ si, Fr C.Z.S H1 H2 ∧ C.Z.J b1 H2 ∧ H2 D0 = some (G.F.O D0 si) ∧ G.Rel H2 ((ds.take i).map g) si, ⟨ds.length, ?_⟩, ?_⟩
  · exact ⟨by omega, Nat.zero_le _, G.F.i0, Fr.new hD, jnew j1 hD, upd_same, by rw [List.take_zero]; exact G.zero _⟩
  · rintro i m H2 ⟨rfl, hi, si, f2, j2, hD2, rel⟩
    by_cases hlt : i < ds.length
    · obtain ⟨go, item⟩ := W.go H2 f2 i hlt
      refine .inr ⟨go, fun H' => ∃ si, Fr C.Z.S H1 H' ∧ C.Z.J b1 H' ∧ H' D0 = some (G.F.O D0 si) ∧ G.Rel H' ((ds.take (i + 1)).map g) si, fun H' z => ⟨ds.length - (i + 1), by omega, rfl, hlt, z⟩, fun x H3 y => ?_⟩
      obtain ⟨f3, d, hd, rx⟩ := item x H3 y
      have f3' : Fr C.Z.S H2 H3 := f3.wide fun _ z => z.elim
      have j3 : C.Z.J b1 H3 := C.Z.stay _ _ _ j2 (f3.wide fun _ z => z.elim)
      have etk : ds.take (i + 1) = ds.take i ++ [d] := by
        rw [List.take_succ, hd]
        rfl
      have st3 : Sts C os b1 (wipeD δ (own.map (·.2))) (wipe σ (own.map (·.2))) H3 := (st.on (f1.trans (f2.trans f3')) j3).wipe _
      obtain ⟨δ', hb, hstep⟩ := step d (List.mem_of_getElem? hd)
      obtain ⟨σ', st4, hw, hgo⟩ := bind_ok p rx st3 hb
      refine hgo _ ⟨by rw [hw _ hp, wipe_wipe], ?_⟩
      show WTsb C.X scope [] σ' H3 _
      intro s0 H0 Cc cl fp
      have ctx : ∀ s H Cc cl fp {b' δ' σ' H'}, Sts C os b' δ' σ' H' → Sts (C.blk s H scope (compEnvC scope cl Cc C.X.env) fp) os b' δ' σ' H' := fun s H Cc cl fp b' δ' σ' H' z => ⟨z.fr, z.j, z.new, z.sl⟩
      refine WTs.of pts_nil ?_
      show WEb C.X scope elt σ' H3 _
      intro s5 H5 Cc5 cl5 fp5
      refine hstep s5 H5 Cc5 cl5 fp5 os σ' H3 (ctx s5 H5 Cc5 cl5 fp5 st4) _ fun v H6 b4 r f6 j6 rv hy => ?_
      obtain ⟨rfl, rfl⟩ := hy
      cases rv with | va rv => ?_
      have f6' : Fr C.Z.S H3 H6 := f6
      have D6 : H6 D0 = some (G.F.O D0 si) := f6'.keep nsD (f3'.keep nsD hD2)
      refine ⟨si, D6, G.mono (G.step (k := g d) (G.fr (Tk.fr (f3'.trans f6')) rel) rv (by rw [List.length_map, List.length_take]; omega)) fun st' hr => ⟨st', ?_, ?_, upd_same, ?_⟩⟩
      · intro a o ea
        have ne : a ≠ D0 := ne_of_none ea hD
        rcases (f2.trans (f3'.trans f6')) a o ea with z | z
        · exact .inl (by rw [upd_ne ne]; exact z)
        · obtain ⟨m, q, z1, z2⟩ := z
          exact .inr ⟨m, q, by rw [upd_ne ne]; exact z1, z2⟩
      · obtain ⟨φ, e1, nc⟩ := G.ext D0 si
        obtain ⟨ψ, e2, _⟩ := G.ext D0 st'
        exact C.Z.stay _ _ _ j6 (by rw [e2]; rw [e1] at D6; exact Fr.putL nsD D6 (.e nc))
      · obtain ⟨φ, e1, _⟩ := G.ext D0 si
        obtain ⟨ψ, e2, _⟩ := G.ext D0 st'
        rw [etk, List.map_append]
        refine hr _ ?_
        rw [e2]
        rw [e1] at D6
        exact Tk.upd D6
    · have e : i = ds.length := by omega
      subst e
      rw [List.take_length] at rel
      have hcl := @cnt_le _ G.dec (ds.map g)
      rw [List.length_map] at hcl
      exact .inl ⟨W.stop H2 f2 _ (Nat.le_refl _), D0, @cnt _ G.dec (ds.map g), rfl, G.len rel hD2, by omega, q _ H2 b1 _ (f1.trans f2) j2 (.va (.int _)) last⟩
end
end PD
set_option Elab.async false
set_option linter.all false
set_option maxRecDepth 100000
set_option maxHeartbeats 4000000
namespace PD
open PySem PySem.Spec PyProof.Rows L2 KS
theorem rp_strs {K : PySem.W.Frag} {H : Hp} : ∀ {k : List Str} {xs : List V}, RpA K H xs (k.map D.str) → xs = (k.map (Sum.inr (α := Int))).map kV
  | [], _, .nil => rfl
  | x :: k, _, .cons a r => by
    cases a
    rw [rp_strs r]
    rfl
def textD (C : Cn) : FamD C where
  F := textFam C.X.prog C.X.w C.X.K C.X.A
  α := Str
  dec := inferInstance
  D := D.str
  Rel := fun _ xs st => (∀ x, st.1 (.inr x) = true ↔ x ∈ xs) ∧ st.2 = cnt xs
  fr := fun _ h => h
  zero := fun _ => ⟨fun x => by simp [textFam], rfl⟩
  most := 4000
  step := by
    intro H ks st v k h r hl
    cases r
    have := cnt_le ks
    refine ⟨k, rfl, by rw [h.2]; show cnt ks + 1 < 4096; omega, fun H' _ => ⟨fun x => ?_, ?_⟩⟩
    · simp only [Bool.or_eq_true, decide_eq_true_eq, List.mem_append, List.mem_singleton]
      rw [h.1 x]
      exact or_congr Iff.rfl ⟨fun z => Sum.inr.inj z, fun z => by rw [z]⟩
    · rw [cnt_snoc]
      by_cases hk : k ∈ ks
      · simp only [if_pos hk, (h.1 k).mpr hk, if_true]
        exact h.2
      · have e : st.1 (.inr k) = false := by
          cases q : st.1 (.inr k) with
          | false => rfl
          | true => exact absurd ((h.1 k).mp q) hk
        simp only [if_neg hk, e, Bool.false_eq_true, if_false]
        rw [h.2]
  mono := fun h k => let ⟨x, h1, h2, h3⟩ := h; ⟨x, h1, h2, k _ h3⟩
  len := fun {H ks st a} h e => .inl ⟨st.1, by rw [← h.2]; exact e⟩
  ext := fun a st => ⟨_, rfl, nc_of (a := a) fun hp z => by
    obtain ⟨o, _, _, _, e, _, e2, _⟩ := z
    exact ⟨o, e, fun vs q => by rw [e2] at q; cases q⟩⟩
def KRel (K : PySem.W.Frag) (H : Hp) (ks : List (List Str)) (L : List KS.Row) : Prop := (∀ p ∈ L, SqT K H p.1 (p.2.map kV)) ∧ (∀ k : List Str, k.map (Sum.inr (α := Int)) ∈ L.map (·.2) ↔ k ∈ ks) ∧ L.length = cnt ks
theorem KRel.fr {K : PySem.W.Frag} {H H' : Hp} {ks : List (List Str)} {L : List KS.Row} (t : Tk H H') (h : KRel K H ks L) : KRel K H' ks L := ⟨fun p hp => t.sq (h.1 p hp), h.2⟩
theorem inr_inj : ∀ {x y : List Str}, x.map (Sum.inr (α := Int)) = y.map Sum.inr → x = y
  | [], [], _ => rfl
  | [], _ :: _, e => by cases e
  | _ :: _, [], e => by cases e
  | a :: x, b :: y, e => by
    rw [List.map_cons, List.map_cons, List.cons.injEq] at e
    rw [Sum.inr.inj e.1, inr_inj e.2]
theorem KRel.step {K : PySem.W.Frag} {H H' : Hp} {ks : List (List Str)} {L L' : List KS.Row} {a : Addr} {k : List Str} (h : KRel K H ks L) (hq : SqT K H a ((k.map (Sum.inr (α := Int))).map kV)) (tk : Tk H H')
    (c1 : k.map (Sum.inr (α := Int)) ∈ L.map (·.2) → L' = L) (c2 : k.map (Sum.inr (α := Int)) ∉ L.map (·.2) → L'.Perm ((a, k.map Sum.inr) :: L)) : KRel K H' (ks ++ [k]) L' := by
  by_cases hk : k ∈ ks
  · have hm := (h.2.1 k).mpr hk
    rw [c1 hm]
    refine ⟨fun p hp => tk.sq (h.1 p hp), fun x => ?_, by rw [cnt_snoc, if_pos hk]; exact h.2.2⟩
    rw [h.2.1 x, List.mem_append, List.mem_singleton]
    exact ⟨.inl, fun z => z.elim id fun e => by rw [e]; exact hk⟩
  · have hm : k.map (Sum.inr (α := Int)) ∉ L.map (·.2) := fun z => hk ((h.2.1 k).mp z)
    have pm := c2 hm
    refine ⟨fun p hp => ?_, fun x => ?_, by rw [cnt_snoc, if_neg hk, pm.length_eq, List.length_cons, h.2.2]⟩
    · rcases List.mem_cons.mp (pm.mem_iff.mp hp) with e | hp
      · rw [e]; exact tk.sq hq
      · exact tk.sq (h.1 p hp)
    · rw [(pm.map (·.2)).mem_iff, List.map_cons, List.mem_cons, h.2.1 x, List.mem_append, List.mem_singleton]
      constructor
      · rintro (e | z)
        · exact .inr (inr_inj e)
        · exact .inl z
      · rintro (z | e)
        · exact .inr z
        · exact .inl (by rw [e])
def keyD (C : Cn) (hu : C.X.A.units + 1 < cLine) : FamD C where
  F := keyFam C.X.prog C.X.w C.X.K C.X.A hu
  α := List Str
  dec := inferInstance
  D := fun k => .tup (k.map D.str)
  Rel := fun H ks L => KRel C.K H ks L
  fr := fun t h => KRel.fr t h
  zero := fun _ => ⟨fun p hp => (nomatch hp), fun k => ⟨fun z => (nomatch z), fun z => (nomatch z)⟩, rfl⟩
  most := 4
  step := by
    intro H ks L v k h r hl
    cases r with
    | @tup a xs _ hq ra =>
      have ex := rp_strs ra
      subst ex
      have := cnt_le ks
      have hL : List.length (show List KS.Row from L) = cnt ks := h.2.2
      exact ⟨a, k.map Sum.inr, rfl, hq.sq, h.1, by show List.length (show List KS.Row from L) + 1 ≤ 4; omega, fun L' c1 c2 H' tk => KRel.step h hq.sq tk c1 c2⟩
  mono := fun h k => let ⟨a, x, h1, h2, h3, h4, h5⟩ := h; ⟨a, x, h1, h2, h3, h4, fun L' c1 c2 => k _ (h5 L' c1 c2)⟩
  len := fun {H ks L a} h e => .inr ⟨L, e, h.2.2.symm⟩
  ext := fun a st => ⟨_, rfl, nc_of (a := a) fun hp z => by
    obtain ⟨es, ep, t, ⟨o, e, _, e2⟩, _⟩ := z
    exact ⟨o, e, fun vs q => by rw [e2] at q; cases q⟩⟩
end PD
set_option Elab.async false
set_option linter.all false
set_option maxRecDepth 100000
set_option maxHeartbeats 3200000
/-! set(a list of texts) -/
namespace ST
open PySem PySem.Spec PyProof.Rows L2 PD
def memF (ys : List Str) : Key → Bool
  | .inr x => decide (x ∈ ys)
  | .inl _ => false
theorem memF_snoc (ys : List Str) (x : Str) (k : Key) : (memF ys k || decide (k = .inr x)) = memF (ys ++ [x]) k := by
  cases k with
  | inl i => simp [memF]
  | inr y =>
    show (decide (y ∈ ys) || decide ((Sum.inr y : Key) = .inr x)) = decide (y ∈ ys ++ [x])
    rw [← Bool.decide_or]
    refine decide_eq_decide.mpr ?_
    rw [List.mem_append, List.mem_singleton]
    exact or_congr Iff.rfl ⟨fun z => Sum.inr.inj z, fun z => by rw [z]⟩
theorem strs_at {ys : List Str} {us : List Value} (r : Vals (ys.map V.str) us) : ∀ (i : Nat) (v : Value), us[i]? = some v → ∃ x t, ys[i]? = some x ∧ v = .str x t := by
  induction ys generalizing us with
  | nil => cases r; intro i v h; simp at h
  | cons y ys ih =>
    cases r with
    | cons r t =>
      obtain ⟨k, rfl⟩ := r
      intro i v h
      cases i with
      | zero => simp at h; exact ⟨y, k, rfl, h.symm⟩
      | succ i => simpa using ih t i v (by simpa using h)
section
variable {prog : Program} {w : World} {A : Around} {R : Result → Shared → Prop} {I : Addr} {fp wr : List Addr} {G : Array GenState → Array GenState → Prop} {n : Nat} {Pv : Nat → Value → Prop} {St : Nat → Shared → Prop}
theorem loopT (W : WalksS prog w A.in1 I fp wr G n Pv St) (S : Addr) (hSf : S ∉ fp) (xs : List Str) (hn : n = xs.length) (hval : ∀ i v, Pv i v → ∃ x t, xs[i]? = some x ∧ v = .str x t) (hb : n + 1 < scanBound) :
    ∀ (k i : Nat) (s : Shared), n - i = k → i ≤ n → St i s → s.heap.SetOf (mixKind prog w) S (memF (xs.take i)) (cnt (xs.take i)) →
      (∀ s', Moved (S :: wr) G s s' → s'.heap.SetOf (mixKind prog w) S (memF xs) (cnt xs) → R (.ok (.ret .none)) s') →
      codeAny (model prog w) A (.builtin "set.update.loop" ⟨[.ref S, .ref I], []⟩) R s := by
  have hSw : S ∉ wr := fun h => hSf (W.sub _ h)
  have hsub : ∀ b ∈ wr, b ∈ S :: wr := fun b hb => List.mem_cons_of_mem _ hb
  have moved : ∀ {s s' : Shared} {i : Nat}, Moved wr G s s' → s.heap.SetOf (mixKind prog w) S (memF (xs.take i)) (cnt (xs.take i)) → s'.heap.SetOf (mixKind prog w) S (memF (xs.take i)) (cnt (xs.take i)) := fun hm hS => by
    obtain ⟨o, es, ep, t, ho, rest⟩ := hS
    exact ⟨o, es, ep, t, hm.heap S _ hSw ho, rest⟩
  intro k
  induction k with
  | zero =>
    intro i s hk hi hst hS hR
    have hin : i = n := by omega
    subst hin
    refine codeAny_builtin PyProof.Rows.F.entry_set_update_loop ?_
    rw [Around.under_plainId PyProof.Rows.F.plain_set_update_loop _]
    show wpAny _ A.in1 (pyNext (.ref I) >>= _) _ _ s
    refine wpAny_bind (W.done s _ _ hst fun s' hm => ?_)
    show wpAny _ A.in1 (ret Value.none) _ _ s'
    have hS' := moved hm hS
    rw [hn, List.take_length] at hS'
    exact wpAny_pure (hR s' (hm.mono hsub) hS')
  | succ k ih =>
    intro i s hk hi hst hS hR
    have hlt : i < n := by omega
    refine codeAny_builtin PyProof.Rows.F.entry_set_update_loop ?_
    rw [Around.under_plainId PyProof.Rows.F.plain_set_update_loop _]
    show wpAny _ A.in1 (pyNext (.ref I) >>= _) _ _ s
    refine wpAny_bind (W.item i s _ _ hlt hst fun v s' hP hst' hm => ?_)
    obtain ⟨x, t, hx, rfl⟩ := hval i v hP
    have hS' := moved hm hS
    show wpAny _ A.in1 (holding [Value.str x t] (setAdd S (.str x t)) >>= _) _ _ s'
    refine wpAny_bind (wpAny_holding ?_)
    unfold setAdd
    refine wpAny_holding ?_
    have hkey : (mixKind prog w).is (.inr x) (.str x t) = true := mixKind_str prog w x t
    refine wpAny_bind ((mixKind prog w).pyHash hkey ?_)
    have hcl := cnt_le (xs.take i)
    have htl : (xs.take i).length ≤ i := by rw [List.length_take]; omega
    refine wpAny_setAddHashed_of (knd := mixKind prog w) (s := { s' with toks := s'.toks + 1 }) hkey rfl hS' (by omega) fun h' hsb hS2 => ?_
    have etk : xs.take (i + 1) = xs.take i ++ [x] := by
      rw [List.take_succ, hx]
      rfl
    have hS3 : h'.SetOf (mixKind prog w) S (memF (xs.take (i + 1))) (cnt (xs.take (i + 1))) := by
      have e1 : (fun k' => memF (xs.take i) k' || decide (k' = .inr x)) = memF (xs.take (i + 1)) := funext fun k' => by rw [etk, ← memF_snoc]
      have e2 : (if memF (xs.take i) (.inr x) = true then cnt (xs.take i) else cnt (xs.take i) + 1) = cnt (xs.take (i + 1)) := by
        rw [etk, cnt_snoc]
        by_cases h : x ∈ xs.take i
        · rw [if_pos h, if_pos (show memF (xs.take i) (.inr x) = true from decide_eq_true h)]
        · rw [if_neg h, if_neg (show ¬ memF (xs.take i) (.inr x) = true from fun z => h (of_decide_eq_true z))]
      rw [← e1, ← e2]
      exact hS2
    refine wpAny_pure ⟨plainId_quiet PyProof.Rows.F.plain_set_update_loop _, ih (i + 1) _ (by omega) hlt (W.frame _ s' _ _ hst' (Nat.le_succ _) fun b hb o e => ?_) hS3 fun s'' hm'' hS'' => ?_⟩
    · rw [hsb.2 b (fun h : b = S => hSf (by rw [← h]; exact hb))]; exact e
    · refine hR s'' (Moved.trans W.gtrans ((hm.mono hsub).then_heap (Nat.le_succ _) fun b o hb e => ?_) hm'') hS''
      rw [hsb.2 b (fun h : b = S => hb (by rw [h]; exact List.mem_cons_self))]; exact e
end
section
variable {prog : Program} {w : World} {A : Around} {E : Value → Shared → Prop} {s : Shared}
/-- set(xs), xs a list of texts -/
theorem call_set_texts {l : Addr} {items : Array Value} {xs : List Str} {Q : Value → Shared → Prop} (hh : A.handled = none) (hl : s.heap.IsList l items) (hr : Vals (xs.map V.str) items.toList) (hb : xs.length + 1 < scanBound)
    (h : ∀ (h' : Heap) (tk : Nat), h'.SetOf (mixKind prog w) s.heap.objs.size (memF xs) (cnt xs) → (∀ b o, b < s.heap.objs.size → s.heap.get? b = some o → h'.get? b = some o) → Q (.ref s.heap.objs.size) { s with heap := h', toks := tk }) :
    wpAny (model prog w) A (call (.type "set") [.ref l]) Q E s := by
  have hsz : items.size = xs.length := by rw [← Array.length_toList, ← hr.length, List.length_map]
  obtain ⟨c, tl, hmro⟩ := PySem.F.called_set.mro
  have hmade := PySem.F.called_set.made
  have hsub := PySem.F.called_set.sub
  refine wpAny_call (codeAny_of_tree ?_)
  show wpAny _ _ (callAny (.type "set") _) _ _ _
  refine wpAny_pure ⟨Code.quiet_builtin _ (by decide +kernel), codeAny_builtin PySem.F.entry_type_call ?_⟩
  rw [Around.under_plain (weight_type_call_type "set" [.ref l] []) rfl]
  have h1 := PySem.F.called_set.notType
  have h2 := PySem.F.called_set.canCreate
  have hct := PySem.F.typeCall_set_1 (.ref l)
  repeat (any_goals (first | assumption | wp_step))
  refine codeAny_mono (code_set_new_1 (.ref l) (E := E) (Q₁ := fun obj s₁ => ∃ led : Bool, obj = .ref s.heap.objs.size ∧ s₁ = { s with heap := s.heap.push { cls := .type "set", dict := none, data := .set #[] 0 (.fresh 0 0 led) } }) fun led => ⟨led, rfl, rfl⟩) fun r s₁ hr' => ?_
  cases r with
  | error e => exact hr'
  | ok fl =>
    cases fl with
    | ret obj =>
      obtain ⟨led, rfl, rfl⟩ := hr'
      have hS : (s.heap.push { cls := .type "set", dict := none, data := .set #[] 0 (.fresh 0 0 led) }).get? s.heap.objs.size = some { cls := .type "set", dict := none, data := .set #[] 0 (.fresh 0 0 led) } := Heap.get?_push_size _ rfl
      have hT : Shared.TypeIs { s with heap := s.heap.push { cls := .type "set", dict := none, data := .set #[] 0 (.fresh 0 0 led) } } (.ref s.heap.objs.size) "set" := ⟨_, hS, rfl⟩
      have hli := PySem.F.called_set.init.lookup
      have hbi := PySem.F.called_set.init.bind (.ref s.heap.objs.size)
      repeat (any_goals (first | assumption | wp_step))
      refine codeAny_mono (codeAny_call_builtin (R := wants (fun r s₂ => r = .none ∧ ∃ h' tk, s₂ = { s with heap := h', toks := tk } ∧ h'.SetOf (mixKind prog w) s.heap.objs.size (memF xs) (cnt xs) ∧
          (∀ b o, b < s.heap.objs.size → s.heap.get? b = some o → h'.get? b = some o)) E) PySem.F.called_set.init.plain PySem.F.entry_set_init (check_set_init_1 hT ?_)) fun r₂ s₂ hr₂ => ?_
      · obtain ⟨⟨ocls, odict, odata, oslots⟩, hol, hcl, nl, hdl⟩ := hl
        simp only at hcl hdl
        subst hcl; subst hdl
        have hol' : (s.heap.push { cls := .type "set", dict := none, data := .set #[] 0 (.fresh 0 0 led) }).get? l = some { cls := .type "list", dict := odict, data := .seq items nl, slots := oslots } := Heap.get?_push_of_some _ hol
        have hsls := PySem.F.sub_list_set
        have hslf := PySem.F.sub_list_frozenset
        have hne : (Value.type "list" == Value.type "dict") = false := by decide
        have hl1 : (s.heap.push { cls := .type "set", dict := none, data := .set #[] 0 (.fresh 0 0 led) }).IsList l items := ⟨_, hol', rfl, nl, rfl⟩
        unfold Builtin.«set.__init__» noKeywords Builtin.Frozenset.updateFrom
        generalize hPI : pyIter = PI
        wp_walk
        subst hPI
        refine wpAny_pyIter_list hl1 ?_
        refine wpAny_bind (wpAny_runValue ?_)
        have hlS : l < s.heap.objs.size := Heap.lt_size hol
        have hh3 : A.in1.in1.in1.handled = none := by simp [hh]
        have hneI : l ≠ (s.heap.push { cls := .type "set", dict := none, data := .set #[] 0 (.fresh 0 0 led) }).objs.size := by
          rw [Heap.size_push]; exact Nat.ne_of_lt (Nat.lt_succ_of_lt hlS)
        have hSf : s.heap.objs.size ∉ [(s.heap.push { cls := .type "set", dict := none, data := .set #[] 0 (.fresh 0 0 led) }).objs.size, l] := by
          rw [Heap.size_push]; simp only [List.mem_cons, List.mem_singleton, List.not_mem_nil, or_false, not_or]
          exact ⟨Nat.ne_of_lt (Nat.lt_succ_self _), Nat.ne_of_gt hlS⟩
        refine loopT ((Walks.list hh3 _ l hneI items).toS) s.heap.objs.size hSf xs hsz (fun i v hv => strs_at hr i v (by rw [Array.getElem?_toList]; exact hv)) (by rw [hsz]; exact hb) (items.size - 0) 0 _ (by omega) (Nat.zero_le _)
          ⟨⟨_, Heap.get?_push_size _ rfl, rfl, rfl⟩, (hl1.push _)⟩ ⟨_, #[], 0, _, Heap.get?_push_of_some _ hS, ⟨rfl, rfl, rfl⟩, rfl, (fun e he => by simp at he), (fun k => ?_), (by decide), (by rfl), rfl⟩ fun s' hm hS' => ?_
        · rw [List.take_zero]
          cases k <;> simp [memF]
        · rw [Moved.eq_with hm]
          show wpAny _ _ _ _ _ _
          refine wpAny_pure ?_
          show wpAny _ _ (ret Value.none) _ _ _
          refine wpAny_pure ⟨rfl, s'.heap, s'.toks, rfl, hS', fun b o hb e => ?_⟩
          have hb1 : b ≠ s.heap.objs.size := Nat.ne_of_lt hb
          have hb2 : b ≠ (s.heap.push { cls := .type "set", dict := none, data := .set #[] 0 (.fresh 0 0 led) }).objs.size := by
            rw [Heap.size_push]; exact Nat.ne_of_lt (Nat.lt_succ_of_lt hb)
          exact hm.heap b o (by simp only [List.mem_cons, List.mem_singleton, List.not_mem_nil, or_false, not_or]; exact ⟨hb1, hb2⟩) (Heap.get?_push_of_some _ (Heap.get?_push_of_some _ e))
      · cases r₂ with
        | error e => exact hr₂
        | ok fl₂ =>
          cases fl₂ with
          | ret r =>
            obtain ⟨rfl, h', tk, rfl, hS', hk'⟩ := hr₂
            repeat (any_goals (first | assumption | wp_step))
            exact h _ _ hS' hk'
          | _ => exact hr₂.elim
    | _ => exact hr'.elim
end
end ST
set_option Elab.async false
set_option linter.all false
set_option maxRecDepth 100000
set_option maxHeartbeats 4000000
namespace PD
open PySem PySem.Spec PyProof.Rows L2 KS
theorem cr_setT {X : Cx} (hc : X.calm = true) : CallR X (.type "set") (fun xs H Q => ∃ (l : Addr) (ys : List Str), xs = [V.ref l] ∧ SqL X.K H l (ys.map V.str) ∧ ys.length + 1 < scanBound ∧ ∀ p, H p = none → Q (.ref p) (upd H p (SetK X.prog X.w p (ST.memF ys) (cnt ys)))) := by
  intro pins s σ H xs us Q I r h
  obtain ⟨l, ys, rfl, hq, hl, q⟩ := h
  cases r with
  | cons r rr =>
    cases rr
    cases r
    obtain ⟨its, rv, pl, hz⟩ := I.list hq
    refine ST.call_set_texts (I.ok.hd hc) pl.isList (xs := ys) (by rw [List.toList_toArray]; exact rv) hl fun h' tk hS hk => ?_
    have k1 : ∀ b o, s.heap.get? b = some o → h'.get? b = some o := fun b o e => hk b o (Heap.lt_size e) e
    exact ⟨.ref _, upd H s.heap.objs.size (SetK X.prog X.w s.heap.objs.size (ST.memF ys) (cnt ys)), I.laid (t' := tk) k1 (Nat.le_refl _) (setK_new hS), rfl, q _ (I.hok.fresh (Nat.le_refl _))⟩
theorem rp_text {K : PySem.W.Frag} {H : Hp} : ∀ {k : List Str} {xs : List V}, RpA K H xs (k.map D.str) → xs = k.map V.str
  | [], _, .nil => rfl
  | x :: k, _, .cons a r => by
    cases a
    rw [rp_text r]
    rfl
section
variable {C : Cn} {b : Nat} {δ : List Sl} {P : Nat → Res → Prop} {pos p0 p1 p2 : Pos} {e : Expr}
/-- len(set(a list of texts)) -/
theorem ev_lenSet (B : Blt C.X) (hc : C.X.calm = true) (h : EV C b δ e (fun b1 r => ∃ xs : List Str, r.seq = some (xs.map D.str) ∧ xs.length ≤ 4000 ∧ P b1 (.va (.int ((cnt xs : Nat)))))) (hgl : Gl C.X "len" := by rfl) (hgs : Gl C.X "set" := by rfl)
    (hs : starEach [e] C.X.env = (false, eval e C.X.env) :: starEach [] C.X.env := by rfl)
    (hsx : starEach [.Call (.Name "set" p0) [e] [] p1] C.X.env = (false, eval (.Call (.Name "set" p0) [e] [] p1) C.X.env) :: starEach [] C.X.env := by rfl)
    (hpl : (backTo p1 (starEach [] C.X.env)).any (·.1) = false := by rfl) (hpl2 : (backTo pos (starEach [] C.X.env)).any (·.1) = false := by rfl) :
    EV C b δ (.Call (.Name "len" p2) [.Call (.Name "set" p0) [e] [] p1] [] pos) P := by
  intro os σ H st Q q
  refine WE.of (pe_callB cr_lenO hgl B.len PySem.boot_len (pa_cons (pe_callTy (cr_setT hc) hgs B.set (by decide +kernel) (pa_cons peW pa_nil hs) (by decide) (by decide) hs hpl) pa_nil hsx) (by decide) (by decide) hsx hpl2) ?_
  refine h os σ H st _ fun v H1 b1 r f1 j1 rv hr => ?_
  obtain ⟨xs, hr, hl, hq⟩ := hr
  obtain ⟨p, vs, rfl, e1, ra⟩ := rv.seq_ hr
  obtain rfl := rp_text ra
  refine ⟨p, xs, rfl, e1.sq, by show xs.length + 1 < 4096; omega, fun a ha => ?_⟩
  have hcl := cnt_le xs
  have fn : Fr C.Z.S H1 (upd H1 a (SetK C.X.prog C.X.w a (ST.memF xs) (cnt xs))) := Fr.new ha
  exact ⟨a, cnt xs, rfl, .inl ⟨_, upd_same⟩, by omega, q _ _ b1 _ (f1.trans fn) (jnew j1 ha) (.va (.int _)) hq⟩
end
end PD
set_option Elab.async false
set_option linter.all false
set_option maxRecDepth 100000
set_option maxHeartbeats 2000000
namespace EN
open PySem PySem.Spec PyProof.Rows L2
/-- the tuple at t, each item in a new pair -/
def IteT (K : PySem.W.Frag) (t : Addr) (n : Nat) : It :=
  ⟨fun i H => i < n ∧ ∃ (xs : List V) (x : V), SqT K H t xs ∧ xs[i]? = some x, fun i H v H' => ∃ T x, v = .ref T ∧ H T = none ∧ H' = upd H T (.tup [.int (i : Nat), x]) ∧ ∀ xs, SqT K H t xs → xs[i]? = some x, fun i H => n ≤ i ∧ ∃ xs : List V, SqT K H t xs ∧ xs.length = n⟩
theorem turn_enT {P : Program} {w : World} {K : PySem.W.Frag} {elts : List Expr} {kk : Nat} {tpos : Pos} (t e it : Addr) (n : Nat) :
    Turn P w K (.Tuple elts kk tpos) (IteT K t n) [e, it] e (fun i h => i ≤ n ∧ (∃ old, IsEnum h e it ((i : Nat) : Int) old) ∧ h.IsTupleIter it t i ∧ e ≠ it ∧ t ≠ it ∧ t ≠ e) where
  mem := by simp
  obj := fun i h st b hb => by
    obtain ⟨_, ⟨old, he⟩, ⟨o, ho, hc, hd⟩, _⟩ := st
    have e' : b = e ∨ b = it := by simpa using hb
    rcases e' with z | z
    · rw [z]; exact ⟨_, he, fun v q => nomatch q⟩
    · rw [z]; exact ⟨o, ho, fun v q => by rw [hd] at q; cases q⟩
  keep := fun i h h' st k => let ⟨hn, ⟨old, he⟩, hi, hne⟩ := st; ⟨hn, ⟨old, k e (by simp) _ he⟩, hi.at fun o q => k it (by simp) o q, hne⟩
  item := by
    intro X hP hw hK hc i pins s σ H E I hf st hg
    subst hP hw hK
    obtain ⟨hin, ⟨old, he⟩, hit, hne, ht1, ht2⟩ := st
    obtain ⟨hlt, xs, x, hq, hx⟩ := hg
    obtain ⟨its, rv, p, hz⟩ := I.tuple hq
    obtain ⟨u, hu, ru⟩ := rv.get hx
    have hel : e < s.heap.objs.size := Heap.lt_size he
    have hil : it < s.heap.objs.size := by obtain ⟨_, q, _⟩ := hit; exact Heap.lt_size q
    have D := Draws.tuple (prog := X.prog) (w := X.w) (A := X.A.in1) (by simpa using I.ok.hd hc) it t ht1 its.toArray
    refine wpAny_pyNext_enum_itemC D he ⟨hit, p⟩ (by have := (List.getElem?_eq_some_iff.mp hu).1; simpa using this) hne (fun z => ?_) fun u' h' tk hu' ho st' hT hsz hk => ?_
    · rcases List.mem_cons.mp z with z | z
      · exact hne z
      · exact ht2 (List.mem_singleton.mp z).symm
    · have eu : u' = u := by
        rw [show its.toArray[i]? = its[i]? by simp, hu] at hu'
        exact (Option.some.inj hu').symm
      subst eu
      refine ⟨_, rfl, wpAny_letOwnedTupleGo_enum (s := { s with heap := h', toks := tk + 1 }) ho fun h'' he' sb => ?_⟩
      have hT2 : h''.get? s.heap.objs.size = some { cls := .type "tuple", data := .seq #[.int i tk, u'] } := (sb.2 _ (Nat.ne_of_gt hel)).trans hT
      have new : ObjOk X.prog X.w (upd H s.heap.objs.size (.tup [.int (i : Nat), x])) h'' s.heap.objs.size (.tup [.int (i : Nat), x]) :=
        ⟨by show 2 ≤ sizeLine; decide, [.int i tk, u'], .cons ⟨_, rfl⟩ (.cons ru .nil), ⟨_, hT2, rfl, _, rfl⟩⟩
      have I1 : Inv X pins σ (upd H s.heap.objs.size (.tup [.int (i : Nat), x])) { s with heap := h'', toks := tk + 1 } :=
        I.turnedNew (ch := [e, it]) (fun b ob hb q => (sb.2 b (fun z => hb (by simp [z]))).trans (hk b ob (fun z => hb (by simp [z])) (fun z => hb (by simp [z])) q)) hf (Nat.le_refl _) new
      refine ⟨.ref s.heap.objs.size, _, I1, rfl, ⟨_, x, rfl, I.hok.fresh (Nat.le_refl _), rfl, fun ys hy => by rw [I.tuple_inj hy hq]; exact hx⟩, ⟨hlt, ⟨u', ?_⟩, st'.1.at fun o q => (sb.2 it (Ne.symm hne)).trans q, hne, ht1, ht2⟩, fun b hb => ?_⟩
      · have e1 : ((i + 1 : Nat) : Int) = (i : Int) + 1 := by omega
        rw [e1]; exact he'
      · have hb' : b < s.heap.objs.size := by
          have e' : b = e ∨ b = it := by simpa using hb
          rcases e' with z | z
          · rw [z]; exact hel
          · rw [z]; exact hil
        rw [upd_ne (Nat.ne_of_lt hb')]
        exact (hf b hb).1
  done := by
    intro X hP hw hK hc i pins s σ H E I hf st hg
    subst hP hw hK
    obtain ⟨hin, ⟨old, he⟩, hit, hne, ht1, ht2⟩ := st
    obtain ⟨hge, xs, hq, hx⟩ := hg
    obtain ⟨its, rv, p, hz⟩ := I.tuple hq
    obtain ⟨f0, f1, f2, f3, f4, f5⟩ := hf it (by simp)
    have D := Draws.tuple (prog := X.prog) (w := X.w) (A := X.A.in1) (by simpa using I.ok.hd hc) it t ht1 its.toArray
    have hl := rv.length
    have ei : i = its.toArray.size := by rw [List.size_toArray]; omega
    subst ei
    exact wpAny_pyNext_enum_endD D he ⟨hit, p⟩ fun h' eb => ⟨rfl, I.turned (t' := s.toks) (fun b o hb q => eb b o hb q) f0 f1 f3 f4 f5⟩
  self := fun A i s Q E st h => let ⟨_, ⟨_, he⟩, _⟩ := st; wpAny_pyIter_enum he h
/-- enumerate(a tuple), walked -/
def iEnT (K : PySem.W.Frag) (te : TE) : TI := fun σ H R => te σ H fun v H1 => ∃ t xs, v = .ref t ∧ SqT K H1 t xs ∧ R (IteT K t xs.length) H1
theorem pi_enT {X : Cx} {e : Expr} {te : TE} {p pos tpos : Pos} {elts : List Expr} {kk : Nat} (hg : Gl X "enumerate") (hm : X.mg "enumerate" = none) (he : PE X e te) (hs : starEach [e] X.env = (false, eval e X.env) :: starEach [] X.env := by rfl) :
    PI X (.Tuple elts kk tpos) (.Call (.Name "enumerate" p) [e] [] pos) (iEnT X.K te) := by
  refine ⟨fun pins s σ H R I h => ?_⟩
  refine Call_ (ld_blt I hg hm boot_enumerate (PyProof.Rows.callWith_type1 (args_cons (thn (he.run pins s σ H _ I h) fun u s1 ⟨v, H1, I1, r1, q1⟩ => args_nil ?_) hs) hs rfl))
  obtain ⟨t, xs, ev, hq, q⟩ := q1
  subst ev
  obtain rfl : u = Value.ref t := r1
  obtain ⟨its, rv, p', hz⟩ := I1.tuple hq
  refine call_en (begins_tuple t its.toArray) p' fun h' hen hit hsz hk => wpAny_pyIter_enum hen ?_
  have I2 : Inv X pins σ H1 { s1 with heap := h' } := I1.kept (t' := s1.toks) hk
  have hlt : t < s1.heap.objs.size := p'.lt
  refine ⟨s1.heap.objs.size + 1, [s1.heap.objs.size + 1, s1.heap.objs.size], _, _, H1, rfl, I2, turn_enT t (s1.heap.objs.size + 1) s1.heap.objs.size xs.length, ⟨Nat.zero_le _, ⟨.none, hen⟩, ⟨_, hit, rfl, rfl⟩, Nat.succ_ne_self _, Nat.ne_of_lt hlt, Nat.ne_of_lt (Nat.lt_succ_of_lt hlt)⟩, fun b hb => ?_, q⟩
  have hle : s1.heap.objs.size ≤ b := by
    rcases List.mem_cons.mp hb with z | z
    · rw [z]; exact Nat.le_add_right _ _
    · rw [List.mem_singleton.mp z]; exact Nat.le_refl _
  exact I1.fpOk hle (I1.hok.fresh hle)
end EN
set_option Elab.async false
set_option linter.all false
set_option maxRecDepth 100000
set_option maxHeartbeats 4000000
namespace PD
open PySem PySem.Spec PyProof.Rows L2
section
variable {C : Cn} {b : Nat} {δ : List Sl} {P : Nat → List D → Prop} {elts : List Expr} {kk : Nat} {tpos pos p0 : Pos} {e : Expr}
/-- for i, x in enumerate(a tuple) -/
theorem ei_enum (B : Blt C.X) (h : EV C b δ e (fun b1 r => ∃ ds, r = .va (.tup ds) ∧ P b1 (enumD 0 ds))) (hg : Gl C.X "enumerate" := by rfl) (hs : starEach [e] C.X.env = (false, eval e C.X.env) :: starEach [] C.X.env := by rfl) :
    EI C b δ (.Tuple elts kk tpos) (.Call (.Name "enumerate" p0) [e] [] pos) P := by
  intro os σ H st R k
  refine WI.of (EN.pi_enT hg B.enumerate peW hs) ?_
  refine h os σ H st _ fun v H1 b1 r f1 j1 rv hr => ?_
  obtain ⟨ds, rfl, q⟩ := hr
  cases rv with | va rv => ?_
  cases rv with | @tup t xs _ hx ra => ?_
  have hl := ra.len
  refine ⟨t, xs, rfl, hx.sq, k _ H1 b1 (enumD 0 ds) f1 j1 ⟨fun os' H' g i hi => ?_, fun os' H' g i hi => ?_⟩ q⟩
  · have hx' := g.keepT hx.sq
    rw [enumD_len] at hi
    have hi' : i < xs.length := by rw [hl]; exact hi
    refine ⟨⟨hi', xs, xs[i], hx', List.getElem?_eq_getElem hi'⟩, fun x H2 y => ?_⟩
    obtain ⟨T, y1, rfl, hT, rfl, hy⟩ := y
    have fn : Fr (fun _ => False) H' (upd H' T (.tup [.int (i : Nat), y1])) := Fr.new hT
    obtain ⟨d, h1, h2⟩ := (ra.fr g.fr).getV (hy xs hx')
    refine ⟨fn, .tup [.int (i : Nat), d], ?_, .tup (.h upd_same) (.cons (.int _) (.cons (h2.fr fn) .nil))⟩
    rw [enumD_get, h1, Nat.zero_add]
    rfl
  · rw [enumD_len] at hi
    exact ⟨by rw [hl]; exact hi, xs, g.keepT hx.sq, rfl⟩
end
end PD
set_option Elab.async false
set_option linter.all false
set_option maxRecDepth 100000
set_option maxHeartbeats 4000000
namespace PD
open PySem PySem.Spec PyProof.Rows L2
def Res.seqU : Res → Option (List D)
  | .ow ds => some ds
  | .li ds => some ds
  | .rd ds => some ds
  | _ => none
theorem RV.seqU_ {K : PySem.W.Frag} {Z : Vol} {os : List Addr} {H H' : Hp} {v : V} {r : Res} {ds : List D} (h : RV K Z os H H' v r) (e : r.seqU = some ds) : ∃ p xs, v = .ref p ∧ H' p = some (.lst xs) ∧ RpA K H' xs ds := by
  cases h with
  | va h => cases e
  | ow n e1 ns r => cases e; exact ⟨_, _, rfl, e1, r⟩
  | li e1 ns no r => cases e; exact ⟨_, _, rfl, e1, r⟩
  | rd e1 ns no r => cases e; exact ⟨_, _, rfl, e1, r⟩
  | od n ns e1 => cases e
  | ro ns no e1 => cases e
  | gh _ _ _ => cases e
section
variable {C : Cn} {b : Nat} {δ : List Sl} {P : Nat → Res → Prop} {pos p0 p1 p2 p3 : Pos} {e e1 e2 : Expr} {j : Nat}
theorem ev_sub (h : EV C b δ e1 (fun b1 r1 => EV C b1 δ e2 fun b2 r2 => ∃ i j, r1 = .va (.int i) ∧ r2 = .va (.int j) ∧ P b2 (.va (.int (i - j))))) : EV C b δ (.BinOp e1 .Sub e2 pos) P := by
  refine ev_bin op_sub (h.imp fun b1 r1 h2 => h2.imp fun b2 r2 ⟨i, j, e1, e2, hq⟩ => ?_)
  subst e1 e2
  intro os H H' x y jj rx ry Q q
  cases rx with | va rx => ?_
  cases ry with | va ry => ?_
  cases rx; cases ry
  exact ⟨i, j, rfl, rfl, q _ H' _ Fr.refl jj (.va (.int _)) hq⟩
theorem ev_mul (h : EV C b δ e1 (fun b1 r1 => EV C b1 δ e2 fun b2 r2 => ∃ i j, r1 = .va (.int i) ∧ r2 = .va (.int j) ∧ CMul i j ∧ P b2 (.va (.int (i * j))))) : EV C b δ (.BinOp e1 .Mult e2 pos) P := by
  refine ev_bin op_mul (h.imp fun b1 r1 h2 => h2.imp fun b2 r2 ⟨i, j, e1, e2, hc, hq⟩ => ?_)
  subst e1 e2
  intro os H H' x y jj rx ry Q q
  cases rx with | va rx => ?_
  cases ry with | va ry => ?_
  cases rx; cases ry
  exact ⟨i, j, rfl, rfl, hc, q _ H' _ Fr.refl jj (.va (.int _)) hq⟩
theorem ev_fdiv (h : EV C b δ e1 (fun b1 r1 => EV C b1 δ e2 fun b2 r2 => ∃ i j, r1 = .va (.int i) ∧ r2 = .va (.int j) ∧ CDiv i j ∧ P b2 (.va (.int (i / j))))) : EV C b δ (.BinOp e1 .FloorDiv e2 pos) P := by
  refine ev_bin op_fdiv (h.imp fun b1 r1 h2 => h2.imp fun b2 r2 ⟨i, j, e1, e2, hc, hq⟩ => ?_)
  subst e1 e2
  intro os H H' x y jj rx ry Q q
  cases rx with | va rx => ?_
  cases ry with | va ry => ?_
  cases rx; cases ry
  exact ⟨i, j, rfl, rfl, hc, q _ H' _ Fr.refl jj (.va (.int _)) hq⟩
theorem ev_mod (h : EV C b δ e1 (fun b1 r1 => EV C b1 δ e2 fun b2 r2 => ∃ i j, r1 = .va (.int i) ∧ r2 = .va (.int j) ∧ 0 < j ∧ P b2 (.va (.int (i % j))))) : EV C b δ (.BinOp e1 .Mod e2 pos) P := by
  refine ev_bin op_mod (h.imp fun b1 r1 h2 => h2.imp fun b2 r2 ⟨i, j, e1, e2, hc, hq⟩ => ?_)
  subst e1 e2
  intro os H H' x y jj rx ry Q q
  cases rx with | va rx => ?_
  cases ry with | va ry => ?_
  cases rx; cases ry
  exact ⟨i, j, rfl, rfl, hc, q _ H' _ Fr.refl jj (.va (.int _)) hq⟩
/-- xs + ys of lists (not frozen) -/
theorem ev_catL (h : EV C b δ e1 (fun b1 r1 => EV C b1 δ e2 fun b2 r2 => ∃ ds es, r1.seqU = some ds ∧ r2.seqU = some es ∧ ds.length + es.length ≤ 16000000 ∧ P b2 (.ow (ds ++ es)))) : EV C b δ (.BinOp e1 .Add e2 pos) P := by
  refine ev_bin op_cat (h.imp fun b1 r1 h2 => h2.imp fun b2 r2 ⟨ds, es, e1, e2, hc, hq⟩ => ?_)
  intro os H H' u v jj rx ry Q q
  obtain ⟨p, xs, rfl, ex, rax⟩ := rx.seqU_ e1
  obtain ⟨r, ys, rfl, ey, ray⟩ := ry.seqU_ e2
  refine ⟨p, r, xs, ys, rfl, rfl, ex, ey, by rw [rax.len, ray.len]; exact sz1 hc, fun a ha => ?_⟩
  have fn : Fr C.Z.S H' (upd H' a (.lst (xs ++ ys))) := Fr.new ha
  refine q _ _ _ fn (jnew jj ha) (.ow ha upd_same (snew jj ha) ((rax.append ray).fr fn)) hq
/-- xs[::-1] of a list -/
theorem ev_revL {k : Nat} (h : EV C b δ e (fun b1 r => ∃ ds, r.seq = some ds ∧ P b1 (.ow ds.reverse))) : EV C b δ (.Subscript e (.Slice none none (some (.UnaryOp .USub (.Constant (.int 1) k p1) p2)) p3) pos) P := by
  intro os σ H st Q q
  refine WE.of (pe_revL peW) ?_
  refine h os σ H st _ fun v H1 b1 r f1 j1 rv hr => ?_
  obtain ⟨ds, hr, hq⟩ := hr
  obtain ⟨p, xs, rfl, e1, ra⟩ := rv.seq_ hr
  refine ⟨p, xs, rfl, e1.sq, fun a ha => ?_⟩
  have fn : Fr C.Z.S H1 (upd H1 a (.lst xs.reverse)) := Fr.new ha
  exact q _ _ b1 _ (f1.trans fn) (jnew j1 ha) (.ow (f1.back ha) upd_same (snew j1 ha) (ra.reverse.fr fn)) hq
/-- xs[:n] of a list -/
theorem ev_take {hi : Expr} (h : EV C b δ e (fun b1 r => EV C b1 δ hi fun b2 r2 => ∃ ds n, r.seq = some ds ∧ r2 = .va (.int ((n : Nat) : Int)) ∧ P b2 (.ow (ds.take n)))) : EV C b δ (.Subscript e (.Slice none (some hi) none p2) pos) P := by
  intro os σ H st Q q
  refine WE.of (pe_slice sl_list peW po_none (po_some peW)) ?_
  refine h os σ H st _ fun v H1 b1 r f1 j1 rv h2 => ?_
  show WE C.X hi σ H1 _
  refine h2 os σ H1 (st.on f1 j1) _ fun v2 H2 b2 r2 f2 j2 rv2 h3 => ?_
  obtain ⟨ds, n, hr, rfl, hq⟩ := h3
  cases rv2 with | va rv2 => ?_
  cases rv2
  obtain ⟨p, xs, rfl, e1, ra⟩ := rv.seq_ hr
  refine ⟨(n : Int), rfl, p, xs, rfl, (e1.fr f2).sq, fun a ha => ?_⟩
  have ec : cutV xs none (some (n : Int)) = xs.take n := by
    unfold cutV
    rw [HT.sIx_none, HT.sIx_nat, List.drop_zero, Nat.sub_zero, ← List.take_take, List.take_length]
  rw [ec]
  have fn : Fr C.Z.S H2 (upd H2 a (.lst (xs.take n))) := Fr.new ha
  exact q _ _ b2 _ ((f1.trans f2).trans fn) (jnew j2 ha) (.ow (f1.back (f2.back ha)) upd_same (snew j2 ha) (((ra.fr f2).take n).fr fn)) hq
end
end PD
set_option Elab.async false
set_option linter.all false
set_option maxRecDepth 100000
set_option maxHeartbeats 4000000
namespace PD
open PySem PySem.Spec PyProof.Rows L2
/-! ### what nobody changes any more -/
/-- a list, a dict -/
def Fz : HO → Prop
  | .lst _ => True
  | .dK _ => True
  | .dT _ => True
  | _ => False
theorem Fz.lk {u : HO} (h : Fz u) (o : Obj) : Lk u (.frz o u) := by
  cases u with
  | lst xs => exact .lf
  | dK k => exact .kf
  | dT k => exact .tf
  | _ => cases h
theorem inv_frz {X : Cx} {pins : List (Addr × Obj)} {σ : L2.St} {H : Hp} {s : Shared} {p : Addr} {u : HO} (I : Inv X pins σ H s) (e : H p = some u) (hu : Fz u) : ∃ o, Inv X pins σ (upd H p (.frz o u)) s := by
  have ok := I.hok p u e
  obtain ⟨o, ho⟩ : ∃ o, s.heap.get? p = some o := by
    cases u with
    | lst xs => obtain ⟨_, _, _, _, h⟩ := ok; exact ⟨_, h⟩
    | dK k => obtain ⟨_, _, _, _, o, _, _, h, _⟩ := ok; exact ⟨o, h⟩
    | dT k => obtain ⟨_, _, _, _, o, _, _, h, _⟩ := ok; exact ⟨o, h⟩
    | _ => cases hu
  have ne : ∀ b w, H b = some w → ¬ Fz w → b ≠ p := fun b w h n z => by
    rw [z, e] at h
    cases h
    exact n hu
  have nn : ∀ b, H b = none → b ≠ p := fun b h z => by rw [z, e] at h; cases h
  refine ⟨o, I.step (h' := s.heap) (g' := s.gens) (d' := s.drawn) (t' := s.toks) (ch := []) (fun _ z => (nomatch z)) (fun b o _ _ _ h _ => h) (fun b o _ _ _ h _ => ⟨o.slots, h⟩) (fun b o _ _ h => by rw [upd_ne (nn b h)]; exact h)
    (fun b o _ h => ⟨o, h⟩) (fun b xs h => by rw [upd_ne (ne b _ h (fun z => z))]; exact h) (fun b o u h => by rw [upd_ne (ne b _ h (fun z => z))]; exact h) (fun b ps h => ⟨#[], by rw [upd_ne (ne b _ h (fun z => z)), h]; simp⟩) (fun m h => h) (fun b w h => ?_) I.bare⟩
  have st : ∀ {b w}, H b = some w → ObjOk X.prog X.w (upd H p (.frz o u)) s.heap b w := fun {b w} h => (I.hok b w h).stay (fun _ _ _ q => q) (fun c q => by rw [upd_ne (ne c _ q (fun z => z))]; exact q) fun c xs q => by rw [upd_ne (ne c _ q (fun z => z))]; exact q
  by_cases hb : b = p
  · subst hb
    rw [upd_same] at h
    cases h
    exact ⟨ho, st e⟩
  · rw [upd_ne hb] at h
    exact st h
theorem WE.ghost {X : Cx} {e : Expr} {σ : L2.St} {H : Hp} {Q0 Q : VK} (h : WE X e σ H Q0) (g : ∀ pins s v H', Inv X pins σ H' s → Q0 v H' → ∃ H2, Inv X pins σ H2 s ∧ Q v H2) : WE X e σ H Q := fun pins s I =>
  thn (h pins s I) fun u s' ⟨v, H', I', r, q⟩ => by
    obtain ⟨H2, I2, q2⟩ := g pins s' v H' I' q
    exact ⟨v, H2, I2, r, q2⟩
theorem WSs.ghost {X : Cx} {ss : List Stmt} {σ : L2.St} {H : Hp} {D : Ends} (g : ∀ pins s, Inv X pins σ H s → ∃ H2, Inv X pins σ H2 s ∧ WSs X ss D σ H2) : WSs X ss D σ H := fun pins s I => by
  obtain ⟨H2, I2, h⟩ := g pins s I
  exact h pins s I2
section
variable {C : Cn} {b : Nat} {δ : List Sl} {P : Nat → Res → Prop} {F : Fin} {e : Expr} {ss : List Stmt}
theorem dco_frz {K : PySem.W.Frag} {H : Hp} {p : Addr} {c : Dc} (h : DcO K H p c) : ∃ u, H p = some u ∧ Fz u ∧ ∀ o, Rp K (upd H p (.frz o u)) (.ref p) c.d := by
  cases h with
  | k e1 l ra => exact ⟨_, e1, trivial, fun o => .dicK upd_same l (ra.fr (Fr.putL (M := fun _ => True) trivial e1 .kf))⟩
  | t e1 l ra => exact ⟨_, e1, trivial, fun o => .dicT upd_same l (ra.fr (Fr.putL (M := fun _ => True) trivial e1 .tf))⟩
theorem ev_frzD (h : EV C b δ e (fun b1 r => ∃ c, r = .od c ∧ P b1 (.va c.d))) : EV C b δ e P := by
  intro os σ H st Q k
  refine WE.ghost (Q0 := fun v H1 => ∃ b1 p c, v = .ref p ∧ Fr C.Z.S H H1 ∧ C.Z.J b1 H1 ∧ H p = none ∧ ¬ C.Z.S p ∧ DcO C.K H1 p c ∧ P b1 (.va c.d)) (h os σ H st _ fun v H1 b1 r f1 j1 rv hr => ?_) fun pins s v H1 I q => ?_
  · obtain ⟨c, rfl, q⟩ := hr
    cases rv with
    | od n ns e1 => exact ⟨b1, _, c, rfl, f1, j1, n, ns, e1, q⟩
  · obtain ⟨b1, p, c, rfl, f1, j1, n, ns, dc, q⟩ := q
    obtain ⟨u, e1, hu, rp⟩ := dco_frz dc
    obtain ⟨o, I2⟩ := inv_frz I e1 hu
    have fp : Fr (fun a => ¬ C.Z.S a) H1 (upd H1 p (.frz o u)) := Fr.putL ns e1 (hu.lk o)
    refine ⟨_, I2, k _ _ b1 _ (fun a u ea => ?_) (C.Z.stay _ _ _ j1 fp) (.va (rp o)) q⟩
    rw [upd_ne (ne_of_none ea n)]
    exact f1 a u ea
/-- a dict of one's own is from now on data -/
theorem sv_frzD (i : Nat) {c : Dc} (hi : δ[i]? = some (.od c)) (h : SV C b (δ.set i (.va c.d)) ss F) : SV C b δ ss F := by
  intro os σ H st D ed
  obtain ⟨o, nd, sub, sl⟩ := id st.sl
  obtain ⟨w, o1, e, a, ho⟩ := sl.at hi
  cases a with
  | @od p _ dc =>
    obtain ⟨u, e1, hu, rp⟩ := dco_frz dc
    refine WSs.ghost fun pins s I => ?_
    obtain ⟨ob, I2⟩ := inv_frz I e1 hu
    have hp := sub p (ho p (by simp))
    have z := st.putG (s' := .va c.d) (q := []) hi e e1 (hu.lk ob) hp (fun o1 z => by cases z; simp) (.inr rfl) (.va (rp ob))
    exact ⟨_, I2, h os σ _ z.1 D (ed.on z.2)⟩
end

/-! ### dicts as data -/
section
variable {κ : Type} [DecidableEq κ]
def valD (kvs : List (κ × D)) (k : κ) : Option D := (kvs.find? fun kv => decide (kv.1 = k)).map (·.2)
def putD (kvs : List (κ × D)) (k : κ) (d : D) : List (κ × D) :=
  if (kvs.any fun kv => decide (kv.1 = k)) = true then kvs.map (fun kv => if kv.1 = k then (kv.1, d) else kv) else kvs ++ [(k, d)]
theorem val_rel {K : PySem.W.Frag} {H : Hp} (k : κ) : ∀ {kv : List (κ × V)} {ds : List (κ × D)}, kv.map (·.1) = ds.map (·.1) → RpA K H (kv.map (·.2)) (ds.map (·.2)) →
    (valD ds k = none → valV kv k = none) ∧ ∀ d, valD ds k = some d → ∃ v, valV kv k = some v ∧ Rp K H v d
  | [], [], _, _ => ⟨fun _ => rfl, fun d h => by cases h⟩
  | [], _ :: _, h, _ => by cases h
  | _ :: _, [], h, _ => by cases h
  | (k1, v1) :: kv, (k2, d2) :: ds, h, r => by
    simp only [List.map_cons, List.cons.injEq] at h
    obtain ⟨h1, h2⟩ := h
    subst h1
    cases r with
    | cons r1 r2 =>
      obtain ⟨g1, g2⟩ := val_rel k h2 r2
      by_cases e : k1 = k
      · refine ⟨fun z => ?_, fun d z => ⟨v1, by simp [valV, List.find?_cons, e], ?_⟩⟩
        · simp [valD, List.find?_cons, e] at z
        · simp [valD, List.find?_cons, e] at z
          rw [← z]
          exact r1
      · have a1 : valD ((k1, d2) :: ds) k = valD ds k := by simp [valD, List.find?_cons, e]
        have a2 : valV ((k1, v1) :: kv) k = valV kv k := by simp [valV, List.find?_cons, e]
        rw [a1, a2]
        exact ⟨g1, g2⟩
theorem any_rel (k : κ) : ∀ {kv : List (κ × V)} {ds : List (κ × D)}, kv.map (·.1) = ds.map (·.1) → (kv.any fun p => decide (p.1 = k)) = (ds.any fun p => decide (p.1 = k))
  | [], [], _ => rfl
  | [], _ :: _, h => by cases h
  | _ :: _, [], h => by cases h
  | (k1, v1) :: kv, (k2, d2) :: ds, h => by
    simp only [List.map_cons, List.cons.injEq] at h
    obtain ⟨h1, h2⟩ := h
    subst h1
    simp only [List.any_cons, any_rel k h2]
theorem put_rel {K : PySem.W.Frag} {H : Hp} (k : κ) {v : V} {d : D} (rv : Rp K H v d) {kv : List (κ × V)} {ds : List (κ × D)} (h : kv.map (·.1) = ds.map (·.1)) (r : RpA K H (kv.map (·.2)) (ds.map (·.2))) :
    (putK kv k v).map (·.1) = (putD ds k d).map (·.1) ∧ RpA K H ((putK kv k v).map (·.2)) ((putD ds k d).map (·.2)) := by
  unfold putK putD
  rw [any_rel k h]
  split
  · rename_i hx
    clear hx
    induction kv generalizing ds with
    | nil =>
      cases ds with
      | nil => exact ⟨rfl, .nil⟩
      | cons _ _ => cases h
    | cons p kv ih =>
      cases ds with
      | nil => cases h
      | cons q ds =>
        simp only [List.map_cons, List.cons.injEq] at h
        obtain ⟨h1, h2⟩ := h
        cases r with
        | cons r1 r2 =>
          obtain ⟨i1, i2⟩ := ih h2 r2
          obtain ⟨k1, v1⟩ := p
          obtain ⟨k2, d2⟩ := q
          cases (show k1 = k2 from h1)
          by_cases e : k1 = k
          · simp only [List.map_cons, if_pos e]
            exact ⟨by rw [i1], .cons rv i2⟩
          · simp only [List.map_cons, if_neg e]
            exact ⟨by rw [i1], .cons r1 i2⟩
  · rw [List.map_append, List.map_append, List.map_append, List.map_append, h]
    exact ⟨rfl, r.append (.cons rv .nil)⟩
theorem valD_put (kvs : List (κ × D)) (k j : κ) (d : D) : valD (putD kvs k d) j = if j = k then some d else valD kvs j := by
  have len : ∀ kvs : List (κ × D), (kvs.any fun kv => decide (kv.1 = k)) = true → valD (kvs.map fun kv => if kv.1 = k then (kv.1, d) else kv) j = if j = k then some d else valD kvs j := by
    intro kvs h
    induction kvs with
    | nil => cases h
    | cons p r ih =>
      obtain ⟨k1, d1⟩ := p
      by_cases e : k1 = k
      · subst e
        by_cases ej : j = k1
        · subst ej
          simp [valD]
        · have : ¬ k1 = j := fun z => ej z.symm
          simp only [List.map_cons, if_pos, valD, List.find?_cons, decide_eq_false this, if_neg ej]
          clear ih h
          induction r with
          | nil => rfl
          | cons q r ih =>
            obtain ⟨k2, d2⟩ := q
            by_cases e2 : k2 = k1
            · subst e2
              simp only [List.map_cons, if_pos, List.find?_cons, decide_eq_false this]
              exact ih
            · by_cases e3 : k2 = j
              · subst e3
                simp [List.find?_cons, e2]
              · simp only [List.map_cons, if_neg e2, List.find?_cons, decide_eq_false e3]
                exact ih
      · have h' : (r.any fun kv => decide (kv.1 = k)) = true := by simpa [List.any_cons, e] using h
        by_cases e3 : k1 = j
        · subst e3
          simp [valD, List.find?_cons, e]
        · have a1 : valD ((k1, d1) :: r) j = valD r j := by simp [valD, List.find?_cons, e3]
          have a2 : valD (((k1, d1) :: r).map fun kv => if kv.1 = k then (kv.1, d) else kv) j = valD (r.map fun kv => if kv.1 = k then (kv.1, d) else kv) j := by simp [valD, List.find?_cons, e3, e]
          rw [a1, a2]
          exact ih h'
  unfold putD
  split
  · rename_i h
    exact len kvs h
  · rename_i h
    by_cases ej : j = k
    · subst ej
      have : kvs.find? (fun kv => decide (kv.1 = j)) = none := by
        rw [List.find?_eq_none]
        intro x hx
        simp only [List.any_eq_true, not_exists, not_and] at h
        exact h x hx
      simp [valD, List.find?_append, this]
    · have nk : ¬ k = j := fun z => ej z.symm
      simp only [if_neg ej, valD, List.find?_append]
      cases e : kvs.find? (fun kv => decide (kv.1 = j)) with
      | some x => rfl
      | none => simp [List.find?_cons, nk]
end
end PD
set_option Elab.async false
set_option linter.all false
set_option maxRecDepth 100000
set_option maxHeartbeats 4000000
namespace PD
open PySem PySem.Spec PyProof.Rows L2
/-! ### a dict looked into -/
/-- what the module's own tuples are: never such a key -/
structure KC (K : PySem.W.Frag) : Prop where
  at_ : ∀ o its n, K.lookup (He.ga K "_TAKEN_BACK") = some o → o.cls = .type "tuple" → o.data = .seq its n → ∀ xs, Vals xs its.toList → xs = [.str "at", .str ""]
theorem rp_keys {K : PySem.W.Frag} {H : Hp} : ∀ {k : List Key} {xs : List V}, RpA K H xs (k.map kD) → xs = k.map kV
  | [], _, .nil => rfl
  | .inl i :: k, _, .cons a r => by
    cases a
    rw [rp_keys r]
    rfl
  | .inr x :: k, _, .cons a r => by
    cases a
    rw [rp_keys r]
    rfl
/-- the key is no tuple of the module's own -/
def Kn (k : List Key) : Prop := k ≠ [.inr "at", .inr ""]
theorem rp_key {K : PySem.W.Frag} {H : Hp} {v : V} {k : List Key} (kc : KC K) (hk : Kn k) (r : Rp K H v (.tup (k.map kD))) : ∃ a, v = .ref a ∧ H a = some (.tup (k.map kV)) := by
  cases r with
  | @tup a xs _ h ra =>
    have e := rp_keys ra
    subst e
    cases h with
    | h e => exact ⟨a, rfl, e⟩
    | c ca e1 e2 e3 e4 e5 =>
      cases ca
      have z := kc.at_ _ _ _ e1 e2 e3 _ e5
      exact absurd (by
        cases k with
        | nil => cases z
        | cons k1 k =>
          cases k with
          | nil => simp at z
          | cons k2 k =>
            cases k with
            | cons _ _ => simp at z
            | nil =>
              simp only [List.map_cons, List.map_nil, List.cons.injEq, and_true] at z
              cases k1 with
              | inl i => cases z.1
              | inr x =>
                cases k2 with
                | inl i => cases z.2
                | inr y =>
                  cases z.1
                  cases z.2
                  rfl) hk
theorem rp_kd {K : PySem.W.Frag} {H : Hp} {v : V} {k : Key} (r : Rp K H v (kD k)) : v = kV k := by
  cases k with
  | inl i => cases r; rfl
  | inr x => cases r; rfl
/-- a dict as data or of one's own, asked for a key: what it holds -/
inductive Ask : Res → D → Option D → Prop
  | dk {kvs : List (Key × D)} {k : Key} : Ask (.va (.dk kvs)) (kD k) (valD kvs k)
  | dt {kvs : List (List Key × D)} {k : List Key} : Kn k → Ask (.va (.dt kvs)) (.tup (k.map kD)) (valD kvs k)
  | rk {kvs : List (Key × D)} {k : Key} : Ask (.ro (.k kvs)) (kD k) (valD kvs k)
  | rt {kvs : List (List Key × D)} {k : List Key} : Kn k → Ask (.ro (.t kvs)) (.tup (k.map kD)) (valD kvs k)
  | ok {kvs : List (Key × D)} {k : Key} : Ask (.od (.k kvs)) (kD k) (valD kvs k)
  | ot {kvs : List (List Key × D)} {k : List Key} : Kn k → Ask (.od (.t kvs)) (.tup (k.map kD)) (valD kvs k)
theorem Ask.str {kvs : List (Key × D)} {x : Str} : Ask (.va (.dk kvs)) (.str x) (valD kvs (.inr x)) := .dk (k := .inr x)
/-- the dict at a, seen from H' on -/
theorem ask_ok {K : PySem.W.Frag} {Z : Vol} {os : List Addr} {H H1 : Hp} {v y : V} {r : Res} {d : D} {o : Option D} (kc : KC K) (h : Ask r d o) (rv : RV K Z os H H1 v r) (ry : Rp K H1 y d) :
    ∃ a, v = .ref a ∧ (o = none → DGet H1 a y none) ∧ ∀ d', o = some d' → ∃ w, DGet H1 a y (some w) ∧ Rp K H1 w d' := by
  have kk : ∀ {a : Addr} {kv : List (Key × V)} {kvs : List (Key × D)} {k : Key}, Rd H1 a (.dK kv) → kv.map (·.1) = kvs.map (·.1) → RpA K H1 (kv.map (·.2)) (kvs.map (·.2)) → Rp K H1 y (kD k) →
      (valD kvs k = none → DGet H1 a y none) ∧ ∀ d', valD kvs k = some d' → ∃ w, DGet H1 a y (some w) ∧ Rp K H1 w d' := fun {a kv kvs k} e l ra ry => by
    have z := rp_kd ry
    subst z
    obtain ⟨g1, g2⟩ := val_rel k l ra
    refine ⟨fun q => .inl ⟨kv, k, e, rfl, (g1 q).symm⟩, fun d' q => ?_⟩
    obtain ⟨w, q1, q2⟩ := g2 d' q
    exact ⟨w, .inl ⟨kv, k, e, rfl, q1.symm⟩, q2⟩
  have tt : ∀ {a : Addr} {kv : List (List Key × V)} {kvs : List (List Key × D)} {k : List Key}, Kn k → Rd H1 a (.dT kv) → kv.map (·.1) = kvs.map (·.1) → RpA K H1 (kv.map (·.2)) (kvs.map (·.2)) → Rp K H1 y (.tup (k.map kD)) →
      (valD kvs k = none → DGet H1 a y none) ∧ ∀ d', valD kvs k = some d' → ∃ w, DGet H1 a y (some w) ∧ Rp K H1 w d' := fun {a kv kvs k} hk e l ra ry => by
    obtain ⟨t, rfl, ht⟩ := rp_key kc hk ry
    obtain ⟨g1, g2⟩ := val_rel k l ra
    refine ⟨fun q => .inr ⟨kv, k, t, e, rfl, ht, (g1 q).symm⟩, fun d' q => ?_⟩
    obtain ⟨w, q1, q2⟩ := g2 d' q
    exact ⟨w, .inr ⟨kv, k, t, e, rfl, ht, q1.symm⟩, q2⟩
  cases h with
  | dk =>
    cases rv with
    | va rv => cases rv with | dicK e l ra => exact ⟨_, rfl, kk (.inr ⟨_, e⟩) l ra ry⟩
  | dt hk =>
    cases rv with
    | va rv => cases rv with | dicT e l ra => exact ⟨_, rfl, tt hk (.inr ⟨_, e⟩) l ra ry⟩
  | rk =>
    cases rv with
    | ro _ _ e => cases e with | k e l ra => exact ⟨_, rfl, kk (.inl e) l ra ry⟩
  | rt hk =>
    cases rv with
    | ro _ _ e => cases e with | t e l ra => exact ⟨_, rfl, tt hk (.inl e) l ra ry⟩
  | ok =>
    cases rv with
    | od _ _ e => cases e with | k e l ra => exact ⟨_, rfl, kk (.inl e) l ra ry⟩
  | ot hk =>
    cases rv with
    | od _ _ e => cases e with | t e l ra => exact ⟨_, rfl, tt hk (.inl e) l ra ry⟩
section
variable {C : Cn} {b : Nat} {δ : List Sl} {P : Nat → Res → Prop} {Pt : Nat → Bool → Prop} {F : Fin} {e e1 e2 e3 o i value : Expr} {pos p0 p1 apos : Pos} {rest ss : List Stmt}
theorem ev_dnewK (q : P b (.od (.k []))) : EV C b δ (.Dict [] [] pos) P := fun os σ H st Q k => WE.of pe_dnewK fun p hp =>
  k _ _ b _ (Fr.new hp) (jnew st.j hp) (.od hp (snew st.j hp) (.k (kv := []) (by exact upd_same) rfl .nil)) q
theorem ev_dnewT (q : P b (.od (.t []))) : EV C b δ (.Dict [] [] pos) P := fun os σ H st Q k => WE.of pe_dnewT fun p hp =>
  k _ _ b _ (Fr.new hp) (jnew st.j hp) (.od hp (snew st.j hp) (.t (kv := []) (by exact upd_same) rfl .nil)) q
/-- d[i], there -/
theorem ev_dget (kc : KC C.K) (hu : C.X.A.units + 1 < cLine) (h : EV C b δ o (fun b1 r1 => EV C b1 δ i fun b2 r2 => ∃ d d', r2 = .va d ∧ Ask r1 d (some d') ∧ P b2 (.va d'))) (hs : NoSl i := by intro _ _; rfl) : EV C b δ (.Subscript o i pos) P := by
  intro os σ H st Q q
  refine WE.of (pe_dget hu peW peW hs) ?_
  refine h os σ H st _ fun v1 H1 b1 r1 f1 j1 rv1 h2 => ?_
  refine h2 os σ H1 (st.on f1 j1) _ fun v2 H2 b2 r2 f2 j2 rv2 h3 => ?_
  obtain ⟨d, d', rfl, ha, hp⟩ := h3
  cases rv2 with | va rv2 => ?_
  obtain ⟨a, rfl, _, g⟩ := ask_ok kc ha (rv1.on f2) rv2
  obtain ⟨w, g1, g2⟩ := g d' rfl
  exact ⟨a, w, rfl, g1, q _ H2 b2 _ (f1.trans f2) j2 (.va g2) hp⟩
end
end PD
set_option Elab.async false
set_option linter.all false
set_option maxRecDepth 100000
set_option maxHeartbeats 4000000
namespace PD
open PySem PySem.Spec PyProof.Rows L2
section
variable {C : Cn} {b : Nat} {δ : List Sl} {P : Nat → Res → Prop} {Pt : Nat → Bool → Prop} {F : Fin} {e e1 e2 e3 o i value : Expr} {pos p0 p1 pos' apos : Pos} {rest ss : List Stmt}
/-- an own dict, asked: none or some -/
theorem ask_get {K : PySem.W.Frag} {Z : Vol} {os : List Addr} {H H1 : Hp} {v y : V} {r : Res} {d : D} {od : Option D} (kc : KC K) (h : Ask r d od) (rv : RV K Z os H H1 v r) (ry : Rp K H1 y d) :
    ∃ a ov, v = .ref a ∧ DGet H1 a y ov ∧ ov.isSome = od.isSome ∧ ∀ z dz, Rp K H1 z dz → Rp K H1 (ov.getD z) (od.getD dz) := by
  obtain ⟨a, rfl, g1, g2⟩ := ask_ok kc h rv ry
  cases od with
  | none => exact ⟨a, none, rfl, g1 rfl, rfl, fun z dz q => q⟩
  | some d' =>
    obtain ⟨w, g, q⟩ := g2 d' rfl
    exact ⟨a, some w, rfl, g, rfl, fun _ _ _ => q⟩
theorem et_dnin (kc : KC C.K) (hu : C.X.A.units + 1 < cLine) (h : EV C b δ e1 (fun b1 r1 => EV C b1 δ e2 fun b2 r2 => ∃ d od, r1 = .va d ∧ Ask r2 d od ∧ Pt b2 (!od.isSome))) (hm : behindInMarks .NotIn e2 = false := by rfl) : ET C b δ (.Compare e1 [.NotIn] [e2] pos) Pt := by
  intro os σ H st Q q
  refine WT.of (pt_cmp (pc_dnotin hu peW peW) hm) ?_
  refine h os σ H st _ fun v1 H1 b1 r1 f1 j1 rv1 h2 => ?_
  refine h2 os σ H1 (st.on f1 j1) _ fun v2 H2 b2 r2 f2 j2 rv2 h3 => ?_
  obtain ⟨d, od, rfl, ha, hp⟩ := h3
  cases rv1 with | va rv1 => ?_
  obtain ⟨a, ov, rfl, g, es, _⟩ := ask_get kc ha rv2 (rv1.fr f2)
  exact ⟨a, ov, rfl, g, !ov.isSome, rfl, q _ H2 b2 (f1.trans f2) j2 (by rw [es]; exact hp)⟩
/-- a dict -/
def Res.isDc : Res → Bool
  | .va (.dk _) => true
  | .va (.dt _) => true
  | .od _ => true
  | .ro _ => true
  | _ => false
theorem isDc_ok {K : PySem.W.Frag} {Z : Vol} {os : List Addr} {H H1 : Hp} {v : V} {r : Res} (rv : RV K Z os H H1 v r) (h : r.isDc = true) : ∃ a, v = .ref a ∧ IsD H1 a := by
  cases rv with
  | va rv =>
    cases rv with
    | dicK e _ _ => exact ⟨_, rfl, .inl ⟨_, .inr ⟨_, e⟩⟩⟩
    | dicT e _ _ => exact ⟨_, rfl, .inr ⟨_, .inr ⟨_, e⟩⟩⟩
    | _ => exact nomatch h
  | od _ _ e =>
    cases e with
    | k e _ _ => exact ⟨_, rfl, .inl ⟨_, .inl e⟩⟩
    | t e _ _ => exact ⟨_, rfl, .inr ⟨_, .inl e⟩⟩
  | ro _ _ e =>
    cases e with
    | k e _ _ => exact ⟨_, rfl, .inl ⟨_, .inl e⟩⟩
    | t e _ _ => exact ⟨_, rfl, .inr ⟨_, .inl e⟩⟩
  | gh _ _ _ => exact nomatch h
  | _ => exact nomatch h
/-- d.get(i, dflt) -/
theorem ev_getd (kc : KC C.K) (hu : C.X.A.units + 1 < cLine) (h : EV C b δ o (fun b1 r1 => r1.isDc = true ∧ EV C b1 δ e fun b2 r2 => EV C b2 δ e1 fun b3 r3 => ∃ d od dz, r2 = .va d ∧ r3 = .va dz ∧ Ask r1 d od ∧ P b3 (.va (od.getD dz))))
    (m : M2 C.X o "get" apos e e1 pos := by exact ⟨rfl, rfl, rfl, rfl⟩) : EV C b δ (.Call (.Attribute o "get" apos) [e, e1] [] pos) P := by
  intro os σ H st Q q
  refine WE.of (pe_dget2 hu peW peW peW m) ?_
  refine h os σ H st _ fun v1 H1 b1 r1 f1 j1 rv1 h2 => ?_
  obtain ⟨hd, h2⟩ := h2
  obtain ⟨a, rfl, isd⟩ := isDc_ok rv1 hd
  refine ⟨a, rfl, isd, ?_⟩
  refine h2 os σ H1 (st.on f1 j1) _ fun v2 H2 b2 r2 f2 j2 rv2 h3 => ?_
  refine h3 os σ H2 ((st.on f1 j1).on f2 j2) _ fun v3 H3 b3 r3 f3 j3 rv3 h4 => ?_
  obtain ⟨d, od, dz, rfl, rfl, ha, hp⟩ := h4
  cases rv2 with | va rv2 => ?_
  cases rv3 with | va rv3 => ?_
  obtain ⟨a', ov, ea, g, _, gd⟩ := ask_get kc ha (rv1.on (f2.trans f3)) (rv2.fr f3)
  cases ea
  exact ⟨ov, g, q _ H3 b3 _ ((f1.trans f2).trans f3) j3 (.va (gd _ _ rv3)) hp⟩
/-- d[i] = value, d a dict of one's own at its name -/
theorem sv_dput (kc : KC C.K) (hu : C.X.A.units + 1 < cLine) (n : Nat) {x : Str}
    (h : EV C b δ value (fun b1 r1 => EV C b1 δ i fun b2 r2 => ∃ d1 d2, r1 = .va d1 ∧ r2 = .va d2 ∧
      ((∃ kvs k, δ[n]? = some (.od (.k kvs)) ∧ d2 = kD k ∧ kvs.length < 16000000 ∧ SV C b2 (δ.set n (.od (.k (putD kvs k d1)))) rest F) ∨
       ∃ kvs k, δ[n]? = some (.od (.t kvs)) ∧ Kn k ∧ d2 = .tup (k.map kD) ∧ kvs.length < 16000000 ∧ SV C b2 (δ.set n (.od (.t (putD kvs k d1)))) rest F)))
    (hN : C.X.N[n]? = some x := by rfl) (hv : Vis C.X.env.scope x := by first | exact Or.inl rfl | exact Or.inr (Or.inl rfl) | exact Or.inr (Or.inr rfl)) (hd : (x == ("__debug__" : Str)) = false := by decide) (hcd : (x == ("__classdict__" : Str)) = false := by decide)
    (hex : ∃ c, δ[n]? = some (.od c) := by exact ⟨_, rfl⟩) (hs : swapsWith value (some (.Subscript (.Name x p0) i pos')) pos.line C.X.env = pure false := by rfl) : SV C b δ (.Assign [.Subscript (.Name x p0) i pos'] value pos :: rest) F := by
  intro os σ H st D ed
  refine WSs.of (pss_cons (ps_dput hu (pe_var hN hv hd hcd) peW peW hs) pssW) ?_
  refine h os σ H st _ fun v1 H1 b1 r1 f1 j1 rv1 h2 => ?_
  -- the dict itself stands at its name all the while
  have st1 := st.on f1 j1
  have isd : ∀ {c : Dc}, δ[n]? = some (.od c) → ∃ p, σ[n]? = some (some (.ref p)) := fun {c} hc => by
    obtain ⟨p, e, _⟩ := st.ownD hc
    exact ⟨p, e⟩
  obtain ⟨c, hc⟩ := hex
  obtain ⟨p, ep⟩ := isd hc
  refine ⟨_, ep, ?_⟩
  refine h2 os σ H1 st1 _ fun v2 H2 b2 r2 f2 j2 rv2 h3 => ?_
  obtain ⟨d1, d2, rfl, rfl, h3⟩ := h3
  cases rv1 with | va rv1 => ?_
  cases rv2 with | va rv2 => ?_
  have st2 := st1.on f2 j2
  rcases h3 with ⟨kvs, k, hk, rfl, hl, q⟩ | ⟨kvs, k, hk, kn, rfl, hl, q⟩
  · obtain ⟨p', ep', _, _, dc, go⟩ := st2.ownD hk
    rw [ep] at ep'
    cases ep'
    cases dc with
    | @k kv _ e l ra =>
      have z := rp_kd rv2
      subst z
      have hlen : kv.length = kvs.length := by have := congrArg List.length l; simpa using this
      obtain ⟨i1, i2⟩ := put_rel (v := v1) k (rv1.fr f2) l ra
      obtain ⟨s3, g3⟩ := go _ (.dK (putK kv k v1)) (.k (putD kvs k d1)) e .k (.k upd_same i1 (i2.fr (Fr.putL (M := fun _ => True) trivial e .k)))
      exact ⟨p, _, rfl, DPut.k e (by rw [hlen]; exact Nat.lt_of_lt_of_le hl (by decide)), q os σ _ s3 D (ed.on (((Gr.of f1).trans (Gr.of f2)).trans g3))⟩
  · obtain ⟨p', ep', _, _, dc, go⟩ := st2.ownD hk
    rw [ep] at ep'
    cases ep'
    cases dc with
    | @t kv _ e l ra =>
      obtain ⟨t, rfl, ht⟩ := rp_key kc kn rv2
      have hlen : kv.length = kvs.length := by have := congrArg List.length l; simpa using this
      obtain ⟨i1, i2⟩ := put_rel (v := v1) k (rv1.fr f2) l ra
      obtain ⟨s3, g3⟩ := go _ (.dT (putK kv k v1)) (.t (putD kvs k d1)) e .t (.t upd_same i1 (i2.fr (Fr.putL (M := fun _ => True) trivial e .t)))
      exact ⟨p, _, rfl, DPut.t e ht (by rw [hlen]; exact Nat.lt_of_lt_of_le hl (by decide)), q os σ _ s3 D (ed.on (((Gr.of f1).trans (Gr.of f2)).trans g3))⟩
end
end PD
set_option Elab.async false
set_option linter.all false
set_option maxRecDepth 100000
set_option maxHeartbeats 4000000
namespace PD
open PySem PySem.Spec PyProof.Rows L2
/-! ### == of data -/
mutual
/-- as the library's data -/
def D.pd : D → PyData
  | .non => .none
  | .bl b => .bool b
  | .int i => .int i
  | .str x => .str x
  | .tup ds => .tuple (pds ds)
  | .pt ds => .tuple (pds ds)
  | .lst ds => .list (pds ds)
  | .obj _ _ => .none
  | .dk _ => .none
  | .dt _ => .none
def pds : List D → List PyData
  | [] => []
  | d :: ds => d.pd :: pds ds
end
mutual
/-- no dict, no thing known by its address alone -/
def D.pl : D → Bool
  | .tup ds => pls ds
  | .pt ds => pls ds
  | .lst ds => pls ds
  | .obj _ _ => false
  | .dk _ => false
  | .dt _ => false
  | .non => true
  | .bl _ => true
  | .int _ => true
  | .str _ => true
def pls : List D → Bool
  | [] => true
  | d :: ds => d.pl && pls ds
end
mutual
theorem rp_dp {K : PySem.W.Frag} {H : Hp} : ∀ (d : D) (v : V), Rp K H v d → d.pl = true → Dp K H v d.pd
  | .non, _, h, _ => by cases h; rw [D.pd]; exact .non
  | .bl b, _, h, _ => by cases h; rw [D.pd]; exact .bl b
  | .int i, _, h, _ => by cases h; rw [D.pd]; exact .int i
  | .str x, _, h, _ => by cases h; rw [D.pd]; exact .str x
  | .tup ds, _, h, p => by
    rw [D.pl] at p
    cases h with
    | tup h r => rw [D.pd]; exact .tup h.sq (rps_dp ds _ r p)
  | .pt ds, _, h, p => by
    rw [D.pl] at p
    cases h with
    | ptup h _ r => rw [D.pd]; exact .tup (.inl (.inr ⟨_, h⟩)) (rps_dp ds _ r p)
  | .lst ds, _, h, p => by
    rw [D.pl] at p
    cases h with
    | lst h r => rw [D.pd]; exact .lst (.inl (.inr ⟨_, h⟩)) (rps_dp ds _ r p)
  | .obj _ _, _, _, p => by rw [D.pl] at p; cases p
  | .dk _, _, _, p => by rw [D.pl] at p; cases p
  | .dt _, _, _, p => by rw [D.pl] at p; cases p
theorem rps_dp {K : PySem.W.Frag} {H : Hp} : ∀ (ds : List D) (vs : List V), RpA K H vs ds → pls ds = true → DpAll K H vs (pds ds)
  | [], _, h, _ => by cases h; rw [pds]; exact .nil
  | d :: ds, _, h, p => by
    rw [pls, Bool.and_eq_true] at p
    cases h with
    | cons a r => rw [pds]; exact .cons (rp_dp d _ a p.1) (rps_dp ds _ r p.2)
end
/-- a list, data: what is compared -/
def Res.cd : Res → Option D
  | .va d => some d
  | .ow ds => some (.lst ds)
  | .li ds => some (.lst ds)
  | .rd ds => some (.lst ds)
  | .od _ => none
  | .ro _ => none
  | .gh _ => none
theorem rv_dp {K : PySem.W.Frag} {Z : Vol} {os : List Addr} {H H' : Hp} {v : V} {r : Res} {d : D} (rv : RV K Z os H H' v r) (e : r.cd = some d) (p : d.pl = true) : Dp K H' v d.pd := by
  cases rv with
  | va rv => cases e; exact rp_dp _ _ rv p
  | ow n e1 ns ra => cases e; rw [D.pl] at p; rw [D.pd]; exact .lst (.inl (.inl e1)) (rps_dp _ _ ra p)
  | li e1 ns no ra => cases e; rw [D.pl] at p; rw [D.pd]; exact .lst (.inl (.inl e1)) (rps_dp _ _ ra p)
  | rd e1 ns no ra => cases e; rw [D.pl] at p; rw [D.pd]; exact .lst (.inl (.inl e1)) (rps_dp _ _ ra p)
  | od n ns e1 => cases e
  | ro ns no e1 => cases e
  | gh _ _ _ => cases e
/-- plain, no deeper than 64, no text too long -/
def D.sh (d : D) : Bool := d.pl && SeqAt.shaped d.pd
theorem sh_ok {d : D} (h : d.sh = true) : d.pl = true ∧ SeqAt.shaped d.pd = true := Bool.and_eq_true_iff.mp h
/-- Python's == -/
def D.eqv (d e : D) : Bool := PyData.eqv d.pd e.pd
section
variable {C : Cn} {b : Nat} {δ : List Sl} {P : Nat → Res → Prop} {Pt : Nat → Bool → Prop} {e e1 e2 : Expr} {pos : Pos}
theorem ev_eqD (hu : C.X.A.units + 64 < cLine) (h : EV C b δ e1 (fun b1 r1 => EV C b1 δ e2 fun b2 r2 => ∃ d1 d2, r1.cd = some d1 ∧ r2.cd = some d2 ∧ d1.sh = true ∧ d2.sh = true ∧ P b2 (.va (.bl (d1.eqv d2))))) : EV C b δ (.Compare e1 [.Eq] [e2] pos) P := by
  refine ev_cmp (op_eqD hu) (nomark _) (h.imp fun b1 r1 h2 => h2.imp fun b2 r2 ⟨d1, d2, c1, c2, s1, s2, hq⟩ => ?_)
  intro os H H' x y jj rx ry Q q
  exact ⟨_, _, rv_dp rx c1 (sh_ok s1).1, rv_dp ry c2 (sh_ok s2).1, (sh_ok s1).2, (sh_ok s2).2, q _ hq⟩
theorem et_eqD (hu : C.X.A.units + 64 < cLine) (h : EV C b δ e1 (fun b1 r1 => EV C b1 δ e2 fun b2 r2 => ∃ d1 d2, r1.cd = some d1 ∧ r2.cd = some d2 ∧ d1.sh = true ∧ d2.sh = true ∧ Pt b2 (d1.eqv d2))) : ET C b δ (.Compare e1 [.Eq] [e2] pos) Pt := by
  refine et_cmp (op_eqD hu) (nomark _) (h.imp fun b1 r1 h2 => h2.imp fun b2 r2 ⟨d1, d2, c1, c2, s1, s2, hq⟩ => ?_)
  intro os H H' x y jj rx ry Q q
  exact ⟨_, _, rv_dp rx c1 (sh_ok s1).1, rv_dp ry c2 (sh_ok s2).1, (sh_ok s1).2, (sh_ok s2).2, q _ hq⟩
theorem et_neD (hu : C.X.A.units + 64 < cLine) (h : EV C b δ e1 (fun b1 r1 => EV C b1 δ e2 fun b2 r2 => ∃ d1 d2, r1.cd = some d1 ∧ r2.cd = some d2 ∧ d1.sh = true ∧ d2.sh = true ∧ Pt b2 (!d1.eqv d2))) : ET C b δ (.Compare e1 [.NotEq] [e2] pos) Pt := by
  refine et_cmp (op_neD hu) (nomark _) (h.imp fun b1 r1 h2 => h2.imp fun b2 r2 ⟨d1, d2, c1, c2, s1, s2, hq⟩ => ?_)
  intro os H H' x y jj rx ry Q q
  exact ⟨_, _, rv_dp rx c1 (sh_ok s1).1, rv_dp ry c2 (sh_ok s2).1, (sh_ok s1).2, (sh_ok s2).2, q _ hq⟩
/-- x in a list, of data -/
theorem et_inL (hu : C.X.A.units + 65 < cLine) (h : EV C b δ e1 (fun b1 r1 => EV C b1 δ e2 fun b2 r2 => ∃ d1 ds, r1.cd = some d1 ∧ r2.cd = some (.lst ds) ∧ d1.sh = true ∧ (D.lst ds).sh = true ∧ Pt b2 (ds.any fun z => z.eqv d1))) (hm : behindInMarks .In e2 = false := by rfl) : ET C b δ (.Compare e1 [.In] [e2] pos) Pt := by
  refine et_cmp (op_inD hu) hm (h.imp fun b1 r1 h2 => h2.imp fun b2 r2 ⟨d1, ds, c1, c2, s1, s2, hq⟩ => ?_)
  intro os H H' x y jj rx ry Q q
  have z := rv_dp ry c2 (sh_ok s2).1
  rw [D.pd] at z
  have z2 := (sh_ok s2).2
  rw [D.pd] at z2
  refine ⟨_, pds ds, rv_dp rx c1 (sh_ok s1).1, z, (sh_ok s1).2, z2, q _ ?_⟩
  have e : ∀ ds : List D, ((pds ds).any fun z => PyData.eqv z d1.pd) = ds.any fun z => z.eqv d1 := by
    intro ds
    induction ds with
    | nil => rfl
    | cons d ds ih => rw [pds, List.any_cons, List.any_cons, ih]; rfl
  rw [e]
  exact hq
end
mutual
/-- no truth values in it -/
def D.nb : D → Bool
  | .pt _ => false
  | .tup ds => nbs ds
  | .lst ds => nbs ds
  | .bl _ => false
  | .obj _ _ => false
  | .dk _ => false
  | .dt _ => false
  | .non => true
  | .int _ => true
  | .str _ => true
def nbs : List D → Bool
  | [] => true
  | d :: ds => d.nb && nbs ds
end
mutual
theorem eqv_iff : ∀ (d e : D), d.nb = true → e.nb = true → (d.eqv e = true ↔ d = e)
  | .non, e, _, h => by cases e <;> simp_all [D.eqv, D.pd, PyData.eqv, D.nb]
  | .int i, e, _, h => by cases e <;> simp_all [D.eqv, D.pd, PyData.eqv, D.nb]
  | .str x, e, _, h => by cases e <;> simp_all [D.eqv, D.pd, PyData.eqv, D.nb]
  | .tup ds, e, h1, h => by
    cases e with
    | tup es =>
      rw [D.nb] at h1 h
      have := eqvs_iff ds es h1 h
      simp only [D.eqv, D.pd, PyData.eqv, D.tup.injEq]
      exact this
    | _ => simp_all [D.eqv, D.pd, PyData.eqv, D.nb]
  | .lst ds, e, h1, h => by
    cases e with
    | lst es =>
      rw [D.nb] at h1 h
      have := eqvs_iff ds es h1 h
      simp only [D.eqv, D.pd, PyData.eqv, D.lst.injEq]
      exact this
    | _ => simp_all [D.eqv, D.pd, PyData.eqv, D.nb]
  | .bl _, _, h, _ => by simp [D.nb] at h
  | .obj _ _, _, h, _ => by simp [D.nb] at h
  | .dk _, _, h, _ => by simp [D.nb] at h
  | .dt _, _, h, _ => by simp [D.nb] at h
  | .pt _, _, h, _ => by simp [D.nb] at h
theorem eqvs_iff : ∀ (ds es : List D), nbs ds = true → nbs es = true → (PyData.eqvAll (pds ds) (pds es) = true ↔ ds = es)
  | [], [], _, _ => by simp [pds, PyData.eqvAll]
  | [], _ :: _, _, _ => by simp [pds, PyData.eqvAll]
  | _ :: _, [], _, _ => by simp [pds, PyData.eqvAll]
  | d :: ds, e :: es, h1, h2 => by
    rw [nbs, Bool.and_eq_true] at h1 h2
    have a := eqv_iff d e h1.1 h2.1
    have b := eqvs_iff ds es h1.2 h2.2
    simp only [pds, PyData.eqvAll, Bool.and_eq_true, List.cons.injEq]
    exact and_congr a b
end
/-! ### data, but for what is known of tuples' objects -/
mutual
def D.er : D → D
  | .pt ds => .tup (ers ds)
  | .tup ds => .tup (ers ds)
  | .lst ds => .lst (ers ds)
  | .non => .non
  | .bl b => .bl b
  | .int i => .int i
  | .str x => .str x
  | .obj t a => .obj t a
  | .dk k => .dk k
  | .dt k => .dt k
def ers : List D → List D
  | [] => []
  | d :: ds => d.er :: ers ds
end
mutual
theorem er_pd : ∀ d : D, d.er.pd = d.pd
  | .pt ds => by rw [D.er, D.pd, D.pd, ers_pd ds]
  | .tup ds => by rw [D.er, D.pd, D.pd, ers_pd ds]
  | .lst ds => by rw [D.er, D.pd, D.pd, ers_pd ds]
  | .non => by rw [D.er]
  | .bl _ => by rw [D.er]
  | .int _ => by rw [D.er]
  | .str _ => by rw [D.er]
  | .obj _ _ => by rw [D.er]
  | .dk _ => by rw [D.er]
  | .dt _ => by rw [D.er]
theorem ers_pd : ∀ ds : List D, pds (ers ds) = pds ds
  | [] => by rw [ers]
  | d :: ds => by rw [ers, pds, pds, er_pd d, ers_pd ds]
end
mutual
theorem er_pl : ∀ d : D, d.er.pl = d.pl
  | .pt ds => by rw [D.er, D.pl, D.pl, ers_pl ds]
  | .tup ds => by rw [D.er, D.pl, D.pl, ers_pl ds]
  | .lst ds => by rw [D.er, D.pl, D.pl, ers_pl ds]
  | .non => by rw [D.er]
  | .bl _ => by rw [D.er]
  | .int _ => by rw [D.er]
  | .str _ => by rw [D.er]
  | .obj _ _ => by rw [D.er]
  | .dk _ => by rw [D.er]
  | .dt _ => by rw [D.er]
theorem ers_pl : ∀ ds : List D, pls (ers ds) = pls ds
  | [] => by rw [ers]
  | d :: ds => by rw [ers, pls, pls, er_pl d, ers_pl ds]
end
theorem er_sh (d : D) : d.sh = d.er.sh := by
  unfold D.sh
  rw [er_pd, er_pl]
theorem ers_map {α : Type} (f g : α → D) : ∀ xs : List α, (∀ x ∈ xs, (f x).er = g x) → ers (xs.map f) = xs.map g
  | [], _ => by rw [List.map_nil, ers]; rfl
  | x :: xs, h => by rw [List.map_cons, ers, h x List.mem_cons_self, ers_map f g xs fun y hy => h y (List.mem_cons_of_mem _ hy), List.map_cons]
theorem ers_mem : ∀ {ds : List D} {d : D}, d ∈ ers ds → ∃ e ∈ ds, d = e.er
  | [], d, h => by rw [ers] at h; cases h
  | x :: xs, d, h => by
    rw [ers] at h
    rcases List.mem_cons.mp h with rfl | h
    · exact ⟨x, List.mem_cons_self, rfl⟩
    · obtain ⟨e, h1, h2⟩ := ers_mem h
      exact ⟨e, List.mem_cons_of_mem _ h1, h2⟩
end PD
set_option Elab.async false
set_option linter.all false
set_option maxRecDepth 100000
set_option maxHeartbeats 4000000
namespace PD
open PySem PySem.Spec PyProof.Rows L2
/-! ### sorted of data -/
/-- Python's order of data of one kind -/
def leD (d e : D) : Bool := PySem.W.dataLe false D.pd d e
def srtD (ds : List D) : List D := ds.mergeSort leD
/-- what may be sorted: all of one kind; all tuples with an item, or none a tuple -/
structure Srt (ds : List D) : Prop where
  pl : pls ds = true
  al : PySem.W.AllAlike (pds ds)
  so : PySem.W.Sortable (pds ds)
  dp : ∀ d ∈ ds, d.pd.depth ≤ 32
theorem pds_map (ds : List D) : pds ds = ds.map D.pd := by
  induction ds with
  | nil => rfl
  | cons d ds ih => rw [pds, List.map_cons, ih]
theorem pls_all (ds : List D) : pls ds = ds.all D.pl := by
  induction ds with
  | nil => rfl
  | cons d ds ih => rw [pls, List.all_cons, ih]
theorem each_reads {X : Cx} {pins : List (Addr × Obj)} {σ : L2.St} {H : Hp} {s : Shared} (I : Inv X pins σ H s) {h' : Heap} (k : ∀ b o, s.heap.get? b = some o → h'.get? b = some o) :
    ∀ {xs : List V} {ds : List D} {us : List Value}, RpA X.K H xs ds → pls ds = true → Vals xs us → PySem.W.EachIs (fun v d => ∃ as, Reads h' v d as) us (ds.map D.pd)
  | [], [], [], _, _, _ => .nil
  | _ :: _, [], _, r, _, _ => nomatch r
  | [], _ :: _, _, r, _, _ => nomatch r
  | x :: xs, d :: ds, [], _, _, v => nomatch v
  | [], [], _ :: _, _, _, v => nomatch v
  | x :: xs, d :: ds, u :: us, r, p, v => by
    cases r with
    | cons r1 r2 =>
      cases v with
      | cons v1 v2 =>
        rw [pls, Bool.and_eq_true] at p
        obtain ⟨as, z⟩ := Dp.reads I d.pd x u (rp_dp d x r1 p.1) v1
        exact .cons ⟨as, Reads.keeps k z⟩ (each_reads I k r2 p.2 v2)
theorem each_pairs {K : PySem.W.Frag} {H : Hp} : ∀ {xs : List V} {ds : List D} {us : List Value}, RpA K H xs ds → Vals xs us → PySem.W.EachIs (fun u (p : V × D) => RelV p.1 u ∧ Rp K H p.1 p.2) us (xs.zip ds)
  | [], [], [], _, _ => .nil
  | _ :: _, [], _, r, _ => nomatch r
  | [], _ :: _, _, r, _ => nomatch r
  | x :: xs, d :: ds, [], _, v => nomatch v
  | [], [], _ :: _, _, v => nomatch v
  | x :: xs, d :: ds, u :: us, r, v => by
    cases r with
    | cons r1 r2 =>
      cases v with
      | cons v1 v2 => exact .cons ⟨v1, r1⟩ (each_pairs r2 v2)
theorem pairs_each {K : PySem.W.Frag} {H : Hp} : ∀ {us : List Value} {ps : List (V × D)}, PySem.W.EachIs (fun u (p : V × D) => RelV p.1 u ∧ Rp K H p.1 p.2) us ps → Vals (ps.map (·.1)) us ∧ RpA K H (ps.map (·.1)) (ps.map (·.2))
  | [], [], _ => ⟨.nil, .nil⟩
  | _ :: _, [], h => nomatch h
  | [], _ :: _, h => nomatch h
  | u :: us, p :: ps, h => by
    cases h with
    | cons h t =>
      obtain ⟨a, b⟩ := pairs_each t
      exact ⟨.cons h.1 a, .cons h.2 b⟩
theorem zip_snd {K : PySem.W.Frag} {H : Hp} : ∀ {xs : List V} {ds : List D}, RpA K H xs ds → (xs.zip ds).map (·.2) = ds
  | [], [], _ => rfl
  | _ :: _, [], r => nomatch r
  | [], _ :: _, r => nomatch r
  | x :: xs, d :: ds, r => by
    cases r with
    | cons _ r2 => rw [List.zip_cons_cons, List.map_cons, zip_snd r2]
theorem sort_snd (ps : List (V × D)) : (ps.mergeSort (PySem.W.dataLe false fun p => p.2.pd)).map (·.2) = srtD (ps.map (·.2)) := by
  unfold srtD
  rw [← List.map_mergeSort (r := PySem.W.dataLe false fun p : V × D => p.2.pd) (s := leD) (f := fun p : V × D => p.2)]
  intro a _ b _
  rfl
section
variable {X : Cx}
def rSrtD (K : PySem.W.Frag) : List V → Hp → VK → Prop := fun vs H Q => ∃ (a : Addr) (xs : List V) (ds : List D), vs = [V.ref a] ∧ SqL K H a xs ∧ RpA K H xs ds ∧ Srt ds ∧
  ∀ (ys : List V) (p : Addr), RpA K H ys (srtD ds) → H p = none → Q (.ref p) (upd H p (.lst ys))
theorem cr_srtD (hu : X.A.units + 40 < cLine) : CallR X (.builtin "sorted") (rSrtD X.K) := by
  intro pins s σ H vs us Q I r h
  obtain ⟨a, xs, ds, rfl, hs, ra, st, q⟩ := h
  obtain ⟨its, rv, hl, hz⟩ := I.list hs
  rw [Vals.ref1 r]
  have hlen := rv.length
  have e := each_reads I (h' := PySem.W.sortingHeap (PySem.W.copyHeap s.heap its) (s.heap.objs.size + 1) its) (fun b o z => PySem.W.sorting_copy_old z) ra st.pl rv
  have al := st.al
  have so := st.so
  rw [pds_map] at al so
  have S := PySem.W.SortsAt.data (prog := X.prog) (w := X.w) (A := X.A.in1.in1) (s := { s with heap := PySem.W.sortingHeap (PySem.W.copyHeap s.heap its) (s.heap.objs.size + 1) its }) e al so (fun d hd => by
    obtain ⟨d0, hd0, rfl⟩ := List.mem_map.mp hd
    have := st.dp d0 hd0
    have h2 : X.A.in1.in1.units = X.A.units + 2 := rfl
    rw [h2]
    omega)
  have hL : its.length ≤ sizeLine := by rw [← hlen]; exact hz
  refine PySem.W.sorted_vals hl.isList S hL ?_
  obtain ⟨ep, he'⟩ := PyProof.Rows.sortedAll_at s.heap its (PySem.W.sortVals (PySem.W.dataKind (PySem.W.sortingHeap (PySem.W.copyHeap s.heap its) (s.heap.objs.size + 1) its) (ds.map D.pd)) false its its).toArray
  have hm : (xs.zip ds).map (fun p : V × D => p.2.pd) = ds.map D.pd := by
    rw [show (fun p : V × D => p.2.pd) = D.pd ∘ (fun p : V × D => p.2) from rfl, ← List.map_map, zip_snd ra]
  have kd := PySem.W.keyedOut_each (rev := false) (R := fun u (p : V × D) => RelV p.1 u ∧ Rp X.K H p.1 p.2) (bs := xs.zip ds) (vs := its) (fun p : V × D => p.2.pd)
    (out := PySem.W.sortVals (PySem.W.dataKind (PySem.W.sortingHeap (PySem.W.copyHeap s.heap its) (s.heap.objs.size + 1) its) (ds.map D.pd)) false its its) ⟨_, its, by
      rw [hm]
      exact al, by rw [hm], by
      rw [hm]
      exact e⟩ (each_pairs ra rv)
  obtain ⟨k1, k2⟩ := pairs_each kd
  rw [sort_snd, zip_snd ra] at k2
  have hl2 : (((xs.zip ds).mergeSort (PySem.W.dataLe false fun p => p.2.pd)).map (·.1)).length ≤ sizeLine := by
    rw [List.length_map, List.length_mergeSort, List.length_zip]
    exact Nat.le_trans (Nat.min_le_left _ _) hz
  exact ⟨.ref _, upd H (s.heap.objs.size + 1) (.lst _), I.laid (t' := s.toks) (fun _ _ => PyProof.Rows.sortedAll_old) (Nat.le_succ _) ⟨hl2, _, ep, k1, he'⟩, rfl, q _ _ k2 (I.hok.fresh (Nat.le_succ _))⟩
end
section
variable {C : Cn} {b : Nat} {δ : List Sl} {P : Nat → Res → Prop} {e : Expr} {pos p0 : Pos}
/-- sorted(a list of data) -/
theorem ev_sorted (hu : C.X.A.units + 40 < cLine) (B : Blt C.X) (h : EV C b δ e (fun b1 r => ∃ ds, r.seq = some ds ∧ Srt ds ∧ P b1 (.ow (srtD ds)))) (hg : Gl C.X "sorted" := by rfl)
    (hsx : starEach [e] C.X.env = (false, eval e C.X.env) :: starEach [] C.X.env := by rfl) (hpl : (backTo pos (starEach [] C.X.env)).any (·.1) = false := by rfl) : EV C b δ (.Call (.Name "sorted" p0) [e] [] pos) P := by
  intro os σ H st Q q
  refine WE.of (pe_callB (cr_srtD hu) hg B.sorted (by decide +kernel) (pa_cons peW pa_nil hsx) (by decide) (by decide) hsx hpl) ?_
  refine h os σ H st _ fun v H1 b1 r f1 j1 rv hh => ?_
  obtain ⟨ds, hs, hS, hq⟩ := hh
  obtain ⟨p, xs, rfl, e, ra⟩ := rv.seq_ hs
  refine ⟨p, xs, ds, rfl, e.sq, ra, hS, fun ys l ry hl => ?_⟩
  have fn : Fr C.Z.S H1 (upd H1 l (.lst ys)) := Fr.new hl
  exact q _ _ b1 _ (f1.trans fn) (jnew j1 hl) (.ow (f1.back hl) upd_same (snew j1 hl) (ry.fr fn)) hq
end
end PD
set_option Elab.async false
set_option linter.all false
set_option maxRecDepth 100000
set_option maxHeartbeats 4000000
/-! A lambda of one parameter without captured names: called. -/
namespace LM
open PySem PySem.Spec PyProof.Rows L2 LamX
structure L1 (scope : Scope) (a : Str) : Prop where
  kind : scope.kind = .function
  co : scope.isCoroutine = false
  gen : scope.isGenerator = false
  names : scope.names = [(a, .local)]
abbrev l1Env (q : Str) (scope : Scope) (L f c' : Addr) : Env := PySem.W.envX q scope L f (.ref c') []
/-- the context of its body, entered at s from the frames outer -/
def l1Cx (P : Program) (w : World) (K : PySem.W.Frag) (mg : Str → Option Value) (base : Heap) (A : Around) (outer : List Env) (s : Shared) (H : Hp) (q : Str) (scope : Scope) (f c' : Addr) (a : Str) : Cx where
  prog := P
  w := w
  K := K
  mg := mg
  base := base
  A := A.deeper (l1Env q scope s.heap.objs.size f c')
  N := [a]
  s_0 := s
  H_0 := H
  env := l1Env q scope s.heap.objs.size f c'
  outer := outer
  stack := l1Env q scope s.heap.objs.size f c' :: outer
  ex := []
  fn := fun _ => true
  calm := true
  pn := []
  xe := fun _ _ => False
section
variable {P : Program} {w : World} {K : PySem.W.Frag} {mg : Str → Option Value} {base : Heap} {A : Around} {outer : List Env} {s : Shared} {H : Hp} {q a : Str} {scope : Scope} {f c' : Addr} {v : V} {u : Value}
theorem l1_start {h₁ : Heap} {tk : Nat} (L : L1 scope a) (e0 : Env0 P w K mg base A outer s H) (hd : A.handled = none) (rv : RelV v u) (hns : h₁.Ns s.heap.objs.size fun y => [(a, u)].reverse.lookup y) (kp : ∀ b o, s.heap.get? b = some o → h₁.get? b = some o) :
    Inv (l1Cx P w K mg base A outer s H q scope f c' a) [] [some v] H { s with heap := h₁, toks := tk } := by
  have noA : ∀ b : Addr, b ∉ (l1Cx P w K mg base A outer s H q scope f c' a).ex := fun b z => absurd (show b ∈ ([] : List Addr) from z) (by simp)
  have noC : ∀ (x : Str) (c : Addr), (l1Cx P w K mg base A outer s H q scope f c' a).env.cells.lookup x = some c → False := fun x c e => by
    have e : ([] : List (Str × Addr)).lookup x = some c := e
    cases e
  have kindA : ∀ x : Str, scope.names.lookup x = (if x == a then some NameKind.local else none) := fun x => by
    rw [L.names]
    simp only [List.lookup]
    cases (x == a) <;> rfl
  refine ⟨⟨e0.mod, L.kind, rfl, rfl, Nat.le_refl _, fun x y c e1 e2 => (noC x c e1).elim, fun x hx => ?_, fun x c _ e => (noC x c e).elim, fun _ => hd, Around.frames_deeper e0.frames, .inr ⟨rfl, rfl⟩, fun b z => absurd z (noA b), e0.bs, e0.bsz, fun b _ _ => noA b,
      fun b z => absurd z (noA b), e0.funs, e0.frf⟩,
    rfl, e0.bare, Un.kept kp, ⟨_, hns, fun i y v' e1 e2 e3 => ?_⟩, fun x c e => (noC x c e).elim, e0.hok.fresh (Nat.le_refl _), fun x c e => (noC x c e).elim, fun p hp => absurd (show p ∈ ([] : List (Addr × Obj)) ++ [] from hp) (by simp), e0.hok.kept kp, rfl⟩
  · have hx : scope.names.lookup x = some .cell ∨ scope.names.lookup x = some .free := hx
    rw [kindA] at hx
    split at hx <;> rcases hx with h | h <;> cases h
  · have e1 : [a][i]? = some y := e1
    have e2 : [some v][i]? = some (some v') := e2
    cases i with
    | succ i => simp at e1
    | zero =>
      simp at e1 e2
      subst e1
      subst e2
      refine ⟨u, rv, .inl ⟨?_, by simp⟩⟩
      show scope.names.lookup a = some .local
      rw [kindA]
      simp
theorem l1_call {params : Arguments} {body : Expr} {pm ctv : Value} {tb : TE} {Q : VK} (L : L1 scope a) (e0 : Env0 P w K mg base A outer s H) (hd : A.handled = none) (hdp : A.depth < recursionLimit)
    (hf : s.heap.get? f = some (PySem.W.kla_obj "<lambda>" q params body scope [] pm c' ctv)) (hc : H c' = some (CodeO c' q)) (hbind : ∀ u, bindArgs (PySem.W.kla_fn "<lambda>" q params body scope [] pm (.ref c') ctv) ⟨[u], []⟩ = pure [(a, u)])
    (rv : RelV v u) (hbody : PE (l1Cx P w K mg base A outer s H q scope f c' a) body tb) (ht : tb [some v] H Q) :
    wpAny (model P w) A (call (.ref f) [u]) (CE outer P w H s Q) (fun _ _ => False) s := by
  obtain ⟨⟨oc, vs, t, hoc, hdc, hvc⟩, _, _⟩ := e0.hok c' _ hc
  have rc : codeAny (model P w) A (.call (.ref f) ⟨[u], []⟩) (fun r s' => match r with
      | .ok (.ret u') => CE outer P w H s Q u' s'
      | _ => False) s := by
    refine PySem.W.kla_callFunE hdp hf rfl L.co L.gen rfl ⟨c', oc, vs, t, rfl, hoc, hdc, hvc⟩ ?_
    rw [hbind]
    have nl : s.heap.NoLimit := e0.mod.nolimit.keeps fun b o e => (e0.bs b o e).1
    refine wpAny_pure (wpAny_newFunctionEnv (fun y hy => ?_) (fun y hy => ?_) (fun h₁ hns hsb => ⟨nl.fresh _ hsb, ?_⟩) L.kind)
    · have hy : y ∈ scope.names := hy
      rw [L.names, List.mem_singleton] at hy
      rw [hy]
      exact fun z => nomatch z
    · rw [List.mem_singleton] at hy
      show scope.names.lookup y.1 = some .local
      rw [hy, L.names]
      simp [List.lookup]
    · show codeAny _ _ (.expr body (l1Env q scope s.heap.objs.size f c')) _ _
      have kp : ∀ b o, s.heap.get? b = some o → h₁.get? b = some o := fun b o e => hsb.extBut b o (Nat.ne_of_lt (Heap.lt_size e)) (Heap.get?_push_of_some _ e)
      have J : Inv (l1Cx P w K mg base A outer s H q scope f c' a) [] [some v] H { s with heap := h₁, toks := s.toks + ([(a, u)] : List (Str × Value)).length } := l1_start L e0 hd rv hns kp
      refine PySem.W.kla_codeExpr (wpAny_mono (hbody.run [] _ _ H Q J ht) (fun v' s' hq => ?_) fun e s' hq => hq.elim)
      obtain ⟨w', H', J', rv', q'⟩ := hq
      exact ⟨w', H', J'.os, J'.bare, J'.base, J'.hok, rv', q'⟩
  refine wpAny_call (codeAny_mono rc fun r s' hq => ?_)
  cases r with
  | error e => exact hq.elim
  | ok fl =>
    cases fl with
    | ret u => exact hq
    | next => exact False.elim hq
    | brk => exact False.elim hq
    | cont => exact False.elim hq
end
end LM
namespace LM
open PySem PySem.Spec PyProof.Rows L2 LamX
section
variable {X : Cx} {pins : List (Addr × Obj)} {σ : L2.St} {H : Hp} {s : Shared}
/-- what the making leaves of the heap: as it was, or the table has grown by a new code object -/
def Grown (H : Hp) (P : Addr) (q : Str) (H1 : Hp) : Prop := H1 = H ∨ ∃ ps more c0, H P = some (.tbl ps) ∧ H c0 = none ∧ H1 = upd (upd H P (.tbl (ps ++ more))) c0 (CodeO c0 q)
theorem cloFrom_none {cells : List (Str × Addr)} : ∀ (l : List (Str × NameKind)), (∀ y ∈ l, y.2 ≠ .free) → ∀ acc, cloFrom cells l acc = acc
  | [], _, _ => rfl
  | (n, k) :: r, h, acc => by
    have hk : (k == NameKind.free) = false := by
      have := h (n, k) List.mem_cons_self
      cases k <;> first | rfl | exact absurd rfl this
    rw [cloFrom, hk]
    exact cloFrom_none r (fun y hy => h y (List.mem_cons_of_mem _ hy)) acc
theorem l1_make {c P : Addr} {params : Arguments} {body : Expr} {scope : Scope} {a q : Str} {lpos : Pos} {E : Value → Shared → Prop} {Q : Value → Shared → Prop} (I : Inv X pins σ H s) (L : L1 scope a) (TB : TabB X.base X.mg c P) (hcode : X.env.code = .ref c) (hq : q = X.env.qual ++ "<lambda>")
    (hT : TabS H P q) (hdef : defaultsOf params X.env = ([], []))
    (h : ∀ (f c' : Addr) (pm ctv : Value) (H1 : Hp) (s' : Shared), Inv X pins σ H1 s' → Grown H P q H1 → TabS H1 P q →
      s'.heap.get? f = some (PySem.W.kla_obj "<lambda>" q params body scope [] pm c' ctv) → H1 f = none → f ≠ X.env.locals → f ∉ X.fs → H1 c' = some (CodeO c' q) → Q (.ref f) s') :
    wpAny (model X.prog X.w) X.A (eval (.Lambda params body scope lpos) X.env) Q E s := by
  have nofree : ∀ y ∈ scope.names, y.2 ≠ .free := fun y hy z => by
    rw [L.names, List.mem_singleton] at hy
    rw [hy] at z
    cases z
  have hclo : cloFrom X.env.cells scope.names [] = [] := cloFrom_none _ nofree _
  have hcl := closure_ok (env := X.env) (scope := scope) fun y hy z => absurd z (nofree y hy)
  rw [hclo] at hcl
  obtain ⟨ps, hP, ht, ha⟩ := hT
  have atP := I.hok P _ hP
  have lim : ∀ {f : Addr}, s.heap.objs.size ≤ f → f ≠ X.env.locals ∧ f ∉ X.fs := fun {f} hf => ⟨Nat.ne_of_gt (Nat.lt_of_lt_of_le I.lt hf), I.nofs hf⟩
  refine PySem.W.kla_eval hdef ?_
  subst hq
  have made := PySem.W.kla_makeFunction (M := model X.prog X.w) (A := X.A) (E := E) (s := s) (name := "<lambda>") (qual := X.env.qual ++ "<lambda>") (params := params) (body := body) (mg := X.mg) (c := c) (P := P) (ps := ps) (pos := lpos) (firstLine := lpos.line) (Q := Q) hcl I.ok.glob (I.mod.glob.keeps I.bk) hcode (TB.code.keeps I.bk) atP ht
  have found := fun cv => PySem.W.kla_makeFunctionHit (cv := cv) (M := model X.prog X.w) (A := X.A) (E := E) (s := s) (name := "<lambda>") (qual := X.env.qual ++ "<lambda>") (params := params) (body := body) (mg := X.mg) (c := c) (P := P) (ps := ps) (pos := lpos) (firstLine := lpos.line) (Q := Q) (clos := []) hcl I.ok.glob (I.mod.glob.keeps I.bk) hcode (TB.code.keeps I.bk) atP ht
  cases hc : codeAmong lpos ps.toList with
  | some cv =>
    obtain ⟨c0, rfl, hco⟩ := ha lpos cv hc
    refine found _ hc (TB.bm.keeps I.bk) fun ctv h' tk hx hsz => ?_
    obtain ⟨n1, n2⟩ := lim hsz
    have I1 : Inv X pins σ H { s with heap := h'.push (PySem.W.kla_obj "<lambda>" (X.env.qual ++ "<lambda>") params body scope [] ((X.mg "__name__").getD .none) c0 ctv), toks := tk } := I.kept fun b o z => Heap.get?_push_of_some _ (hx b o z)
    exact h h'.objs.size c0 _ ctv H _ I1 (.inl rfl) ⟨ps, hP, ht, ha⟩ (Heap.get?_push_size _ rfl) (I.hok.fresh hsz) n1 n2 hco
  | none =>
    refine made hc TB.gP (TB.bm.keeps I.bk) fun c0 ctv h' tk hx hge hlt hrec htb => ?_
    obtain ⟨c2, oc, vs, t, e2, hoc, hd, hv⟩ := hrec
    cases e2
    have big := Nat.le_trans hge (Nat.le_of_lt hlt)
    have free0 : H c0 = none := I.hok.fresh hge
    have nPc : P ≠ c0 := ne_of_none hP free0
    have eL : (ps ++ #[rawInt lpos.line, rawInt lpos.col, .ref c0]).toList = ps.toList ++ [rawInt lpos.line, rawInt lpos.col, .ref c0] := by simp
    have I1 := inv_table (t' := tk) (q := X.env.qual ++ "<lambda>") (more := #[rawInt lpos.line, rawInt lpos.col, .ref c0]) (h' := h'.push (PySem.W.kla_obj "<lambda>" (X.env.qual ++ "<lambda>") params body scope [] ((X.mg "__name__").getD .none) c0 ctv)) I hP
      (fun b o nb z => Heap.get?_push_of_some _ (hx b o nb z)) (Heap.get?_push_of_some _ htb) hge ⟨oc, vs, t, Heap.get?_push_of_some _ hoc, hd, hv⟩
    obtain ⟨n1, n2⟩ := lim big
    refine h h'.objs.size c0 _ ctv _ _ I1 (.inr ⟨ps, _, c0, hP, free0, rfl⟩) ⟨_, by rw [upd_ne nPc, upd_same], ?_, fun p' cv hcv => ?_⟩ (Heap.get?_push_size _ rfl) ?_ n1 n2 upd_same
    · rw [eL]
      exact PySem.TriplesOk_snoc _ _ _ _ ht
    · rw [eL] at hcv
      rcases among_app _ ht hcv with z | z
      · obtain ⟨c1, y1, y2⟩ := ha p' cv z
        refine ⟨c1, y1, ?_⟩
        rw [upd_ne (ne_of_none y2 free0), upd_ne (fun w => by rw [w, hP] at y2; exact codeO_ne ps (Option.some.inj y2).symm)]
        exact y2
      · exact ⟨c0, z, upd_same⟩
    · rw [upd_ne (Nat.ne_of_gt hlt), upd_ne (Nat.ne_of_gt (Nat.lt_of_lt_of_le (Heap.lt_size (show s.heap.get? P = some _ from atP)) big))]
      exact I.hok.fresh big
end
end LM
set_option Elab.async false
set_option linter.all false
set_option maxRecDepth 100000
set_option maxHeartbeats 4000000
namespace PD
open PySem PySem.Spec PyProof.Rows L2
/-! ### sorted by a key that a lambda tells -/
def srtBy (key : D → D) (ds : List D) : List D := ds.mergeSort fun d e => leD (key d) (key e)
theorem sort_by (key : D → D) (ps : List (V × D)) : (ps.mergeSort (PySem.W.dataLe false fun p => (key p.2).pd)).map (·.2) = srtBy key (ps.map (·.2)) := by
  unfold srtBy
  rw [← List.map_mergeSort (r := PySem.W.dataLe false fun p : V × D => (key p.2).pd) (s := fun d e => leD (key d) (key e)) (f := fun p : V × D => p.2)]
  intro a _ b _
  rfl
/-- all objects but three -/
def allBut (g h : Heap) (L a b : Addr) : List (Addr × Obj) := (allNews g h L).filter fun p => decide (p.1 ≠ a) && decide (p.1 ≠ b)
theorem mem_allBut {g h : Heap} {L a b x : Addr} {o : Obj} (h1 : x ≠ L) (h2 : g.get? x = none) (h3 : h.get? x = some o) (ha : x ≠ a) (hb : x ≠ b) : (x, o) ∈ allBut g h L a b :=
  List.mem_filter.mpr ⟨mem_allNews h1 h2 h3, by simp [ha, hb]⟩
theorem of_mem_allBut {g h : Heap} {L a b : Addr} {p : Addr × Obj} (hp : p ∈ allBut g h L a b) : p.1 ≠ L ∧ g.get? p.1 = none ∧ h.get? p.1 = some p.2 ∧ p.1 ≠ a ∧ p.1 ≠ b := by
  obtain ⟨m, q⟩ := List.mem_filter.mp hp
  obtain ⟨h1, h2, h3⟩ := of_mem_allNews m
  simp only [Bool.and_eq_true, decide_eq_true_eq] at q
  exact ⟨h1, h2, h3, q.1, q.2⟩
section
variable {X : Cx} {pins : List (Addr × Obj)} {σ : L2.St} {H : Hp} {s : Shared}
/-- an address that is new from here on -/
structure NewA (X : Cx) (pins : List (Addr × Obj)) (a : Addr) : Prop where
  ge : X.s_0.heap.objs.size ≤ a
  loc : a ≠ X.env.locals
  cell : ∀ x c, X.env.cells.lookup x = some c → c ≠ a
  pin : ∀ p ∈ X.pn ++ pins, p.1 ≠ a
  fs : a ∉ X.fs
theorem NewA.of {a : Addr} (I : Inv X pins σ H s) (h : s.heap.objs.size ≤ a) : NewA X pins a := by
  refine ⟨Nat.le_trans I.sz h, Nat.ne_of_gt (Nat.lt_of_lt_of_le I.lt h), fun x c e z => ?_, fun p hp z => ?_, I.nofs h⟩
  · obtain ⟨v, o, ho, _⟩ := I.cell x c e
    exact absurd (Heap.lt_size ho) (by rw [z]; exact Nat.not_lt.mpr h)
  · exact absurd (Heap.lt_size (I.pin p hp).1) (by rw [z]; exact Nat.not_lt.mpr h)
theorem NewA.turn {a : Addr} {h' : Heap} {t' : Nat} (N : NewA X pins a) (I : Inv X pins σ H s) (hn : H a = none) (k : ∀ b o, b ≠ a → s.heap.get? b = some o → h'.get? b = some o) : Inv X pins σ H { s with heap := h', toks := t' } :=
  I.turned k hn N.loc (.inr N.ge) N.cell N.pin
theorem pin_more {ps : List (Addr × Obj)} (I : Inv X pins σ H s) (h : ∀ p ∈ ps, s.heap.get? p.1 = some p.2 ∧ H p.1 = none ∧ p.1 ≠ X.env.locals ∧ p.1 ∉ X.fs ∧ ∀ v, p.2.data ≠ .cell v) : Inv X (ps ++ pins) σ H s :=
  I.pins_of fun p hp => (List.mem_append.mp hp).elim (h p) fun z => I.pin p (List.mem_append_right _ z)
theorem pin_less {ps : List (Addr × Obj)} (I : Inv X (ps ++ pins) σ H s) : Inv X pins σ H s :=
  I.pins_of fun p hp => I.pin p (List.mem_append_right _ (List.mem_append_right _ hp))
theorem sorted_key_run {l f : Addr} {xs : List V} {ds : List D} {key : D → D} {lo : Obj} {Q : VK} {G : Hp → Prop} {S : Addr → Prop} (I : Inv X pins σ H s) (hs : SqL X.K H l xs) (ra : RpA X.K H xs ds) (st : Srt (ds.map key)) (hu : X.A.units + 40 < cLine)
    (hf : s.heap.get? f = some lo) (hlo : ∀ xs n, lo ≠ seqObj "list" xs n) (hlc : ∀ v, lo.data ≠ .cell v) (hfn : H f = none) (hfL : f ≠ X.env.locals) (hfs : f ∉ X.fs) (g0 : G H)
    (turn : ∀ d ∈ ds, ∀ (pins' : List (Addr × Obj)) (s' : Shared) (H' : Hp) (v : V) (u : Value), Inv X pins' σ H' s' → G H' → s'.heap.get? f = some lo → Rp X.K H' v d → RelV v u →
      wpAny (model X.prog X.w) X.A.in1.in1 (call (.ref f) [u]) (EP X pins' σ fun w' H2 => G H2 ∧ Fr S H' H2 ∧ Rp X.K H2 w' (key d)) (fun _ _ => False) s')
    (fin : ∀ (H' : Hp) (ys : List V) (p : Addr), G H' → Fr S H H' → H' p = none → RpA X.K H' ys (srtBy key ds) → Q (.ref p) (upd H' p (.lst ys))) :
    wpAny (model X.prog X.w) X.A (call (.builtin "sorted") [.ref l] [(Str.ofString "key", .ref f)]) (EP X pins σ Q) X.xe s := by
  obtain ⟨its, rv, hl, hz⟩ := I.list hs
  have hlen := rv.length
  have hL : its.length ≤ sizeLine := by rw [← hlen]; exact hz
  refine PySem.W.sorted_of_sort hl.isList hL (PyProof.Rows.ksk_s1 _ _) (fun _ => PyProof.Rows.ksk_l1 _ _) fun E' => ?_
  rw [PyProof.Rows.ksk_t1]
  -- the copy, emptied; the items' tuple; the keys' list
  have IC : Inv X pins σ H { s with heap := PySem.W.copyHeap s.heap its } := I.kept fun b o e => PySem.W.copyHeap_old e
  have hA := PySem.W.copyHeap_at s.heap its
  have NA : NewA X pins (s.heap.objs.size + 1) := .of I (Nat.le_succ _)
  have hAn : H (s.heap.objs.size + 1) = none := I.hok.fresh (Nat.le_succ _)
  generalize hAe : s.heap.objs.size + 1 = a at hA NA hAn ⊢
  obtain ⟨e1, ho1⟩ : ∃ e1, ((PySem.W.copyHeap s.heap its).update a (Obj.mapSeq fun _ => #[])).get? a = some (seqObj "list" #[] e1) := ⟨_, get?_update_seq hA (fun _ => #[])⟩
  have s1 := Heap.SameBut.update (PySem.W.copyHeap s.heap its) a (Obj.mapSeq fun _ => (#[] : Array Value))
  unfold ksk_tree
  refine wpAny_bind (listItems_at hA rfl ?_)
  refine wpAny_bind (listUpdate_at hA rfl ?_ (by rw [List.size_toArray]; exact hL) (Nat.zero_le _))
  refine wpAny_bind (seqEpoch_at ho1 rfl ?_)
  refine wpAny_bind (wpAny_newTuple ?_ (by show its.length ≤ _; exact hL))
  refine wpAny_bind (wpAny_newList ?_ (Nat.zero_le _))
  refine wpAny_holding ?_
  have I1 : Inv X pins σ H { s with heap := (PySem.W.copyHeap s.heap its).update a (Obj.mapSeq fun _ => #[]) } := NewA.turn (s := { s with heap := PySem.W.copyHeap s.heap its }) (t' := s.toks) NA IC hAn fun b o hb e => (s1.2 b hb).trans e
  have I2 : Inv X pins σ H { s with heap := ((PySem.W.copyHeap s.heap its).update a (Obj.mapSeq fun _ => #[])).push (seqObj "tuple" its.toArray 0) } := I1.kept (t' := s.toks) fun b o e => Heap.get?_push_of_some _ e
  have NK := NewA.of I2 (Nat.le_refl _)
  have hKn := I2.hok.fresh (Nat.le_refl _)
  have I3 : Inv X pins σ H { s with heap := (((PySem.W.copyHeap s.heap its).update a (Obj.mapSeq fun _ => #[])).push (seqObj "tuple" its.toArray 0)).push (seqObj "list" #[] 0) } := I2.kept (t' := s.toks) fun b o e => Heap.get?_push_of_some _ e
  have hK3 : ((((PySem.W.copyHeap s.heap its).update a (Obj.mapSeq fun _ => #[])).push (seqObj "tuple" its.toArray 0)).push (seqObj "list" #[] 0)).get? (((PySem.W.copyHeap s.heap its).update a (Obj.mapSeq fun _ => #[])).push (seqObj "tuple" its.toArray 0)).objs.size = some (seqObj "list" #[] 0) := Heap.get?_push_size _ rfl
  have hA3 : ((((PySem.W.copyHeap s.heap its).update a (Obj.mapSeq fun _ => #[])).push (seqObj "tuple" its.toArray 0)).push (seqObj "list" #[] 0)).get? a = some (seqObj "list" #[] e1) := Heap.get?_push_of_some _ (Heap.get?_push_of_some _ ho1)
  have hfa : f ≠ a := fun z => by
    have h1 := Heap.lt_size hf
    rw [z, ← hAe] at h1
    exact absurd h1 (Nat.not_lt.mpr (Nat.le_succ _))
  have hf3 : ((((PySem.W.copyHeap s.heap its).update a (Obj.mapSeq fun _ => #[])).push (seqObj "tuple" its.toArray 0)).push (seqObj "list" #[] 0)).get? f = some lo := Heap.get?_push_of_some _ (Heap.get?_push_of_some _ ((s1.2 f hfa).trans (PySem.W.copyHeap_old hf)))
  have hKa : (((PySem.W.copyHeap s.heap its).update a (Obj.mapSeq fun _ => #[])).push (seqObj "tuple" its.toArray 0)).objs.size ≠ a := by
    rw [size_push']
    exact Nat.ne_of_gt (Nat.lt_succ_of_lt (Heap.lt_size ho1))
  generalize (((PySem.W.copyHeap s.heap its).update a (Obj.mapSeq fun _ => #[])).push (seqObj "tuple" its.toArray 0)).objs.size = kS at NK hKn hK3 hKa ⊢
  generalize (((PySem.W.copyHeap s.heap its).update a (Obj.mapSeq fun _ => #[])).push (seqObj "tuple" its.toArray 0)).push (seqObj "list" #[] 0) = h3 at I3 hK3 hA3 hf3 ⊢
  have hfK : f ≠ kS := fun z => by
    rw [← z, hf3] at hK3
    exact hlo _ _ (Option.some.inj hK3)
  -- the keys, one by one
  have fixed : ∀ {H' : Hp} {h' : Heap} {kA : Array Value} {e : Nat}, h'.get? kS = some (seqObj "list" kA e) → h'.get? a = some (seqObj "list" #[] e1) → h'.get? f = some lo → H' kS = none → H' a = none → H' f = none →
      ∀ p ∈ [(kS, seqObj "list" kA e), (a, seqObj "list" #[] e1), (f, lo)], h'.get? p.1 = some p.2 ∧ H' p.1 = none ∧ p.1 ≠ X.env.locals ∧ p.1 ∉ X.fs ∧ ∀ v, p.2.data ≠ .cell v := by
    intro H' h' kA e q1 q2 q3 n1 n2 n3 p hp
    rcases List.mem_cons.mp hp with rfl | hp
    · exact ⟨q1, n1, NK.loc, NK.fs, fun v z => by cases z⟩
    · rcases List.mem_cons.mp hp with rfl | hp
      · exact ⟨q2, n2, NA.loc, NA.fs, fun v z => by cases z⟩
      · rw [List.mem_singleton.mp hp]
        exact ⟨q3, n3, hfL, hfs, hlc⟩
  unfold ksk_rest
  refine wpAny_bind (wpAny_rule ?_)
  first
    | rw [List.forIn_toArray]
    | (rw [← Array.forIn_toList]; simp only [List.toList_toArray])
    | rw [← Array.forIn_toList]
  refine wpAny_bind (ksk_fold (fun i s' => ∃ (H' : Hp) (kA : Array Value) (e : Nat) (kvs : List V), Inv X pins σ H' s' ∧ G H' ∧ Fr S H H' ∧ s'.heap.get? kS = some (seqObj "list" kA e) ∧ s'.heap.get? a = some (seqObj "list" #[] e1) ∧ s'.heap.get? f = some lo ∧
      H' kS = none ∧ H' a = none ∧ H' f = none ∧ Vals kvs kA.toList ∧ RpA X.K H' kvs ((ds.map key).take i)) its 0 _
    ⟨H, #[], 0, [], I3, g0, Fr.refl, hK3, hA3, hf3, hKn, hAn, hfn, .nil, by rw [List.take_zero]; exact .nil⟩ ?step ?done)
  case step =>
    rintro j x s' hx ⟨H', kA, e, kvs, I', g', f', q1, q2, q3, n1, n2, n3, kv, kr⟩
    simp only [Nat.zero_add] at kr ⊢
    have hj : j < its.length := (List.getElem?_eq_some_iff.mp hx).1
    obtain ⟨v, hv, rvx⟩ : ∃ v, xs[j]? = some v ∧ RelV v x := by
      obtain ⟨u, h1, h2⟩ := Vals.get (i := j) rv (List.getElem?_eq_getElem (by omega))
      rw [hx] at h1
      cases h1
      exact ⟨_, List.getElem?_eq_getElem (by omega), h2⟩
    obtain ⟨d, hd, rd⟩ := ra.getV hv
    have Ip := pin_more I' (fixed q1 q2 q3 n1 n2 n3)
    have hz : kA.size ≤ its.length := by
      have h1 : kvs.length = kA.size := by rw [Vals.length kv, Array.length_toList]
      have h2 : kvs.length = ((ds.map key).take j).length := RpA.len kr
      have h3 : ((ds.map key).take j).length ≤ (ds.map key).length := List.length_take_le' ..
      have h4 : xs.length = ds.length := RpA.len ra
      rw [List.length_map] at h3
      omega
    refine wpAny_bind (wpAny_attempt (wpAny_mono (turn d (List.mem_of_getElem? hd) _ s' H' v x Ip g' q3 (rd.fr f') rvx) (fun v' s'' he => ?_) fun _ _ hF => hF.elim))
    obtain ⟨kvv, H2, Ip2, rk, g2, f2, rkey⟩ := he
    try dsimp only
    have p1 := Ip2.pin (kS, seqObj "list" kA e) (by simp)
    have p2 := Ip2.pin (a, seqObj "list" #[] e1) (by simp)
    have p3 := Ip2.pin (f, lo) (by simp)
    have I4 := pin_less Ip2
    have sb := Heap.SameBut.update s''.heap kS (Obj.mapSeq (·.push v'))
    obtain ⟨c2, hc2⟩ : ∃ c2, (s''.heap.update kS (Obj.mapSeq (·.push v'))).get? kS = some (seqObj "list" (kA.push v') c2) := ⟨_, get?_update_seq p1.1 (·.push v')⟩
    refine wpAny_bind (listUpdate_at p1.1 rfl ?_ (Nat.le_trans hz hL) (Nat.le_trans (Nat.le_of_eq (Array.size_push ..)) (Nat.succ_le_succ (Nat.le_trans hz hL))))
    have I5 : Inv X pins σ H2 { s'' with heap := s''.heap.update kS (Obj.mapSeq (·.push v')) } := NewA.turn (s := s'') (t' := s''.toks) NK I4 p1.2.1 fun b o hb q => (sb.2 b hb).trans q
    refine wpAny_pure ⟨rfl, H2, kA.push v', c2, kvs ++ [kvv], I5, g2, f'.trans f2, hc2, (sb.2 a (Ne.symm hKa)).trans p2.1, (sb.2 f hfK).trans p3.1, p1.2.1, p2.2.1, p3.2.1, ?_, ?_⟩
    · rw [Array.toList_push]
      exact kv.append (.cons rk .nil)
    · rw [show (ds.map key).take (j + 1) = (ds.map key).take j ++ [key d] by rw [List.take_add_one, List.getElem?_map, hd]; rfl]
      exact (kr.fr f2).append (.cons rkey .nil)
  case done =>
    rintro s' ⟨H', kA, e, kvs, I', g', f', q1, q2, q3, n1, n2, n3, kv, kr⟩
    have hdl := ra.len
    rw [List.take_of_length_le (by rw [List.length_map]; omega)] at kr
    have hsz : kA.size = its.length := by
      have h1 : kvs.length = kA.size := by rw [Vals.length kv, Array.length_toList]
      have h2 : kvs.length = (ds.map key).length := RpA.len kr
      rw [List.length_map] at h2
      omega
    have ek := each_reads I' (h' := s'.heap) (fun b o z => z) kr st.pl kv
    have al := st.al
    have so := st.so
    rw [pds_map] at al so
    try dsimp only
    refine wpAny_bind (listItems_at q1 rfl ?_)
    obtain ⟨m, F0⟩ := I'.fr
    refine PySem.W.key_end (e := e) (κ := PySem.W.dataKind s'.heap ((ds.map key).map D.pd)) (h₀ := X.base) (L := X.env.locals) (m := m) (news := allBut X.base s'.heap X.env.locals kS a) F0 (fun p hp => ?_) hKa (fun p hp => (of_mem_allBut hp).2.2.2.1) (fun p hp => (of_mem_allBut hp).2.2.2.2)
      (PySem.W.SortsAt.data (s := s') ek al so fun d0 hd0 => ?_) hsz hL fun h' tk c F N => ?_
    · rcases List.mem_append.mp hp with hp | hp
      · obtain ⟨a1, a2, a3, _⟩ := of_mem_allBut hp
        exact ⟨a3, a1, a2⟩
      · have nb : ∀ b, X.s_0.heap.objs.size ≤ b → X.base.get? b = none := fun b hb => Heap.get?_none_of_le (Nat.le_trans I.ok.bsz hb)
        rcases List.mem_cons.mp hp with rfl | hp
        · exact ⟨q1, NK.loc, nb _ NK.ge⟩
        · rw [List.mem_singleton.mp hp]
          exact ⟨q2, NA.loc, nb _ NA.ge⟩
    · obtain ⟨d1, hd1, rfl⟩ := List.mem_map.mp hd0
      have := st.dp d1 hd1
      have h2 : X.A.in1.in1.units = X.A.units + 2 := rfl
      rw [h2]
      omega
    · -- what came of it
      have keep : ∀ b o, b ≠ X.env.locals → b ≠ kS → b ≠ a → s'.heap.get? b = some o → h'.get? b = some o := fun b o h1 h2 h3 q => by
        cases z : X.base.get? b with
        | some w =>
          have e0 := I'.bk b w z
          rw [q] at e0
          cases e0
          exact F.keep b _ z
        | none => exact (N (b, o) (List.mem_cons_of_mem _ (mem_allBut h1 z q h2 h3))).1
      have hA' := (N _ List.mem_cons_self).1
      have hm : (xs.zip ds).map (fun p : V × D => (key p.2).pd) = (ds.map key).map D.pd := by
        rw [List.map_map, show (fun p : V × D => (key p.2).pd) = (D.pd ∘ key) ∘ (fun p : V × D => p.2) from rfl, ← List.map_map, zip_snd ra]
      have kd := PySem.W.keyedOut_each (rev := false) (R := fun u (p : V × D) => RelV p.1 u ∧ Rp X.K H' p.1 p.2) (bs := xs.zip ds) (vs := its) (fun p : V × D => (key p.2).pd)
        (out := PySem.W.sortVals (PySem.W.dataKind s'.heap ((ds.map key).map D.pd)) false kA.toList its) ⟨_, kA.toList, by
          rw [hm]
          exact al, by rw [hm], by
          rw [hm]
          exact ek⟩ (each_pairs (ra.fr f') rv)
      obtain ⟨k1, k2⟩ := pairs_each kd
      rw [sort_by, zip_snd ra] at k2
      have hl2 : (((xs.zip ds).mergeSort (PySem.W.dataLe false fun p => (key p.2).pd)).map (·.1)).length ≤ sizeLine := by
        rw [List.length_map, List.length_mergeSort, List.length_zip]
        exact Nat.le_trans (Nat.min_le_left _ _) hz
      have ne : ∀ b w, H' b = some w → b ≠ kS ∧ b ≠ a ∧ b ≠ X.env.locals := fun b w q => ⟨ne_of_none q n1, ne_of_none q n2, ne_of_none q I'.free⟩
      refine ⟨rfl, .ref a, upd H' a (.lst _), ?_, rfl, fin H' _ a g' f' n2 k2⟩
      refine I'.step (h' := h') (g' := s'.gens) (d' := s'.drawn) (t' := tk) (ch := [kS, a]) (fun b hb => ?_) (fun b o h1 h2 h3 q n => ?_) (fun b o h1 h2 h3 q n => ?_) (fun b o h3 q n => ?_) (fun b o h3 q => ?_) (fun b ys q => ?_) (fun b o u q => ?_) (fun b ps q => ?_) (fun m' hm' => ?_) (fun b w q => ?_) I'.bare
      · rcases List.mem_cons.mp hb with rfl | hb
        · exact ⟨.inr NK.ge, NK.loc, NK.cell, NK.pin⟩
        · rw [List.mem_singleton.mp hb]
          exact ⟨.inr NA.ge, NA.loc, NA.cell, NA.pin⟩
      · exact keep b o h1 (fun z => h3 (by simp [z])) (fun z => h3 (by simp [z])) q
      · exact ⟨o.slots, keep b o h1 (fun z => h3 (by simp [z])) (fun z => h3 (by simp [z])) q⟩
      · rw [upd_ne (fun z => h3 (by simp [z]))]
        exact n
      · by_cases hb : b = X.env.locals
        · obtain ⟨o', _, _, ho', _⟩ := F.ns
          exact ⟨o', by rw [hb]; exact ho'⟩
        · exact ⟨o, keep b o hb (fun z => h3 (by simp [z])) (fun z => h3 (by simp [z])) q⟩
      · rw [upd_ne (ne b _ q).2.1]; exact q
      · rw [upd_ne (ne b _ q).2.1]; exact q
      · exact ⟨#[], by rw [upd_ne (ne b _ q).2.1, q]; simp⟩
      · have e1 := hm'.eq_nsMap
        have e2 := F0.ns.eq_nsMap
        rw [e1, ← e2]
        exact F.ns
      · by_cases hb : b = a
        · subst hb
          rw [upd_same] at q
          cases q
          exact ⟨hl2, _, c, k1, hA'⟩
        · rw [upd_ne hb] at q
          refine (I'.hok b w q).stay (fun c0 v0 hc q0 => keep c0 v0 ?_ ?_ ?_ q0) (fun c0 q0 => by rw [upd_ne (ne c0 _ q0).2.1]; exact q0) fun c0 ys q0 => by rw [upd_ne (ne c0 _ q0).2.1]; exact q0
          · rcases hc with rfl | hc
            · exact (ne _ _ q).2.2
            · exact (ne _ _ hc).2.2
          · rcases hc with rfl | hc
            · exact (ne _ _ q).1
            · exact (ne _ _ hc).1
          · rcases hc with rfl | hc
            · exact (ne _ _ q).2.1
            · exact (ne _ _ hc).2.1
end
end PD
set_option Elab.async false
set_option linter.all false
set_option maxRecDepth 100000
set_option maxHeartbeats 4000000
namespace PD
open PySem PySem.Spec PyProof.Rows L2
/-! ### sorted(xs, key=lambda x: ..) -/
/-- the table of the def's lambda, among what calls may change -/
structure LamZ (Z : Vol) (P : Addr) (q : Str) : Prop where
  tab : ∀ b H, Z.J b H → LamX.TabS H P q
  S : Z.S P
  J : ∀ b H H1, Z.J b H → LM.Grown H P q H1 → LamX.TabS H1 P q → Z.J b H1
theorem grown_fr {M : Addr → Prop} {H H1 : Hp} {P : Addr} {q : Str} (m : M P) (g : LM.Grown H P q H1) : Fr M H H1 := by
  rcases g with rfl | ⟨ps, more, c0, hP, h0, rfl⟩
  · exact Fr.refl
  · intro a o e
    rw [upd_ne (ne_of_none e h0)]
    by_cases z : a = P
    · subst z
      rw [hP] at e
      cases e
      exact .inr ⟨m, _, upd_same, .tb⟩
    · exact .inl (by rw [upd_ne z]; exact e)
/-- what is known of a lambda of one parameter as the text has it -/
structure LamT (X : Cx) (params : Arguments) (body : Expr) (scope : Scope) (a : Str) : Prop where
  L : LM.L1 scope a
  dflt : defaultsOf params X.env = ([], [])
  bind : ∀ (q : Str) (pm cd ctv : Value) (u : Value), bindArgs (PySem.W.kla_fn "<lambda>" q params body scope [] pm cd ctv) ⟨[u], []⟩ = pure [(a, u)]
section
variable {C : Cn} {b : Nat} {δ : List Sl} {P : Nat → Res → Prop} {e body : Expr} {pos p0 lpos kpos : Pos} {params : Arguments} {scope : Scope} {a q : Str} {c T : Addr}
theorem ev_sortLam (key : D → D) (B : Blt C.X) (hr : Room 4 C.X.A) (hcode : C.X.env.code = .ref c) (hq : q = C.X.env.qual ++ "<lambda>") (TB : LamX.TabB C.X.base C.X.mg c T) (LZ : LamZ C.Z T q) (LT : LamT C.X params body scope a)
    (h : EV C b δ e (fun b1 r => ∃ ds, r.seq = some ds ∧ Srt (ds.map key) ∧ P b1 (.ow (srtBy key ds)) ∧
      ∀ d ∈ ds, ∀ (A : Around) (outer : List Env) (s : Shared) (H : Hp) (f c' : Addr), EV ⟨LM.l1Cx C.X.prog C.X.w C.X.K C.X.mg C.X.base A outer s H q scope f c' a, C.Z, H⟩ b1 [.va d] body (fun b' r => b' = b1 ∧ r = .va (key d))))
    (hg : Gl C.X "sorted" := by rfl) (he : backTo pos (starEach [e] C.X.env) = (false, eval e C.X.env) :: backTo pos (starEach [] C.X.env) := by rfl)
    (hsx : starEach [e] C.X.env = (false, eval e C.X.env) :: starEach [] C.X.env := by rfl) (hpl : (backTo pos (starEach [e] C.X.env)).any (·.1) = false := by rfl) :
    EV C b δ (.Call (.Name "sorted" p0) [e] [⟨some "key", .Lambda params body scope lpos, kpos⟩] pos) P := by
  intro os σ H st Q k pins s I
  refine wpAny_Call_Name_kw (ld_blt (u := .builtin "sorted") I hg B.sorted (by decide +kernel) ?_ (by decide) (by decide))
  refine PyProof.Rows.callWith_kw (thn ((pa_cons peW pa_nil hsx).run pos pins s σ H (fun vs H1 => ∃ v b1 r, vs = [v] ∧ Fr C.Z.S H H1 ∧ C.Z.J b1 H1 ∧ RV C.K C.Z os H H1 v r ∧ ∃ ds, r.seq = some ds ∧ Srt (ds.map key) ∧ P b1 (.ow (srtBy key ds)) ∧
      ∀ d ∈ ds, ∀ (A : Around) (outer : List Env) (s : Shared) (H : Hp) (f c' : Addr), EV ⟨LM.l1Cx C.X.prog C.X.w C.X.K C.X.mg C.X.base A outer s H q scope f c' a, C.Z, H⟩ b1 [.va d] body (fun b' r => b' = b1 ∧ r = .va (key d))) I
    (h os σ H st _ fun v H1 b1 r f1 j1 rv hh => ⟨v, b1, r, rfl, f1, j1, rv, hh⟩)) fun us s1 ⟨vs, H1, I1, r1, v, b1, r, ev, f1, j1, rv, ds, hs, sr, hP, hkey⟩ => ?_) he hpl rfl rfl
  subst ev
  obtain ⟨p, xs, rfl, el, ra⟩ := rv.seq_ hs
  rw [Vals.ref1 r1]
  show wpAny _ _ (evalAll [do let v ← eval (.Lambda params body scope lpos) C.X.env; standAt pos; pure v]) _ _ s1
  refine wpAny_evalAll_cons (wpAny_bind ?_)
  refine LM.l1_make (a := a) I1 LT.L TB hcode hq (LZ.tab _ _ j1) LT.dflt fun f c' pm ctv H2 s2 I2 gr tab2 ho hfn hfL hfs hc => ?_
  refine wpAny_bind (wpAny_standAt (wpAny_pure (wpAny_evalAll_nil ?_)))
  show wpAny _ _ (call (.builtin "sorted") [.ref p] [(Str.ofString "key", .ref f)]) _ _ s2
  have f2 : Fr C.Z.S H1 H2 := grown_fr LZ.S gr
  have j2 : C.Z.J b1 H2 := LZ.J _ _ _ j1 gr tab2
  refine sorted_key_run (key := key) (G := fun H' => C.Z.J b1 H' ∧ Fr C.Z.S H2 H') (S := C.Z.S) I2 ((el.fr f2).sq) (ra.fr f2) sr (by have := hr.units; omega) ho (fun xs n z => absurd (Value.type.inj (congrArg Obj.cls z)) (by decide)) (fun v z => by cases z) hfn hfL hfs ⟨j2, Fr.refl⟩ ?_ fun H' ys p' g' f' n' ry => ?_
  · intro d hd pins' s' H' v u I' g' hf' rd ru
    have e0 := I'.env0
    have hc' : H' c' = some (LamX.CodeO c' q) := g'.2.code hc
    refine wpAny_mono (LM.l1_call (tb := WE (LM.l1Cx C.X.prog C.X.w C.X.K C.X.mg C.X.base C.X.A.in1.in1 C.X.stack s' H' q scope f c' a) body) (Q := fun w' H2' => (C.Z.J b1 H2' ∧ Fr C.Z.S H2 H2') ∧ Fr C.Z.S H' H2' ∧ Rp C.K H2' w' (key d)) LT.L e0.in1.in1 hr.hd hr.depth hf' hc' (fun u => LT.bind q pm _ ctv u) ru peW ?_) (fun r' s'' z => I'.after z) fun _ _ z => z
    have ev := hkey d hd C.X.A.in1.in1 C.X.stack s' H' f c'
    refine ev [] [some v] H' ⟨Fr.refl, g'.1, fun p z => (nomatch z), [], List.nodup_nil, fun p z => (nomatch z), ?_⟩ _ fun w' H3 b3 r3 f3 j3 rv3 hr3 => ?_
    · exact Sls.cons (Slot.va rd) .nil
    · obtain ⟨rfl, rfl⟩ := hr3
      cases rv3 with
      | va rv3 => exact ⟨⟨j3, g'.2.trans f3⟩, f3, rv3⟩
  · have fn : Fr C.Z.S H' (upd H' p' (.lst ys)) := Fr.new n'
    exact k _ _ b1 _ (((f1.trans f2).trans f').trans fn) (jnew g'.1 n') (.ow (f1.back (f2.back (f'.back n'))) upd_same (snew g'.1 n') (ry.fr fn)) hP
end
end PD
set_option Elab.async false
set_option linter.all false
set_option maxRecDepth 100000
set_option maxHeartbeats 4000000
namespace PD
open PySem PySem.Spec PyProof.Rows L2
/-! ### sorted(d.items()) -/
def pairsD (kvs : List (Key × D)) : List D := kvs.map fun p => D.tup [kD p.1, p.2]
theorem rp_kV {K : PySem.W.Frag} {H : Hp} (k : Key) : Rp K H (kV k) (kD k) := by
  cases k with
  | inl i => exact .int i
  | inr x => exact .str x
end PD
set_option Elab.async false
set_option linter.all false
set_option maxRecDepth 100000
set_option maxHeartbeats 3200000
namespace TX
open PySem PySem.Spec PyProof.Rows L2 PD
/-! ### set(a list of texts), sorted(a set of texts) -/
/-- texts may be sorted -/
theorem srt_texts (zs : List Str) : Srt (zs.map D.str) := by
  have hp : pds (zs.map D.str) = zs.map PyData.str := by
    rw [pds_map, List.map_map]
    refine List.map_congr_left fun x _ => ?_
    show D.pd (D.str x) = _
    rw [D.pd]
  refine ⟨?_, ?_, ?_, fun d hd => ?_⟩
  · rw [pls_all, List.all_eq_true]
    intro d hd
    obtain ⟨x, _, rfl⟩ := List.mem_map.mp hd
    rw [D.pl]
  · rw [hp]
    intro d hd d' hd'
    obtain ⟨x, _, rfl⟩ := List.mem_map.mp hd
    obtain ⟨y, _, rfl⟩ := List.mem_map.mp hd'
    first | rfl | simp [PySem.W.alike]
  · rw [hp]
    refine .inr fun d hd => ?_
    obtain ⟨x, _, rfl⟩ := List.mem_map.mp hd
    exact ⟨fun e => (nomatch e), fun xs e => (nomatch e)⟩
  · obtain ⟨x, _, rfl⟩ := List.mem_map.mp hd
    rw [D.pd]
    exact Nat.zero_le _
end TX
set_option Elab.async false
set_option linter.all false
set_option maxRecDepth 100000
set_option maxHeartbeats 4000000
namespace PD
open PySem PySem.Spec PyProof.Rows L2
/-! ### the order of texts -/
theorem leD_total : PySem.W.TotalLe leD := by
  unfold leD PySem.W.dataLe
  exact PySem.W.sortLe_total _ _ _
theorem srtD_perm (ds : List D) : (srtD ds).Perm ds := List.mergeSort_perm _ _
end PD
set_option Elab.async false
set_option linter.all false
set_option maxRecDepth 100000
set_option maxHeartbeats 4000000
namespace PD
open PySem PySem.Spec PyProof.Rows L2
/-! ### dict(d), the module's own tuple, slices of tuples -/
section
variable {C : Cn} {b : Nat} {δ : List Sl} {P : Nat → Res → Prop} {F : Fin} {pos p0 p1 p2 : Pos} {e : Expr} {rest : List Stmt}
/-- what a dict of text or int keys holds -/
def Res.kvs : Res → Option (List (Key × D))
  | .va (.dk kvs) => some kvs
  | .ro (.k kvs) => some kvs
  | .od (.k kvs) => some kvs
  | _ => none
theorem RV.kvs_ {K : PySem.W.Frag} {Z : Vol} {os : List Addr} {H H' : Hp} {v : V} {r : Res} {ds : List (Key × D)} (h : RV K Z os H H' v r) (e : r.kvs = some ds) : ∃ p kv, v = .ref p ∧ Rd H' p (.dK kv) ∧ kv.map (·.1) = ds.map (·.1) ∧ RpA K H' (kv.map (·.2)) (ds.map (·.2)) := by
  cases h with
  | @va v d h =>
    cases d with
    | dk kvs =>
      cases e
      cases h with
      | dicK e l ra => exact ⟨_, _, rfl, .inr ⟨_, e⟩, l, ra⟩
    | _ => cases e
  | od n ns e1 =>
    cases e1 with
    | k e2 l ra => cases e; exact ⟨_, _, rfl, .inl e2, l, ra⟩
    | t _ _ _ => cases e
  | ro n ns e1 =>
    cases e1 with
    | k e2 l ra => cases e; exact ⟨_, _, rfl, .inl e2, l, ra⟩
    | t _ _ _ => cases e
  | gh _ _ _ => cases e
  | ow _ _ _ _ => cases e
  | li _ _ _ _ => cases e
  | rd _ _ _ _ => cases e
/-- dict(d) -/
theorem ev_dcopy (B : Blt C.X) (h : EV C b δ e (fun b1 r => ∃ kvs, r.kvs = some kvs ∧ P b1 (.od (.k kvs)))) (hg : Gl C.X "dict" := by rfl)
    (hs : starEach [e] C.X.env = (false, eval e C.X.env) :: starEach [] C.X.env := by rfl) (hpl : (backTo p1 (starEach [] C.X.env)).any (·.1) = false := by rfl) : EV C b δ (.Call (.Name "dict" p0) [e] [] p1) P := by
  intro os σ H st Q q
  refine WE.of (pe_callTy call_dictD hg B.dict (by decide +kernel) (pa_cons peW pa_nil hs) (by decide) (by decide) hs hpl) ?_
  refine h os σ H st _ fun v H1 b1 r f1 j1 rv hr => ?_
  obtain ⟨kvs, hr, hq⟩ := hr
  obtain ⟨p, kv, rfl, e1, l, ra⟩ := rv.kvs_ hr
  refine ⟨p, kv, rfl, e1, fun a ha => ?_⟩
  have fn : Fr C.Z.S H1 (upd H1 a (.dK kv)) := Fr.new ha
  exact q _ _ b1 _ (f1.trans fn) (jnew j1 ha) (.od (f1.back ha) (snew j1 ha) (.k upd_same l (ra.fr fn))) hq
/-- return of a dict of one's own, by its name -/
theorem sv_retD (i : Nat) {x : Str} {c : Dc} (h : δ[i]? = some (.od c)) (q : F.R b (.od c)) (hN : C.X.N[i]? = some x := by rfl)
    (hv : Vis C.X.env.scope x := by first | exact Or.inl rfl | exact Or.inr (Or.inl rfl) | exact Or.inr (Or.inr rfl)) (hd : (x == ("__debug__" : Str)) = false := by decide) (hcd : (x == ("__classdict__" : Str)) = false := by decide) :
    SV C b δ (.Return (some (.Name x p0)) pos :: rest) F := by
  intro os σ H st D ed
  refine WSs.of (pss_cons (ps_ret (pe_var hN hv hd hcd)) pssW) ?_
  obtain ⟨o, _, sub, sl⟩ := st.sl
  obtain ⟨w, o1, e, a, ho⟩ := sl.at h
  cases a with
  | od e1 =>
    obtain ⟨n, ns, _⟩ := st.new _ (sub _ (ho _ List.mem_cons_self))
    exact ⟨_, e, ed.rt _ H b _ q (.od n ns e1) st.fr st.j⟩
/-- t[lo:hi] -/
def cutD (ds : List D) (lo hi : Option Int) : List D := (ds.drop (HT.sIx ds.length 0 lo)).take (HT.sIx ds.length ds.length hi - HT.sIx ds.length 0 lo)
theorem cutD_all {ds : List D} {lo hi : Option Int} (h : HT.sIx ds.length 0 lo = 0 ∧ HT.sIx ds.length ds.length hi = ds.length) : cutD ds lo hi = ds := by
  unfold cutD
  rw [h.1, h.2, Nat.sub_zero, List.drop_zero, List.take_length]
theorem cut_rel {K : PySem.W.Frag} {H : Hp} {xs : List V} {ds : List D} (r : RpA K H xs ds) (lo hi : Option Int) : RpA K H (cutV xs lo hi) (cutD ds lo hi) := by
  unfold cutV cutD
  rw [r.len]
  exact (r.drop _).take _
theorem slT {H1 : Hp} {b1 : Nat} {v : V} {ds : List D} {lo hi : Option Int} {Q : VK} (j1 : C.Z.J b1 H1) (rv : Rp C.K H1 v (.tup ds)) (k : ∀ v H', Fr C.Z.S H1 H' → C.Z.J b1 H' → Rp C.K H' v (.tup (cutD ds lo hi)) → Q v H') : rSlA C.X.K v lo hi H1 Q := by
  cases rv with
  | @tup a xs _ h ra =>
    refine ⟨a, xs, rfl, h.sq, fun w => ?_, fun w p hp => ?_⟩
    · have := k (.ref a) H1 Fr.refl j1
      rw [ra.len] at w
      rw [cutD_all w] at this
      exact this (.tup h ra)
    · have fn : Fr C.Z.S H1 (upd H1 p (.tup (cutV xs lo hi))) := Fr.new hp
      exact k _ _ fn (jnew j1 hp) (.tup (.h upd_same) ((cut_rel ra lo hi).fr fn))
theorem ev_slTh {hi : Expr} (h : EV C b δ e (fun b1 r => EV C b1 δ hi fun b2 r2 => ∃ ds i, r = .va (.tup ds) ∧ r2 = .va (.int i) ∧ P b2 (.va (.tup (cutD ds none (some i)))))) : EV C b δ (.Subscript e (.Slice none (some hi) none p2) pos) P := by
  intro os σ H st Q q
  refine WE.of (pe_slice sl_tupA peW po_none (po_some peW)) ?_
  refine h os σ H st _ fun v H1 b1 r f1 j1 rv h2 => ?_
  show WE C.X hi σ H1 _
  refine h2 os σ H1 (st.on f1 j1) _ fun v2 H2 b2 r2 f2 j2 rv2 h3 => ?_
  obtain ⟨ds, i, rfl, rfl, hq⟩ := h3
  cases rv2 with | va rv2 => ?_
  cases rv2
  cases rv with | va rv => ?_
  exact ⟨i, rfl, slT j2 (rv.fr f2) fun v H' f3 j3 r3 => q v H' b2 _ ((f1.trans f2).trans f3) j3 (.va r3) hq⟩
theorem ev_slTl {lo : Expr} (h : EV C b δ e (fun b1 r => EV C b1 δ lo fun b2 r2 => ∃ ds i, r = .va (.tup ds) ∧ r2 = .va (.int i) ∧ P b2 (.va (.tup (cutD ds (some i) none))))) : EV C b δ (.Subscript e (.Slice (some lo) none none p2) pos) P := by
  intro os σ H st Q q
  refine WE.of (pe_slice sl_tupA peW (po_some peW) po_none) ?_
  refine h os σ H st _ fun v H1 b1 r f1 j1 rv h2 => ?_
  show WE C.X lo σ H1 _
  refine h2 os σ H1 (st.on f1 j1) _ fun v2 H2 b2 r2 f2 j2 rv2 h3 => ?_
  obtain ⟨ds, i, rfl, rfl, hq⟩ := h3
  cases rv2 with | va rv2 => ?_
  cases rv2
  cases rv with | va rv => ?_
  exact ⟨i, rfl, slT j2 (rv.fr f2) fun v H' f3 j3 r3 => q v H' b2 _ ((f1.trans f2).trans f3) j3 (.va r3) hq⟩
/-- whether a tuple has items -/
theorem et_tup {Pt : Nat → Bool → Prop} (h : EV C b δ e (fun b1 r => ∃ ds, r = .va (.tup ds) ∧ Pt b1 (!ds.isEmpty))) (he : ∀ whole, isTrue e C.X.env whole = (do let v ← whole; standAt e.pos; holding [v] (truthy v)) := by intro _; rfl) : ET C b δ e Pt := by
  intro os σ H st Q k
  refine WT.of (pt_truth peW he) ?_
  refine h os σ H st _ fun v H1 b1 r f1 j1 rv hr => ?_
  obtain ⟨ds, rfl, hq⟩ := hr
  cases rv with | va rv => ?_
  cases rv with
  | @tup a xs _ h ra =>
    have em : xs.isEmpty = ds.isEmpty := by
      have := ra.len
      cases xs <;> cases ds <;> simp_all
    exact ⟨!ds.isEmpty, .inr (.inl ⟨xs, h.sq, by rw [em]⟩), k _ H1 b1 f1 j1 hq⟩
end
end PD
set_option Elab.async false
set_option linter.all false
set_option maxRecDepth 100000
set_option maxHeartbeats 4000000
namespace PD
open PySem PySem.Spec PyProof.Rows L2
/-! ### typed data: enc says what a typed thing is as data -/
section
variable {α β : Type}
open Classical in
/-- a def of typed things: enc its arguments, ok of what, f what it tells -/
noncomputable def gT (enc : α → List D) (ok : α → Prop) (f : α → Res) : List D → Option Res := fun ds => if h : ∃ x, enc x = ds ∧ ok x then some (f h.choose) else none
theorem gT_one {enc : α → List D} {ok : α → Prop} {f : α → Res} {ds : List D} {r : Res} (h : gT enc ok f ds = some r) : ∃ x, enc x = ds ∧ ok x ∧ r = f x := by
  unfold gT at h
  split at h
  · rename_i q
    cases h
    exact ⟨q.choose, q.choose_spec.1, q.choose_spec.2, rfl⟩
  · cases h
theorem gT_out {enc : α → List D} {ok : α → Prop} {f : α → Res} (ho : ∀ x, ok x → (f x).out = true) : ∀ (ds : List D) (r : Res), gT enc ok f ds = some r → r.out = true := fun ds r h => by
  obtain ⟨x, _, hx, rfl⟩ := gT_one h
  exact ho x hx
theorem gT_of {enc : α → List D} {ok : α → Prop} {f : α → Res} (inj : ∀ x y, enc x = enc y → x = y) {x : α} (h : ok x) : gT enc ok f (enc x) = some (f x) := by
  unfold gT
  have q : ∃ y, enc y = enc x ∧ ok y := ⟨x, rfl, h⟩
  rw [dif_pos q, inj _ _ q.choose_spec.1]
open Classical in
/-- a function of typed things, on data -/
noncomputable def onD (enc : α → D) (g : α → β) (z : D → β) : D → β := fun d => if h : ∃ x, enc x = d then g h.choose else z d
theorem onD_of {enc : α → D} {g : α → β} {z : D → β} (inj : ∀ x y, enc x = enc y → x = y) (x : α) : onD enc g z (enc x) = g x := by
  unfold onD
  have q : ∃ y, enc y = enc x := ⟨x, rfl⟩
  rw [dif_pos q, inj _ _ q.choose_spec]
end
section
variable {C : Cn} {b : Nat} {δ : List Sl} {P : Nat → Res → Prop} {F : Fin} {pos p0 p1 p2 : Pos} {elt iter tg c : Expr} {scope : Scope} {α : Type} {ss rest : List Stmt}
theorem ev_mapT (enc : α → D) (inj : ∀ x y, enc x = enc y → x = y) (p : Pat) (own : List (Str × Nat)) (g : α → D) (hc : C.X.calm = true) (hN : C.X.N.Nodup) (ok : BlkOk C.X.N C.X.env.scope scope own)
    (hg : ∀ (s : Shared) (H : Hp) (Cc : Addr) (cl : List (Str × Addr)) (fp : List Addr), PG (C.X.blk s H scope (compEnvC scope cl Cc C.X.env) fp) tg (gPat C.X.K p))
    (hp : ∀ i ∈ p.slots, i ∈ own.map (·.2))
    (h : EIc C b δ tg iter (fun b1 ds => ∃ xs : List α, ds = xs.map enc ∧ xs.length ≤ 16000000 ∧ (∀ x ∈ xs, ∃ δ', bindP p (enc x) (wipeD δ (own.map (·.2))) = some δ' ∧
      ∀ (s : Shared) (H : Hp) (Cc : Addr) (cl : List (Str × Addr)) (fp : List Addr), EV (C.blk s H scope (compEnvC scope cl Cc C.X.env) fp) b1 δ' elt (fun b4 r => b4 = b1 ∧ r = .va (g x))) ∧ P b1 (.ow (xs.map g))))
    (hs : ∀ x, foldedSetIterable iter C.X.env x = pure x := by intro _; rfl) : EV C b δ (.ListComp elt [⟨tg, iter, [], 0⟩] scope pos) P := by
  refine ev_map p own (onD enc g id) hc hN ok hg hp (fun os σ H st R k => h os σ H st R fun J H1 b1 ds f j w hh => k J H1 b1 ds f j w ?_) hs
  obtain ⟨xs, rfl, hl, each, hP⟩ := hh
  refine ⟨by rw [List.length_map]; exact hl, fun d hd => ?_, ?_⟩
  · obtain ⟨x, hx, rfl⟩ := List.mem_map.mp hd
    obtain ⟨δ', e1, e2⟩ := each x hx
    exact ⟨δ', e1, fun s H Cc cl fp => (e2 s H Cc cl fp).imp fun b' r z => ⟨z.1, by rw [onD_of inj]; exact z.2⟩⟩
  · have e : (xs.map enc).map (onD enc g id) = xs.map g := by
      rw [List.map_map]
      exact List.map_congr_left fun x _ => onD_of inj x
    rw [e]
    exact hP
theorem ev_filtT (enc : α → D) (inj : ∀ x y, enc x = enc y → x = y) (p : Pat) (own : List (Str × Nat)) (t : α → Bool) (g : α → D) (hc : C.X.calm = true) (hN : C.X.N.Nodup) (ok : BlkOk C.X.N C.X.env.scope scope own)
    (hg : ∀ (s : Shared) (H : Hp) (Cc : Addr) (cl : List (Str × Addr)) (fp : List Addr), PG (C.X.blk s H scope (compEnvC scope cl Cc C.X.env) fp) tg (gPat C.X.K p))
    (hp : ∀ i ∈ p.slots, i ∈ own.map (·.2))
    (h : EIc C b δ tg iter (fun b1 ds => ∃ xs : List α, ds = xs.map enc ∧ xs.length ≤ 16000000 ∧ (∀ x ∈ xs, ∃ δ', bindP p (enc x) (wipeD δ (own.map (·.2))) = some δ' ∧
      (∀ (s : Shared) (H : Hp) (Cc : Addr) (cl : List (Str × Addr)) (fp : List Addr), ET (C.blk s H scope (compEnvC scope cl Cc C.X.env) fp) b1 δ' c (fun b3 k => b3 = b1 ∧ k = t x)) ∧
      (t x = true → ∀ (s : Shared) (H : Hp) (Cc : Addr) (cl : List (Str × Addr)) (fp : List Addr), EV (C.blk s H scope (compEnvC scope cl Cc C.X.env) fp) b1 δ' elt (fun b4 r => b4 = b1 ∧ r = .va (g x)))) ∧ P b1 (.ow ((xs.filter t).map g))))
    (hs : ∀ x, foldedSetIterable iter C.X.env x = pure x := by intro _; rfl) : EV C b δ (.ListComp elt [⟨tg, iter, [c], 0⟩] scope pos) P := by
  refine ev_filt p own (onD enc t fun _ => false) (onD enc g id) hc hN ok hg hp (fun os σ H st R k => h os σ H st R fun J H1 b1 ds f j w hh => k J H1 b1 ds f j w ?_) hs
  obtain ⟨xs, rfl, hl, each, hP⟩ := hh
  refine ⟨by rw [List.length_map]; exact hl, fun d hd => ?_, ?_⟩
  · obtain ⟨x, hx, rfl⟩ := List.mem_map.mp hd
    obtain ⟨δ', e1, e2, e3⟩ := each x hx
    refine ⟨δ', e1, fun s H Cc cl fp => ?_, fun ht s H Cc cl fp => ?_⟩
    · rw [onD_of inj]
      exact e2 s H Cc cl fp
    · rw [onD_of inj] at ht
      exact (e3 ht s H Cc cl fp).imp fun b' r z => ⟨z.1, by rw [onD_of inj]; exact z.2⟩
  · have e : ((xs.map enc).filter (onD enc t fun _ => false)).map (onD enc g id) = (xs.filter t).map g := by
      rw [List.filter_map, List.map_map]
      have e1 : xs.filter ((onD enc t fun _ => false) ∘ enc) = xs.filter t := List.filter_congr fun x _ => onD_of inj x
      rw [e1]
      exact List.map_congr_left fun x _ => onD_of inj x
    rw [e]
    exact hP
theorem sv_forT (enc : α → D) (inj : ∀ x y, enc x = enc y → x = y) (p : Pat) (hc : C.X.calm = true) (hp : PassesOwn (model C.X.prog C.X.w) C.X.A C.X.env C.X.xe) (hg : PG C.X tg (gPat C.X.K p))
    (h : EI C b δ tg iter (fun b1 ds => ∃ xs : List α, ds = xs.map enc ∧ ∃ Iv : List α → Nat → List Sl → Prop, Iv [] b1 δ ∧
      (∀ (pre : List α) (x : α) (post : List α) (b2 : Nat) (δ2 : List Sl), xs = pre ++ x :: post → Iv pre b2 δ2 →
        ∃ δ', bindP p (enc x) δ2 = some δ' ∧ SV C b2 δ' ss ⟨Iv (pre ++ [x]), fun b3 δ3 => SV C b3 δ3 rest F, Iv (pre ++ [x]), F.R⟩) ∧
      ∀ b2 δ2, Iv xs b2 δ2 → SV C b2 δ2 rest F))
    (hs : ∀ x, foldedSetIterable iter C.X.env x = pure x := by intro _; rfl) : SV C b δ (.For tg iter ss [] pos :: rest) F := by
  refine sv_for p hc hp hg (fun os σ H st R k => h os σ H st R fun J H1 b1 ds f j w hh => k J H1 b1 ds f j w ?_) hs
  obtain ⟨xs, rfl, Iv, i0, step, last⟩ := hh
  refine ⟨fun pre b2 δ2 => ∃ ps, pre = ps.map enc ∧ (∃ rs, xs = ps ++ rs) ∧ Iv ps b2 δ2, ⟨[], rfl, ⟨xs, rfl⟩, i0⟩, ?_, ?_⟩
  · rintro pre d post b2 δ2 e ⟨ps, rfl, ⟨rs, rfl⟩, iv⟩
    rw [List.map_append] at e
    have e2 := List.append_cancel_left e
    cases rs with
    | nil => cases e2
    | cons x rs =>
      rw [List.map_cons, List.cons.injEq] at e2
      obtain ⟨rfl, rfl⟩ := e2
      obtain ⟨δ', h1, h2⟩ := step ps x rs b2 δ2 rfl iv
      refine ⟨δ', h1, h2.imp (fun b' δ' z => ?_) (fun _ _ z => z) (fun b' δ' z => ?_) (fun _ _ z => z)⟩
      · exact ⟨ps ++ [x], by rw [List.map_append]; rfl, ⟨rs, by rw [List.append_assoc]; rfl⟩, z⟩
      · exact ⟨ps ++ [x], by rw [List.map_append]; rfl, ⟨rs, by rw [List.append_assoc]; rfl⟩, z⟩
  · rintro b2 δ2 ⟨ps, e, ⟨rs, rfl⟩, iv⟩
    have hl := congrArg List.length e
    rw [List.length_map, List.length_map, List.length_append] at hl
    have : rs = [] := List.eq_nil_of_length_eq_zero (by omega)
    subst this
    rw [List.append_nil] at last
    exact last b2 δ2 iv
end
end PD
set_option Elab.async false
set_option linter.all false
set_option maxRecDepth 100000
set_option maxHeartbeats 4000000
/-! Parts as typed things, what is bound in them, their skeletons. -/
namespace G
open PySem PD L2
abbrev kS (p : Str) : Key := Sum.inr p
/-- a value of an attribute: a plain string, a quoted name -/
inductive Vl where
  | s (x : Str) | q (p l : Str)
/-- a child: a text, a hole, an element -/
inductive Nd where
  | s (x : Str) | h (x : Str)
  | el (p l : Str) (ds : List (Str × Str)) (as : List ((Str × Str) × Vl)) (cs : List Nd)
def nmD (p l : Str) : D := .tup [.str p, .str l]
def dclD (q : Str × Str) : D := .tup [.str q.1, .str q.2]
def Vl.d : Vl → D
  | .s x => .str x
  | .q p l => nmD p l
def atrD (q : (Str × Str) × Vl) : D := .tup [nmD q.1.1 q.1.2, q.2.d]
mutual
def Nd.d : Nd → D
  | .s x => .str x
  | .h x => .tup [.str "hole", .str x]
  | .el p l ds as cs => .tup [.str "element", nmD p l, .pt (ds.map dclD), .tup (as.map atrD), .tup (ndsD cs)]
def ndsD : List Nd → List D
  | [] => []
  | c :: cs => c.d :: ndsD cs
end
theorem ndsD_map (cs : List Nd) : ndsD cs = cs.map Nd.d := by
  induction cs with
  | nil => rfl
  | cons c cs ih => rw [ndsD, ih, List.map_cons]
theorem nmD_inj {p l p' l' : Str} (h : nmD p l = nmD p' l') : p = p' ∧ l = l' := by
  unfold nmD at h
  injection h with h
  injection h with h1 h
  injection h with h2 _
  injection h1 with h1
  injection h2 with h2
  exact ⟨h1, h2⟩
theorem dclD_inj (x y : Str × Str) (h : dclD x = dclD y) : x = y := by
  obtain ⟨h1, h2⟩ := nmD_inj (p := x.1) (l := x.2) (p' := y.1) (l' := y.2) h
  exact Prod.ext h1 h2
theorem vl_inj (x y : Vl) (h : x.d = y.d) : x = y := by
  cases x with
  | s x =>
    cases y with
    | s y => injection h with h; rw [h]
    | q p l => cases h
  | q p l =>
    cases y with
    | s y => cases h
    | q p' l' =>
      obtain ⟨h1, h2⟩ := nmD_inj h
      rw [h1, h2]
theorem atrD_inj (x y : (Str × Str) × Vl) (h : atrD x = atrD y) : x = y := by
  unfold atrD at h
  injection h with h
  injection h with h1 h
  injection h with h2 _
  obtain ⟨e1, e2⟩ := nmD_inj h1
  exact Prod.ext (Prod.ext e1 e2) (vl_inj _ _ h2)
theorem map_inj {α : Type} {f : α → D} (inj : ∀ x y, f x = f y → x = y) : ∀ (xs ys : List α), xs.map f = ys.map f → xs = ys
  | [], [], _ => rfl
  | [], _ :: _, h => by cases h
  | _ :: _, [], h => by cases h
  | x :: xs, y :: ys, h => by
    rw [List.map_cons, List.map_cons, List.cons.injEq] at h
    rw [inj x y h.1, map_inj inj xs ys h.2]
mutual
theorem nd_inj : ∀ (x y : Nd), x.d = y.d → x = y
  | .s x, y, h => by
    cases y with
    | s y => rw [Nd.d, Nd.d] at h; injection h with h; rw [h]
    | h y => rw [Nd.d, Nd.d] at h; cases h
    | el p l ds as cs => rw [Nd.d, Nd.d] at h; cases h
  | .h x, y, h => by
    cases y with
    | s y => rw [Nd.d, Nd.d] at h; cases h
    | h y => rw [Nd.d, Nd.d] at h; injection h with h; injection h with _ h; injection h with h _; injection h with h; rw [h]
    | el p l ds as cs =>
      rw [Nd.d, Nd.d] at h
      injection h with h
      injection h with _ h
      injection h with _ h
      cases h
  | .el p l ds as cs, y, h => by
    cases y with
    | s y => rw [Nd.d, Nd.d] at h; cases h
    | h y =>
      rw [Nd.d, Nd.d] at h
      injection h with h
      injection h with _ h
      injection h with _ h
      cases h
    | el p' l' ds' as' cs' =>
      rw [Nd.d, Nd.d] at h
      injection h with h
      injection h with _ h
      injection h with h1 h
      injection h with h2 h
      injection h with h3 h
      injection h with h4 _
      obtain ⟨e1, e2⟩ := nmD_inj h1
      injection h2 with h2
      injection h3 with h3
      injection h4 with h4
      rw [e1, e2, map_inj dclD_inj _ _ h2, map_inj atrD_inj _ _ h3, nds_inj cs cs' h4]
theorem nds_inj : ∀ (xs ys : List Nd), ndsD xs = ndsD ys → xs = ys
  | [], [], _ => rfl
  | [], _ :: _, h => by rw [ndsD, ndsD] at h; cases h
  | _ :: _, [], h => by rw [ndsD, ndsD] at h; cases h
  | x :: xs, y :: ys, h => by
    rw [ndsD, ndsD, List.cons.injEq] at h
    rw [nd_inj x y h.1, nds_inj xs ys h.2]
end
def Nd.isEl : Nd → Bool
  | .el _ _ _ _ _ => true
  | _ => false
theorem begins_el (x : Nd) : begins "element" x.d = x.isEl := by
  cases x with
  | s x => rw [Nd.d]; rfl
  | h x => rw [Nd.d]; exact (by decide : decide (("hole" : Str) = "element") = false)
  | el p l ds as cs => rw [Nd.d]; rfl
/-! ### what is bound -/
/-- of all prefixes that are not as outside, their addresses -/
abbrev Bd := List (Str × Str)
def atD (a : Str) : D := .tup [.str "at", .str a]
def bdK (m : Bd) : List (Key × D) := m.map fun q => (kS q.1, atD q.2)
def valB (m : Bd) (p : Str) : Option Str := (m.find? fun q => decide (q.1 = p)).map (·.2)
def putB (m : Bd) (p a : Str) : Bd := if (m.any fun q => decide (q.1 = p)) = true then m.map (fun q => if q.1 = p then (q.1, a) else q) else m ++ [(p, a)]
theorem key_dec (x p : Str) : decide (kS x = kS p) = decide (x = p) := decide_eq_decide.mpr ⟨fun z => Sum.inr.inj z, fun z => by rw [z]⟩
theorem bdK_val (m : Bd) (p : Str) : valD (bdK m) (kS p) = (valB m p).map atD := by
  unfold valD valB bdK
  induction m with
  | nil => rfl
  | cons q m ih =>
    rw [List.map_cons, List.find?_cons, List.find?_cons]
    simp only [key_dec]
    cases decide (q.1 = p) with
    | true => rfl
    | false => exact ih
theorem bdK_put (m : Bd) (p a : Str) : putD (bdK m) (kS p) (atD a) = bdK (putB m p a) := by
  unfold putD putB
  have e : ((bdK m).any fun kv => decide (kv.1 = kS p)) = (m.any fun q => decide (q.1 = p)) := by
    unfold bdK
    rw [List.any_map]
    congr 1
    funext q
    exact key_dec q.1 p
  rw [e]
  cases (m.any fun q => decide (q.1 = p)) with
  | false => simp [bdK]
  | true =>
    simp only [if_true]
    unfold bdK
    rw [List.map_map, List.map_map]
    refine List.map_congr_left fun q _ => ?_
    show (if kS q.1 = kS p then (kS q.1, atD a) else (kS q.1, atD q.2)) = _
    by_cases h : q.1 = p
    · rw [if_pos (by rw [h]), Function.comp, if_pos h]
    · rw [if_neg (fun z => h (Sum.inr.inj z)), Function.comp, if_neg h]
theorem putB_len (m : Bd) (p a : Str) : (putB m p a).length ≤ m.length + 1 := by
  unfold putB
  split
  · rw [List.length_map]; omega
  · rw [List.length_append]; exact Nat.le_refl _
/-- behind declarations -/
def bnd (ds : List (Str × Str)) (m : Bd) : Bd := ds.foldl (fun m q => putB m q.1 q.2) m
theorem bnd_snoc (ds : List (Str × Str)) (q : Str × Str) (m : Bd) : bnd (ds ++ [q]) m = putB (bnd ds m) q.1 q.2 := by
  unfold bnd
  rw [List.foldl_append]
  rfl
theorem bnd_len (ds : List (Str × Str)) (m : Bd) : (bnd ds m).length ≤ m.length + ds.length := by
  induction ds generalizing m with
  | nil => exact Nat.le_refl _
  | cons q ds ih =>
    have h1 := ih (putB m q.1 q.2)
    have h2 := putB_len m q.1 q.2
    show (bnd ds (putB m q.1 q.2)).length ≤ _
    rw [List.length_cons]
    omega
end G
set_option Elab.async false
set_option linter.all false
set_option maxRecDepth 100000
set_option maxHeartbeats 4000000
namespace G
open PySem PySem.Spec PyProof.Rows L2 PD
/-- the module's constants -/
structure Cst (mg : Str → Option Value) : Prop where
  letters : ∃ t, mg "LETTERS" = some (.str letters t)
  addr : ∃ t, mg "ADDRESS_SIGNS" = some (.str addrS t)
  plain : ∃ t, mg "PLAIN_SIGNS" = some (.str plainS t)
  reserved : ∃ t, mg "RESERVED" = some (.str "xmlns" t)
  mostLetters : ∃ t, mg "MOST_LETTERS" = some (.int 8 t)
  mostSigns : ∃ t, mg "_MOST_SIGNS" = some (.int 20 t)
  mostElements : ∃ t, mg "MOST_ELEMENTS" = some (.int 60 t)
  mostLevels : ∃ t, mg "MOST_LEVELS" = some (.int 8 t)
  blt : ∀ X : Cx, X.mg = mg → Blt X
def gIn (x : Str) : D → D
  | .str y => .bl (decide (y.cps.toList.headD 0 ∈ x.cps.toList))
  | d => d
section
variable {P : Program} {w : World} {K : PySem.W.Frag} {mg : Str → Option Value} {base : Heap} {Z : Vol} {f : Addr} {fd : FuncData}
abbrev sMade : Stmt := st__is_made_of
theorem scMade : FnScope ["thing", "signs", "least", "most", "sign"] ["thing", "signs", "least", "most"] (defScope sMade) := ⟨rfl, rfl, rfl, by decide +kernel, rfl, by decide +kernel, by decide +kernel⟩
theorem ok_made (F : Fun K "_is_made_of" "_is_made_of" sMade f fd) (T : Cst mg) : FnOk P w K mg base CX0 1 f fd ["thing", "signs", "least", "most"] (spP Z K 4 gMade) := by
  refine fn_pure F scMade rfl (fun ds r h => ?_) fun cdv A outer s H E b ds r hr hl hg => ?_
  · unfold gMade at h
    split at h
    · split at h
      · cases h; rfl
      · cases h
    · cases h
  · unfold gMade at hg
    split at hg
    · rename_i d x lo hi
      split at hg
      · rename_i hs
        cases hg
        have b0 := T.blt (cxOf CX0 P w K mg base ["thing", "signs", "least", "most", "sign"] "_is_made_of" (defScope sMade) f cdv A outer s H E).nox rfl
        refine sv_if (et_pw (ew_or (et_not (et_val (ev_isi (t := "str") b0 b0.str (by decide +kernel) (ev_var 0 rfl ⟨_, isi_s d, _, rfl, ?_⟩))))))
        cases d with
        | str z =>
          have hz : z.length ≤ 16000000 := sm_str hs
          refine ew_or1 (et_not (et_chain rfl op_le op_le (ev_var 2 rfl (ev_len b0 (ev_var 0 rfl ⟨_, .str hz, _, _, rfl, rfl, ?_⟩)))))
          cases e1 : decide (lo ≤ (z.length : Int)) with
          | false => exact sv_ret (ev_bl ⟨rfl, rfl, by simp only [mdo, e1, Bool.false_and]⟩)
          | true =>
            refine ev_var 3 rfl ⟨_, rfl, ?_⟩
            cases e2 : decide ((z.length : Int) ≤ hi) with
            | false => exact sv_ret (ev_bl ⟨rfl, rfl, by simp only [mdo, e1, e2, Bool.false_and, Bool.and_false]⟩)
            | true =>
              refine sv_nil ?_
              refine sv_ret (ev_all rfl b0 (ev_map (.nm 4) [("sign", 4)] (gIn x) rfl scMade.nd (blkOk_by (N := ["thing", "signs", "least", "most", "sign"]) (sc := defScope sMade) (by decide +kernel)) (fun _ _ _ _ _ => pg_name (i := 4) scMade.nd rfl (Or.inl rfl)) (by simp [Pat.slots]) (EI.c (ei_str (ev_var 0 rfl ⟨z, rfl, ?_⟩)))))
              refine ⟨by rw [List.length_map, Array.length_toList]; exact hz, fun d hd => ?_, z.cps.toList.map fun c => decide (c ∈ x.cps.toList), ?_, ?_⟩
              · obtain ⟨c, _, rfl⟩ := List.mem_map.mp hd
                exact ⟨_, rfl, fun _ _ _ _ _ => ev_inS rfl (ev_var 4 rfl (ev_var 1 rfl ⟨c, x, rfl, rfl, rfl, rfl⟩))⟩
              · simp only [Res.seq, List.map_map]
                rfl
              · exact ⟨rfl, rfl, by simp only [mdo, e1, e2, Bool.true_and, List.all_map]; rfl⟩
        | _ => exact sv_ret (ev_bl ⟨rfl, rfl, rfl⟩)
      · cases hg
    · cases hg
abbrev DMade (P : Program) (w : World) (K : PySem.W.Frag) (mg : Str → Option Value) (base : Heap) (Z : Vol) := Df P w K mg base "_is_made_of" 1 ["thing", "signs", "least", "most"] (spP Z K 4 gMade)
/-- a def of one thing that tells True or False -/
abbrev DB (P : Program) (w : World) (K : PySem.W.Frag) (mg : Str → Option Value) (base : Heap) (Z : Vol) (x : Str) (k : Nat) (g : D → Bool) := Df P w K mg base x k ["thing"] (spP Z K 1 (gB g))
theorem gMade_of {d : D} {s : Str} {lo hi : Int} (h : sm d = true) : gMade [d, .str s, .int lo, .int hi] = some (.va (.bl (mdo s lo hi d))) := if_pos h
abbrev sPrefix : Stmt := st_is_prefix
theorem ok_prefix (F : Fun K "is_prefix" "is_prefix" sPrefix f fd) (T : Cst mg) (D1 : DMade P w K mg base Z) : FnOk P w K mg base CX0 2 f fd ["thing"] (spP Z K 1 (gB isPrefix)) := by
  have sc : FnScope ["thing"] ["thing"] (defScope sPrefix) := ⟨rfl, rfl, rfl, by decide +kernel, rfl, by decide +kernel, by decide +kernel⟩
  refine fn_pure F sc rfl gB_out fun cdv A outer s H E b ds r hr hl hg => ?_
  obtain ⟨d, rfl, hs, rfl⟩ := gB_one hg
  obtain ⟨t1, m1⟩ := T.letters
  obtain ⟨t2, m2⟩ := T.mostLetters
  obtain ⟨t3, m3⟩ := T.reserved
  refine sv_ret (ev_and (ev_callP D1 hr (eva_cons (ev_var 0 rfl (eva_cons (ev_glS m1 (eva_cons (ev_int (eva_cons (ev_glI m2 (eva_nil ⟨_, _, rfl, rfl, gMade_of hs, _, rfl, ?_⟩)))))))))))
  cases e : mdo letters 0 8 d with
  | false => exact ⟨rfl, rfl, by simp only [isPrefix, e, Bool.false_and]⟩
  | true =>
    obtain ⟨x, rfl⟩ := mdo_str e
    refine ev_one (ev_ne (ev_var 0 rfl (ev_glS m3 ⟨_, _, _, rfl, rfl, rfl, rfl, rfl, ?_⟩)))
    simp only [isPrefix, e, Bool.true_and]
    rfl

abbrev sLocal : Stmt := st_is_local
theorem ok_local (F : Fun K "is_local" "is_local" sLocal f fd) (T : Cst mg) (D1 : DMade P w K mg base Z) : FnOk P w K mg base CX0 2 f fd ["thing"] (spP Z K 1 (gB isLocal)) := by
  have sc : FnScope ["thing"] ["thing"] (defScope sLocal) := ⟨rfl, rfl, rfl, by decide +kernel, rfl, by decide +kernel, by decide +kernel⟩
  refine fn_pure F sc rfl gB_out fun cdv A outer s H E b ds r hr hl hg => ?_
  obtain ⟨d, rfl, hs, rfl⟩ := gB_one hg
  obtain ⟨t1, m1⟩ := T.letters
  obtain ⟨t2, m2⟩ := T.mostLetters
  obtain ⟨t3, m3⟩ := T.reserved
  refine sv_ret (ev_and (ev_callP D1 hr (eva_cons (ev_var 0 rfl (eva_cons (ev_glS m1 (eva_cons (ev_int (eva_cons (ev_glI m2 (eva_nil ⟨_, _, rfl, rfl, gMade_of hs, _, rfl, ?_⟩)))))))))))
  cases e : mdo letters 1 8 d with
  | false => exact ⟨rfl, rfl, by simp only [isLocal, e, Bool.false_and]⟩
  | true =>
    obtain ⟨x, rfl⟩ := mdo_str e
    refine ev_one (ev_ne (ev_var 0 rfl (ev_glS m3 ⟨_, _, _, rfl, rfl, rfl, rfl, rfl, ?_⟩)))
    simp only [isLocal, e, Bool.true_and]
    rfl
abbrev sAddress : Stmt := st_is_address
theorem ok_address (F : Fun K "is_address" "is_address" sAddress f fd) (T : Cst mg) (D1 : DMade P w K mg base Z) : FnOk P w K mg base CX0 2 f fd ["thing"] (spP Z K 1 (gB isAddr)) := by
  have sc : FnScope ["thing"] ["thing"] (defScope sAddress) := ⟨rfl, rfl, rfl, by decide +kernel, rfl, by decide +kernel, by decide +kernel⟩
  refine fn_pure F sc rfl gB_out fun cdv A outer s H E b ds r hr hl hg => ?_
  obtain ⟨d, rfl, hs, rfl⟩ := gB_one hg
  obtain ⟨t1, m1⟩ := T.addr
  obtain ⟨t2, m2⟩ := T.mostSigns
  exact sv_ret (ev_callP D1 hr (eva_cons (ev_var 0 rfl (eva_cons (ev_glS m1 (eva_cons (ev_int (eva_cons (ev_glI m2 (eva_nil ⟨_, _, rfl, rfl, gMade_of hs, rfl, rfl, rfl⟩))))))))))
abbrev sWord : Stmt := st_is_word
theorem ok_word (F : Fun K "is_word" "is_word" sWord f fd) (T : Cst mg) (D1 : DMade P w K mg base Z) : FnOk P w K mg base CX0 2 f fd ["thing"] (spP Z K 1 (gB isWord)) := by
  have sc : FnScope ["thing"] ["thing"] (defScope sWord) := ⟨rfl, rfl, rfl, by decide +kernel, rfl, by decide +kernel, by decide +kernel⟩
  refine fn_pure F sc rfl gB_out fun cdv A outer s H E b ds r hr hl hg => ?_
  obtain ⟨d, rfl, hs, rfl⟩ := gB_one hg
  obtain ⟨t1, m1⟩ := T.letters
  obtain ⟨t2, m2⟩ := T.mostLetters
  exact sv_ret (ev_callP D1 hr (eva_cons (ev_var 0 rfl (eva_cons (ev_glS m1 (eva_cons (ev_int (eva_cons (ev_glI m2 (eva_nil ⟨_, _, rfl, rfl, gMade_of hs, rfl, rfl, rfl⟩))))))))))
abbrev sPlain : Stmt := st__is_plain
theorem ok_plain (F : Fun K "_is_plain" "_is_plain" sPlain f fd) (T : Cst mg) (D1 : DMade P w K mg base Z) : FnOk P w K mg base CX0 2 f fd ["thing"] (spP Z K 1 (gB isPlain)) := by
  have sc : FnScope ["thing"] ["thing"] (defScope sPlain) := ⟨rfl, rfl, rfl, by decide +kernel, rfl, by decide +kernel, by decide +kernel⟩
  refine fn_pure F sc rfl gB_out fun cdv A outer s H E b ds r hr hl hg => ?_
  obtain ⟨d, rfl, hs, rfl⟩ := gB_one hg
  obtain ⟨t1, m1⟩ := T.plain
  obtain ⟨t2, m2⟩ := T.mostSigns
  exact sv_ret (ev_callP D1 hr (eva_cons (ev_var 0 rfl (eva_cons (ev_glS m1 (eva_cons (ev_int (eva_cons (ev_glI m2 (eva_nil ⟨_, _, rfl, rfl, gMade_of hs, rfl, rfl, rfl⟩))))))))))
abbrev sPair : Stmt := st_is_pair
theorem ok_pair (F : Fun K "is_pair" "is_pair" sPair f fd) (T : Cst mg) : FnOk P w K mg base CX0 1 f fd ["thing"] (spP Z K 1 (gB isPair)) := by
  have sc : FnScope ["thing"] ["thing"] (defScope sPair) := ⟨rfl, rfl, rfl, by decide +kernel, rfl, by decide +kernel, by decide +kernel⟩
  refine fn_pure F sc rfl gB_out fun cdv A outer s H E b ds r hr hl hg => ?_
  obtain ⟨d, rfl, hs, rfl⟩ := gB_one hg
  have b0 := T.blt (cxOf CX0 P w K mg base ["thing"] "is_pair" (defScope sPair) f cdv A outer s H E).nox rfl
  refine sv_ret (ev_and (ev_isi (t := "tuple") b0 b0.tuple (by decide +kernel) (ev_var 0 rfl ⟨_, isi_t d, _, rfl, ?_⟩)))
  cases d with
  | tup ds => exact ev_one (ev_eq (ev_len b0 (ev_var 0 rfl ⟨_, .tup, ev_int ⟨_, _, _, rfl, rfl, rfl, rfl, rfl, rfl⟩⟩)))
  | obj t a =>
    cases t with
    | unit => exact nomatch hs
    | _ => exact ⟨rfl, rfl, rfl⟩
  | pt ds => exact nomatch hs
  | _ => exact ⟨rfl, rfl, rfl⟩
/-- t[i], i written -/
theorem at0 {a : D} {ds : List D} : atI (a :: ds) 0 = some a := atI_nat (j := 0) rfl
theorem at1 {a c : D} {ds : List D} : atI (a :: c :: ds) 1 = some c := atI_nat (j := 1) rfl
abbrev sName : Stmt := st_is_name
theorem pair_of {ds : List D} (h : isPair (.tup ds) = true) : ∃ a c, ds = [a, c] := by
  match ds, h with
  | [a, c], _ => exact ⟨a, c, rfl⟩
  | [], h => simp [isPair] at h
  | [_], h => simp [isPair] at h
  | _ :: _ :: _ :: _, h => simp [isPair] at h; omega
theorem isName_no {d : D} (h : isPair d = false) : isName d = false := by
  unfold isName
  split
  · simp [isPair] at h
  · rfl
theorem isDecl_no {d : D} (h : isPair d = false) : isDecl d = false := by
  unfold isDecl
  split
  · simp [isPair] at h
  · rfl
theorem isAttr_no {d : D} (h : isPair d = false) : isAttr d = false := by
  unfold isAttr
  split
  · simp [isPair] at h
  · rfl
theorem isPair_tup {d : D} (h : isPair d = true) : ∃ a c, d = .tup [a, c] := by
  cases d with
  | tup ds => obtain ⟨a, c, rfl⟩ := pair_of h; exact ⟨a, c, rfl⟩
  | _ => cases h
theorem sm2 {a c : D} (h : sm (.tup [a, c]) = true) : sm a = true ∧ sm c = true := by
  obtain ⟨_, h⟩ := sm_tup h
  exact ⟨sm_mem h (by simp), sm_mem h (by simp)⟩
theorem ok_name (F : Fun K "is_name" "is_name" sName f fd) (T : Cst mg) (D1 : DB P w K mg base Z "is_pair" 1 isPair) (D2 : DB P w K mg base Z "is_prefix" 2 isPrefix) (D3 : DB P w K mg base Z "is_local" 2 isLocal) : FnOk P w K mg base CX0 3 f fd ["thing"] (spP Z K 1 (gB isName)) := by
  have sc : FnScope ["thing"] ["thing"] (defScope sName) := ⟨rfl, rfl, rfl, by decide +kernel, rfl, by decide +kernel, by decide +kernel⟩
  refine fn_pure F sc rfl gB_out fun cdv A outer s H E b ds r hr hl hg => ?_
  obtain ⟨d, rfl, hs, rfl⟩ := gB_one hg
  refine sv_ret (ev_and (ev_callP D1 (hr.mono (by decide)) (eva_cons (ev_var 0 rfl (eva_nil ⟨_, _, rfl, rfl, gB_of hs, _, rfl, ?_⟩)))))
  cases e : isPair d with
  | false => exact ⟨rfl, rfl, by rw [isName_no e]⟩
  | true =>
    obtain ⟨a, c, rfl⟩ := isPair_tup e
    obtain ⟨sa, sc⟩ := sm2 hs
    refine ev_and (ev_callP D2 hr (eva_cons (ev_ix (ev_var 0 rfl (ev_int ⟨_, _, _, .inl rfl, rfl, at0, eva_nil ⟨_, _, rfl, rfl, gB_of sa, _, rfl, ?_⟩⟩)))))
    cases e2 : isPrefix a with
    | false => exact ⟨rfl, rfl, by simp only [isName, e2, Bool.false_and]⟩
    | true => exact ev_one (ev_callP D3 hr (eva_cons (ev_ix (ev_var 0 rfl (ev_int ⟨_, _, _, .inl rfl, rfl, at1, eva_nil ⟨_, _, rfl, rfl, gB_of sc, rfl, rfl, by simp only [isName, e2, Bool.true_and]⟩⟩)))))
abbrev sBegins : Stmt := st__begins
theorem gBegins_out : ∀ (ds : List D) (r : Res), gBegins ds = some r → r.out = true := by
  intro ds r h
  unfold gBegins at h
  split at h
  · split at h
    · cases h; rfl
    · cases h
  · cases h
theorem gBegins_one {ds : List D} {r : Res} (h : gBegins ds = some r) : ∃ d w, ds = [d, .str w] ∧ sm d = true ∧ r = .va (.bl (begins w d)) := by
  unfold gBegins at h
  split at h
  · rename_i d w
    split at h
    · rename_i hs
      cases h
      exact ⟨d, w, rfl, hs, rfl⟩
    · cases h
  · cases h
theorem gBegins_of {d : D} {x : Str} (h : sm d = true) : gBegins [d, .str x] = some (.va (.bl (begins x d))) := if_pos h
abbrev DBegins (P : Program) (w : World) (K : PySem.W.Frag) (mg : Str → Option Value) (base : Heap) (Z : Vol) := Df P w K mg base "_begins" 1 ["thing", "word"] (spP Z K 2 gBegins)
theorem ok_begins (F : Fun K "_begins" "_begins" sBegins f fd) (T : Cst mg) : FnOk P w K mg base CX0 1 f fd ["thing", "word"] (spP Z K 2 gBegins) := by
  have sc : FnScope ["thing", "word"] ["thing", "word"] (defScope sBegins) := ⟨rfl, rfl, rfl, by decide +kernel, rfl, by decide +kernel, by decide +kernel⟩
  refine fn_pure F sc rfl gBegins_out fun cdv A outer s H E b ds r hr hl hg => ?_
  obtain ⟨d, x, rfl, hs, rfl⟩ := gBegins_one hg
  have b0 := T.blt (cxOf CX0 P w K mg base ["thing", "word"] "_begins" (defScope sBegins) f cdv A outer s H E).nox rfl
  refine sv_ret (ev_and (ev_isi (t := "tuple") b0 b0.tuple (by decide +kernel) (ev_var 0 rfl ⟨_, isi_t d, _, rfl, ?_⟩)))
  cases d with
  | tup ds =>
    refine ev_and (ev_ord op_gt (nomark _) (ev_len b0 (ev_var 0 rfl ⟨_, .tup, ev_int ⟨_, _, rfl, rfl, _, rfl, ?_⟩⟩)))
    cases ds with
    | nil => exact ⟨rfl, rfl, rfl⟩
    | cons a ds =>
      have e0 : decide ((0 : Int) < ((a :: ds).length : Int)) = true := by simp
      rw [e0]
      refine ev_and (ev_isi (t := "str") b0 b0.str (by decide +kernel) (ev_ix (ev_var 0 rfl (ev_int ⟨_, _, _, .inl rfl, rfl, at0, _, isi_s a, _, rfl, ?_⟩))))
      cases a with
      | str y => exact ev_one (ev_eq (ev_ix (ev_var 0 rfl (ev_int ⟨_, _, _, .inl rfl, rfl, at0, ev_var 1 rfl ⟨_, _, _, rfl, rfl, rfl, rfl, rfl, rfl⟩⟩))))
      | _ => exact ⟨rfl, rfl, rfl⟩
  | obj t a =>
    cases t with
    | unit => exact nomatch hs
    | _ => exact ⟨rfl, rfl, rfl⟩
  | pt ds => exact nomatch hs
  | _ => exact ⟨rfl, rfl, rfl⟩
abbrev sHole : Stmt := st__is_hole
theorem begins_tup {d : D} {x : Str} (h : begins x d = true) : ∃ ds, d = .tup (.str x :: ds) := by
  unfold begins at h
  split at h
  · rename_i y ds
    exact ⟨ds, by rw [of_decide_eq_true h]⟩
  · cases h
theorem isHole_no {d : D} (h : begins "hole" d = false) : isHole d = false := by
  unfold isHole
  split
  · rename_i x hh
    have : decide (x = "hole") = false := h
    rw [this, Bool.false_and]
  · rfl
theorem ok_hole (F : Fun K "_is_hole" "_is_hole" sHole f fd) (T : Cst mg) (D1 : DBegins P w K mg base Z) (D2 : DB P w K mg base Z "is_word" 2 isWord) : FnOk P w K mg base CX0 3 f fd ["thing"] (spP Z K 1 (gB isHole)) := by
  have sc : FnScope ["thing"] ["thing"] (defScope sHole) := ⟨rfl, rfl, rfl, by decide +kernel, rfl, by decide +kernel, by decide +kernel⟩
  refine fn_pure F sc rfl gB_out fun cdv A outer s H E b ds r hr hl hg => ?_
  obtain ⟨d, rfl, hs, rfl⟩ := gB_one hg
  have b0 := T.blt (cxOf CX0 P w K mg base ["thing"] "_is_hole" (defScope sHole) f cdv A outer s H E).nox rfl
  refine sv_ret (ev_and (ev_callP D1 (hr.mono (by decide)) (eva_cons (ev_var 0 rfl (eva_cons (ev_str (eva_nil ⟨_, _, rfl, rfl, gBegins_of hs, _, rfl, ?_⟩)))))))
  cases e : begins "hole" d with
  | false => exact ⟨rfl, rfl, by rw [isHole_no e]⟩
  | true =>
    obtain ⟨ds, rfl⟩ := begins_tup e
    refine ev_and (ev_eq (ev_len b0 (ev_var 0 rfl ⟨_, .tup, ev_int ⟨_, _, _, rfl, rfl, rfl, _, rfl, ?_⟩⟩)))
    match ds, hs with
    | [h], hs =>
      obtain ⟨_, sh⟩ := sm2 hs
      exact ev_one (ev_callP D2 hr (eva_cons (ev_ix (ev_var 0 rfl (ev_int ⟨_, _, _, .inl rfl, rfl, at1, eva_nil ⟨_, _, rfl, rfl, gB_of sh, rfl, rfl, by simp only [isHole, decide_true, Bool.true_and]⟩⟩)))))
    | [], _ => exact ⟨rfl, rfl, rfl⟩
    | h1 :: h2 :: ds, _ =>
      have e0 : decide (((D.str "hole" :: h1 :: h2 :: ds).length : Int) = 2) = false := by simp; omega
      rw [e0]
      exact ⟨rfl, rfl, rfl⟩
abbrev sEmpty : Stmt := st__is_empty
theorem ok_empty (F : Fun K "_is_empty" "_is_empty" sEmpty f fd) (T : Cst mg) : FnOk P w K mg base CX0 1 f fd ["thing"] (spP Z K 1 (gB isEmptyS)) := by
  have sc : FnScope ["thing"] ["thing"] (defScope sEmpty) := ⟨rfl, rfl, rfl, by decide +kernel, rfl, by decide +kernel, by decide +kernel⟩
  refine fn_pure F sc rfl gB_out fun cdv A outer s H E b ds r hr hl hg => ?_
  obtain ⟨d, rfl, hs, rfl⟩ := gB_one hg
  have b0 := T.blt (cxOf CX0 P w K mg base ["thing"] "_is_empty" (defScope sEmpty) f cdv A outer s H E).nox rfl
  refine sv_ret (ev_and (ev_isi (t := "str") b0 b0.str (by decide +kernel) (ev_var 0 rfl ⟨_, isi_s d, _, rfl, ?_⟩)))
  cases d with
  | str x => exact ev_one (ev_eq (ev_len b0 (ev_var 0 rfl ⟨_, .str (sm_str hs), ev_int ⟨_, _, _, rfl, rfl, rfl, rfl, rfl, rfl⟩⟩)))
  | _ => exact ⟨rfl, rfl, rfl⟩
abbrev sDecl : Stmt := st__is_declaration
theorem ok_decl (F : Fun K "_is_declaration" "_is_declaration" sDecl f fd) (T : Cst mg) (D1 : DB P w K mg base Z "is_pair" 1 isPair) (D2 : DB P w K mg base Z "is_prefix" 2 isPrefix) (D3 : DB P w K mg base Z "is_address" 2 isAddr) (D4 : DB P w K mg base Z "_is_empty" 1 isEmptyS) :
    FnOk P w K mg base CX0 3 f fd ["thing"] (spP Z K 1 (gB isDecl)) := by
  have sc : FnScope ["thing"] ["thing"] (defScope sDecl) := ⟨rfl, rfl, rfl, by decide +kernel, rfl, by decide +kernel, by decide +kernel⟩
  refine fn_pure F sc rfl gB_out fun cdv A outer s H E b ds r hr hl hg => ?_
  obtain ⟨d, rfl, hs, rfl⟩ := gB_one hg
  refine sv_ret (ev_and (ev_callP D1 (hr.mono (by decide)) (eva_cons (ev_var 0 rfl (eva_nil ⟨_, _, rfl, rfl, gB_of hs, _, rfl, ?_⟩)))))
  cases e : isPair d with
  | false => exact ⟨rfl, rfl, by rw [isDecl_no e]⟩
  | true =>
    obtain ⟨a, c, rfl⟩ := isPair_tup e
    obtain ⟨sa, sc⟩ := sm2 hs
    refine ev_and (ev_callP D2 hr (eva_cons (ev_ix (ev_var 0 rfl (ev_int ⟨_, _, _, .inl rfl, rfl, at0, eva_nil ⟨_, _, rfl, rfl, gB_of sa, _, rfl, ?_⟩⟩)))))
    cases e2 : isPrefix a with
    | false => exact ⟨rfl, rfl, by simp only [isDecl, e2, Bool.false_and]⟩
    | true =>
      refine ev_one (ev_or (ev_callP D3 hr (eva_cons (ev_ix (ev_var 0 rfl (ev_int ⟨_, _, _, .inl rfl, rfl, at1, eva_nil ⟨_, _, rfl, rfl, gB_of sc, _, rfl, ?_⟩⟩))))))
      cases e3 : isAddr c with
      | true => exact ⟨rfl, rfl, by simp only [isDecl, e2, e3, Bool.true_and, Bool.true_or]⟩
      | false => exact ev_one (ev_callP D4 (hr.mono (by decide)) (eva_cons (ev_ix (ev_var 0 rfl (ev_int ⟨_, _, _, .inl rfl, rfl, at1, eva_nil ⟨_, _, rfl, rfl, gB_of sc, rfl, rfl, by simp only [isDecl, e2, e3, Bool.true_and, Bool.false_or]⟩⟩)))))
abbrev sAttr : Stmt := st__is_attribute
theorem ok_attr (F : Fun K "_is_attribute" "_is_attribute" sAttr f fd) (T : Cst mg) (D1 : DB P w K mg base Z "is_pair" 1 isPair) (D2 : DB P w K mg base Z "is_name" 3 isName) (D3 : DB P w K mg base Z "_is_plain" 2 isPlain) :
    FnOk P w K mg base CX0 4 f fd ["thing"] (spP Z K 1 (gB isAttr)) := by
  have sc : FnScope ["thing"] ["thing"] (defScope sAttr) := ⟨rfl, rfl, rfl, by decide +kernel, rfl, by decide +kernel, by decide +kernel⟩
  refine fn_pure F sc rfl gB_out fun cdv A outer s H E b ds r hr hl hg => ?_
  obtain ⟨d, rfl, hs, rfl⟩ := gB_one hg
  refine sv_ret (ev_and (ev_callP D1 (hr.mono (by decide)) (eva_cons (ev_var 0 rfl (eva_nil ⟨_, _, rfl, rfl, gB_of hs, _, rfl, ?_⟩)))))
  cases e : isPair d with
  | false => exact ⟨rfl, rfl, by rw [isAttr_no e]⟩
  | true =>
    obtain ⟨a, c, rfl⟩ := isPair_tup e
    obtain ⟨sa, sc⟩ := sm2 hs
    refine ev_and (ev_callP D2 hr (eva_cons (ev_ix (ev_var 0 rfl (ev_int ⟨_, _, _, .inl rfl, rfl, at0, eva_nil ⟨_, _, rfl, rfl, gB_of sa, _, rfl, ?_⟩⟩)))))
    cases e2 : isName a with
    | false => exact ⟨rfl, rfl, by simp only [isAttr, e2, Bool.false_and]⟩
    | true =>
      refine ev_one (ev_or (ev_callP D3 (hr.mono (by decide)) (eva_cons (ev_ix (ev_var 0 rfl (ev_int ⟨_, _, _, .inl rfl, rfl, at1, eva_nil ⟨_, _, rfl, rfl, gB_of sc, _, rfl, ?_⟩⟩))))))
      cases e3 : isPlain c with
      | true => exact ⟨rfl, rfl, by simp only [isAttr, e2, e3, Bool.true_and, Bool.true_or]⟩
      | false => exact ev_one (ev_callP D2 hr (eva_cons (ev_ix (ev_var 0 rfl (ev_int ⟨_, _, _, .inl rfl, rfl, at1, eva_nil ⟨_, _, rfl, rfl, gB_of sc, rfl, rfl, by simp only [isAttr, e2, e3, Bool.true_and, Bool.false_or]⟩⟩)))))
abbrev sElem : Stmt := st_is_element
abbrev DElem (P : Program) (w : World) (K : PySem.W.Frag) (mg : Str → Option Value) (base : Heap) (Z : Vol) := DB P w K mg base Z "is_element" 2 (begins "element")
theorem ok_elem (F : Fun K "is_element" "is_element" sElem f fd) (D1 : DBegins P w K mg base Z) : FnOk P w K mg base CX0 2 f fd ["thing"] (spP Z K 1 (gB (begins "element"))) := by
  have sc : FnScope ["thing"] ["thing"] (defScope sElem) := ⟨rfl, rfl, rfl, by decide +kernel, rfl, by decide +kernel, by decide +kernel⟩
  refine fn_pure F sc rfl gB_out fun cdv A outer s H E b ds r hr hl hg => ?_
  obtain ⟨d, rfl, hs, rfl⟩ := gB_one hg
  exact sv_ret (ev_callP D1 hr (eva_cons (ev_var 0 rfl (eva_cons (ev_str (eva_nil ⟨_, _, rfl, rfl, gBegins_of hs, rfl, rfl, rfl⟩))))))
end
end G
set_option Elab.async false
set_option linter.all false
set_option maxRecDepth 100000
set_option maxHeartbeats 4000000
namespace G
open PySem PySem.Spec PyProof.Rows L2 PD
section
variable {P : Program} {w : World} {K : PySem.W.Frag} {mg : Str → Option Value} {base : Heap} {Z : Vol} {f : Addr} {fd : FuncData}
/-! ### _are_children -/
abbrev sKids : Stmt := st__are_children
def kidD (d : D) (bt : Bool) : Option Bool :=
  if d.isS then (if bt || isEmptyS d || !isPlain d then none else some true) else if begins "element" d || isHole d then some false else none
theorem kidsOk_cons (bt : Bool) (d : D) (ds : List D) : kidsOk bt (d :: ds) = (match kidD d bt with | none => false | some k => kidsOk k ds) := by
  unfold kidD
  rw [kidsOk]
  cases d.isS with
  | true =>
    cases (bt || isEmptyS d || !isPlain d) <;> simp
  | false =>
    cases (begins "element" d || isHole d) <;> simp
theorem kids_sm {ds : List D} {d : D} (h : sms ds = true) (hm : d ∈ ds) : sm d = true := sm_mem h hm
/-- a truth value of children that are small -/
def gK (f : D → Bool) : List D → Option Res
  | [d] => if smK d = true then some (.va (.bl (f d))) else none
  | _ => none
theorem gK_out {f : D → Bool} : ∀ (ds : List D) (r : Res), gK f ds = some r → r.out = true := by
  intro ds r h
  unfold gK at h
  split at h
  · split at h
    · cases h; rfl
    · cases h
  · cases h
theorem gK_of {f : D → Bool} {d : D} (h : smK d = true) : gK f [d] = some (.va (.bl (f d))) := by
  show (if smK d = true then _ else _) = _
  rw [if_pos h]
theorem gK_one {f : D → Bool} {ds : List D} {r : Res} (h : gK f ds = some r) : ∃ d, ds = [d] ∧ smK d = true ∧ r = .va (.bl (f d)) := by
  unfold gK at h
  split at h
  · rename_i d
    split at h
    · rename_i hs
      cases h
      exact ⟨d, rfl, hs, rfl⟩
    · cases h
  · cases h
theorem ok_kids (F : Fun K "_are_children" "_are_children" sKids f fd) (T : Cst mg) (D1 : DB P w K mg base Z "_is_empty" 1 isEmptyS) (D2 : DB P w K mg base Z "_is_plain" 2 isPlain) (D3 : DElem P w K mg base Z) (D4 : DB P w K mg base Z "_is_hole" 3 isHole) :
    FnOk P w K mg base CX0 4 f fd ["thing"] (spP Z K 1 (gK areChildren)) := by
  have sc : FnScope ["thing", "behind_text", "child"] ["thing"] (defScope sKids) := ⟨rfl, rfl, rfl, by decide +kernel, rfl, by decide +kernel, by decide +kernel⟩
  refine fn_pure F sc rfl gK_out fun cdv A outer s H E b ds r hr hl hg => ?_
  obtain ⟨d, rfl, hs, rfl⟩ := gK_one hg
  have b0 := T.blt (cxOf CX0 P w K mg base ["thing", "behind_text", "child"] "_are_children" (defScope sKids) f cdv A outer s H E).nox rfl
  refine sv_if (et_not (et_val (ev_isi (t := "tuple") b0 b0.tuple (by decide +kernel) (ev_var 0 rfl ⟨_, isi_t d, _, rfl, ?_⟩))))
  cases d with
  | tup ds =>
    refine sv_nil ?_
    refine sv_set 1 (ev_bl ⟨_, rfl, ?_⟩) sc.nd
    refine sv_for (.nm 2) rfl PassesOwn.never (pg_name (i := 2) sc.nd rfl (Or.inl rfl)) (ei_tup (ev_var 0 rfl ⟨ds, rfl, ?_⟩))
    refine ⟨fun pre b2 δ2 => b2 = b ∧ ∃ bt sl, δ2 = [.va (.tup ds), .va (.bl bt), sl] ∧ ∀ post, ds = pre ++ post → kidsOk false ds = kidsOk bt post, ⟨rfl, false, _, rfl, fun post e => by cases e; rfl⟩, ?_, ?_⟩
    · rintro pre d post b2 δ2 e ⟨rfl, bt, sl, rfl, iv⟩
      have sd : sm d = true := kids_sm (smK_tup hs).2 (by rw [e]; simp)
      have iv2 := iv _ e
      rw [kidsOk_cons] at iv2
      refine ⟨_, rfl, ?_⟩
      have no : kidD d bt = none → (retF (fun (b' : Nat) (r' : Res) => b' = b2 ∧ r' = Res.va (.bl (areChildren (.tup ds))))).R b2 (Res.va (.bl false)) := fun z => ⟨rfl, rfl, by
        show Res.va (.bl false) = .va (.bl (kidsOk false ds))
        rw [iv2, z]⟩
      refine sv_ifJ (fun b' δ' => b' = b2 ∧ δ' = [.va (.tup ds), .va (.bl bt), .va d] ∧ kidD d bt = some d.isS) (et_val (ev_isi (t := "str") b0 b0.str (by decide +kernel) (ev_var 2 rfl ⟨_, isi_s d, _, rfl, ?_⟩))) ?_
      · cases es : d.isS with
        | true =>
          refine sv_if (et_pw (ew_or (et_val (ev_var 1 rfl ⟨_, rfl, ?_⟩))))
          cases bt with
          | true => exact sv_ret (ev_bl (no (by simp [kidD, es])))
          | false =>
            refine ew_or (et_val (ev_callP D1 (hr.mono (by decide)) (eva_cons (ev_var 2 rfl (eva_nil ⟨_, _, rfl, rfl, gB_of sd, _, rfl, ?_⟩)))))
            cases ee : isEmptyS d with
            | true => exact sv_ret (ev_bl (no (by simp [kidD, es, ee])))
            | false =>
              refine ew_or1 (et_not (et_val (ev_callP D2 (hr.mono (by decide)) (eva_cons (ev_var 2 rfl (eva_nil ⟨_, _, rfl, rfl, gB_of sd, _, rfl, ?_⟩))))))
              cases ep : isPlain d with
              | true => exact sv_nil (sv_nil ⟨rfl, rfl, by simp [kidD, es, ee, ep]⟩)
              | false => exact sv_ret (ev_bl (no (by simp [kidD, es, ee, ep])))
        | false =>
          refine sv_if (et_pw (ew_and (et_not (et_val (ev_callP D3 (hr.mono (by decide)) (eva_cons (ev_var 2 rfl (eva_nil ⟨_, _, rfl, rfl, gB_of sd, _, rfl, ?_⟩))))))))
          cases eb : begins "element" d with
          | true => exact sv_nil (sv_nil ⟨rfl, rfl, by simp [kidD, es, eb]⟩)
          | false =>
            refine ew_and1 (et_not (et_val (ev_callP D4 hr (eva_cons (ev_var 2 rfl (eva_nil ⟨_, _, rfl, rfl, gB_of sd, _, rfl, ?_⟩))))))
            cases eh : isHole d with
            | true => exact sv_nil (sv_nil ⟨rfl, rfl, by simp [kidD, es, eb, eh]⟩)
            | false => exact sv_ret (ev_bl (no (by simp [kidD, es, eb, eh])))
      · rintro b' δ' ⟨rfl, rfl, hk⟩
        refine sv_set 1 (ev_isi (t := "str") b0 b0.str (by decide +kernel) (ev_var 2 rfl ⟨_, isi_s d, _, rfl, ?_⟩)) sc.nd
        refine sv_nil ⟨rfl, _, _, rfl, fun post2 e2 => ?_⟩
        have : post = post2 := by rw [e, List.append_assoc] at e2; simpa using e2
        rw [iv2, hk, this]
    · rintro b2 δ2 ⟨rfl, bt, sl, rfl, iv⟩
      refine sv_ret (ev_bl ⟨rfl, rfl, ?_⟩)
      have := iv [] (by simp)
      show Res.va (.bl true) = .va (.bl (kidsOk false ds))
      rw [this]
      rfl
  | obj t a =>
    cases t with
    | unit => exact nomatch hs
    | _ => exact sv_ret (ev_bl ⟨rfl, rfl, rfl⟩)
  | pt ds => exact nomatch hs
  | _ => exact sv_ret (ev_bl ⟨rfl, rfl, rfl⟩)
end
end G
set_option Elab.async false
set_option linter.all false
set_option maxRecDepth 100000
set_option maxHeartbeats 4000000
namespace G
open PySem PySem.Spec PyProof.Rows L2 PD
section
variable {P : Program} {w : World} {K : PySem.W.Frag} {mg : Str → Option Value} {base : Heap} {Z : Vol} {f : Addr} {fd : FuncData}
/-! ### _holes_among -/
theorem hole_two {d : D} (h : (begins "element" d || isHole d) = true) (hb : begins "hole" d = true) : ∃ x, d = .tup [.str "hole", .str x] := by
  obtain ⟨ds, rfl⟩ := begins_tup hb
  have e : begins "element" (.tup (.str "hole" :: ds)) = false := by
    show decide (("hole" : Str) = "element") = false
    decide +kernel
  rw [e, Bool.false_or] at h
  unfold isHole at h
  split at h
  · rename_i x h1 he
    cases he
    rw [Bool.and_eq_true] at h
    obtain ⟨y, rfl⟩ := mdo_str (s := letters) (lo := 1) (hi := 8) h.2
    exact ⟨y, rfl⟩
  · cases h
theorem kids_hole : ∀ {ds : List D} {bt : Bool}, kidsOk bt ds = true → ∀ d ∈ ds, begins "hole" d = true → ∃ x, d = .tup [.str "hole", .str x]
  | [], _, _, _, h, _ => nomatch h
  | c :: cs, bt, hk, d, hm, hb => by
    rw [kidsOk_cons] at hk
    rcases List.mem_cons.mp hm with rfl | hm
    · unfold kidD at hk
      cases es : d.isS with
      | true =>
        obtain ⟨ds, rfl⟩ := begins_tup hb
        cases es
      | false =>
        rw [es] at hk
        cases eh : (begins "element" d || isHole d) with
        | true => exact hole_two eh hb
        | false => rw [eh] at hk; cases hk
    · cases e : kidD c bt with
      | none => rw [e] at hk; cases hk
      | some k => rw [e] at hk; exact kids_hole hk d hm hb
theorem holeStrs_eq : ∀ ds : List D, holeStrs ds = (ds.filter (begins "hole")).map sndOf
  | [] => rfl
  | c :: cs => by
    rw [holeStrs, holeStrs_eq cs, List.filter_cons]
    cases begins "hole" c <;> rfl
def gHoles : List D → Option Res
  | [.tup ds] => if smK (.tup ds) = true ∧ kidsOk false ds = true then some (.ow (holeStrs ds)) else none
  | _ => none
theorem gHoles_out : ∀ (ds : List D) (r : Res), gHoles ds = some r → r.out = true := by
  intro ds r h
  unfold gHoles at h
  split at h
  · split at h
    · cases h; rfl
    · cases h
  · cases h
theorem gHoles_one {ds : List D} {r : Res} (h : gHoles ds = some r) : ∃ cs, ds = [.tup cs] ∧ smK (.tup cs) = true ∧ kidsOk false cs = true ∧ r = .ow (holeStrs cs) := by
  unfold gHoles at h
  split at h
  · split at h
    · rename_i q
      cases h; exact ⟨_, rfl, q.1, q.2, rfl⟩
    · cases h
  · cases h
theorem gHoles_of {cs : List D} (h : smK (.tup cs) = true) (hk : kidsOk false cs = true) : gHoles [.tup cs] = some (.ow (holeStrs cs)) := if_pos ⟨h, hk⟩
abbrev sHoles : Stmt := st_holes_among
theorem ok_holes (F : Fun K "holes_among" "holes_among" sHoles f fd) (T : Cst mg) (D3 : DBegins P w K mg base Z) :
    FnOk P w K mg base CX0 2 f fd ["children"] (spP Z K 1 gHoles) := by
  have sc : FnScope ["children", "child"] ["children"] (defScope sHoles) := ⟨rfl, rfl, rfl, by decide +kernel, rfl, by decide +kernel, by decide +kernel⟩
  refine fn_pure F sc rfl gHoles_out fun cdv A outer s H E b ds r hr hl hg => ?_
  obtain ⟨cs, rfl, hs, hk, rfl⟩ := gHoles_one hg
  refine sv_ret (ev_filt (.nm 1) [("child", 1)] (begins "hole") sndOf rfl sc.nd (blkOk_by (N := ["children", "child"]) (sc := defScope sHoles) (by decide +kernel)) (fun _ _ _ _ _ => pg_name (i := 1) sc.nd rfl (Or.inl rfl)) (by simp [Pat.slots]) (EI.c (ei_tup (ev_var 0 rfl ⟨cs, rfl, ?_⟩))))
  refine ⟨Nat.le_trans (smK_tup hs).1 (by decide), fun d hd => ⟨_, rfl, fun s H Cc cl fp => ?_, fun ht s H Cc cl fp => ?_⟩, rfl, rfl, by rw [holeStrs_eq]⟩
  · exact et_val (ev_callP D3 hr (eva_cons (ev_var 1 rfl (eva_cons (ev_str (eva_nil ⟨_, _, rfl, rfl, gBegins_of (kids_sm (smK_tup hs).2 hd), _, rfl, rfl, rfl⟩))))))
  · obtain ⟨x, rfl⟩ := kids_hole hk d hd ht
    exact ev_ix (ev_var 1 rfl (ev_int ⟨_, _, _, .inl rfl, rfl, at1, rfl, rfl⟩))
/-! ### _wrong_item -/
def few (n : Nat) : D → Bool
  | .tup ds => decide (ds.length ≤ n)
  | .pt ds => decide (ds.length ≤ n)
  | _ => true
/-- its declarations, its attributes are few -/
def fewA : D → Bool
  | .tup [_, _, de, a, _] => few 50 de && few 4 a
  | _ => true
def gF (n : Nat) (f : D → Bool) : List D → Option Res
  | [d] => if sm d = true ∧ few n d = true then some (.va (.bl (f d))) else none
  | _ => none
theorem gF_out {n : Nat} {f : D → Bool} : ∀ (ds : List D) (r : Res), gF n f ds = some r → r.out = true := by
  intro ds r h
  unfold gF at h
  split at h
  · split at h
    · cases h; rfl
    · cases h
  · cases h
theorem gF_of {n : Nat} {f : D → Bool} {d : D} (h : sm d = true) (h2 : few n d = true) : gF n f [d] = some (.va (.bl (f d))) := by
  show (if sm d = true ∧ few n d = true then _ else _) = _
  rw [if_pos ⟨h, h2⟩]
theorem gF_one {n : Nat} {f : D → Bool} {ds : List D} {r : Res} (h : gF n f ds = some r) : ∃ d, ds = [d] ∧ sm d = true ∧ few n d = true ∧ r = .va (.bl (f d)) := by
  unfold gF at h
  split at h
  · rename_i d
    split at h
    · rename_i hs
      cases h
      exact ⟨d, rfl, hs.1, hs.2, rfl⟩
    · cases h
  · cases h
/-- .. of declarations -/
def gDc (n : Nat) (f : D → Bool) : List D → Option Res
  | [d] => if smD d = true ∧ few n d = true then some (.va (.bl (f d))) else none
  | _ => none
theorem gDc_out {n : Nat} {f : D → Bool} : ∀ (ds : List D) (r : Res), gDc n f ds = some r → r.out = true := by
  intro ds r h
  unfold gDc at h
  split at h
  · split at h
    · cases h; rfl
    · cases h
  · cases h
theorem gDc_of {n : Nat} {f : D → Bool} {d : D} (h : smD d = true) (h2 : few n d = true) : gDc n f [d] = some (.va (.bl (f d))) := by
  show (if smD d = true ∧ few n d = true then _ else _) = _
  rw [if_pos ⟨h, h2⟩]
theorem gDc_one {n : Nat} {f : D → Bool} {ds : List D} {r : Res} (h : gDc n f ds = some r) : ∃ d, ds = [d] ∧ smD d = true ∧ few n d = true ∧ r = .va (.bl (f d)) := by
  unfold gDc at h
  split at h
  · rename_i d
    split at h
    · rename_i hs
      cases h
      exact ⟨d, rfl, hs.1, hs.2, rfl⟩
    · cases h
  · cases h
def gWrong : List D → Option Res
  | [d] => if sm d = true ∧ fewA d = true then some (.va (optD (wrongItem d))) else none
  | _ => none
theorem gWrong_out : ∀ (ds : List D) (r : Res), gWrong ds = some r → r.out = true := by
  intro ds r h
  unfold gWrong at h
  split at h
  · split at h
    · cases h; rfl
    · cases h
  · cases h
theorem gWrong_of {d : D} (h : sm d = true) (h2 : fewA d = true) : gWrong [d] = some (.va (optD (wrongItem d))) := by
  show (if sm d = true ∧ fewA d = true then _ else _) = _
  rw [if_pos ⟨h, h2⟩]
theorem gWrong_one {ds : List D} {r : Res} (h : gWrong ds = some r) : ∃ d, ds = [d] ∧ sm d = true ∧ fewA d = true ∧ r = .va (optD (wrongItem d)) := by
  unfold gWrong at h
  split at h
  · rename_i d
    split at h
    · rename_i hs
      cases h
      exact ⟨d, rfl, hs.1, hs.2, rfl⟩
    · cases h
  · cases h
theorem atN {ds : List D} {j : Nat} {d : D} (h : ds[j]? = some d) : atI ds (j : Nat) = some d := atI_nat h
theorem wrong_no {d : D} (h : begins "element" d = false) : wrongItem d = some "form" := by
  unfold wrongItem
  split
  · rw [h]; rfl
  · rfl
theorem wrong_len {ds : List D} (h : ds.length ≠ 5) : wrongItem (.tup ds) = some "form" := by
  unfold wrongItem
  split
  · rename_i e
    cases e
    exact absurd rfl h
  · rfl
abbrev sWrong : Stmt := st__wrong_item
theorem ok_wrong (F : Fun K "_wrong_item" "_wrong_item" sWrong f fd) (T : Cst mg) (D1 : DElem P w K mg base Z) (D2 : DB P w K mg base Z "is_name" 3 isName) (D3 : Df P w K mg base "_are_declarations" 4 ["thing"] (spP Z K 1 (gDc 50 areDecls)))
    (D4 : Df P w K mg base "_are_attributes" 5 ["thing"] (spP Z K 1 (gF 4 areAttrs))) (D5 : Df P w K mg base "_are_children" 4 ["thing"] (spP Z K 1 (gK areChildren))) :
    FnOk P w K mg base CX0 6 f fd ["thing"] (spP Z K 1 gWrong) := by
  have sc : FnScope ["thing"] ["thing"] (defScope sWrong) := ⟨rfl, rfl, rfl, by decide +kernel, rfl, by decide +kernel, by decide +kernel⟩
  refine fn_pure F sc rfl gWrong_out fun cdv A outer s H E b ds r hr hl hg => ?_
  obtain ⟨d, rfl, hs, hfw, rfl⟩ := gWrong_one hg
  have b0 := T.blt (cxOf CX0 P w K mg base ["thing"] "_wrong_item" (defScope sWrong) f cdv A outer s H E).nox rfl
  refine sv_if (et_pw (ew_or (et_not (et_val (ev_callP D1 (hr.mono (by decide)) (eva_cons (ev_var 0 rfl (eva_nil ⟨_, _, rfl, rfl, gB_of hs, _, rfl, ?_⟩))))))))
  cases e : begins "element" d with
  | false => exact sv_ret (ev_str ⟨rfl, rfl, by rw [wrong_no e]; rfl⟩)
  | true =>
    obtain ⟨ds, rfl⟩ := begins_tup e
    refine ew_or1 (et_ne (ev_len b0 (ev_var 0 rfl ⟨_, .tup, ev_int ⟨_, _, _, rfl, rfl, rfl, ?_⟩⟩)))
    by_cases h5 : (D.str "element" :: ds).length = 5
    · have h5' : decide (((D.str "element" :: ds).length : Int) = 5) = true := by rw [h5]; rfl
      rw [h5']
      match ds, h5 with
      | [n, de, at_, ch], _ =>
        obtain ⟨_, s1, s2, s3, s4⟩ := sm_el hs
        have hfw' : few 50 de = true ∧ few 4 at_ = true := by simpa [fewA] using hfw
        refine sv_nil ?_
        refine sv_if (et_not (et_val (ev_callP D2 (hr.mono (by decide)) (eva_cons (ev_ix (ev_var 0 rfl (ev_int ⟨_, _, _, .inl rfl, rfl, atN (j := 1) rfl, eva_nil ⟨_, _, rfl, rfl, gB_of s1, _, rfl, ?_⟩⟩)))))))
        cases e1 : isName n with
        | false => exact sv_ret (ev_str ⟨rfl, rfl, by simp [wrongItem, e, e1]; rfl⟩)
        | true =>
          refine sv_nil ?_
          refine sv_if (et_not (et_val (ev_callP D3 (hr.mono (by decide)) (eva_cons (ev_ix (ev_var 0 rfl (ev_int ⟨_, _, _, .inl rfl, rfl, atN (j := 2) rfl, eva_nil ⟨_, _, rfl, rfl, gDc_of s2 hfw'.1, _, rfl, ?_⟩⟩)))))))
          cases e2 : areDecls de with
          | false => exact sv_ret (ev_str ⟨rfl, rfl, by simp [wrongItem, e, e1, e2]; rfl⟩)
          | true =>
            refine sv_nil ?_
            refine sv_if (et_not (et_val (ev_callP D4 hr (eva_cons (ev_ix (ev_var 0 rfl (ev_int ⟨_, _, _, .inl rfl, rfl, atN (j := 3) rfl, eva_nil ⟨_, _, rfl, rfl, gF_of s3 hfw'.2, _, rfl, ?_⟩⟩)))))))
            cases e3 : areAttrs at_ with
            | false => exact sv_ret (ev_str ⟨rfl, rfl, by simp [wrongItem, e, e1, e2, e3]; rfl⟩)
            | true =>
              refine sv_nil ?_
              refine sv_if (et_not (et_val (ev_callP D5 (hr.mono (by decide)) (eva_cons (ev_ix (ev_var 0 rfl (ev_int ⟨_, _, _, .inl rfl, rfl, atN (j := 4) rfl, eva_nil ⟨_, _, rfl, rfl, gK_of s4, _, rfl, ?_⟩⟩)))))))
              cases e4 : areChildren ch with
              | false => exact sv_ret (ev_str ⟨rfl, rfl, by simp [wrongItem, e, e1, e2, e3, e4]; rfl⟩)
              | true => exact sv_nil (sv_ret (ev_non ⟨rfl, rfl, by simp [wrongItem, e, e1, e2, e3, e4]; rfl⟩))
    · have h5' : decide (((D.str "element" :: ds).length : Int) = 5) = false := decide_eq_false (by omega)
      rw [h5']
      exact sv_ret (ev_str ⟨rfl, rfl, by rw [wrong_len h5]; rfl⟩)
end
end G
set_option Elab.async false
set_option linter.all false
set_option maxRecDepth 100000
set_option maxHeartbeats 4000000
namespace G
open PySem PySem.Spec PyProof.Rows L2 PD
/-! ### the stack -/
theorem elemsAt_mem (p : List D) : ∀ (cs : List D) (k : Nat) (q : List D × D), q ∈ elemsAt p k cs → q.2 ∈ cs
  | [], _, _, h => nomatch h
  | c :: cs, k, q, h => by
    unfold elemsAt at h
    split at h
    · rcases List.mem_cons.mp h with rfl | h
      · exact List.mem_cons_self
      · exact List.mem_cons_of_mem _ (elemsAt_mem p cs (k + 1) q h)
    · exact List.mem_cons_of_mem _ (elemsAt_mem p cs (k + 1) q h)
theorem fw_len : ∀ (l : List (List D × D)) (n : Nat), fw n l = none → l = [] ∨ n + l.length ≤ 60
  | [], _, _ => .inl rfl
  | (p, d) :: r, n, h => by
    unfold fw at h
    split at h
    · rename_i hc
      refine .inr ?_
      split at h
      · cases h
      · rcases fw_len r (n + 1) h with rfl | z
        · simp; omega
        · simp; omega
    · cases h
theorem fw_cons {p : List D} {d : D} {r : List (List D × D)} {n : Nat} (h : fw n ((p, d) :: r) = none) : n + 1 ≤ 60 ∧ p.length < 8 ∧ wrongItem d = none ∧ fw (n + 1) r = none := by
  unfold fw at h
  split at h
  · rename_i hc
    split at h
    · cases h
    · rename_i hw
      exact ⟨hc.1, hc.2, hw, h⟩
  · cases h
theorem wrong_none {d : D} (h : wrongItem d = none) : ∃ n de at_ cs, d = .tup [.str "element", n, de, at_, .tup cs] ∧ isName n = true ∧ areDecls de = true ∧ areAttrs at_ = true ∧ kidsOk false cs = true := by
  unfold wrongItem at h
  split at h
  · rename_i k n de at_ ch
    split at h
    · rename_i hb
      obtain ⟨ds, e⟩ := begins_tup hb
      cases e
      split at h
      · split at h
        · split at h
          · split at h
            · rename_i h1 h2 h3 h4
              cases ch with
              | tup cs => exact ⟨n, de, at_, cs, rfl, h1, h2, h3, h4⟩
              | _ => cases h4
            · cases h
          · cases h
        · cases h
      · cases h
    · cases h
  · cases h
/-- what stands on the stack, the top last -/
def stD (st : List (List D × D)) : List D := st.reverse.map pairD
theorem stD_cons (q : List D × D) (st : List (List D × D)) : stD (q :: st) = stD st ++ [pairD q] := by simp [stD]
theorem stD_app (a st : List (List D × D)) : stD (a ++ st) = stD st ++ stD a := by simp [stD]
def gBelow : List D → Option Res
  | [.tup p, .tup [k, n, de, at_, .tup cs]] => if smK (.tup cs) = true ∧ p.length ≤ 100 then some (.ow (stD (elemsAt p 0 cs))) else none
  | _ => none
theorem gBelow_out : ∀ (ds : List D) (r : Res), gBelow ds = some r → r.out = true := by
  intro ds r h
  unfold gBelow at h
  split at h
  · split at h
    · cases h; rfl
    · cases h
  · cases h
abbrev DBelow (P : Program) (w : World) (K : PySem.W.Frag) (mg : Str → Option Value) (base : Heap) (Z : Vol) := Df P w K mg base "_below" 3 ["path", "element"] (spP Z K 2 gBelow)
def gWalk : List D → Option Res
  | [d] => if sm d = true ∧ fw 0 (pre [] d) = none then some (.ow ((pre [] d).map pairD)) else none
  | _ => none
theorem gWalk_out : ∀ (ds : List D) (r : Res), gWalk ds = some r → r.out = true := by
  intro ds r h
  unfold gWalk at h
  split at h
  · split at h
    · cases h; rfl
    · cases h
  · cases h
theorem gWalk_one {ds : List D} {r : Res} (h : gWalk ds = some r) : ∃ d, ds = [d] ∧ sm d = true ∧ fw 0 (pre [] d) = none ∧ r = .ow ((pre [] d).map pairD) := by
  unfold gWalk at h
  split at h
  · split at h
    · rename_i q
      cases h; exact ⟨_, rfl, q.1, q.2, rfl⟩
    · cases h
  · cases h
section
variable {P : Program} {w : World} {K : PySem.W.Frag} {mg : Str → Option Value} {base : Heap} {Z : Vol} {f : Addr} {fd : FuncData}
abbrev sWalk : Stmt := st_walk
theorem ok_walk (F : Fun K "walk" "walk" sWalk f fd) (T : Cst mg) (D1 : DBelow P w K mg base Z) : FnOk P w K mg base CX0 4 f fd ["part"] (spP Z K 1 gWalk) := by
  have sc : FnScope ["part", "found", "waiting", "path", "element"] ["part"] (defScope sWalk) := ⟨rfl, rfl, rfl, by decide +kernel, rfl, by decide +kernel, by decide +kernel⟩
  refine fn_pure F sc rfl gWalk_out fun cdv A outer s H E b ds r hr hl hg => ?_
  obtain ⟨d, rfl, hs, hf, rfl⟩ := gWalk_one hg
  refine sv_set 1 (ev_lst (eva_nil ⟨[], rfl, by decide, _, rfl, ?_⟩)) sc.nd
  refine sv_set 2 (ev_lst (eva_cons (ev_tup (eva_cons (ev_tup (eva_nil ⟨[], rfl, by decide, eva_cons (ev_var 0 rfl (eva_nil ⟨_, rfl, by simp, eva_nil ⟨_, rfl, by simp, _, rfl, ?_⟩⟩))⟩)))))) sc.nd
  refine sv_while (fun b' δ' => b' = b ∧ ∃ done st s3 s4, δ' = [.va d, .ow (done.map pairD), .ow (stD st), s3, s4] ∧ pre [] d = done ++ preAll st ∧ fw done.length (preAll st) = none ∧ ∀ q ∈ st, sm q.2 = true)
    (fun δ' => match δ' with | [_, .ow fs, _, _, _] => (pre [] d).length - fs.length | _ => 0) PassesOwn.never ⟨rfl, [], [([], d)], _, _, rfl, by simp [preAll], by simpa [preAll] using hf, fun q hq => by rw [List.mem_singleton.mp hq]; exact hs⟩ ?_
  rintro b2 δ2 ⟨rfl, done, st, s3, s4, rfl, hp, hfw, hsm⟩
  refine et_own 2 rfl ?_
  cases st with
  | nil =>
    have e0 : preAll [] = [] := rfl
    rw [e0, List.append_nil] at hp
    exact sv_retO 1 rfl ⟨rfl, rfl, by rw [hp]⟩
  | cons q st =>
    obtain ⟨p, e⟩ := q
    rw [preAll_cons] at hp hfw
    obtain ⟨h60, h8, hw, hfw2⟩ := fw_cons hfw
    obtain ⟨n, de, at_, cs, rfl, _, _, _, hk⟩ := wrong_none hw
    have hse : sm (.tup [.str "element", n, de, at_, .tup cs]) = true := hsm _ List.mem_cons_self
    have hsc : smK (.tup cs) = true := (sm_el hse).2.2.2.2
    have ne : (!(stD ((p, D.tup [.str "element", n, de, at_, .tup cs]) :: st)).isEmpty) = true := by rw [stD_cons]; simp
    rw [ne]
    have hkids : kidsOf (.tup [.str "element", n, de, at_, .tup cs]) = cs := rfl
    rw [hkids] at hp hfw2
    have hlen : (elemsAt p 0 cs ++ st).length ≤ 60 := by
      have h1 := preAll_len (elemsAt p 0 cs ++ st)
      rcases fw_len _ _ hfw2 with z | z
      · rw [z, List.length_nil] at h1
        omega
      · omega
    refine sv_popU (.tp [.nm 3, .nm 4]) 2 (ds := stD st) (d := pairD (p, .tup [.str "element", n, de, at_, .tup cs])) (pg_tup rfl (pgs_cons (pg_name (i := 3) sc.nd rfl (Or.inl rfl)) (pgs_cons (pg_name (i := 4) sc.nd rfl (Or.inl rfl)) pgs_nil))) (by rw [stD_cons]; rfl) rfl ?_ rfl
    refine sv_append 1 rfl (ev_tup (eva_cons (ev_var 3 rfl (eva_cons (ev_var 4 rfl (eva_nil ⟨_, rfl, by simp, _, _, rfl, rfl, ?_, ?_⟩))))))
    · rw [List.length_map]; omega
    refine sv_extend 2 rfl (ev_callP D1 hr (eva_cons (ev_var 3 rfl (eva_cons (ev_var 4 rfl (eva_nil ⟨_, _, rfl, rfl, if_pos ⟨hsc, (show p.length ≤ 100 by omega)⟩, _, _, rfl, rfl, ?_, ?_⟩))))))
    · simp only [List.length_append] at hlen
      simp only [stD, List.length_map, List.length_reverse]
      omega
    refine sv_nil ⟨⟨rfl, done ++ [(p, _)], elemsAt p 0 cs ++ st, .va (.tup p), .va (.tup [.str "element", n, de, at_, .tup cs]), ?_, by rw [hp, List.append_assoc]; rfl, by rw [List.length_append]; exact hfw2, fun q hq => ?_⟩, ?_⟩
    · rw [stD_app, List.map_append]
      rfl
    · rcases List.mem_append.mp hq with hq | hq
      · exact sm_mem (smK_tup hsc).2 (elemsAt_mem p cs 0 q hq)
      · exact hsm q (List.mem_cons_of_mem _ hq)
    · show (pre [] d).length - (done.map pairD ++ [_]).length < (pre [] d).length - (done.map pairD).length
      rw [hp]
      simp only [List.length_append, List.length_map, List.length_cons, List.length_nil]
      omega
end
end G
set_option Elab.async false
set_option linter.all false
set_option maxRecDepth 100000
set_option maxHeartbeats 4000000
namespace G
open PySem PySem.Spec PyProof.Rows L2 PD
/-! ### _first_wrong -/
def itemOf (n : Nat) (p : List D) (d : D) : Option Str := if n + 1 ≤ 60 ∧ p.length < 8 then wrongItem d else some "form"
theorem fw_step (n : Nat) (p : List D) (d : D) (r : List (List D × D)) : fw n ((p, d) :: r) = (match itemOf n p d with | some x => some (p, x) | none => fw (n + 1) r) := by
  rw [fw]
  unfold itemOf
  split
  · cases wrongItem d <;> rfl
  · rfl
theorem item_none {n : Nat} {p : List D} {d : D} (h : itemOf n p d = none) : n + 1 ≤ 60 ∧ p.length < 8 ∧ wrongItem d = none := by
  unfold itemOf at h
  split at h
  · rename_i hc
    exact ⟨hc.1, hc.2, h⟩
  · cases h
def fewAll (d : D) : Bool := (pre [] d).all fun q => fewA q.2
def gFW : List D → Option Res
  | [d] => if sm d = true ∧ fewAll d = true then some (.va (faultD (fw 0 (pre [] d)))) else none
  | _ => none
theorem gFW_out : ∀ (ds : List D) (r : Res), gFW ds = some r → r.out = true := by
  intro ds r h
  unfold gFW at h
  split at h
  · split at h
    · cases h; rfl
    · cases h
  · cases h
theorem gFW_one {ds : List D} {r : Res} (h : gFW ds = some r) : ∃ d, ds = [d] ∧ sm d = true ∧ fewAll d = true ∧ r = .va (faultD (fw 0 (pre [] d))) := by
  unfold gFW at h
  split at h
  · split at h
    · rename_i q
      cases h; exact ⟨_, rfl, q.1, q.2, rfl⟩
    · cases h
  · cases h
theorem optD_isN (x : Option Str) : (optD x).isN = x.isNone := by cases x <;> rfl
theorem elemsAt_len (p : List D) : ∀ (cs : List D) (k : Nat), (elemsAt p k cs).length ≤ cs.length
  | [], _ => Nat.le_refl _
  | c :: cs, k => by
    unfold elemsAt
    have := elemsAt_len p cs (k + 1)
    split <;> simp <;> omega
section
variable {P : Program} {w : World} {K : PySem.W.Frag} {mg : Str → Option Value} {base : Heap} {Z : Vol} {f : Addr} {fd : FuncData}
abbrev sFW : Stmt := st__first_wrong
theorem ok_fw (F : Fun K "_first_wrong" "_first_wrong" sFW f fd) (T : Cst mg) (D1 : DBelow P w K mg base Z) (D2 : Df P w K mg base "_wrong_item" 6 ["thing"] (spP Z K 1 gWrong)) : FnOk P w K mg base CX0 7 f fd ["thing"] (spP Z K 1 gFW) := by
  have sc : FnScope ["thing", "looked_at", "waiting", "path", "element", "item"] ["thing"] (defScope sFW) := ⟨rfl, rfl, rfl, by decide +kernel, rfl, by decide +kernel, by decide +kernel⟩
  refine fn_pure F sc rfl gFW_out fun cdv A outer s H E b ds r hr hl hg => ?_
  obtain ⟨d, rfl, hs, hfw, rfl⟩ := gFW_one hg
  have b0 := T.blt (cxOf CX0 P w K mg base ["thing", "looked_at", "waiting", "path", "element", "item"] "_first_wrong" (defScope sFW) f cdv A outer s H E).nox rfl
  obtain ⟨t1, m1⟩ := T.mostElements
  obtain ⟨t2, m2⟩ := T.mostLevels
  refine sv_set 1 (ev_int ⟨_, rfl, ?_⟩) sc.nd
  refine sv_set 2 (ev_lst (eva_cons (ev_tup (eva_cons (ev_tup (eva_nil ⟨[], rfl, by decide, eva_cons (ev_var 0 rfl (eva_nil ⟨_, rfl, by simp, eva_nil ⟨_, rfl, by simp, _, rfl, ?_⟩⟩))⟩)))))) sc.nd
  refine sv_while (fun b' δ' => b' = b ∧ ∃ (n : Nat) (st : List (List D × D)) (s3 s4 s5 : Sl), δ' = [.va d, .va (.int n), .ow (stD st), s3, s4, s5] ∧ n ≤ 60 ∧ fw 0 (pre [] d) = fw n (preAll st) ∧ n + (preAll st).length = (pre [] d).length ∧ (∀ q ∈ st, sm q.2 = true) ∧ (∀ q ∈ preAll st, fewA q.2 = true) ∧ st.length ≤ 1 + n * 50000)
    (fun δ' => match δ' with | [_, .va (.int n), _, _, _, _] => (pre [] d).length - n.toNat | _ => 0) PassesOwn.never
    ⟨rfl, 0, [([], d)], _, _, _, rfl, by decide, by simp [preAll], by simp [preAll], fun q hq => by rw [List.mem_singleton.mp hq]; exact hs, fun q hq => List.all_eq_true.mp hfw q (by simpa [preAll] using hq), by simp⟩ ?_
  rintro b2 δ2 ⟨rfl, n, st, s3, s4, s5, rfl, hn, hp, hlen, hsm, hfe, hst⟩
  refine et_own 2 rfl ?_
  cases st with
  | nil => exact sv_ret (ev_non ⟨rfl, rfl, by rw [hp]; rfl⟩)
  | cons q st =>
    obtain ⟨p, e⟩ := q
    rw [preAll_cons] at hp hlen hfe
    rw [fw_step] at hp
    have hse : sm e = true := hsm _ List.mem_cons_self
    have hfe1 : fewA e = true := hfe (p, e) List.mem_cons_self
    have ne : (!(stD ((p, e) :: st)).isEmpty) = true := by rw [stD_cons]; simp
    rw [ne]
    refine sv_popU (.tp [.nm 3, .nm 4]) 2 (ds := stD st) (d := pairD (p, e)) (pg_tup rfl (pgs_cons (pg_name (i := 3) sc.nd rfl (Or.inl rfl)) (pgs_cons (pg_name (i := 4) sc.nd rfl (Or.inl rfl)) pgs_nil))) (by rw [stD_cons]; rfl) rfl ?_ rfl
    refine sv_augI 1 rfl (ev_int ⟨1, rfl, ?_⟩) sc.nd
    refine sv_set 5 (ev_str ⟨_, rfl, ?_⟩) sc.nd
    refine sv_ifJ (fun b' δ' => b' = b2 ∧ δ' = [.va d, .va (.int ((n : Int) + 1)), .ow (stD st), .va (.tup p), .va e, .va (optD (itemOf n p e))]) (et_pw (ew_and (et_ord op_le (nomark _) (ev_var 1 rfl (ev_glI m1 ⟨_, _, rfl, rfl, ?_⟩))))) ?_
    · by_cases h1 : n + 1 ≤ 60
      · have e1 : decide ((n : Int) + 1 ≤ 60) = true := decide_eq_true (by omega)
        rw [e1]
        refine ew_and1 (et_ord op_lt (nomark _) (ev_len b0 (ev_var 3 rfl ⟨_, .tup, ev_glI m2 ⟨_, _, rfl, rfl, ?_⟩⟩)))
        by_cases h2 : p.length < 8
        · have e2 : decide ((p.length : Int) < 8) = true := decide_eq_true (by omega)
          show if decide ((p.length : Int) < 8) = true then _ else _
          rw [e2]
          refine sv_set 5 (ev_callP D2 hr (eva_cons (ev_var 4 rfl (eva_nil ⟨_, _, rfl, rfl, gWrong_of hse hfe1, _, rfl, ?_⟩)))) sc.nd
          exact sv_nil ⟨rfl, by rw [show itemOf n p e = wrongItem e from if_pos ⟨h1, h2⟩]; rfl⟩
        · have e2 : decide ((p.length : Int) < 8) = false := decide_eq_false (by omega)
          show if decide ((p.length : Int) < 8) = true then _ else _
          rw [e2]
          exact sv_nil ⟨rfl, by rw [show itemOf n p e = some "form" from if_neg fun z => h2 z.2]; rfl⟩
      · have e1 : decide ((n : Int) + 1 ≤ 60) = false := decide_eq_false (by omega)
        rw [e1]
        exact sv_nil ⟨rfl, by rw [show itemOf n p e = some "form" from if_neg fun z => h1 z.1]; rfl⟩
    · rintro b' δ' ⟨rfl, rfl⟩
      refine sv_if (et_notN (ev_var 5 rfl ⟨_, rfl, ?_⟩))
      rw [optD_isN]
      cases hi : itemOf n p e with
      | some x =>
        rw [hi] at hp
        exact sv_ret (ev_tup (eva_cons (ev_var 3 rfl (eva_cons (ev_var 5 rfl (eva_nil ⟨_, rfl, by simp, rfl, rfl, by rw [hp]; rfl⟩))))))
      | none =>
        rw [hi] at hp
        obtain ⟨h60, h8, hw⟩ := item_none hi
        obtain ⟨nm, de, at_, cs, rfl, _, _, _, hk⟩ := wrong_none hw
        have hsc : smK (.tup cs) = true := (sm_el hse).2.2.2.2
        have hkids : kidsOf (.tup [.str "element", nm, de, at_, .tup cs]) = cs := rfl
        rw [hkids] at hp hlen hfe
        have hcl : (elemsAt p 0 cs).length ≤ 50000 := Nat.le_trans (elemsAt_len p cs 0) (smK_tup hsc).1
        have hst2 : st.length ≤ n * 50000 := by simp at hst; omega
        have hn2 : n * 50000 ≤ 59 * 50000 := Nat.mul_le_mul_right _ (by omega)
        refine sv_nil ?_
        refine sv_extend 2 rfl (ev_callP D1 (hr.mono (by decide)) (eva_cons (ev_var 3 rfl (eva_cons (ev_var 4 rfl (eva_nil ⟨_, _, rfl, rfl, if_pos ⟨hsc, (show p.length ≤ 100 by omega)⟩, _, _, rfl, rfl, ?_, ?_⟩))))))
        · simp only [stD, List.length_map, List.length_reverse]
          omega
        refine sv_nil ⟨⟨rfl, n + 1, elemsAt p 0 cs ++ st, .va (.tup p), .va (.tup [.str "element", nm, de, at_, .tup cs]), .va (optD none), ?_, h60, hp, ?_, fun q hq => ?_, fun q hq => hfe q (List.mem_cons_of_mem _ hq), ?_⟩, ?_⟩
        · rw [stD_app]
          rfl
        · rw [← hlen, List.length_cons]; omega
        · rcases List.mem_append.mp hq with hq | hq
          · exact sm_mem (smK_tup hsc).2 (elemsAt_mem p cs 0 q hq)
          · exact hsm q (List.mem_cons_of_mem _ hq)
        · rw [List.length_append, Nat.add_mul]; omega
        · show (pre [] d).length - ((n : Int) + 1).toNat < (pre [] d).length - (n : Int).toNat
          rw [← hlen, List.length_cons]
          omega
end
end G
set_option Elab.async false
set_option linter.all false
set_option maxRecDepth 100000
set_option maxHeartbeats 4000000
namespace G
open PySem PySem.Spec PyProof.Rows L2 PD
/-! ### _fault, need_part, paths -/
/-- how many holes there are in all -/
def holesIn (l : List (List D × D)) : Nat := (l.map fun q => (holeStrs (kidsOf q.2)).length).sum
def gFH : List D → Option Res
  | [d] => if sm d = true ∧ fw 0 (pre [] d) = none ∧ holesIn (pre [] d) ≤ 1000 then some (.va (faultD (fh [] (pre [] d)))) else none
  | _ => none
def okF (d : D) : Prop := sm d = true ∧ fewAll d = true ∧ holesIn (pre [] d) ≤ 1000
instance (d : D) : Decidable (okF d) := inferInstanceAs (Decidable (_ ∧ _ ∧ _))
def gFault : List D → Option Res
  | [d] => if okF d then some (.va (faultD (fault d))) else none
  | _ => none
theorem gFault_out : ∀ (ds : List D) (r : Res), gFault ds = some r → r.out = true := by
  intro ds r h
  unfold gFault at h
  split at h
  · split at h
    · cases h; rfl
    · cases h
  · cases h
theorem gFault_one {ds : List D} {r : Res} (h : gFault ds = some r) : ∃ d, ds = [d] ∧ okF d ∧ r = .va (faultD (fault d)) := by
  unfold gFault at h
  split at h
  · split at h
    · rename_i q
      cases h; exact ⟨_, rfl, q, rfl⟩
    · cases h
  · cases h
theorem gFault_of {d : D} (h : okF d) : gFault [d] = some (.va (faultD (fault d))) := if_pos h
theorem faultD_isN (x : Option (List D × Str)) : (faultD x).isN = x.isNone := by rcases x with _ | ⟨p, i⟩ <;> rfl
/-- a part -/
def good (d : D) : Prop := okF d ∧ fault d = none
instance (d : D) : Decidable (good d) := inferInstanceAs (Decidable (_ ∧ _))
theorem fw_of_good {d : D} (h : good d) : fw 0 (pre [] d) = none := by
  have := h.2
  unfold fault at this
  split at this
  · cases this
  · assumption
def gGood (g : D → Res) : List D → Option Res
  | [d] => if good d then some (g d) else none
  | _ => none
theorem gGood_out {g : D → Res} (hg : ∀ d, (g d).out = true) : ∀ (ds : List D) (r : Res), gGood g ds = some r → r.out = true := by
  intro ds r h
  unfold gGood at h
  split at h
  · split at h
    · cases h; exact hg _
    · cases h
  · cases h
theorem gGood_one {g : D → Res} {ds : List D} {r : Res} (h : gGood g ds = some r) : ∃ d, ds = [d] ∧ good d ∧ r = g d := by
  unfold gGood at h
  split at h
  · split at h
    · rename_i q
      cases h; exact ⟨_, rfl, q, rfl⟩
    · cases h
  · cases h
section
variable {P : Program} {w : World} {K : PySem.W.Frag} {mg : Str → Option Value} {base : Heap} {Z : Vol} {f : Addr} {fd : FuncData}
abbrev sFault : Stmt := st__fault
theorem ok_fault (F : Fun K "_fault" "_fault" sFault f fd) (T : Cst mg) (D1 : Df P w K mg base "_first_wrong" 7 ["thing"] (spP Z K 1 gFW)) (D2 : Df P w K mg base "_first_hole_again" 5 ["part"] (spP Z K 1 gFH)) : FnOk P w K mg base CX0 8 f fd ["thing"] (spP Z K 1 gFault) := by
  have sc : FnScope ["thing", "fault"] ["thing"] (defScope sFault) := ⟨rfl, rfl, rfl, by decide +kernel, rfl, by decide +kernel, by decide +kernel⟩
  refine fn_pure F sc rfl gFault_out fun cdv A outer s H E b ds r hr hl hg => ?_
  obtain ⟨d, rfl, ⟨hs, hf, hh⟩, rfl⟩ := gFault_one hg
  refine sv_set 1 (ev_callP D1 hr (eva_cons (ev_var 0 rfl (eva_nil ⟨_, _, rfl, rfl, if_pos ⟨hs, hf⟩, _, rfl, ?_⟩)))) sc.nd
  refine sv_if (et_isN (ev_var 1 rfl ⟨_, rfl, ?_⟩))
  rw [faultD_isN]
  cases e : fw 0 (pre [] d) with
  | none =>
    refine sv_set 1 (ev_callP D2 (hr.mono (by decide)) (eva_cons (ev_var 0 rfl (eva_nil ⟨_, _, rfl, rfl, if_pos ⟨hs, e, hh⟩, _, rfl, ?_⟩)))) sc.nd
    exact sv_nil (sv_ret (ev_var 1 rfl ⟨rfl, rfl, by simp only [fault, e]⟩))
  | some x => exact sv_nil (sv_ret (ev_var 1 rfl ⟨rfl, rfl, by simp only [fault, e]⟩))
abbrev sNeed : Stmt := st_need_part
theorem ok_need (F : Fun K "need_part" "need_part" sNeed f fd) (T : Cst mg) (D1 : Df P w K mg base "_fault" 8 ["thing"] (spP Z K 1 gFault)) : FnOk P w K mg base CX0 9 f fd ["thing"] (spP Z K 1 (gGood .va)) := by
  have sc : FnScope ["thing", "fault", "path", "item"] ["thing"] (defScope sNeed) := ⟨rfl, rfl, rfl, by decide +kernel, rfl, by decide +kernel, by decide +kernel⟩
  refine fn_pure F sc rfl (gGood_out fun _ => rfl) fun cdv A outer s H E b ds r hr hl hg => ?_
  obtain ⟨d, rfl, ⟨hs, hf⟩, rfl⟩ := gGood_one hg
  refine sv_set 1 (ev_callP D1 hr (eva_cons (ev_var 0 rfl (eva_nil ⟨_, _, rfl, rfl, gFault_of hs, _, rfl, ?_⟩)))) sc.nd
  refine sv_if (et_notN (ev_var 1 rfl ⟨_, rfl, ?_⟩))
  rw [hf]
  exact sv_nil (sv_ret (ev_var 0 rfl ⟨rfl, rfl, rfl⟩))
end
end G
set_option Elab.async false
set_option linter.all false
set_option maxRecDepth 100000
set_option maxHeartbeats 4000000
namespace G
open PySem PySem.Spec PyProof.Rows L2 PD
/-! ### _below -/
def belowG (p : List D) : D → D
  | .tup [k, c] => .tup [.tup (p ++ [k]), c]
  | d => d
def belowT : D → Bool
  | .tup [_, c] => begins "element" c
  | _ => false
theorem below_eq (p : List D) : ∀ (cs : List D) (k : Nat), ((enumD k cs).filter belowT).map (belowG p) = (elemsAt p k cs).map pairD
  | [], _ => rfl
  | c :: cs, k => by
    rw [enumD, elemsAt, List.filter_cons, show belowT (.tup [.int (k : Nat), c]) = begins "element" c from rfl]
    cases begins "element" c with
    | true => simp only [if_true, List.map_cons, below_eq p cs (k + 1)]; rfl
    | false => simp only [Bool.false_eq_true, if_false]; exact below_eq p cs (k + 1)
theorem below_rev (p : List D) (cs : List D) : (((enumD 0 cs).reverse.filter belowT).map (belowG p)) = stD (elemsAt p 0 cs) := by
  rw [List.filter_reverse, List.map_reverse, below_eq]
  simp [stD]
theorem enumD_mem : ∀ {cs : List D} {k : Nat} {x : D}, x ∈ enumD k cs → ∃ j c, x = .tup [.int (j : Nat), c] ∧ c ∈ cs
  | c :: cs, k, x, h => by
    rcases List.mem_cons.mp h with rfl | h
    · exact ⟨k, c, rfl, List.mem_cons_self⟩
    · obtain ⟨j, c', e, hm⟩ := enumD_mem h
      exact ⟨j, c', e, List.mem_cons_of_mem _ hm⟩
theorem gBelow_one {ds : List D} {r : Res} (h : gBelow ds = some r) : ∃ p k n de at_ cs, ds = [.tup p, .tup [k, n, de, at_, .tup cs]] ∧ smK (.tup cs) = true ∧ p.length ≤ 100 ∧ r = .ow (stD (elemsAt p 0 cs)) := by
  unfold gBelow at h
  split at h
  · split at h
    · rename_i q
      cases h; exact ⟨_, _, _, _, _, _, rfl, q.1, q.2, rfl⟩
    · cases h
  · cases h
section
variable {P : Program} {w : World} {K : PySem.W.Frag} {mg : Str → Option Value} {base : Heap} {Z : Vol} {f : Addr} {fd : FuncData}
abbrev sBelow : Stmt := st__below
theorem ok_below (F : Fun K "_below" "_below" sBelow f fd) (T : Cst mg) (D1 : DElem P w K mg base Z) : FnOk P w K mg base CX0 3 f fd ["path", "element"] (spP Z K 2 gBelow) := by
  have sc : FnScope ["path", "element", "number", "child"] ["path", "element"] (defScope sBelow) := ⟨rfl, rfl, rfl, by decide +kernel, rfl, by decide +kernel, by decide +kernel⟩
  refine fn_pure F sc rfl gBelow_out fun cdv A outer s H E b ds r hr hl hg => ?_
  obtain ⟨p, k, n, de, at_, cs, rfl, hs, hp, rfl⟩ := gBelow_one hg
  have b0 := T.blt (cxOf CX0 P w K mg base ["path", "element", "number", "child"] "_below" (defScope sBelow) f cdv A outer s H E).nox rfl
  refine sv_ret (ev_filt (.tp [.nm 2, .nm 3]) [("number", 2), ("child", 3)] belowT (belowG p) rfl sc.nd (blkOk_by (N := ["path", "element", "number", "child"]) (sc := defScope sBelow) (by decide +kernel)) (fun _ _ _ _ _ => pg_tup rfl (pgs_cons (pg_name (i := 2) sc.nd rfl (Or.inl rfl)) (pgs_cons (pg_name (i := 3) sc.nd rfl (Or.inl rfl)) pgs_nil))) (by simp [Pat.slots, slotsAll])
    (eic_rev b0 (ev_listEn b0 rfl (ev_ix (ev_var 1 rfl (ev_int ⟨_, _, _, .inl rfl, rfl, atN (j := 4) rfl, _, rfl, _, rfl, ?_⟩))))))
  refine ⟨?_, fun x hx => ?_, rfl, rfl, ?_⟩
  · rw [List.length_reverse, enumD_len]
    exact Nat.le_trans (smK_tup hs).1 (by decide)
  · obtain ⟨j, c, rfl, hc⟩ := enumD_mem (List.mem_reverse.mp hx)
    refine ⟨_, rfl, fun s H Cc cl fp => ?_, fun ht s H Cc cl fp => ?_⟩
    · exact et_val (ev_callP D1 hr (eva_cons (ev_var 3 rfl (eva_nil ⟨_, _, rfl, rfl, gB_of (kids_sm (smK_tup hs).2 hc), _, rfl, rfl, rfl⟩))))
    · refine ev_tup (eva_cons (ev_cat (ev_var 0 rfl (ev_tup (eva_cons (ev_var 2 rfl (eva_nil ⟨_, rfl, by simp, _, _, rfl, rfl, ?_, ?_⟩)))))))
      · simp
        omega
      · exact eva_cons (ev_var 3 rfl (eva_nil ⟨_, rfl, by simp, rfl, rfl⟩))
  · rw [below_rev]
end
end G
set_option Elab.async false
set_option linter.all false
set_option maxRecDepth 100000
set_option maxHeartbeats 4000000
namespace PD
open PySem PySem.Spec PyProof.Rows L2
/-! ### name = [..]: the comprehension's reading by itself -/
section
variable {C : Cn} {b : Nat} {δ : List Sl} {P : Nat → Res → Prop} {tg iter elt c e : Expr} {ifs : List Expr} {pos spos p0 : Pos} {scope : Scope} {F : Fin} {rest : List Stmt}
/-- what a comprehension has to say of its items (PD.ev_lc) -/
def Lc (C : Cn) (b : Nat) (δ : List Sl) (p : Pat) (own : List (Str × Nat)) (scope : Scope) (tg iter elt : Expr) (ifs : List Expr) (P : Nat → Res → Prop) : Prop :=
  EIc C b δ tg iter (fun b1 ds => ds.length ≤ 16000000 ∧ ∃ Iv : Nat → List D → List D → Prop, Iv b1 [] [] ∧
      (∀ (pre : List D) (d : D) (post acc : List D) (b2 : Nat), ds = pre ++ d :: post → Iv b2 pre acc →
        ∃ δ', bindP p d (wipeD δ (own.map (·.2))) = some δ' ∧ ∀ (s : Shared) (H : Hp) (Cc : Addr) (cl : List (Str × Addr)) (fp : List Addr), ETs (C.blk s H scope (compEnvC scope cl Cc C.X.env) fp) b2 δ' ifs fun b3 k =>
          if k = true then ∀ (s : Shared) (H : Hp) (Cc : Addr) (cl : List (Str × Addr)) (fp : List Addr), EV (C.blk s H scope (compEnvC scope cl Cc C.X.env) fp) b3 δ' elt (fun b4 r => ∃ y, r = .va y ∧ Iv b4 (pre ++ [d]) (acc ++ [y])) else Iv b3 (pre ++ [d]) acc) ∧
      ∀ b2 acc, Iv b2 ds acc → P b2 (.ow acc))
theorem lc_sem (p : Pat) (own : List (Str × Nat)) (hp : ∀ i ∈ p.slots, i ∈ own.map (·.2)) (h : Lc C b δ p own scope tg iter elt ifs P) {os : List Addr} {σ : L2.St} {H : Hp} (st : Sts C os b δ σ H) {Q : VK}
    (q : ∀ v H' b' r, Fr C.Z.S H H' → C.Z.J b' H' → RV C.K C.Z os H H' v r → P b' r → Q v H') : tLc (WI C.X tg iter) (gPat C.X.K p) (WTsb C.X scope ifs) (WEb C.X scope elt) (own.map (·.2)) σ H Q := by
  refine h os σ H st _ fun J H1 b1 ds f1 j1 W hh => ?_
  obtain ⟨hl, Iv, i0, step, last⟩ := hh
  intro D0 hD
  have nsD : ¬ C.Z.S D0 := snew j1 hD
  -- the state at turn i: i items gone through, the list so far
  refine ⟨fun i m H2 => m = ds.length - i ∧ i ≤ ds.length ∧ ∃ b2 acc xs, Fr C.Z.S H1 H2 ∧ C.Z.J b2 H2 ∧ Iv b2 (ds.take i) acc ∧ acc.length ≤ i ∧ H2 D0 = some (.lst xs) ∧ RpA C.K H2 xs acc, ⟨ds.length, ?_⟩, ?_⟩
  · exact ⟨by omega, Nat.zero_le _, b1, [], [], Fr.new hD, jnew j1 hD, by simpa using i0, Nat.le_refl _, upd_same, .nil⟩
  · rintro i m H2 ⟨rfl, hi, b2, acc, xs, f2, j2, iv, la, hD2, ra⟩
    by_cases hlt : i < ds.length
    · obtain ⟨go, item⟩ := W.go H2 f2 i hlt
      refine .inr ⟨go, fun H' => ∃ b2 acc xs, Fr C.Z.S H1 H' ∧ C.Z.J b2 H' ∧ Iv b2 (ds.take (i + 1)) acc ∧ acc.length ≤ i + 1 ∧ H' D0 = some (.lst xs) ∧ RpA C.K H' xs acc, fun H' z => ⟨ds.length - (i + 1), by omega, rfl, hlt, z⟩, fun x H3 y => ?_⟩
      obtain ⟨f3, d, hd, rx⟩ := item x H3 y
      have f3' : Fr C.Z.S H2 H3 := f3.wide fun _ z => z.elim
      have j3 : C.Z.J b2 H3 := C.Z.stay _ _ _ j2 (f3.wide fun _ z => z.elim)
      have eds : ds = ds.take i ++ d :: ds.drop (i + 1) := by
        obtain ⟨hh, e⟩ := List.getElem?_eq_some_iff.mp hd
        rw [← e, ← List.drop_eq_getElem_cons hh, List.take_append_drop]
      have etk : ds.take (i + 1) = ds.take i ++ [d] := by
        rw [List.take_succ, hd]
        rfl
      have st3 : Sts C os b2 (wipeD δ (own.map (·.2))) (wipe σ (own.map (·.2))) H3 := (st.on (f1.trans (f2.trans f3')) j3).wipe _
      obtain ⟨δ', hb, hstep⟩ := step (ds.take i) d (ds.drop (i + 1)) acc b2 eds iv
      obtain ⟨σ', st4, hw, hgo⟩ := bind_ok p rx st3 hb
      refine hgo _ ⟨by rw [hw _ hp, wipe_wipe], fun s0 H0 Cc cl fp => ?_⟩
      have ctx : ∀ s H Cc cl fp {b' δ' σ' H'}, Sts C os b' δ' σ' H' → Sts (C.blk s H scope (compEnvC scope cl Cc C.X.env) fp) os b' δ' σ' H' := fun s H Cc cl fp b' δ' σ' H' z => ⟨z.fr, z.j, z.new, z.sl⟩
      refine ets_w (hstep s0 H0 Cc cl fp) (ctx s0 H0 Cc cl fp st4) fun k H4 b3 f4 j4 hk => ?_
      have f4' : Fr C.Z.S H3 H4 := f4
      have D4 : H4 D0 = some (.lst xs) := f4'.keep nsD (f3'.keep nsD hD2)
      cases k with
      | false => exact ⟨b3, acc, xs, f2.trans (f3'.trans f4'), j4, by rw [etk]; exact hk, by omega, D4, (ra.fr f3').fr f4'⟩
      | true =>
        show WEb C.X scope elt σ' H4 _
        intro s5 H5 Cc5 cl5 fp5
        refine hk s5 H5 Cc5 cl5 fp5 os σ' H4 (ctx s5 H5 Cc5 cl5 fp5 (st4.on f4' j4)) _ fun v H6 b4 r f6 j6 rv hy => ?_
        obtain ⟨y, rfl, iv'⟩ := hy
        cases rv with | va rv => ?_
        have f6' : Fr C.Z.S H4 H6 := f6
        have D6 : H6 D0 = some (.lst xs) := f6'.keep nsD D4
        have fD : Fr (fun a => a = D0) H6 (upd H6 D0 (.lst (xs ++ [v]))) := Fr.put rfl D6
        have ra6 : RpA C.K H6 xs acc := ((ra.fr f3').fr f4').fr f6'
        have n1 : H1 D0 = none := hD
        refine ⟨xs, D6, by rw [ra6.len]; exact Nat.lt_of_lt_of_le (show acc.length < 16000001 by omega) (by decide), b4, acc ++ [y], xs ++ [v], ?_, ?_, by rw [etk]; exact iv', by simp; omega, upd_same, (ra6.append (.cons rv .nil)).fr fD⟩
        · intro a o ea
          have ne : a ≠ D0 := ne_of_none ea n1
          rcases (f2.trans (f3'.trans (f4'.trans f6'))) a o ea with z | z
          · exact .inl (by rw [upd_ne ne]; exact z)
          · obtain ⟨m, q, z1, z2⟩ := z
            exact .inr ⟨m, q, by rw [upd_ne ne]; exact z1, z2⟩
        · exact C.Z.stay _ _ _ j6 (Fr.putL nsD D6 .l)
    · have e : i = ds.length := by omega
      subst e
      rw [List.take_length] at iv
      exact .inl ⟨W.stop H2 f2 _ (Nat.le_refl _), q _ H2 b2 _ (f1.trans f2) j2 (.ow (f1.back hD) hD2 nsD ra) (last b2 acc iv)⟩
/-- name = [..] on one line, the name a local -/
theorem sv_setLc (i : Nat) {y : Str} (p : Pat) (own : List (Str × Nat)) (hc : C.X.calm = true) (hN : C.X.N.Nodup) (ok : BlkOk C.X.N C.X.env.scope scope own)
    (hg : ∀ (s : Shared) (H : Hp) (Cc : Addr) (cl : List (Str × Addr)) (fp : List Addr), PG (C.X.blk s H scope (compEnvC scope cl Cc C.X.env) fp) tg (gPat C.X.K p))
    (hp : ∀ i ∈ p.slots, i ∈ own.map (·.2)) (h : Lc C b δ p own scope tg iter elt ifs (fun b1 r => ∃ s, r.sl = some s ∧ SV C b1 (δ.set i s) rest F))
    (hy : C.X.N[i]? = some y := by rfl) (hyl : C.X.env.scope.names.lookup y = some .local := by rfl)
    (hsw : swapsWith (.ListComp elt [⟨tg, iter, ifs, 0⟩] scope pos) (some (.Name y p0)) spos.line C.X.env = pure true := by rfl)
    (hs : ∀ x, foldedSetIterable iter C.X.env x = pure x := by intro _; rfl) : SV C b δ (.Assign [.Name y p0] (.ListComp elt [⟨tg, iter, ifs, 0⟩] scope pos) spos :: rest) F := by
  intro os σ H st D ed
  refine WSs.of (pss_cons (ps_setLc hc hN hy hyl hsw piW ok hg (fun s H Cc cl fp => ptsWb s H Cc cl fp) (fun s H Cc cl fp => peWb s H Cc cl fp) hs) pssW) ?_
  unfold tSeq tAsg
  refine lc_sem p own hp h st fun v H1 b1 r f1 j1 rv hr => ?_
  obtain ⟨s, hs, q⟩ := hr
  obtain ⟨os', st', g⟩ := st.put (i := i) f1 j1 rv hs
  exact q os' _ H1 st' D (ed.on g)
/-- typed: [g x for x in xs if t x] -/
theorem lc_filtT {α : Type} (enc : α → D) (p : Pat) (own : List (Str × Nat)) (t : α → Bool) (g : α → D)
    (h : EIc C b δ tg iter (fun b1 ds => ∃ xs : List α, ds = xs.map enc ∧ xs.length ≤ 16000000 ∧ (∀ x ∈ xs, ∃ δ', bindP p (enc x) (wipeD δ (own.map (·.2))) = some δ' ∧
      (∀ (s : Shared) (H : Hp) (Cc : Addr) (cl : List (Str × Addr)) (fp : List Addr), ET (C.blk s H scope (compEnvC scope cl Cc C.X.env) fp) b1 δ' c (fun b3 k => b3 = b1 ∧ k = t x)) ∧
      (t x = true → ∀ (s : Shared) (H : Hp) (Cc : Addr) (cl : List (Str × Addr)) (fp : List Addr), EV (C.blk s H scope (compEnvC scope cl Cc C.X.env) fp) b1 δ' elt (fun b4 r => b4 = b1 ∧ r = .va (g x)))) ∧ P b1 (.ow ((xs.filter t).map g)))) :
    Lc C b δ p own scope tg iter elt [c] P := fun os σ H st R k => h os σ H st R fun J H1 b1 ds f j w hh => k J H1 b1 ds f j w (by
  obtain ⟨xs, rfl, hl, each, hP⟩ := hh
  refine ⟨by rw [List.length_map]; exact hl, fun b2 pre acc => b2 = b1 ∧ ∃ ps rs, xs = ps ++ rs ∧ pre = ps.map enc ∧ acc = (ps.filter t).map g, ⟨rfl, [], xs, rfl, rfl, rfl⟩, ?_, ?_⟩
  · rintro pre d post acc b2 e ⟨rfl, ps, rs, rfl, rfl, rfl⟩
    rw [List.map_append] at e
    have e2 := List.append_cancel_left e
    cases rs with
    | nil => cases e2
    | cons x rs =>
      rw [List.map_cons, List.cons.injEq] at e2
      obtain ⟨rfl, rfl⟩ := e2
      obtain ⟨δ', h1, h2, h3⟩ := each x (by simp)
      refine ⟨δ', h1, fun s H Cc cl fp => ?_⟩
      show ET _ _ _ _ _
      intro os1 σ1 H1 st1 Q1 k1
      refine h2 s H Cc cl fp os1 σ1 H1 st1 Q1 fun kk H2 b3 f3 j3 hk => k1 kk H2 b3 f3 j3 ?_
      obtain ⟨rfl, rfl⟩ := hk
      have nxt : ∀ b' acc', b' = b3 → acc' = ((ps ++ [x]).filter t).map g → (b' = b3 ∧ ∃ qs rs', ps ++ x :: rs = qs ++ rs' ∧ ps.map enc ++ [enc x] = qs.map enc ∧ acc' = (qs.filter t).map g) := fun b' acc' e1 e2 =>
        ⟨e1, ps ++ [x], rs, by simp, by simp, e2⟩
      cases ht : t x with
      | true =>
        refine if_pos rfl ▸ fun s H Cc cl fp => (h3 ht s H Cc cl fp).imp fun b' r z => ⟨_, z.2, nxt _ _ z.1 ?_⟩
        rw [List.filter_append, List.map_append, List.filter_cons, ht]
        rfl
      | false =>
        refine nxt _ _ rfl ?_
        rw [List.filter_append, List.map_append, List.filter_cons, ht]
        simp
  · rintro b2 acc ⟨rfl, ps, rs, e, e2, rfl⟩
    have hl := congrArg List.length e2
    rw [List.length_map, List.length_map, e, List.length_append] at hl
    have : rs = [] := List.eq_nil_of_length_eq_zero (by omega)
    subst this
    rw [List.append_nil] at e
    rw [← e]
    exact hP)
/-- typed: [g x for x in xs] -/
theorem lc_mapT {α : Type} (enc : α → D) (p : Pat) (own : List (Str × Nat)) (g : α → D)
    (h : EIc C b δ tg iter (fun b1 ds => ∃ xs : List α, ds = xs.map enc ∧ xs.length ≤ 16000000 ∧ (∀ x ∈ xs, ∃ δ', bindP p (enc x) (wipeD δ (own.map (·.2))) = some δ' ∧
      ∀ (s : Shared) (H : Hp) (Cc : Addr) (cl : List (Str × Addr)) (fp : List Addr), EV (C.blk s H scope (compEnvC scope cl Cc C.X.env) fp) b1 δ' elt (fun b4 r => b4 = b1 ∧ r = .va (g x))) ∧ P b1 (.ow (xs.map g)))) :
    Lc C b δ p own scope tg iter elt [] P := fun os σ H st R k => h os σ H st R fun J H1 b1 ds f j w hh => k J H1 b1 ds f j w (by
  obtain ⟨xs, rfl, hl, each, hP⟩ := hh
  refine ⟨by rw [List.length_map]; exact hl, fun b2 pre acc => b2 = b1 ∧ ∃ ps rs, xs = ps ++ rs ∧ pre = ps.map enc ∧ acc = ps.map g, ⟨rfl, [], xs, rfl, rfl, rfl⟩, ?_, ?_⟩
  · rintro pre d post acc b2 e ⟨rfl, ps, rs, rfl, rfl, rfl⟩
    rw [List.map_append] at e
    have e2 := List.append_cancel_left e
    cases rs with
    | nil => cases e2
    | cons x rs =>
      rw [List.map_cons, List.cons.injEq] at e2
      obtain ⟨rfl, rfl⟩ := e2
      obtain ⟨δ', h1, h3⟩ := each x (by simp)
      refine ⟨δ', h1, fun s H Cc cl fp => ?_⟩
      unfold ETs
      simp only [↓reduceIte]
      exact fun s H Cc cl fp => (h3 s H Cc cl fp).imp fun b' r z => ⟨_, z.2, z.1, ps ++ [x], rs, by simp, by simp, by simp⟩
  · rintro b2 acc ⟨rfl, ps, rs, e, e2, rfl⟩
    have hl := congrArg List.length e2
    rw [List.length_map, List.length_map, e, List.length_append] at hl
    have : rs = [] := List.eq_nil_of_length_eq_zero (by omega)
    subst this
    rw [List.append_nil] at e
    rw [← e]
    exact hP)
end
end PD
set_option Elab.async false
set_option linter.all false
set_option maxRecDepth 100000
set_option maxHeartbeats 4000000
namespace PD
open PySem PySem.Spec PyProof.Rows L2
/-! ### a def whose code object is known (a lambda stands in it) -/
structure FunC (K : PySem.W.Frag) (x qual : Str) (st : Stmt) (f : Addr) (fd : FuncData) (c : Addr) : Prop where
  at_ : ∃ (oc : Value) (od : Option Addr) (kV doc pm : Value) (an : Option Addr) (ct : Value) (osl : Array (Option Value)),
    fd = PySem.W.fnOf x qual (defArgs st) (defBody st) (defScope st) .none kV doc pm an (.ref c) ct ∧ K.lookup f = some ⟨oc, od, .func fd, osl⟩ ∧ PySem.W.codeIn K (.ref c) qual = true
section
variable {P : Program} {w : World} {K : PySem.W.Frag} {mg : Str → Option Value} {base : Heap} {Z : Vol}
theorem fn_bodyC {x qual : Str} {st : Stmt} {f c : Addr} {fd : FuncData} {N ps : List Str} {k n : Nat} {pre : Nat → List Ar → Prop} {post : Nat → List Ar → Nat → Res → Prop} (F : FunC K x qual st f fd c) (S : FnScope N ps (defScope st)) (hn : ps.length = n)
    (body : ∀ (A : Around) (outer : List Env) (s : Shared) (H : Hp) (E : XK) (b : Nat) (as : List Ar), Room k (A.deeper (envOfC qual (defScope st) s.heap.objs.size f (.ref c))) → as.length = n → pre b as →
      SV ⟨(cxOf CX0 P w K mg base N qual (defScope st) f (.ref c) A outer s H E).nox, Z, H⟩ b (as.map Ar.sl ++ List.replicate (N.length - n) .un) (defBody st) (retF (post b as))) :
    FnOk P w K mg base CX0 (k + 1) f fd ps (spD Z K n pre post) := by
  obtain ⟨oc, od, kV, doc, pm, an, ct, osl, rfl, lk, hcd⟩ := F.at_
  refine fn_of lk hcd S (fun vs H Q E h => ?_) (fun A outer s H vs Q E hr h => ?_)
  · obtain ⟨b, as, hl, hv, _⟩ := h
    rw [hv.len, hl, hn]
  · obtain ⟨b, as, hl, hv, hj, hp, hq⟩ := h
    refine ⟨_, PSs.nox pssW, ?_⟩
    refine body A outer s H E b as hr hl hp [] _ H ⟨Fr.refl, hj, fun p z => (nomatch z), [], List.nodup_nil, fun p z => (nomatch z), ?_⟩ _ ⟨fun b' δ' os' σ' H' z s g => ?_, fun _ _ _ _ _ z _ _ => z.elim, fun _ _ _ _ _ z _ _ => z.elim, fun v H' b' r z rv f j => ?_⟩
    · show Sls K Z [] H _ (L2.start N vs) []
      unfold L2.start
      rw [hv.len, hl]
      exact sls_start hv _
    · exact hq .non H' b' (.va .non) s.fr s.j (.va .non) rfl z
    · exact hq v H' b' r f j rv z.1 z.2
theorem fn_pureC {x qual : Str} {st : Stmt} {f c : Addr} {fd : FuncData} {N ps : List Str} {k n : Nat} {g : List D → Option Res} (F : FunC K x qual st f fd c) (S : FnScope N ps (defScope st)) (hn : ps.length = n) (ho : ∀ ds r, g ds = some r → r.out = true)
    (body : ∀ (A : Around) (outer : List Env) (s : Shared) (H : Hp) (E : XK) (b : Nat) (ds : List D) (r : Res), Room k (A.deeper (envOfC qual (defScope st) s.heap.objs.size f (.ref c))) → ds.length = n → g ds = some r →
      SV ⟨(cxOf CX0 P w K mg base N qual (defScope st) f (.ref c) A outer s H E).nox, Z, H⟩ b (ds.map Sl.va ++ List.replicate (N.length - n) .un) (defBody st) (retF fun b' r' => b' = b ∧ r' = r)) :
    FnOk P w K mg base CX0 (k + 1) f fd ps (spP Z K n g) := by
  refine fn_bodyC F S hn fun A outer s H E b as hr hl hp => ?_
  obtain ⟨ds, r, rfl, hg⟩ := hp
  have e : (ds.map Ar.va).map Ar.sl = ds.map Sl.va := by rw [List.map_map]; rfl
  rw [e]
  refine (body A outer s H E b ds r hr (by simpa using hl) hg).imp (fun b' _ h => ?_) (fun _ _ h => h.elim) (fun _ _ h => h.elim) (fun b' r' h => ?_)
  · obtain ⟨rfl, e2⟩ := h
    exact ⟨rfl, ds, rfl, by rw [hg, e2]⟩
  · obtain ⟨ho', rfl, rfl⟩ := h
    exact ⟨ho', rfl, ds, rfl, hg⟩
end
end PD
set_option Elab.async false
set_option linter.all false
set_option maxRecDepth 100000
set_option maxHeartbeats 4000000
namespace PD
open PySem PySem.Spec PyProof.Rows L2
/-! ### for k in d: the keys of a dict that nobody changes any more -/
theorem wk_keys {K : PySem.W.Frag} {Z : Vol} {H : Hp} {a : Addr} {o : Obj} {kv : List (Key × V)} {ds : List (Key × D)} (e : H a = some (.frz o (.dK kv))) (l : kv.map (·.1) = ds.map (·.1)) : WkF K Z (Itk a o kv) (ds.map fun q => kD q.1) H := by
  have hl : kv.length = ds.length := by
    have := congrArg List.length l
    rwa [List.length_map, List.length_map] at this
  refine ⟨fun H' f i hi => ?_, fun H' f i hi => ⟨f.frz e, by rw [List.length_map] at hi; omega⟩⟩
  rw [List.length_map] at hi
  refine ⟨⟨f.frz e, by omega⟩, fun x H2 y => ?_⟩
  obtain ⟨rfl, k, v, hk, rfl⟩ := y
  refine ⟨Fr.refl, kD k, ?_, rp_kV k⟩
  have h1 := congrArg (fun m => m[i]?) l
  rw [List.getElem?_map] at h1
  simp only [List.getElem?_map, hk, Option.map_some] at h1
  rw [List.getElem?_map]
  obtain ⟨q, hq, e2⟩ := Option.map_eq_some_iff.mp h1.symm
  rw [hq, Option.map_some, e2]
theorem rpa_keys {K : PySem.W.Frag} {H : Hp} : ∀ k : List Key, RpA K H (k.map kV) (k.map kD)
  | [] => .nil
  | x :: k => .cons (rp_kV x) (rpa_keys k)
theorem wk_keysT {K : PySem.W.Frag} {Z : Vol} {H : Hp} {a : Addr} {o : Obj} {kv : List (List Key × V)} {ds : List (List Key × D)} (e : H a = some (.frz o (.dT kv))) (l : kv.map (·.1) = ds.map (·.1)) : WkF K Z (Itkt a o kv) (ds.map fun q => .tup (q.1.map kD)) H := by
  have hl : kv.length = ds.length := by
    have := congrArg List.length l
    rwa [List.length_map, List.length_map] at this
  refine ⟨fun H' f i hi => ?_, fun H' f i hi => ⟨f.frz e, by rw [List.length_map] at hi; omega⟩⟩
  rw [List.length_map] at hi
  refine ⟨⟨f.frz e, by omega⟩, fun x H2 y => ?_⟩
  obtain ⟨rfl, k, v, t, hk, rfl, ht⟩ := y
  refine ⟨Fr.refl, .tup (k.map kD), ?_, .tup (.h ht) (rpa_keys k)⟩
  have h1 := congrArg (fun m => m[i]?) l
  rw [List.getElem?_map] at h1
  simp only [List.getElem?_map, hk, Option.map_some] at h1
  rw [List.getElem?_map]
  obtain ⟨q, hq, e2⟩ := Option.map_eq_some_iff.mp h1.symm
  rw [hq, Option.map_some, e2]
section
variable {C : Cn} {b : Nat} {δ : List Sl} {P : Nat → List D → Prop} {tg iter : Expr}
theorem eic_keys (h : EV C b δ iter (fun b1 r => (∃ kvs, r = .va (.dk kvs) ∧ P b1 (kvs.map fun q => kD q.1)) ∨ ∃ kvs, r = .va (.dt kvs) ∧ P b1 (kvs.map fun q => .tup (q.1.map kD)))) : EIc C b δ tg iter P := by
  intro os σ H st R k
  refine WI.of (pi_keys peW) ?_
  refine h os σ H st _ fun v H1 b1 r f1 j1 rv hr => ?_
  rcases hr with ⟨kvs, rfl, q⟩ | ⟨kvs, rfl, q⟩
  · cases rv with | va rv => ?_
    cases rv with
    | @dicK a o kv _ e l ra => exact ⟨a, o, rfl, .inl ⟨kv, e, k _ H1 b1 _ f1 j1 (wk_keys e l) q⟩⟩
  · cases rv with | va rv => ?_
    cases rv with
    | @dicT a o kv _ e l ra => exact ⟨a, o, rfl, .inr ⟨kv, e, k _ H1 b1 _ f1 j1 (wk_keysT e l) q⟩⟩
end
end PD
set_option Elab.async false
set_option linter.all false
set_option maxRecDepth 100000
set_option maxHeartbeats 4000000
namespace PD
open PySem PySem.Spec PyProof.Rows L2
section
variable {C : Cn} {b : Nat} {δ : List Sl} {F : Fin} {pos px py pt pt2 : Pos} {e1 e2 : Expr} {rest : List Stmt} {kt k2 : Nat}
/-- a, b = e1, e2 of data -/
theorem sv_set2 (i j : Nat) {x y : Str} (hc : C.X.calm = true) (hN : C.X.N.Nodup) (hij : i ≠ j) (h : EVA C b δ [e1, e2] (fun b1 rs => ∃ d1 d2, rs = [.va d1, .va d2] ∧ SV C b1 ((δ.set i (.va d1)).set j (.va d2)) rest F)) (hi : C.X.N[i]? = some x := by rfl) (hj : C.X.N[j]? = some y := by rfl)
    (hx : C.X.env.scope.names.lookup x = some .local := by rfl) (hy : C.X.env.scope.names.lookup y = some .local := by rfl)
    (hw : swappedStores [.Tuple [.Name x px, .Name y py] kt pt] (.Tuple [e1, e2] k2 pt2) C.X.env = pure (some [x, y]) := by rfl)
    (hs : swapsWithSole [.Tuple [.Name x px, .Name y py] kt pt] (.Tuple [e1, e2] k2 pt2) pos.line C.X.env = pure false := by rfl) : SV C b δ (.Assign [.Tuple [.Name x px, .Name y py] kt pt] (.Tuple [e1, e2] k2 pt2) pos :: rest) F := by
  intro os σ H st D ed
  refine WSs.of (pss_cons (ps_par hc hN hi hj hij hx hy paW hw hs) pssW) ?_
  unfold tSeq tPar
  refine h os σ H st _ fun vs H1 b1 rs f1 j1 rv hr => ?_
  obtain ⟨d1, d2, rfl, q⟩ := hr
  cases rv with | @cons v1 vs1 _ _ r1 rv => ?_
  cases rv with | @cons v2 vs2 _ _ r2 rv => ?_
  cases rv
  cases r1 with | va r1 => ?_
  cases r2 with | va r2 => ?_
  refine ⟨v1, v2, rfl, ?_⟩
  obtain ⟨os1, st1, g1⟩ := st.put (i := i) f1 j1 (.va r1) rfl
  obtain ⟨os2, st2, g2⟩ := st1.put (i := j) (r := .va d2) Fr.refl j1 (.va r2) rfl
  exact q os2 _ H1 st2 D (ed.on (g1.trans g2))
end
end PD
set_option Elab.async false
set_option linter.all false
set_option maxRecDepth 100000
set_option maxHeartbeats 4000000
namespace PD
open PySem PySem.Spec PyProof.Rows L2
section
variable {C : Cn} {b : Nat} {δ : List Sl} {F : Fin} {pos px py pt pt2 : Pos} {e1 e2 : Expr} {rest : List Stmt} {kt k2 : Nat}
/-- two new lists at once: they are unlike, so they are two -/
theorem Sts.put2 {os : List Addr} {σ : L2.St} {H H1 : Hp} {b1 : Nat} {i j : Nat} {p1 p2 : Addr} {xs1 xs2 : List V} {ds1 ds2 : List D} (st : Sts C os b δ σ H) (f : Fr C.Z.S H H1) (jj : C.Z.J b1 H1) (n1 : H p1 = none) (e1 : H1 p1 = some (.lst xs1)) (s1 : ¬ C.Z.S p1) (r1 : RpA C.K H1 xs1 ds1)
    (n2 : H p2 = none) (e2 : H1 p2 = some (.lst xs2)) (s2 : ¬ C.Z.S p2) (r2 : RpA C.K H1 xs2 ds2) (ne : p1 ≠ p2) (hij : i ≠ j) :
    ∃ os', Sts C os' b1 ((δ.set i (.ow ds1)).set j (.ow ds2)) ((σ.set i (some (.ref p1))).set j (some (.ref p2))) H1 ∧ Gr C.Z os H os' H1 := by
  have no : ∀ {p : Addr}, H p = none → p ∉ os := fun {p} n z => by
    obtain ⟨x, q⟩ := (st.new p z).2.2
    rw [n] at q; cases q
  obtain ⟨o0, nd0, sub0, sl0⟩ := st.sl
  have sla : Sls C.K C.Z (p2 :: p1 :: os) H δ σ o0 := (sl0.more n1).more n2
  have sl1 : Sls C.K C.Z (p2 :: p1 :: os) H1 δ σ o0 := sla.fr f fun q hq => (st.new q (sub0 q hq)).2.1
  obtain ⟨o1, nd1, sb1, l1⟩ := sl1.put (i := i) nd0 (q := [p1]) (by simp) (fun q hq z => no n1 (sub0 p1 (by rw [← List.mem_singleton.mp hq]; exact z))) (Slot.ow e1 r1)
  obtain ⟨o2, nd2, sb2, l2⟩ := l1.put (i := j) nd1 (q := [p2]) (by simp) (fun q hq z => by
    rw [List.mem_singleton.mp hq] at z
    rcases sb1 p2 z with y | y
    · exact ne (List.mem_singleton.mp y).symm
    · exact no n2 (sub0 p2 y)) (Slot.ow e2 r2)
  have st1 := st.on f jj
  refine ⟨p2 :: p1 :: os, ⟨st1.fr, jj, fun q hq => ?_, o2, nd2, fun q hq => ?_, l2⟩, ⟨f.wide fun _ => .inl, fun q hq => ?_⟩⟩
  · rcases List.mem_cons.mp hq with z | z
    · rw [z]; exact ⟨st.fr.back n2, s2, _, e2⟩
    · rcases List.mem_cons.mp z with z | z
      · rw [z]; exact ⟨st.fr.back n1, s1, _, e1⟩
      · exact st1.new q z
  · rcases sb2 q hq with z | z
    · exact List.mem_cons.mpr (.inl (List.mem_singleton.mp z))
    · rcases sb1 q z with y | y
      · exact List.mem_cons_of_mem _ (List.mem_cons.mpr (.inl (List.mem_singleton.mp y)))
      · exact List.mem_cons_of_mem _ (List.mem_cons_of_mem _ (sub0 q y))
  · rcases List.mem_cons.mp hq with z | z
    · rw [z]; exact .inr n2
    · rcases List.mem_cons.mp z with z | z
      · rw [z]; exact .inr n1
      · exact .inl z
/-- a, b = [..], [..] of unlike lengths -/
theorem sv_set2W (i j : Nat) {x y : Str} (hc : C.X.calm = true) (hN : C.X.N.Nodup) (hij : i ≠ j) (h : EVA C b δ [e1, e2] (fun b1 rs => ∃ d1 d2, rs = [.ow d1, .ow d2] ∧ d1.length ≠ d2.length ∧ SV C b1 ((δ.set i (.ow d1)).set j (.ow d2)) rest F)) (hi : C.X.N[i]? = some x := by rfl) (hj : C.X.N[j]? = some y := by rfl)
    (hx : C.X.env.scope.names.lookup x = some .local := by rfl) (hy : C.X.env.scope.names.lookup y = some .local := by rfl)
    (hw : swappedStores [.Tuple [.Name x px, .Name y py] kt pt] (.Tuple [e1, e2] k2 pt2) C.X.env = pure (some [x, y]) := by rfl)
    (hs : swapsWithSole [.Tuple [.Name x px, .Name y py] kt pt] (.Tuple [e1, e2] k2 pt2) pos.line C.X.env = pure false := by rfl) : SV C b δ (.Assign [.Tuple [.Name x px, .Name y py] kt pt] (.Tuple [e1, e2] k2 pt2) pos :: rest) F := by
  intro os σ H st D ed
  refine WSs.of (pss_cons (ps_par hc hN hi hj hij hx hy paW hw hs) pssW) ?_
  unfold tSeq tPar
  refine h os σ H st _ fun vs H1 b1 rs f1 j1 rv hr => ?_
  obtain ⟨d1, d2, rfl, hl, q⟩ := hr
  cases rv with | @cons v1 vs1 _ _ r1 rv => ?_
  cases rv with | @cons v2 vs2 _ _ r2 rv => ?_
  cases rv
  cases r1 with | @ow p1 xs1 _ n1 a1 s1 ra1 => ?_
  cases r2 with | @ow p2 xs2 _ n2 a2 s2 ra2 => ?_
  refine ⟨_, _, rfl, ?_⟩
  have ne : p1 ≠ p2 := fun z => by
    subst z
    rw [a1] at a2
    cases a2
    exact hl (ra1.len.symm.trans ra2.len)
  obtain ⟨os2, st2, g2⟩ := st.put2 (i := i) (j := j) f1 j1 n1 a1 s1 ra1 n2 a2 s2 ra2 ne hij
  exact q os2 _ H1 st2 D (ed.on g2)
end
end PD
set_option Elab.async false
set_option linter.all false
set_option maxRecDepth 100000
set_option maxHeartbeats 4000000
namespace PD
open PySem PySem.Spec PyProof.Rows L2 KS
/-! ### tuples, the module's own empty one too -/
def Res.tupl : Res → Option (List D)
  | .va (.tup ds) => some ds
  | .va (.pt ds) => some ds
  | .va (.obj .unit _) => some []
  | _ => none
theorem RV.tupl_ {K : PySem.W.Frag} {Z : Vol} {os : List Addr} {H H' : Hp} {v : V} {r : Res} {ds : List D} (h : RV K Z os H H' v r) (e : r.tupl = some ds) : ∃ a xs, v = .ref a ∧ SqT K H' a xs ∧ RpA K H' xs ds := by
  cases h with
  | va h =>
    cases h with
    | tup hh ra => cases e; exact ⟨_, _, rfl, hh.sq, ra⟩
    | ptup hh _ ra => cases e; exact ⟨_, _, rfl, .inl (.inr ⟨_, hh⟩), ra⟩
    | @obj t a hh =>
      cases t with
      | unit => cases e; exact ⟨_, [], rfl, hh.sq, .nil⟩
      | _ => cases e
    | _ => cases e
  | _ => cases e
section
variable {C : Cn} {b : Nat} {δ : List Sl} {P : Nat → Res → Prop} {PL : Nat → List D → Prop} {pos p0 p1 p2 apos : Pos} {e e1 e2 o tg iter : Expr}
theorem ei_tupU (h : EV C b δ iter (fun b1 r => ∃ ds, r.tupl = some ds ∧ PL b1 ds)) : EI C b δ tg iter PL := by
  intro os σ H st R k
  refine WI.of (pi_tup peW) ?_
  refine h os σ H st _ fun v H1 b1 r f1 j1 rv hr => ?_
  obtain ⟨ds, hr, q⟩ := hr
  obtain ⟨a, xs, rfl, hh, ra⟩ := rv.tupl_ hr
  exact ⟨a, rfl, ⟨xs, hh⟩, k _ H1 b1 ds f1 j1 (wk_tup hh ra) q⟩
/-- tuple(t): itself -/
theorem ev_tupleU (B : Blt C.X) (h : EV C b δ e (fun b1 r => ∃ ds, (r.seq = some ds ∨ r = .va (.tup ds)) ∧ P b1 (.va (.tup ds)))) (hg : Gl C.X "tuple" := by rfl)
    (hsx : starEach [e] C.X.env = (false, eval e C.X.env) :: starEach [] C.X.env := by rfl) (hpl : (backTo pos (starEach [] C.X.env)).any (·.1) = false := by rfl) : EV C b δ (.Call (.Name "tuple" p0) [e] [] pos) P := by
  intro os σ H st Q q
  refine WE.of (pe_callTy call_tuple_of hg B.tuple (by decide +kernel) (pa_cons peW pa_nil hsx) (by decide) (by decide) hsx hpl) ?_
  refine h os σ H st _ fun v H1 b1 r f1 j1 rv hh => ?_
  obtain ⟨ds, hs, hq⟩ := hh
  rcases hs with hs | rfl
  · obtain ⟨p, xs, rfl, e, ra⟩ := rv.seq_ hs
    refine ⟨p, xs, rfl, .inl ⟨e.sq, fun l hl => ?_⟩⟩
    have fn : Fr C.Z.S H1 (upd H1 l (.tup xs)) := Fr.new hl
    exact q _ _ b1 _ (f1.trans fn) (jnew j1 hl) (.va (.tup (.h upd_same) (ra.fr fn))) hq
  · cases rv with
    | va rv =>
      cases rv with
      | @tup a xs _ hh ra => exact ⟨a, xs, rfl, .inr ⟨hh.sq, q _ H1 b1 _ f1 j1 (.va (.tup hh ra)) hq⟩⟩
end
/-! ### d.get(the module's own empty tuple, z) -/
end PD
set_option Elab.async false
set_option linter.all false
set_option maxRecDepth 100000
set_option maxHeartbeats 4000000
namespace G
open PySem PySem.Spec PyProof.Rows L2 PD
theorem nodupB_iff [DecidableEq α] : ∀ xs : List α, nodupB xs = true ↔ xs.Nodup
  | [] => by simp [nodupB]
  | x :: xs => by
    rw [nodupB, Bool.and_eq_true, nodupB_iff xs, List.nodup_cons]
    simp
theorem cnt_B [DecidableEq α] (xs : List α) {n : Nat} (hn : xs.length = n) : decide ((cnt xs : Int) = (n : Int)) = nodupB xs := by
  subst hn
  cases e : nodupB xs with
  | true => exact decide_eq_true (by rw [(cnt_nodup xs).mpr ((nodupB_iff xs).mp e)])
  | false =>
    refine decide_eq_false fun z => ?_
    have : cnt xs = xs.length := by omega
    rw [(nodupB_iff xs).mpr ((cnt_nodup xs).mp this)] at e
    cases e
theorem decl_tup {d : D} (h : isDecl d = true) : ∃ x c, d = .tup [.str x, c] := by
  unfold isDecl at h
  split at h
  · rename_i a c
    rw [Bool.and_eq_true] at h
    have h1 : (mdo letters 0 8 a && !isText "xmlns" a) = true := h.1
    rw [Bool.and_eq_true] at h1
    obtain ⟨x, rfl⟩ := mdo_str h1.1
    exact ⟨x, c, rfl⟩
  · cases h
theorem name_tup {d : D} (h : isName d = true) : ∃ x y, d = .tup [.str x, .str y] := by
  unfold isName at h
  split at h
  · rename_i a c
    rw [Bool.and_eq_true] at h
    have h1 : (mdo letters 0 8 a && !isText "xmlns" a) = true := h.1
    have h2 : (mdo letters 1 8 c && !isText "xmlns" c) = true := h.2
    rw [Bool.and_eq_true] at h1 h2
    obtain ⟨x, rfl⟩ := mdo_str h1.1
    obtain ⟨y, rfl⟩ := mdo_str h2.1
    exact ⟨x, y, rfl⟩
  · cases h
theorem attr_tup {d : D} (h : isAttr d = true) : ∃ x y c, d = .tup [.tup [.str x, .str y], c] := by
  unfold isAttr at h
  split at h
  · rename_i a c
    rw [Bool.and_eq_true] at h
    obtain ⟨x, y, rfl⟩ := name_tup h.1
    exact ⟨x, y, c, rfl⟩
  · cases h
theorem nodupB_inj [DecidableEq α] [DecidableEq β] {j : α → β} (hj : ∀ x y, j x = j y → x = y) : ∀ xs : List α, nodupB (xs.map j) = nodupB xs
  | [] => rfl
  | x :: xs => by
    rw [List.map_cons, nodupB, nodupB, nodupB_inj hj xs]
    congr 2
    refine decide_eq_decide.mpr ⟨fun h => ?_, fun h => List.mem_map.mpr ⟨x, h, rfl⟩⟩
    obtain ⟨y, hy, e⟩ := List.mem_map.mp h
    rw [← hj _ _ e]
    exact hy
def pairL (p : Str × Str) : List Str := [p.1, p.2]
theorem pairL_inj : ∀ x y, pairL x = pairL y → x = y := fun x y h => by
  simp only [pairL, List.cons.injEq] at h
  exact Prod.ext h.1 h.2.1
section
variable {P : Program} {w : World} {K : PySem.W.Frag} {mg : Str → Option Value} {base : Heap} {Z : Vol} {f : Addr} {fd : FuncData}
abbrev sDecls : Stmt := st__are_declarations
theorem ok_decls (F : Fun K "_are_declarations" "_are_declarations" sDecls f fd) (T : Cst mg) (D1 : DB P w K mg base Z "_is_declaration" 3 isDecl) : FnOk P w K mg base CX0 4 f fd ["thing"] (spP Z K 1 (gDc 50 areDecls)) := by
  have sc : FnScope ["thing", "one", "prefix", "_"] ["thing"] (defScope sDecls) := ⟨rfl, rfl, rfl, by decide +kernel, rfl, by decide +kernel, by decide +kernel⟩
  refine fn_pure F sc rfl gDc_out fun cdv A outer s H E b ds r hr hl hg => ?_
  obtain ⟨d, rfl, hs, hfew, rfl⟩ := gDc_one hg
  have b0 := T.blt (cxOf CX0 P w K mg base ["thing", "one", "prefix", "_"] "_are_declarations" (defScope sDecls) f cdv A outer s H E).nox rfl
  refine sv_if (et_pw (ew_or (et_not (et_val (ev_isi (t := "tuple") b0 b0.tuple (by decide +kernel) (ev_var 0 rfl ⟨_, isi_t d, _, rfl, ?_⟩))))))
  cases d with
  | pt ds =>
    have hlen : ds.length ≤ 50 := by simpa [few] using hfew
    refine ew_or1 (et_not (et_val (ev_all rfl b0 (ev_map (.nm 1) [("one", 1)] (fun d => .bl (isDecl d)) rfl sc.nd (blkOk_by (N := ["thing", "one", "prefix", "_"]) (sc := defScope sDecls) (by decide +kernel)) (fun _ _ _ _ _ => pg_name (i := 1) sc.nd rfl (Or.inl rfl)) (by simp [Pat.slots]) (EI.c (ei_tupU (ev_var 0 rfl ⟨ds, rfl, ?_⟩)))))))
    refine ⟨Nat.le_trans hlen (by decide), fun d hd => ⟨_, rfl, fun _ _ _ _ _ => ev_callP D1 hr (eva_cons (ev_var 1 rfl (eva_nil ⟨_, _, rfl, rfl, gB_of (kids_sm (smD_pt hs).2 hd), rfl, rfl⟩)))⟩, ds.map isDecl, by simp only [Res.seq, List.map_map]; rfl, _, rfl, ?_⟩
    have eall : (ds.map isDecl).all id = ds.all isDecl := by rw [List.all_map]; rfl
    rw [eall]
    cases ea : ds.all isDecl with
    | false => exact sv_ret (ev_bl ⟨rfl, rfl, by simp only [areDecls, ea, Bool.false_and]⟩)
    | true =>
      refine sv_nil ?_
      refine sv_ret (ev_eq (ev_lenSC (textD _) (.tp [.nm 2, .nm 3]) [("prefix", 2), ("_", 3)] (fun d => strOf (fstOf d)) rfl sc.nd (blkOk_by (N := ["thing", "one", "prefix", "_"]) (sc := defScope sDecls) (by decide +kernel)) (fun _ _ _ _ _ => pg_tup rfl (pgs_cons (pg_name (i := 2) sc.nd rfl (Or.inl rfl)) (pgs_cons (pg_name (i := 3) sc.nd rfl (Or.inl rfl)) pgs_nil))) (by simp [Pat.slots, slotsAll]) b0 (EI.c (ei_tupU (ev_var 0 rfl ⟨ds, rfl, ?_⟩)))))
      refine ⟨Nat.le_trans hlen (show 50 ≤ 4000 by decide), by omega, fun d hd => ?_, ev_len b0 (ev_var 0 rfl ⟨_, .pt, _, _, _, rfl, rfl, rfl, rfl, rfl, ?_⟩)⟩
      · obtain ⟨x, c, rfl⟩ := decl_tup (List.all_eq_true.mp ea d hd)
        exact ⟨_, rfl, fun s H Cc cl fp => ev_var 2 rfl ⟨rfl, rfl⟩⟩
      · simp only [areDecls, ea, Bool.true_and]
        exact congrArg (fun k => Res.va (.bl k)) (cnt_B (ds.map fun d => strOf (fstOf d)) (List.length_map _))
  | obj t a =>
    cases t with
    | unit => exact nomatch hs
    | _ => exact sv_ret (ev_bl ⟨rfl, rfl, rfl⟩)
  | tup ds => exact nomatch hs
  | _ => exact sv_ret (ev_bl ⟨rfl, rfl, rfl⟩)
abbrev sAttrs : Stmt := st__are_attributes
theorem ok_attrs (F : Fun K "_are_attributes" "_are_attributes" sAttrs f fd) (T : Cst mg) (D1 : DB P w K mg base Z "_is_attribute" 4 isAttr) : FnOk P w K mg base CX0 5 f fd ["thing"] (spP Z K 1 (gF 4 areAttrs)) := by
  have sc : FnScope ["thing", "one", "name", "_"] ["thing"] (defScope sAttrs) := ⟨rfl, rfl, rfl, by decide +kernel, rfl, by decide +kernel, by decide +kernel⟩
  refine fn_pure F sc rfl gF_out fun cdv A outer s H E b ds r hr hl hg => ?_
  obtain ⟨d, rfl, hs, hfew, rfl⟩ := gF_one hg
  have b0 := T.blt (cxOf CX0 P w K mg base ["thing", "one", "name", "_"] "_are_attributes" (defScope sAttrs) f cdv A outer s H E).nox rfl
  refine sv_if (et_pw (ew_or (et_not (et_val (ev_isi (t := "tuple") b0 b0.tuple (by decide +kernel) (ev_var 0 rfl ⟨_, isi_t d, _, rfl, ?_⟩))))))
  cases d with
  | tup ds =>
    have hlen : ds.length ≤ 4 := by simpa [few] using hfew
    refine ew_or1 (et_not (et_val (ev_all rfl b0 (ev_map (.nm 1) [("one", 1)] (fun d => .bl (isAttr d)) rfl sc.nd (blkOk_by (N := ["thing", "one", "name", "_"]) (sc := defScope sAttrs) (by decide +kernel)) (fun _ _ _ _ _ => pg_name (i := 1) sc.nd rfl (Or.inl rfl)) (by simp [Pat.slots]) (EI.c (ei_tup (ev_var 0 rfl ⟨ds, rfl, ?_⟩)))))))
    refine ⟨Nat.le_trans hlen (by decide), fun d hd => ⟨_, rfl, fun _ _ _ _ _ => ev_callP D1 hr (eva_cons (ev_var 1 rfl (eva_nil ⟨_, _, rfl, rfl, gB_of (kids_sm (sm_tup hs (isE5_short (by omega))).2 hd), rfl, rfl⟩)))⟩, ds.map isAttr, by simp only [Res.seq, List.map_map]; rfl, _, rfl, ?_⟩
    have eall : (ds.map isAttr).all id = ds.all isAttr := by rw [List.all_map]; rfl
    rw [eall]
    cases ea : ds.all isAttr with
    | false => exact sv_ret (ev_bl ⟨rfl, rfl, by simp only [areAttrs, ea, Bool.false_and]⟩)
    | true =>
      refine sv_nil ?_
      refine sv_ret (ev_eq (ev_lenSC (keyD _ (hu_of hr)) (.tp [.nm 2, .nm 3]) [("name", 2), ("_", 3)] (fun d => pairL (nameOf (fstOf d))) rfl sc.nd (blkOk_by (N := ["thing", "one", "name", "_"]) (sc := defScope sAttrs) (by decide +kernel)) (fun _ _ _ _ _ => pg_tup rfl (pgs_cons (pg_name (i := 2) sc.nd rfl (Or.inl rfl)) (pgs_cons (pg_name (i := 3) sc.nd rfl (Or.inl rfl)) pgs_nil))) (by simp [Pat.slots, slotsAll]) b0 (EI.c (ei_tup (ev_var 0 rfl ⟨ds, rfl, ?_⟩)))))
      refine ⟨Nat.le_trans hlen (show 4 ≤ 4 by decide), by omega, fun d hd => ?_, ev_len b0 (ev_var 0 rfl ⟨_, .tup, _, _, _, rfl, rfl, rfl, rfl, rfl, ?_⟩)⟩
      · obtain ⟨x, y, c, rfl⟩ := attr_tup (List.all_eq_true.mp ea d hd)
        exact ⟨_, rfl, fun s H Cc cl fp => ev_var 2 rfl ⟨rfl, rfl⟩⟩
      · have e1 : (ds.map fun d => pairL (nameOf (fstOf d))) = (ds.map fun d => nameOf (fstOf d)).map pairL := by rw [List.map_map]; rfl
        have e2 := cnt_B (ds.map fun d => pairL (nameOf (fstOf d))) (List.length_map _)
        rw [e1, nodupB_inj pairL_inj, ← e1] at e2
        simp only [areAttrs, ea, Bool.true_and]
        exact congrArg (fun k => Res.va (.bl k)) e2
  | obj t a =>
    cases t with
    | unit => exact nomatch hs
    | _ => exact sv_ret (ev_bl ⟨rfl, rfl, rfl⟩)
  | pt ds => exact nomatch hs
  | _ => exact sv_ret (ev_bl ⟨rfl, rfl, rfl⟩)
end
end G
set_option Elab.async false
set_option linter.all false
set_option maxRecDepth 100000
set_option maxHeartbeats 4000000
namespace G
open PySem PySem.Spec PyProof.Rows L2 PD
theorem sm_kids {d : D} (h : sm d = true) : ∀ c ∈ kidsOf d, sm c = true := by
  intro c hc
  unfold kidsOf at hc
  split at hc
  · rename_i k n de a ch
    split at hc
    · rename_i h5
      obtain ⟨x, rfl⟩ : ∃ x, k = D.str x := by
        cases k with
        | str x => exact ⟨x, rfl⟩
        | _ => cases h5
      obtain rfl : x = "element" := of_decide_eq_true h5
      exact sm_mem (smK_tup (sm_el h).2.2.2.2).2 hc
    · exact nomatch hc
  · exact nomatch hc
theorem pre_sm : ∀ (n : Nat) (p : List D) (d : D), sizeOf d ≤ n → sm d = true → ∀ q ∈ pre p d, sm q.2 = true
  | 0, p, d, hn, _, _, _ => by cases d <;> simp at hn
  | n + 1, p, d, hn, hs, q, hq => by
    rw [pre_eq] at hq
    rcases List.mem_cons.mp hq with rfl | hq
    · exact hs
    · obtain ⟨r, hr, hq⟩ := List.mem_flatMap.mp hq
      have hm := elemsAt_mem p _ 0 r hr
      have h1 := elemsAt_size p 0 _ r hr
      have h2 := kids_lt d (fun z => by rw [z] at hm; cases hm)
      exact pre_sm n r.1 r.2 (by omega) (sm_kids hs _ hm) q hq
theorem fw_mem : ∀ {l : List (List D × D)} {n : Nat}, fw n l = none → ∀ q ∈ l, wrongItem q.2 = none
  | (p, d) :: r, n, h, q, hq => by
    obtain ⟨_, _, h1, h2⟩ := fw_cons h
    rcases List.mem_cons.mp hq with rfl | hq
    · exact h1
    · exact fw_mem h2 q hq
theorem holes_str {cs : List D} (hk : kidsOk false cs = true) : holeStrs cs = ((holeStrs cs).map strOf).map D.str := by
  rw [holeStrs_eq, List.map_map, List.map_map]
  refine List.map_congr_left fun d hd => ?_
  obtain ⟨h1, h2⟩ := List.mem_filter.mp hd
  obtain ⟨x, rfl⟩ := kids_hole hk d h1 h2
  rfl
theorem cnt_lt [DecidableEq α] (xs : List α) {n : Nat} (hn : xs.length = n) : decide ((cnt xs : Int) < (n : Int)) = !nodupB xs := by
  subst hn
  have h1 := cnt_le xs
  cases e : nodupB xs with
  | true =>
    have := (cnt_nodup xs).mpr ((nodupB_iff xs).mp e)
    exact decide_eq_false (by omega)
  | false =>
    refine decide_eq_true ?_
    have : cnt xs ≠ xs.length := fun z => by
      rw [(nodupB_iff xs).mpr ((cnt_nodup xs).mp z)] at e
      cases e
    omega
theorem holesIn_cons (q : List D × D) (l : List (List D × D)) : holesIn (q :: l) = (holeStrs (kidsOf q.2)).length + holesIn l := by simp [holesIn]
theorem gFH_out : ∀ (ds : List D) (r : Res), gFH ds = some r → r.out = true := by
  intro ds r h
  unfold gFH at h
  split at h
  · split at h
    · cases h; rfl
    · cases h
  · cases h
theorem gFH_one {ds : List D} {r : Res} (h : gFH ds = some r) : ∃ d, ds = [d] ∧ sm d = true ∧ fw 0 (pre [] d) = none ∧ holesIn (pre [] d) ≤ 1000 ∧ r = .va (faultD (fh [] (pre [] d))) := by
  unfold gFH at h
  split at h
  · split at h
    · rename_i q
      cases h; exact ⟨_, rfl, q.1, q.2.1, q.2.2, rfl⟩
    · cases h
  · cases h
section
variable {P : Program} {w : World} {K : PySem.W.Frag} {mg : Str → Option Value} {base : Heap} {Z : Vol} {f : Addr} {fd : FuncData}
abbrev sFH : Stmt := st__first_hole_again
theorem ok_fh (F : Fun K "_first_hole_again" "_first_hole_again" sFH f fd) (T : Cst mg) (D1 : Df P w K mg base "walk" 4 ["part"] (spP Z K 1 gWalk)) (D2 : Df P w K mg base "holes_among" 2 ["children"] (spP Z K 1 gHoles)) :
    FnOk P w K mg base CX0 5 f fd ["part"] (spP Z K 1 gFH) := by
  have sc : FnScope ["part", "told", "path", "element"] ["part"] (defScope sFH) := ⟨rfl, rfl, rfl, by decide +kernel, rfl, by decide +kernel, by decide +kernel⟩
  refine fn_pure F sc rfl gFH_out fun cdv A outer s H E b ds r hr hl hg => ?_
  obtain ⟨d, rfl, hs, hfw, hh, rfl⟩ := gFH_one hg
  have b0 := T.blt (cxOf CX0 P w K mg base ["part", "told", "path", "element"] "_first_hole_again" (defScope sFH) f cdv A outer s H E).nox rfl
  refine sv_set 1 (ev_lst (eva_nil ⟨[], rfl, by decide, _, rfl, ?_⟩)) sc.nd
  refine sv_for (.tp [.nm 2, .nm 3]) rfl PassesOwn.never (pg_tup rfl (pgs_cons (pg_name (i := 2) sc.nd rfl (Or.inl rfl)) (pgs_cons (pg_name (i := 3) sc.nd rfl (Or.inl rfl)) pgs_nil)))
    (ei_list (ev_callP D1 hr (eva_cons (ev_var 0 rfl (eva_nil ⟨_, _, rfl, rfl, if_pos ⟨hs, hfw⟩, _, .inl rfl, ?_⟩)))))
  refine ⟨fun prf b2 δ2 => b2 = b ∧ ∃ (done rest : List (List D × D)) (told : List Str) (s2 s3 : Sl), δ2 = [.va d, .ow (told.map D.str), s2, s3] ∧ pre [] d = done ++ rest ∧ prf = done.map pairD ∧ fh [] (pre [] d) = fh told rest ∧ told.length + holesIn rest ≤ 1000, ⟨rfl, [], pre [] d, [], _, _, rfl, rfl, rfl, rfl, by simpa using hh⟩, ?_, ?_⟩
  · rintro prf x post b2 δ2 e ⟨rfl, done, rest, told, s2, s3, rfl, hp, rfl, hf, hlen⟩
    rw [hp, List.map_append] at e
    have e2 := List.append_cancel_left e
    cases rest with
    | nil => cases e2
    | cons q rest =>
      rw [List.map_cons, List.cons.injEq] at e2
      obtain ⟨rfl, rfl⟩ := e2
      have hq : q ∈ pre [] d := by rw [hp]; simp
      obtain ⟨p, el⟩ := q
      have hse := pre_sm _ [] d (Nat.le_refl _) hs _ hq
      obtain ⟨n, de, at_, cs, rfl, _, _, _, hk⟩ := wrong_none (fw_mem hfw _ hq)
      have hsc : smK (.tup cs) = true := (sm_el hse).2.2.2.2
      have hkids : kidsOf (.tup [.str "element", n, de, at_, .tup cs]) = cs := rfl
      rw [holesIn_cons, hkids] at hlen
      refine ⟨_, rfl, ?_⟩
      refine sv_extend 1 rfl (ev_callP D2 (hr.mono (by decide)) (eva_cons (ev_ix (ev_var 3 rfl (ev_int ⟨_, _, _, .inl rfl, rfl, atN (j := 4) rfl, eva_nil ⟨_, _, rfl, rfl, gHoles_of hsc hk, _, _, rfl, rfl, ?_, ?_⟩⟩)))))
      · rw [List.length_map]; omega
      have et : told.map D.str ++ holeStrs cs = (told ++ (holeStrs cs).map strOf).map D.str := by
        rw [List.map_append, ← holes_str hk]
      rw [et]
      have hl2 : (told ++ (holeStrs cs).map strOf).length ≤ 4000 := by rw [List.length_append, List.length_map]; omega
      refine sv_if (et_ord op_lt (nomark _) (ev_lenSet b0 rfl (ev_varO 1 rfl ⟨_, rfl, hl2, ev_len b0 (ev_varO 1 rfl ⟨_, .seq rfl, _, _, rfl, rfl, ?_⟩)⟩)))
      rw [cnt_lt _ (by rw [List.length_map])]
      cases en : nodupB (told ++ (holeStrs cs).map strOf) with
      | false =>
        refine sv_ret (ev_tup (eva_cons (ev_var 2 rfl (eva_cons (ev_str (eva_nil ⟨_, rfl, by simp, rfl, rfl, ?_⟩))))))
        rw [hf]
        simp only [fh, hkids, en, Bool.false_eq_true, if_false]
        rfl
      | true =>
        refine sv_nil (sv_nil ⟨rfl, done ++ [(p, _)], rest, told ++ (holeStrs cs).map strOf, .va (.tup p), .va (.tup [.str "element", n, de, at_, .tup cs]), rfl, by rw [hp, List.append_assoc]; rfl, by rw [List.map_append]; rfl, ?_, ?_⟩)
        · rw [hf]
          simp only [fh, hkids, en, if_true]
        · rw [List.length_append, List.length_map]; omega
  · rintro b2 δ2 ⟨rfl, done, rest, told, s2, s3, rfl, hp, e, hf, _⟩
    have hr0 : rest = [] := by
      have h1 := congrArg List.length e
      rw [List.length_map, List.length_map, hp, List.length_append] at h1
      exact List.eq_nil_of_length_eq_zero (by omega)
    subst hr0
    exact sv_ret (ev_non ⟨rfl, rfl, by rw [hf]; rfl⟩)
end
end G
set_option Elab.async false
set_option linter.all false
set_option maxRecDepth 100000
set_option maxHeartbeats 4000000
namespace G
open PySem PySem.Spec PyProof.Rows L2 PD
section
variable {P : Program} {w : World} {K : PySem.W.Frag} {mg : Str → Option Value} {base : Heap} {Z : Vol} {f : Addr} {fd : FuncData}
/-! ### looked_up -/
theorem one_inj (x y : Nd) (h : [x.d] = [y.d]) : x = y := nd_inj x y (by injection h)
theorem str_sc (x y : Str) : (D.str x).sc (.str y) = some (decide (x = y)) := rfl
end
end G
set_option Elab.async false
set_option linter.all false
set_option maxRecDepth 100000
set_option maxHeartbeats 4000000
namespace G
open PySem PySem.Spec PyProof.Rows L2 PD
section
variable {P : Program} {w : World} {K : PySem.W.Frag} {mg : Str → Option Value} {base : Heap} {Z : Vol} {f : Addr} {fd : FuncData}
/-! ### state_in -/
abbrev yes {α : Type} : α → Prop := fun _ => True
/-! ### _bound_in -/
end
end G
set_option Elab.async false
set_option linter.all false
set_option maxRecDepth 100000
set_option maxHeartbeats 4000000
namespace G
open PySem PySem.Spec PyProof.Rows L2 PD
theorem hu40 {k : Nat} {A : Around} (h : Room k A) : A.units + 40 < cLine := by have := h.units; omega
/-! ### states, names of attributes as keys -/
/-- a text as Python has them, not too long -/
def okS (x : Str) : Bool := PyData.strOk x && decide (x.length ≤ 1000)
theorem okS_1 {x : Str} (h : okS x = true) : PyData.strOk x = true := by
  unfold okS at h
  exact (Bool.and_eq_true_iff.mp h).1
theorem okS_2 {x : Str} (h : okS x = true) : x.length ≤ 1000 := by
  unfold okS at h
  exact of_decide_eq_true (Bool.and_eq_true_iff.mp h).2
def okB (m : Bd) : Bool := m.all fun q => okS q.1 && okS q.2
def Vl.ok : Vl → Bool
  | .s x => okS x
  | .q p l => okS p && okS l
mutual
/-- no text that is none, few declarations and attributes in each element -/
def Nd.ok : Nd → Bool
  | .s x => okS x
  | .h x => okS x
  | .el p l ds as cs => okS p && okS l && ds.all (fun q => okS q.1 && okS q.2) && as.all (fun q => okS q.1.1 && okS q.1.2 && q.2.ok) && decide (ds.length ≤ 50) && decide (as.length ≤ 4) && decide (cs.length ≤ 60) && ndsOk cs
def ndsOk : List Nd → Bool
  | [] => true
  | c :: cs => c.ok && ndsOk cs
end
structure OkE (p l : Str) (ds : List (Str × Str)) (as : List ((Str × Str) × Vl)) (cs : List Nd) : Prop where
  p : okS p = true
  l : okS l = true
  hd : ∀ q ∈ ds, okS q.1 = true ∧ okS q.2 = true
  ha : ∀ q ∈ as, okS q.1.1 = true ∧ okS q.1.2 = true ∧ q.2.ok = true
  nd : ds.length ≤ 50
  na : as.length ≤ 4
  nc : cs.length ≤ 60
  hc : ∀ c ∈ cs, c.ok = true
theorem ndsOk_iff (cs : List Nd) : ndsOk cs = true ↔ ∀ c ∈ cs, c.ok = true := by
  induction cs with
  | nil => simp [ndsOk]
  | cons c cs ih => rw [ndsOk, Bool.and_eq_true, ih]; simp
theorem ok_el {p l : Str} {ds : List (Str × Str)} {as : List ((Str × Str) × Vl)} {cs : List Nd} : (Nd.el p l ds as cs).ok = true ↔ OkE p l ds as cs := by
  rw [Nd.ok]
  simp only [Bool.and_eq_true, List.all_eq_true, decide_eq_true_eq, ndsOk_iff]
  exact ⟨fun ⟨⟨⟨⟨⟨⟨⟨h1, h2⟩, h3⟩, h4⟩, h5⟩, h6⟩, h7⟩, h8⟩ => ⟨h1, h2, h3, fun q hq => ⟨(h4 q hq).1.1, (h4 q hq).1.2, (h4 q hq).2⟩, h5, h6, h7, h8⟩,
    fun ⟨h1, h2, h3, h4, h5, h6, h7, h8⟩ => ⟨⟨⟨⟨⟨⟨⟨h1, h2⟩, h3⟩, fun q hq => ⟨⟨(h4 q hq).1, (h4 q hq).2.1⟩, (h4 q hq).2.2⟩⟩, h5⟩, h6⟩, h7⟩, h8⟩⟩
end G
set_option Elab.async false
set_option linter.all false
set_option maxRecDepth 100000
set_option maxHeartbeats 4000000
namespace PD
open PySem PySem.Spec PyProof.Rows L2
/-! ### calls with a default left out, with a keyword -/
structure DfD (P : Program) (w : World) (K : PySem.W.Frag) (mg : Str → Option Value) (base : Heap) (x : Str) (k : Nat) (ps : List Str) (sp : Sp) (dvs : List V) : Prop where
  at_ : ∃ f fd ds, FnOk P w K mg base CX0 k f fd ps sp ∧ mg x = some (.ref f) ∧ PySem.W.keepIn K (.ref f) = true ∧ Binds K fd ps ds ∧ Vals dvs ds
structure DfN (P : Program) (w : World) (K : PySem.W.Frag) (mg : Str → Option Value) (base : Heap) (x : Str) (k : Nat) (ps : List Str) (sp : Sp) (m : Nat) (kw : Str) : Prop where
  at_ : ∃ f fd g, FnOk P w K mg base CX0 k f fd ps sp ∧ mg x = some (.ref f) ∧ PySem.W.keepIn K (.ref f) = true ∧ KBn K fd ps m [kw] g (fun vs zs => vs ++ zs)
theorem arvs_of {K : PySem.W.Frag} {Z : Vol} {H : Hp} {vs : List V} {ds : List D} (h : RpA K H vs ds) : ArVs K Z H vs (ds.map Ar.va) := by
  induction ds generalizing vs with
  | nil => cases h; exact .nil
  | cons d ds ih => cases h with | cons a r => exact .cons (.va a) (ih r)
theorem arvs_app {K : PySem.W.Frag} {Z : Vol} {H : Hp} {vs ws : List V} {as cs : List Ar} (h : ArVs K Z H vs as) (g : ArVs K Z H ws cs) : ArVs K Z H (vs ++ ws) (as ++ cs) := by
  induction h with
  | nil => exact g
  | cons a _ ih => exact .cons a ih
theorem arvs_fr {K : PySem.W.Frag} {Z : Vol} {H H' : Hp} {vs : List V} {ds : List D} (h : ArVs K Z H vs (ds.map Ar.va)) (f : Fr Z.S H H') : ArVs K Z H' vs (ds.map Ar.va) := by
  induction ds generalizing vs with
  | nil => cases h; exact .nil
  | cons d ds ih =>
    cases h with
    | cons a r =>
      cases a with
      | va r1 => exact .cons (.va (r1.fr f)) (ih r)
section
variable {C : Cn} {b : Nat} {δ : List Sl} {P : Nat → Res → Prop} {pos p0 kpos : Pos} {e ek : Expr} {es : List Expr}
/-- defaults left out at the end -/
theorem ev_callD {x : Str} {k n : Nat} {ps : List Str} {g : List D → Option Res} {dvs : List V} {dds : List D} (F : DfD C.X.prog C.X.w C.X.K C.X.mg C.X.base x k ps (spP C.Z C.K n g) dvs) (hr : Room k C.X.A) (hd : ∀ H, RpA C.K H dvs dds)
    (h : EVA C b δ (e :: es) (fun b1 rs => ∃ ds r, vas rs = some ds ∧ ds.length + dds.length = n ∧ g (ds ++ dds) = some r ∧ P b1 r)) (hg : Gl C.X x := by rfl)
    (hdb : (x == ("__debug__" : Str)) = false := by decide) (he : starEach (e :: es) C.X.env = (false, eval e C.X.env) :: starEach es C.X.env := by rfl) (hpl : (backTo pos (starEach es C.X.env)).any (·.1) = false := by rfl) :
    EV C b δ (.Call (.Name x p0) (e :: es) [] pos) P := by
  obtain ⟨f, fd, dsv, ok, hm, hk, hb, hv⟩ := F.at_
  intro os σ H st Q q
  refine WE.of (pe_call ok hr hg hm hk hb hv pass0 paW hdb he hpl) ?_
  refine h os σ H st _ fun vs H1 b1 rs f1 j1 rv hh => ?_
  obtain ⟨ds, r, h1, h2, h3, h4⟩ := hh
  obtain ⟨a1, a2⟩ := vas_ar h1
  have ra := rv.ar
  rw [a1] at ra
  refine ⟨b1, (ds ++ dds).map Ar.va, by rw [List.length_map, List.length_append]; exact h2, by rw [List.map_append]; exact arvs_app ra (arvs_of (hd H1)), j1, ⟨ds ++ dds, r, rfl, h3⟩, fun v H' b' r' f2 j2 rv2 ho po => ?_⟩
  obtain ⟨hb', ds', e1, e2⟩ := po
  rw [← map_va_inj e1, h3] at e2
  cases e2
  rw [hb'] at j2
  exact q v H' b1 r (f1.trans f2) j2 ((rv2.any ho).from f1) h4
/-- the last parameter by its keyword -/
theorem ev_callN {x kw : Str} {k n m : Nat} {ps : List Str} {g : List D → Option Res} (F : DfN C.X.prog C.X.w C.X.K C.X.mg C.X.base x k ps (spP C.Z C.K n g) m kw) (hr : Room k C.X.A)
    (h : EVA C b δ (e :: es) (fun b1 rs => EV C b1 δ ek fun b2 rk => ∃ ds dk r, vas rs = some ds ∧ rk = .va dk ∧ ds.length = m ∧ m + 1 = n ∧ g (ds ++ [dk]) = some r ∧ P b2 r)) (hg : Gl C.X x := by rfl)
    (hall : (backToKw pos (keywordEach [⟨some kw, ek, kpos⟩] C.X.env)).all (·.1.isSome) = true := by rfl) (hks : (backToKw pos (keywordEach [⟨some kw, ek, kpos⟩] C.X.env)).filterMap (·.1) = [kw] := by rfl)
    (hdb : (x == ("__debug__" : Str)) = false := by decide) (he : starEach (e :: es) C.X.env = (false, eval e C.X.env) :: starEach es C.X.env := by rfl)
    (hpl : ((backTo pos (starEach (e :: es) C.X.env)).any (·.1) || (backToKw pos (keywordEach [⟨some kw, ek, kpos⟩] C.X.env)).any (·.1.isNone)) = false := by rfl) :
    EV C b δ (.Call (.Name x p0) (e :: es) [⟨some kw, ek, kpos⟩] pos) P := by
  obtain ⟨f, fd, gg, ok, hm, hk, hb⟩ := F.at_
  intro os σ H st Q q
  refine WE.of (pe_callN ok hr hg hm hk hb pass0 paW (pk_cons peW pk_nil) hall hks hdb he hpl) ?_
  refine h os σ H st _ fun vs H1 b1 rs f1 j1 rv hh => ?_
  refine hh os σ H1 (st.on f1 j1) _ fun v2 H2 b2 rk f2 j2 rv2 hh2 => ?_
  obtain ⟨ds, dk, r, h1, rfl, h2, h5, h3, h4⟩ := hh2
  obtain ⟨a1, a2⟩ := vas_ar h1
  have ra := rv.ar
  rw [a1] at ra
  have hl : vs.length = m := by rw [ra.len, List.length_map]; exact h2
  cases rv2 with | va rv2 => ?_
  refine ⟨hl, rfl, b2, (ds ++ [dk]).map Ar.va, by rw [List.length_map, List.length_append, h2]; exact h5, by rw [List.map_append]; exact arvs_app (arvs_fr ra f2) (.cons (.va rv2) .nil), j2, ⟨ds ++ [dk], r, rfl, h3⟩, fun v H' b' r' f3 j3 rv3 ho po => ?_⟩
  obtain ⟨hb', ds', e1, e2⟩ := po
  rw [← map_va_inj e1, h3] at e2
  cases e2
  rw [hb'] at j3
  exact q v H' b2 r ((f1.trans f2).trans f3) j3 ((rv3.any ho).from (f1.trans f2)) h4
end
/-- one default, left out or given by its name -/
theorem DfD.of {P : Program} {w : World} {K : PySem.W.Frag} {mg : Str → Option Value} {base : Heap} {x : Str} {st : Stmt} {f : Addr} {fd : FuncData} {ps : List Str} {k : Nat} {sp : Sp} {dvs : List V} (F : FunD K x x (defArgs st) (defBody st) (defScope st) dvs [] f fd) (ok : FnOk P w K mg base CX0 k f fd ps sp) (hm : mg x = some (.ref f))
    (hd : dvs ≠ []) (n : Nat) (hn : n + dvs.length = ps.length)
    (h : ∀ (T : Addr) (kV doc pm : Value) (an : Option Addr) (cdv ct : Value) (us its : List Value), us.length = n → its.length = dvs.length →
      ∃ k, bindArgs (PySem.W.fnOf x x (defArgs st) (defBody st) (defScope st) (.ref T) kV doc pm an cdv ct) ⟨us, []⟩ = seqItems? (.ref T) >>= k ∧ k (some its.toArray) = pure (ps.zip (us ++ its))) : DfD P w K mg base x k ps sp dvs := by
  obtain ⟨ds, hv, hb⟩ := F.binds1 (ps := ps) n 0 hd (by rw [Nat.sub_zero]; exact hn) (fun T kV doc pm an cdv ct us its l1 l2 => by rw [List.drop_zero]; exact h T kV doc pm an cdv ct us its l1 l2)
  rw [List.drop_zero] at hv
  exact ⟨f, fd, ds, ok, hm, F.kp, hb, hv⟩
theorem DfN.of {P : Program} {w : World} {K : PySem.W.Frag} {mg : Str → Option Value} {base : Heap} {x kw : Str} {st : Stmt} {f : Addr} {fd : FuncData} {ps : List Str} {k m : Nat} {sp : Sp} {dv : V} (F : FunD K x x (defArgs st) (defBody st) (defScope st) [dv] [] f fd) (ok : FnOk P w K mg base CX0 k f fd ps sp) (hm : mg x = some (.ref f))
    (h : ∀ (T : Addr) (kV doc pm : Value) (an : Option Addr) (cdv ct : Value) (us its ws : List Value), us.length = m → its.length = 1 → ws.length = 1 →
      ∃ k, bindArgs (PySem.W.fnOf x x (defArgs st) (defBody st) (defScope st) (.ref T) kV doc pm an cdv ct) ⟨us, [kw].zip ws⟩ = seqItems? (.ref T) >>= k ∧ k (some its.toArray) = pure (ps.zip (us ++ ws))) : DfN P w K mg base x k ps sp m kw := by
  obtain ⟨its, hb⟩ := F.kbindsD (ps := ps) m [kw] (fun {α} us its ws => us ++ ws) (by simp) (fun r1 _ r3 => r1.append r3) (fun T kV doc pm an cdv ct us its ws l1 l2 l3 => h T kV doc pm an cdv ct us its ws l1 l2 l3)
  exact ⟨f, fd, _, ok, hm, F.kp, hb⟩
end PD
set_option Elab.async false
set_option linter.all false
set_option maxRecDepth 100000
set_option maxHeartbeats 4000000
namespace PD
open PySem PySem.Spec PyProof.Rows L2
/-! ### a comprehension of two clauses -/
section
variable {K : PySem.W.Frag} {Z : Vol} {os : List Addr} {H : Hp}
mutual
theorem bindS : ∀ (p : Pat) {d : D} {v : V} {δ δ' : List Sl} {σ : L2.St} {o : List Addr}, Rp K H v d → Sls K Z os H δ σ o → o.Nodup → bindP p d δ = some δ' →
    ∃ σ' o', Sls K Z os H δ' σ' o' ∧ o'.Nodup ∧ (∀ q ∈ o', q ∈ o) ∧ (∀ vs, (∀ i ∈ p.slots, i ∈ vs) → wipe σ' vs = wipe σ vs) ∧ ∀ Q : L2.St → Hp → Prop, Q σ' H → gPat K p v σ H Q
  | .nm i, d, v, δ, δ', σ, o, r, sl, nd, e => by
    simp only [bindP, Option.some.injEq] at e
    subst e
    obtain ⟨o', n', s', l'⟩ := sl.put (i := i) nd List.nodup_nil (fun p z => (nomatch z)) (Slot.va r)
    exact ⟨_, o', l', n', fun q hq => (s' q hq).elim (fun z => (nomatch z)) id, fun vs h => wipe_set _ _ _ _ (h i (by simp [Pat.slots])), fun Q q => q⟩
  | .tp ps, d, v, δ, δ', σ, o, r, sl, nd, e => by
    cases d with
    | tup ds =>
      cases r with
      | @tup a xs _ h ra =>
        simp only [bindP] at e
        obtain ⟨σ', o', h1, n1, s1, h2, h3, h4⟩ := bindsS ps ra sl nd e
        exact ⟨σ', o', h1, n1, s1, fun vs hv => h2 vs (by simpa only [Pat.slots] using hv), fun Q q => ⟨a, xs, rfl, h.sq, h3, h4 Q q⟩⟩
    | _ => simp only [bindP] at e; cases e
theorem bindsS : ∀ (ps : List Pat) {ds : List D} {xs : List V} {δ δ' : List Sl} {σ : L2.St} {o : List Addr}, RpA K H xs ds → Sls K Z os H δ σ o → o.Nodup → bindPs ps ds δ = some δ' →
    ∃ σ' o', Sls K Z os H δ' σ' o' ∧ o'.Nodup ∧ (∀ q ∈ o', q ∈ o) ∧ (∀ vs, (∀ i ∈ slotsAll ps, i ∈ vs) → wipe σ' vs = wipe σ vs) ∧ xs.length = ps.length ∧ ∀ Q : L2.St → Hp → Prop, Q σ' H → gPats K ps xs σ H Q
  | [], ds, xs, δ, δ', σ, o, r, sl, nd, e => by
    cases ds with
    | nil =>
      cases r
      simp only [bindPs, Option.some.injEq] at e
      subst e
      exact ⟨σ, o, sl, nd, fun _ h => h, fun _ _ => rfl, rfl, fun Q q => ⟨rfl, q⟩⟩
    | cons d ds => simp only [bindPs] at e; cases e
  | p :: ps, ds, xs, δ, δ', σ, o, r, sl, nd, e => by
    cases ds with
    | nil => simp only [bindPs] at e; cases e
    | cons d ds =>
      cases r with
      | @cons v vs _ _ r1 r2 =>
        simp only [bindPs] at e
        cases e1 : bindP p d δ with
        | none => rw [e1] at e; cases e
        | some δ1 =>
          rw [e1] at e
          obtain ⟨σ1, o1, l1, n1, s1, w1, g1⟩ := bindS p r1 sl nd e1
          obtain ⟨σ2, o2, l2, n2, s2, w2, len, g2⟩ := bindsS ps r2 l1 n1 e
          refine ⟨σ2, o2, l2, n2, fun q hq => s1 q (s2 q hq), fun us hu => ?_, by simp [len], fun Q q => ⟨v, vs, rfl, g1 _ (g2 Q q)⟩⟩
          rw [w2 us fun i hi => hu i (by simp only [slotsAll]; exact List.mem_append_right _ hi), w1 us fun i hi => hu i (by simp only [slotsAll]; exact List.mem_append_left _ hi)]
end
theorem wipeS {δ : List Sl} {σ : L2.St} {o : List Addr} (sl : Sls K Z os H δ σ o) (nd : o.Nodup) : ∀ vs : List Nat, ∃ o', Sls K Z os H (wipeD δ vs) (wipe σ vs) o' ∧ o'.Nodup ∧ ∀ q ∈ o', q ∈ o
  | [] => ⟨o, sl, nd, fun _ h => h⟩
  | v :: vs => by
    obtain ⟨o1, l1, n1, s1⟩ := wipeS sl nd vs
    obtain ⟨o', n', s', l'⟩ := l1.put (i := v) n1 List.nodup_nil (fun p z => (nomatch z)) (Slot.un (v := none))
    exact ⟨o', l', n', fun p hp => (s' p hp).elim (fun z => (nomatch z)) (s1 p)⟩
end
theorem ite_t {A B : Prop} (h : A) : if true = true then A else B := by rw [if_pos rfl]; exact h
/-- the source's reading, in any block -/
def WIb (X : Cx) (scope : Scope) (tg iter : Expr) : TI := fun σ H R => ∀ (s : Shared) (H' : Hp) (Cc : Addr) (cl : List (Str × Addr)) (fp : List Addr), WI (X.blk s H' scope (compEnvC scope cl Cc X.env) fp) tg iter σ H R
theorem piWb {X : Cx} {scope : Scope} {tg iter : Expr} (s : Shared) (H' : Hp) (Cc : Addr) (cl : List (Str × Addr)) (fp : List Addr) : PI (X.blk s H' scope (compEnvC scope cl Cc X.env) fp) tg iter (WIb X scope tg iter) := ⟨fun pins s1 σ H Q I h => h s H' Cc cl fp pins s1 I⟩
section
variable {C : Cn} {b : Nat} {δ : List Sl} {P : Nat → Res → Prop} {tg iter tg1 iter1 elt : Expr} {pos : Pos} {scope : Scope}
/-- [elt for tg in iter for tg1 in iter1] -/
theorem ev_flat (p p1 : Pat) (own : List (Str × Nat)) (hc : C.X.calm = true) (hN : C.X.N.Nodup) (ok : BlkOk C.X.N C.X.env.scope scope own)
    (hg : ∀ (s : Shared) (H : Hp) (Cc : Addr) (cl : List (Str × Addr)) (fp : List Addr), PG (C.X.blk s H scope (compEnvC scope cl Cc C.X.env) fp) tg (gPat C.X.K p))
    (hg1 : ∀ (s : Shared) (H : Hp) (Cc : Addr) (cl : List (Str × Addr)) (fp : List Addr), PG (C.X.blk s H scope (compEnvC scope cl Cc C.X.env) fp) tg1 (gPat C.X.K p1))
    (hp : ∀ i ∈ p.slots, i ∈ own.map (·.2)) (hp1 : ∀ i ∈ p1.slots, i ∈ own.map (·.2))
    (h : EIc C b δ tg iter (fun b1 ds => ∃ (es : D → List D) (g : D → D → D), (ds.flatMap es).length ≤ 16000000 ∧ (∀ d ∈ ds, ∃ δ', bindP p d (wipeD δ (own.map (·.2))) = some δ' ∧
      (∀ (s : Shared) (H : Hp) (Cc : Addr) (cl : List (Str × Addr)) (fp : List Addr), EI (C.blk s H scope (compEnvC scope cl Cc C.X.env) fp) b1 δ' tg1 iter1 fun b2 ys => b2 = b1 ∧ ys = es d) ∧
      ∀ y ∈ es d, ∃ δ2, bindP p1 y (wipeD δ' p1.slots) = some δ2 ∧ ∀ (s : Shared) (H : Hp) (Cc : Addr) (cl : List (Str × Addr)) (fp : List Addr), EV (C.blk s H scope (compEnvC scope cl Cc C.X.env) fp) b1 δ2 elt fun b3 r => b3 = b1 ∧ r = .va (g d y)) ∧
      P b1 (.ow (ds.flatMap fun d => (es d).map (g d)))))
    (hs : ∀ x, foldedSetIterable iter C.X.env x = pure x := by intro _; rfl) (hs1 : ∀ env x, foldedSetIterable iter1 env x = pure x := by intro _ _; rfl) :
    EV C b δ (.ListComp elt [⟨tg, iter, [], 0⟩, ⟨tg1, iter1, [], 0⟩] scope pos) P := by
  intro os σ H st Q q
  refine WE.of (pe_lc2 (vs1 := p1.slots) hc hN piW ok hp1 hg (fun s H Cc cl fp => pts_nil) (fun s H Cc cl fp => piWb s H Cc cl fp) hg1 (fun s H Cc cl fp => pts_nil) (fun s H Cc cl fp => peWb s H Cc cl fp) hs hs1) ?_
  refine h os σ H st _ fun J H1 b1 ds f1 j1 W hh => ?_
  obtain ⟨es, g, hl, step, last⟩ := hh
  intro D0 hD
  have nsD : ¬ C.Z.S D0 := snew j1 hD
  have hD0 : D0 ∉ os := fun z => by
    obtain ⟨x, hx⟩ := (st.new D0 z).2.2
    have := f1.back hD
    rw [this] at hx
    cases hx
  have len : ∀ n, ((ds.take n).flatMap fun d => (es d).map (g d)).length ≤ (ds.flatMap es).length := fun n => by
    have e : (ds.flatMap es).length = ((ds.take n).flatMap es).length + ((ds.drop n).flatMap es).length := by
      rw [← List.length_append, ← List.flatMap_append, List.take_append_drop]
    have e2 : ((ds.take n).flatMap fun d => (es d).map (g d)).length = ((ds.take n).flatMap es).length := by
      simp [List.length_flatMap]
    omega
  refine ⟨fun i m H2 => m = ds.length - i ∧ i ≤ ds.length ∧ ∃ xs, Fr C.Z.S H1 H2 ∧ C.Z.J b1 H2 ∧ H2 D0 = some (.lst xs) ∧ RpA C.K H2 xs ((ds.take i).flatMap fun d => (es d).map (g d)), ⟨ds.length, ?_⟩, ?_⟩
  · exact ⟨by omega, Nat.zero_le _, [], Fr.new hD, jnew j1 hD, upd_same, .nil⟩
  · rintro i m H2 ⟨rfl, hi, xs, f2, j2, hD2, ra⟩
    by_cases hlt : i < ds.length
    · obtain ⟨go, item⟩ := W.go H2 f2 i hlt
      refine .inr ⟨go, fun H' => ∃ xs, Fr C.Z.S H1 H' ∧ C.Z.J b1 H' ∧ H' D0 = some (.lst xs) ∧ RpA C.K H' xs ((ds.take (i + 1)).flatMap fun d => (es d).map (g d)), fun H' z => ⟨ds.length - (i + 1), by omega, rfl, hlt, z⟩, fun x H3 y => ?_⟩
      obtain ⟨f3, d, hd, rx⟩ := item x H3 y
      have f3' : Fr C.Z.S H2 H3 := f3.wide fun _ z => z.elim
      have j3 : C.Z.J b1 H3 := C.Z.stay _ _ _ j2 (f3.wide fun _ z => z.elim)
      have hdm : d ∈ ds := List.mem_of_getElem? hd
      have etk : ds.take (i + 1) = ds.take i ++ [d] := by
        rw [List.take_succ, hd]
        rfl
      have D3 : H3 D0 = some (.lst xs) := f3'.keep nsD hD2
      obtain ⟨δ', hb, hsrc, hstep⟩ := step d hdm
      -- the state with the new list among the own ones
      obtain ⟨o0, nd0, sub0, sl0⟩ := (st.on f1 j1).sl
      have sl3 : Sls C.K C.Z (D0 :: os) H3 δ σ o0 := (sl0.more hD).fr (f2.trans f3') fun a ha => (st.new a (sub0 a ha)).2.1
      obtain ⟨o1, sl4, nd1, sub1⟩ := wipeS sl3 nd0 (own.map (·.2))
      obtain ⟨σ', o2, sl5, nd2, sub2, hw, hgo⟩ := bindS p rx sl4 nd1 hb
      have sub2' : ∀ a ∈ o2, a ∈ os := fun a ha => sub0 a (sub1 a (sub2 a ha))
      have st5 : ∀ {b' δ1 σ1 H' o}, Fr C.Z.S H1 H' → C.Z.J b' H' → (∃ u, H' D0 = some u) → Sls C.K C.Z (D0 :: os) H' δ1 σ1 o → o.Nodup → (∀ a ∈ o, a ∈ os) → Sts C (D0 :: os) b' δ1 σ1 H' := fun fH jH hu sl nd sub =>
        ⟨st.fr.trans (f1.trans fH), jH, fun a ha => (List.mem_cons.mp ha).elim (fun e => by rw [e]; exact ⟨st.fr.back (f1.back hD), nsD, hu⟩) fun z => by
          obtain ⟨n1, n2, u, n3⟩ := st.new a z
          exact ⟨n1, n2, u, (f1.trans fH).keep n2 n3⟩, _, nd, fun a ha => List.mem_cons_of_mem _ (sub a ha), sl⟩
      have ctx : ∀ s H Cc cl fp {b' δ' σ' H' os'}, Sts C os' b' δ' σ' H' → Sts (C.blk s H scope (compEnvC scope cl Cc C.X.env) fp) os' b' δ' σ' H' := fun s H Cc cl fp b' δ' σ' H' os' z => ⟨z.fr, z.j, z.new, z.sl⟩
      refine hgo _ ⟨by rw [hw _ hp, wipe_wipe], ?_⟩
      unfold tYes
      refine ite_t ?_
      show WIb C.X scope tg1 iter1 σ' H3 _
      intro s0 H0 Cc cl fp
      refine hsrc s0 H0 Cc cl fp (D0 :: os) σ' H3 (ctx s0 H0 Cc cl fp (st5 (f2.trans f3') j3 ⟨_, D3⟩ sl5 nd2 sub2')) _ fun J1 H4 b2 ys f4 j4 W1 hy => ?_
      obtain ⟨rfl, rfl⟩ := hy
      have f4' : Fr C.Z.S H3 H4 := f4
      have W1' : Wk C.K C.Z J1 (es d) (D0 :: os) H4 := W1
      have j4' : C.Z.J b2 H4 := j4
      have D4 : H4 D0 = some (.lst xs) := f4'.keep nsD D3
      have sl6 : Sls C.K C.Z (D0 :: os) H4 δ' σ' o2 := sl5.fr f4' fun a ha => (st.new a (sub2' a ha)).2.1
      refine ⟨fun j k H5 => k = (es d).length - j ∧ j ≤ (es d).length ∧ ∃ zs, Fr C.Z.S H1 H5 ∧ C.Z.J b2 H5 ∧ H5 D0 = some (.lst zs) ∧ RpA C.K H5 zs (((ds.take i).flatMap fun d => (es d).map (g d)) ++ ((es d).take j).map (g d)) ∧ Gr C.Z (D0 :: os) H4 (D0 :: os) H5 ∧ Sls C.K C.Z (D0 :: os) H5 δ' σ' o2, ⟨(es d).length, ?_⟩, ?_⟩
      · exact ⟨by omega, Nat.zero_le _, xs, f2.trans (f3'.trans f4'), j4', D4, by simpa using (ra.fr f3').fr f4', Gr.refl, sl6⟩
      · rintro j k H5 ⟨rfl, hj, zs, f5, j5, D5, ra5, g5, sl7⟩
        by_cases hjl : j < (es d).length
        · obtain ⟨go1, item1⟩ := W1'.go (D0 :: os) H5 g5 j hjl
          refine .inr ⟨go1, fun H' => ∃ zs, Fr C.Z.S H1 H' ∧ C.Z.J b2 H' ∧ H' D0 = some (.lst zs) ∧ RpA C.K H' zs (((ds.take i).flatMap fun d => (es d).map (g d)) ++ ((es d).take (j + 1)).map (g d)) ∧ Gr C.Z (D0 :: os) H4 (D0 :: os) H' ∧ Sls C.K C.Z (D0 :: os) H' δ' σ' o2, fun H' z => ⟨(es d).length - (j + 1), by omega, rfl, hjl, z⟩, fun x1 H6 y1 => ?_⟩
          obtain ⟨f6, d1, hd1, rx1⟩ := item1 x1 H6 y1
          have f6' : Fr C.Z.S H5 H6 := f6.wide fun _ z => z.elim
          have j6 : C.Z.J b2 H6 := C.Z.stay _ _ _ j5 (f6.wide fun _ z => z.elim)
          have hm1 : d1 ∈ es d := List.mem_of_getElem? hd1
          have etk1 : (es d).take (j + 1) = (es d).take j ++ [d1] := by
            rw [List.take_succ, hd1]
            rfl
          obtain ⟨δ2, hb1, hel⟩ := hstep d1 hm1
          have sl8 : Sls C.K C.Z (D0 :: os) H6 δ' σ' o2 := sl7.fr f6' fun a ha => (st.new a (sub2' a ha)).2.1
          have D6 : H6 D0 = some (.lst zs) := f6'.keep nsD D5
          obtain ⟨o3, sl9, nd3, sub3⟩ := wipeS sl8 nd2 p1.slots
          obtain ⟨σ2, o4, sl10, nd4, sub4, hw1, hgo1⟩ := bindS p1 rx1 sl9 nd3 hb1
          refine hgo1 _ ⟨by rw [hw1 _ (fun _ h => h), wipe_wipe], ?_⟩
          refine ite_t ?_
          show WEb C.X scope elt σ2 H6 _
          intro s7 H7 Cc7 cl7 fp7
          refine hel s7 H7 Cc7 cl7 fp7 (D0 :: os) σ2 H6 (ctx s7 H7 Cc7 cl7 fp7 (st5 (f5.trans f6') j6 ⟨_, D6⟩ sl10 nd4 fun a ha => sub2' a (sub3 a (sub4 a ha)))) _ fun v H8 b4 r f8 j8 rv hy => ?_
          obtain ⟨rfl, rfl⟩ := hy
          cases rv with | va rv => ?_
          have f8' : Fr C.Z.S H6 H8 := f8
          have j8' : C.Z.J b4 H8 := j8
          have D8 : H8 D0 = some (.lst zs) := f8'.keep nsD D6
          have fD : Fr (fun a => a = D0) H8 (upd H8 D0 (.lst (zs ++ [v]))) := Fr.put rfl D8
          have ra8 := (ra5.fr f6').fr f8'
          have hlen : zs.length < 16000000 := by
            have e1 := ra5.len
            rw [List.length_append, List.length_map, List.length_take, Nat.min_eq_left hj] at e1
            have e2 := len (i + 1)
            rw [etk, List.flatMap_append, List.length_append] at e2
            simp only [List.flatMap_cons, List.flatMap_nil, List.append_nil, List.length_map] at e2
            omega
          refine ⟨zs, D8, Nat.lt_trans hlen (by decide), zs ++ [v], ?_, C.Z.stay _ _ _ j8' (Fr.putL nsD D8 .l), upd_same, ?_, ?_, ?_⟩
          · intro a o ea
            have ne : a ≠ D0 := ne_of_none ea hD
            rcases (f5.trans (f6'.trans f8')) a o ea with z | z
            · exact .inl (by rw [upd_ne ne]; exact z)
            · obtain ⟨m, w, z1, z2⟩ := z
              exact .inr ⟨m, w, by rw [upd_ne ne]; exact z1, z2⟩
          · rw [etk1, List.map_append, ← List.append_assoc]
            exact (ra8.append (.cons rv .nil)).fr fD
          · refine g5.trans (Gr.trans (Gr.of (f6'.trans f8')) ⟨?_, fun _ h => .inl h⟩)
            exact Fr.put (.inr List.mem_cons_self) D8
          · have sl11 : Sls C.K C.Z (D0 :: os) H8 δ' σ' o2 := sl8.fr f8' fun a ha => (st.new a (sub2' a ha)).2.1
            exact sl11.write D8 .l (fun z => hD0 (sub2' _ z)) List.mem_cons_self
        · have e : j = (es d).length := by omega
          subst e
          refine .inl ⟨W1'.stop (D0 :: os) H5 g5 _ (Nat.le_refl _), zs, f5, j5, D5, ?_⟩
          rw [List.take_length] at ra5
          rw [etk, List.flatMap_append]
          simpa using ra5
    · have e : i = ds.length := by omega
      subst e
      rw [List.take_length] at ra
      exact .inl ⟨W.stop H2 f2 _ (Nat.le_refl _), q _ H2 b1 _ (f1.trans f2) j2 (.ow (f1.back hD) hD2 nsD ra) last⟩
end
end PD
set_option Elab.async false
set_option linter.all false
set_option maxRecDepth 100000
set_option maxHeartbeats 4000000
namespace PD
open PySem PySem.Spec PyProof.Rows L2
/-! ### dicts written down, compared, sorted, walked by pairs -/
theorem Fr.upd0 {M : Addr → Prop} {H H' : Hp} {p : Addr} {o : HO} (f : Fr M H H') (n : H p = none) : Fr M H (upd H' p o) := fun a u e => by
  have ne : a ≠ p := fun z => by rw [z, n] at e; cases e
  rw [upd_ne ne]
  exact f a u e
section
variable {C : Cn} {b : Nat} {δ : List Sl} {P : Nat → Res → Prop} {Pt : Nat → Bool → Prop} {pos p0 : Pos} {e e1 e2 e3 e4 : Expr}
/-- {k: v} -/
theorem ev_disp1 (h : EV C b δ e1 (fun b1 r1 => EV C b1 δ e2 fun b2 r2 => ∃ k d, r1 = .va (kD k) ∧ r2 = .va d ∧ P b2 (.od (.k [(k, d)])))) : EV C b δ (.Dict [some e1] [e2] pos) P := by
  intro os σ H st Q q
  refine WE.of (pe_disp (pps_cons peW peW pps_nil) rfl rfl (by simp) (Nat.le_of_ble_eq_true rfl)) ?_
  intro p hn
  have f0 : Fr C.Z.S H (upd H p (.dK [])) := Fr.new hn
  have j0 : C.Z.J b (upd H p (.dK [])) := jnew st.j hn
  refine h os σ _ (st.on f0 j0) _ fun v1 H1 b1 r1 f1 j1 rv1 h2 => ?_
  refine h2 os σ H1 ((st.on f0 j0).on f1 j1) _ fun v2 H2 b2 r2 f2 j2 rv2 h3 => ?_
  obtain ⟨k, d, rfl, rfl, hq⟩ := h3
  cases rv1 with | va rv1 => ?_
  cases rv2 with | va rv2 => ?_
  have ns : ¬ C.Z.S p := snew st.j hn
  have e2 : H2 p = some (.dK []) := f2.keep ns (f1.keep ns upd_same)
  have ek : v1 = kV k := by
    cases k with
    | inl i => cases rv1; rfl
    | inr x => cases rv1; rfl
  subst ek
  refine ⟨e2, [(k, v2)], rfl, Nat.le_of_ble_eq_true rfl, ?_⟩
  have f3 : Fr C.Z.S H (upd H2 p (.dK (mergeK [] [(k, v2)]))) := ((f0.trans f1).trans f2).upd0 hn
  have f4 : Fr (fun a => ¬ C.Z.S a) H2 (upd H2 p (.dK (mergeK [] [(k, v2)]))) := Fr.putL ns e2 .k
  exact q _ _ b2 _ f3 (C.Z.stay _ _ _ j2 f4) (.od hn ns (.k (kv := [(k, v2)]) (ds := [(k, d)]) upd_same rfl (.cons (rv2.fr f4) .nil))) hq
/-- {k: v, k2: v2} -/
theorem ev_disp2 (h : EV C b δ e1 (fun b1 r1 => EV C b1 δ e2 fun b2 r2 => EV C b2 δ e3 fun b3 r3 => EV C b3 δ e4 fun b4 r4 => ∃ x d x' d', r1 = .va (.str x) ∧ r2 = .va d ∧ r3 = .va (.str x') ∧ r4 = .va d' ∧ x ≠ x' ∧ P b4 (.od (.k [(.inr x, d), (.inr x', d')])))) :
    EV C b δ (.Dict [some e1, some e3] [e2, e4] pos) P := by
  intro os σ H st Q q
  refine WE.of (pe_disp (pps_cons peW peW (pps_cons peW peW pps_nil)) rfl rfl (by simp) (Nat.le_of_ble_eq_true rfl)) ?_
  intro p hn
  have f0 : Fr C.Z.S H (upd H p (.dK [])) := Fr.new hn
  have j0 : C.Z.J b (upd H p (.dK [])) := jnew st.j hn
  refine h os σ _ (st.on f0 j0) _ fun v1 H1 b1 r1 f1 j1 rv1 h2 => ?_
  refine h2 os σ H1 ((st.on f0 j0).on f1 j1) _ fun v2 H2 b2 r2 f2 j2 rv2 h3 => ?_
  refine h3 os σ H2 (((st.on f0 j0).on f1 j1).on f2 j2) _ fun v3 H3 b3 r3 f3 j3 rv3 h4 => ?_
  refine h4 os σ H3 ((((st.on f0 j0).on f1 j1).on f2 j2).on f3 j3) _ fun v4 H4 b4 r4 f4 j4 rv4 h5 => ?_
  obtain ⟨x, d, x', d', rfl, rfl, rfl, rfl, hx, hq⟩ := h5
  cases rv1 with | va rv1 => ?_
  cases rv2 with | va rv2 => ?_
  cases rv3 with | va rv3 => ?_
  cases rv4 with | va rv4 => ?_
  cases rv1
  cases rv3
  have ns : ¬ C.Z.S p := snew st.j hn
  have ee : H4 p = some (.dK []) := f4.keep ns (f3.keep ns (f2.keep ns (f1.keep ns upd_same)))
  refine ⟨ee, [(.inr x, v2), (.inr x', v4)], rfl, Nat.le_of_ble_eq_true rfl, ?_⟩
  have em : mergeK [] [((.inr x : Key), v2), (.inr x', v4)] = [(.inr x, v2), (.inr x', v4)] := by
    unfold mergeK
    simp only [List.foldl_cons, List.foldl_nil]
    rw [putK_new (kvs := []) v2 rfl]
    exact putK_new v4 (by rw [List.nil_append]; exact (valV_neg (fun z => hx (Sum.inr.inj z))).trans rfl)
  rw [em]
  have f5 : Fr C.Z.S H (upd H4 p (.dK [(.inr x, v2), (.inr x', v4)])) := ((((f0.trans f1).trans f2).trans f3).trans f4).upd0 hn
  have f6 : Fr (fun a => ¬ C.Z.S a) H4 (upd H4 p (.dK [(.inr x, v2), (.inr x', v4)])) := Fr.putL ns ee .k
  exact q _ _ b4 _ f5 (C.Z.stay _ _ _ j4 f6) (.od hn ns (.k (kv := [(.inr x, v2), (.inr x', v4)]) (ds := [(.inr x, d), (.inr x', d')]) upd_same rfl (.cons (((rv2.fr f3).fr f4).fr f6) (.cons (rv4.fr f6) .nil)))) hq
/-! == of dicts of texts -/
/-! sorted(d) -/
end
/-! for k, v in d.items() -/
section
variable {C : Cn} {b : Nat} {δ : List Sl} {P : Nat → List D → Prop} {e : Expr} {apos cpos tpos : Pos} {elts : List Expr} {kk : Nat}
theorem wk_items {K : PySem.W.Frag} {Z : Vol} {os : List Addr} {H : Hp} {a : Addr} {o : Obj} {kv : List (Key × V)} {ds : List (Key × D)} (e : H a = some (.frz o (.dK kv))) (l : kv.map (·.1) = ds.map (·.1)) (ra : RpA K H (kv.map (·.2)) (ds.map (·.2))) : Wk K Z (Iti a o kv) (pairsD ds) os H := by
  have hl : kv.length = ds.length := by
    have := congrArg List.length l
    rwa [List.length_map, List.length_map] at this
  have hp : (pairsD ds).length = kv.length := by unfold pairsD; rw [List.length_map, hl]
  refine ⟨fun os' H' g i hi => ?_, fun os' H' g i hi => ⟨g.fr.frz e, by omega⟩⟩
  refine ⟨⟨g.fr.frz e, by omega⟩, fun x H2 y => ?_⟩
  obtain ⟨T, k, v, hk, rfl, hT, rfl⟩ := y
  have hi' : i < ds.length := by omega
  have e1 : ds[i]? = some ds[i] := List.getElem?_eq_getElem hi'
  have ek : ds[i].1 = k := by
    have h1 := congrArg (fun m => m[i]?) l
    simp only [List.getElem?_map, hk, e1, Option.map_some, Option.some.injEq] at h1
    exact h1.symm
  obtain ⟨d, e2, rv⟩ := (ra.fr g.fr).getV (show (kv.map (·.2))[i]? = some v by rw [List.getElem?_map, hk]; rfl)
  rw [List.getElem?_map, e1] at e2
  have e2 : ds[i].2 = d := Option.some.inj e2
  have f : Fr (fun _ => False) H' (upd H' T (.tup [kV k, v])) := Fr.new hT
  refine ⟨f, .tup [kD k, d], ?_, .tup (.h upd_same) (.cons (rp_kV k) (.cons (rv.fr f) .nil))⟩
  unfold pairsD
  rw [List.getElem?_map, e1, Option.map_some, ek, e2]
theorem ei_items (h : EV C b δ e (fun b1 r => ∃ kvs, r = .va (.dk kvs) ∧ P b1 (pairsD kvs))) (hbase : attributeBase e "items" C.X.env (eval e C.X.env) = eval e C.X.env := by rfl) (hline : (apos.endLine == cpos.line) = true := by rfl) :
    EI C b δ (.Tuple elts kk tpos) (.Call (.Attribute e "items" apos) [] [] cpos) P := by
  intro os σ H st R k
  refine WI.of (pi_items peW hbase hline) ?_
  refine h os σ H st _ fun v H1 b1 r f1 j1 rv hh => ?_
  obtain ⟨kvs, rfl, q⟩ := hh
  cases rv with | va rv => ?_
  cases rv with | @dicK a o kv _ e l ra => exact ⟨a, o, kv, rfl, e, k _ H1 b1 _ f1 j1 (wk_items e l ra) q⟩
end
end PD
set_option Elab.async false
set_option linter.all false
set_option maxRecDepth 100000
set_option maxHeartbeats 4000000
namespace PD
open PySem PySem.Spec PyProof.Rows L2
/-! ### a def with a default -/
/-- one default at the end -/
abbrev FunX (K : PySem.W.Frag) (x : Str) (st : Stmt) (dv : V) (f : Addr) (fd : FuncData) : Prop := FunD K x x (defArgs st) (defBody st) (defScope st) [dv] [] f fd
section
variable {P : Program} {w : World} {K : PySem.W.Frag} {mg : Str → Option Value} {base : Heap} {Z : Vol}
theorem fn_pureD {x : Str} {st : Stmt} {dv : V} {f : Addr} {fd : FuncData} {N ps : List Str} {k n : Nat} {g : List D → Option Res} (F : FunX K x st dv f fd) (S : FnScope N ps (defScope st)) (hn : ps.length = n) (ho : ∀ ds r, g ds = some r → r.out = true)
    (body : ∀ (cdv : Value) (A : Around) (outer : List Env) (s : Shared) (H : Hp) (E : XK) (b : Nat) (ds : List D) (r : Res), Room k (A.deeper (envOfC x (defScope st) s.heap.objs.size f cdv)) → ds.length = n → g ds = some r →
      SV ⟨(cxOf CX0 P w K mg base N x (defScope st) f cdv A outer s H E).nox, Z, H⟩ b (ds.map Sl.va ++ List.replicate (N.length - n) .un) (defBody st) (retF fun b' r' => b' = b ∧ r' = r)) :
    FnOk P w K mg base CX0 (k + 1) f fd ps (spP Z K n g) := by
  refine F.ok S (fun vs H Q E h => ?_) (fun cdv A outer s H vs Q E hr h => ?_)
  · obtain ⟨b, as, hl, hv, _⟩ := h
    rw [hv.len, hl, hn]
  · obtain ⟨b, as, hl, hv, hj, ⟨ds, r, rfl, hg⟩, hq⟩ := h
    have e : (ds.map Ar.va).map Ar.sl = ds.map Sl.va := by rw [List.map_map]; rfl
    have hl' : ds.length = n := by simpa using hl
    refine ⟨_, PSs.nox pssW, ?_⟩
    have bd := (body cdv A outer s H E b ds r hr hl' hg).imp (F' := retF fun b' r' => b' = b ∧ ∃ ds', ds.map Ar.va = ds'.map Ar.va ∧ g ds' = some r') (fun b' _ h => ⟨h.1, ds, rfl, by rw [hg, h.2]⟩) (fun _ _ h => h.elim) (fun _ _ h => h.elim) (fun b' r' h => by
      obtain ⟨ho', rfl, rfl⟩ := h
      exact ⟨ho', rfl, ds, rfl, hg⟩)
    refine bd [] _ H ⟨Fr.refl, hj, fun p z => (nomatch z), [], List.nodup_nil, fun p z => (nomatch z), ?_⟩ _ ⟨fun b' δ' os' σ' H' z s g => ?_, fun _ _ _ _ _ z _ _ => z.elim, fun _ _ _ _ _ z _ _ => z.elim, fun v H' b' r z rv f j => ?_⟩
    · show Sls K Z [] H _ (L2.start N vs) []
      unfold L2.start
      rw [hv.len, hl, ← e]
      exact sls_start hv _
    · exact hq .non H' b' (.va .non) s.fr s.j (.va .non) rfl z
    · exact hq v H' b' r f j rv z.1 z.2
/-- called with all its arguments -/
theorem DfX.of {x : Str} {st : Stmt} {f : Addr} {fd : FuncData} {ps : List Str} {k : Nat} {sp : Sp} {dv : V} (F : FunX K x st dv f fd) (ok : FnOk P w K mg base CX0 k f fd ps sp) (hm : mg x = some (.ref f))
    (h : ∀ (T : Addr) (kV doc pm : Value) (an : Option Addr) (cdv ct : Value) (us its : List Value), us.length = ps.length → its.length = 1 →
      ∃ k, bindArgs (PySem.W.fnOf x x (defArgs st) (defBody st) (defScope st) (.ref T) kV doc pm an cdv ct) ⟨us, []⟩ = seqItems? (.ref T) >>= k ∧ k (some its.toArray) = pure (ps.zip us)) : Df P w K mg base x k ps sp := by
  obtain ⟨ds, hv, hb⟩ := FunD.binds1 (ps := ps) F ps.length 1 (by simp) (by simp) (fun T kV doc pm an cdv ct us its l1 l2 => by
    have e : its.drop 1 = [] := List.drop_eq_nil_of_le (by rw [l2]; exact Nat.le_refl _)
    rw [e, List.append_nil]
    exact h T kV doc pm an cdv ct us its l1 l2)
  cases hv
  exact ⟨f, fd, ok, hm, F.kp, hb⟩
end
end PD
set_option Elab.async false
set_option linter.all false
set_option maxRecDepth 100000
set_option maxHeartbeats 4000000
namespace PD
open PySem PySem.Spec PyProof.Rows L2
section
variable {C : Cn} {b : Nat} {δ : List Sl} {F : Fin} {pos px py pz pt pt2 q1 q2 : Pos} {e1 e2 e3 : Expr} {rest : List Stmt} {kt k2 : Nat}
/-- two new things of one's own -/
theorem Sts.putTwo {os : List Addr} {σ : L2.St} {H H1 : Hp} {b1 : Nat} {i j : Nat} {p1 p2 : Addr} {t1 t2 : Sl} (st : Sts C os b δ σ H) (f : Fr C.Z.S H H1) (jj : C.Z.J b1 H1) (n1 : H p1 = none) (e1 : ∃ o, H1 p1 = some o) (s1 : ¬ C.Z.S p1) (r1 : ∀ os, Slot C.K C.Z os H1 t1 (some (.ref p1)) [p1])
    (n2 : H p2 = none) (e2 : ∃ o, H1 p2 = some o) (s2 : ¬ C.Z.S p2) (r2 : ∀ os, Slot C.K C.Z os H1 t2 (some (.ref p2)) [p2]) (ne : p1 ≠ p2) :
    ∃ os', Sts C os' b1 ((δ.set i t1).set j t2) ((σ.set i (some (.ref p1))).set j (some (.ref p2))) H1 ∧ Gr C.Z os H os' H1 := by
  have no : ∀ {p : Addr}, H p = none → p ∉ os := fun {p} n z => by
    obtain ⟨x, q⟩ := (st.new p z).2.2
    rw [n] at q; cases q
  obtain ⟨o0, nd0, sub0, sl0⟩ := st.sl
  have sla : Sls C.K C.Z (p2 :: p1 :: os) H δ σ o0 := (sl0.more n1).more n2
  have sl1 : Sls C.K C.Z (p2 :: p1 :: os) H1 δ σ o0 := sla.fr f fun q hq => (st.new q (sub0 q hq)).2.1
  obtain ⟨o1, nd1, sb1, l1⟩ := sl1.put (i := i) nd0 (q := [p1]) (by simp) (fun q hq z => no n1 (sub0 p1 (by rw [← List.mem_singleton.mp hq]; exact z))) (r1 _)
  obtain ⟨o2, nd2, sb2, l2⟩ := l1.put (i := j) nd1 (q := [p2]) (by simp) (fun q hq z => by
    rw [List.mem_singleton.mp hq] at z
    rcases sb1 p2 z with y | y
    · exact ne (List.mem_singleton.mp y).symm
    · exact no n2 (sub0 p2 y)) (r2 _)
  have st1 := st.on f jj
  refine ⟨p2 :: p1 :: os, ⟨st1.fr, jj, fun q hq => ?_, o2, nd2, fun q hq => ?_, l2⟩, ⟨f.wide fun _ => .inl, fun q hq => ?_⟩⟩
  · rcases List.mem_cons.mp hq with z | z
    · rw [z]; exact ⟨st.fr.back n2, s2, e2⟩
    · rcases List.mem_cons.mp z with z | z
      · rw [z]; exact ⟨st.fr.back n1, s1, e1⟩
      · exact st1.new q z
  · rcases sb2 q hq with z | z
    · exact List.mem_cons.mpr (.inl (List.mem_singleton.mp z))
    · rcases sb1 q z with y | y
      · exact List.mem_cons_of_mem _ (List.mem_cons.mpr (.inl (List.mem_singleton.mp y)))
      · exact List.mem_cons_of_mem _ (List.mem_cons_of_mem _ (sub0 q y))
  · rcases List.mem_cons.mp hq with z | z
    · rw [z]; exact .inr n2
    · rcases List.mem_cons.mp z with z | z
      · rw [z]; exact .inr n1
      · exact .inl z
/-- a, b = [], [] -/
theorem sv_set2N (i j : Nat) {x y : Str} (hc : C.X.calm = true) (hN : C.X.N.Nodup) (hij : i ≠ j) (h : SV C b ((δ.set i (.ow [])).set j (.ow [])) rest F) (hi : C.X.N[i]? = some x := by rfl) (hj : C.X.N[j]? = some y := by rfl)
    (hx : C.X.env.scope.names.lookup x = some .local := by rfl) (hy : C.X.env.scope.names.lookup y = some .local := by rfl)
    (hw : swappedStores [.Tuple [.Name x px, .Name y py] kt pt] (.Tuple [.List [] q1, .List [] q2] k2 pt2) C.X.env = pure (some [x, y]) := by rfl)
    (hs : swapsWithSole [.Tuple [.Name x px, .Name y py] kt pt] (.Tuple [.List [] q1, .List [] q2] k2 pt2) pos.line C.X.env = pure false := by rfl) : SV C b δ (.Assign [.Tuple [.Name x px, .Name y py] kt pt] (.Tuple [.List [] q1, .List [] q2] k2 pt2) pos :: rest) F := by
  intro os σ H st D ed
  refine WSs.of (pss_cons (ps_par hc hN hi hj hij hx hy (pa_cons (pe_lst pa_nil) (pa_cons (pe_lst pa_nil) pa_nil)) hw hs) pssW) ?_
  refine ⟨Nat.zero_le _, fun p1 n1 => ⟨Nat.zero_le _, fun p2 n2 => ⟨_, _, rfl, ?_⟩⟩⟩
  have ne : p1 ≠ p2 := fun z => by rw [← z, upd_same] at n2; cases n2
  rw [upd_ne (Ne.symm ne)] at n2
  have e1 : upd (upd H p1 (.lst [])) p2 (.lst []) p1 = some (.lst []) := by rw [upd_ne ne]; exact upd_same
  have f : Fr C.Z.S H (upd (upd H p1 (.lst [])) p2 (.lst [])) := (Fr.new n1).upd0 n2
  have n2' : upd H p1 (.lst []) p2 = none := by rw [upd_ne (Ne.symm ne)]; exact n2
  obtain ⟨os2, st2, g2⟩ := st.putTwo (i := i) (j := j) (t1 := .ow []) (t2 := .ow []) f (jnew (jnew st.j n1) n2') n1 ⟨_, e1⟩ (snew st.j n1) (fun _ => .ow e1 .nil) n2 ⟨_, upd_same⟩ (snew st.j n2) (fun _ => .ow upd_same .nil) ne
  exact h os2 _ _ st2 D (ed.on g2)
end
end PD
set_option Elab.async false
set_option linter.all false
set_option maxRecDepth 100000
set_option maxHeartbeats 2000000
/-! Tuples whose very object is known: they have no dict of their own, so dict(..) of them can be told. -/
namespace PD
open PySem PySem.Spec PyProof.Rows L2
def tTupP (t : TA) : TE := fun σ H Q => t σ H fun xs H1 => xs.length ≤ sizeLine ∧ ∀ (p : Addr) (o : Obj), H1 p = none → o.dict = none → Q (.ref p) (upd H1 p (.frz o (.tup xs)))
section
variable {X : Cx} {es : List Expr} {t : TA} {pos : Pos}
theorem pe_tupP {x1 : Nat} (h : PA X es t) : PE X (.Tuple es x1 pos) (tTupP t) := by
  refine ⟨fun pins s σ H Q I hq => ?_⟩
  refine wpAny_Tuple_spliced (thn (h.run pos pins s σ H _ I hq) fun us s1 ⟨xs, H1, I1, r, z, q⟩ => ⟨by rw [← r.length]; exact z, ?_⟩)
  have hf : H1 s1.heap.objs.size = none := I1.hok.fresh (Nat.le_refl _)
  refine ⟨.ref s1.heap.objs.size, upd H1 s1.heap.objs.size (.frz { cls := .type "tuple", data := .seq us.toArray } (.tup xs)), I1.laid (t' := s1.toks) (fun b u e => Heap.get?_push_of_some _ e) (Nat.le_refl _) ?_, rfl, q _ _ hf rfl⟩
  exact ⟨Heap.get?_push_size _ rfl, z, us, r, ⟨_, Heap.get?_push_size _ rfl, rfl, _, rfl⟩⟩
theorem call_tupleP : CallR X (.type "tuple") (fun xs H Q => ∃ p ys, xs = [.ref p] ∧ ((SqL X.K H p ys ∧ ∀ (l : Addr) (o : Obj), H l = none → o.dict = none → Q (.ref l) (upd H l (.frz o (.tup ys)))) ∨ (SqT X.K H p ys ∧ Q (.ref p) H))) := by
  intro pins s σ H xs us Q I r h
  obtain ⟨p, ys, rfl, h⟩ := h
  obtain ⟨u, rfl, rx⟩ := vals1 r
  cases rx
  rcases h with ⟨hq, q⟩ | ⟨hq, q⟩
  · obtain ⟨its, r', pl, hz⟩ := I.list hq
    have hlen := r'.length
    refine call_tuple_list pl.isList (fun h' kp => ?_) (by simp only [List.size_toArray] <;> omega)
    have I1 : Inv X pins σ H { s with heap := h' } := I.kept (t' := s.toks) kp
    have I2 : Inv X pins σ (upd H h'.objs.size (.frz { cls := .type "tuple", data := .seq its.toArray } (.tup ys))) { s with heap := h'.push { cls := .type "tuple", data := .seq its.toArray } } :=
      I1.laid (t' := s.toks) (fun b o e => Heap.get?_push_of_some _ e) (Nat.le_refl _) (show ObjOk X.prog X.w _ _ _ (.frz _ (.tup ys)) from ⟨Heap.get?_push_size _ rfl, hz, its, r', IsTup.new _ _⟩)
    exact ⟨.ref h'.objs.size, _, I2, rfl, q _ _ (I1.hok.fresh (Nat.le_refl _)) rfl⟩
  · obtain ⟨its, r', pl, hz⟩ := I.tuple hq
    exact call_tuple_same pl ⟨.ref p, H, I, rfl, q⟩
end
section
variable {C : Cn} {b : Nat} {δ : List Sl} {P : Nat → Res → Prop} {pos p0 : Pos} {e : Expr} {es : List Expr}
/-- a tuple written out, whose object is known -/
theorem ev_tupP {x1 : Nat} (h : EVA C b δ es (fun b' rs => ∃ ds, vas rs = some ds ∧ ds.length ≤ 16000000 ∧ P b' (.va (.pt ds)))) : EV C b δ (.Tuple es x1 pos) P := by
  intro os σ H st Q k
  refine WE.of (pe_tupP paW) ?_
  refine h os σ H st _ fun vs H1 b1 rs f1 j1 rv hr => ?_
  obtain ⟨ds, e, hl, q⟩ := hr
  have ra := rvs_vas rv e
  refine ⟨by rw [ra.len]; exact sz1 hl, fun p o hp ho => ?_⟩
  have fn : Fr C.Z.S H1 (upd H1 p (.frz o (.tup vs))) := Fr.new hp
  exact k _ _ b1 _ (f1.trans fn) (jnew j1 hp) (.va (.ptup upd_same ho (ra.fr fn))) q
/-- tuple(a list), tuple(such a tuple) -/
theorem ev_tupleP (B : Blt C.X) (h : EV C b δ e (fun b1 r => ∃ ds, (r.seq = some ds ∨ r = .va (.pt ds)) ∧ P b1 (.va (.pt ds)))) (hg : Gl C.X "tuple" := by rfl)
    (hsx : starEach [e] C.X.env = (false, eval e C.X.env) :: starEach [] C.X.env := by rfl) (hpl : (backTo pos (starEach [] C.X.env)).any (·.1) = false := by rfl) : EV C b δ (.Call (.Name "tuple" p0) [e] [] pos) P := by
  intro os σ H st Q q
  refine WE.of (pe_callTy call_tupleP hg B.tuple (by decide +kernel) (pa_cons peW pa_nil hsx) (by decide) (by decide) hsx hpl) ?_
  refine h os σ H st _ fun v H1 b1 r f1 j1 rv hh => ?_
  obtain ⟨ds, hs, hq⟩ := hh
  rcases hs with hs | rfl
  · obtain ⟨p, xs, rfl, e, ra⟩ := rv.seq_ hs
    refine ⟨p, xs, rfl, .inl ⟨e.sq, fun l o hl ho => ?_⟩⟩
    have fn : Fr C.Z.S H1 (upd H1 l (.frz o (.tup xs))) := Fr.new hl
    exact q _ _ b1 _ (f1.trans fn) (jnew j1 hl) (.va (.ptup upd_same ho (ra.fr fn))) hq
  · cases rv with
    | va rv =>
      cases rv with
      | @ptup a o xs _ hh ho ra => exact ⟨a, xs, rfl, .inr ⟨.inl (.inr ⟨o, hh⟩), q _ H1 b1 _ f1 j1 (.va (.ptup hh ho ra)) hq⟩⟩
end
end PD
set_option Elab.async false
set_option linter.all false
set_option maxRecDepth 100000
set_option maxHeartbeats 4000000
namespace PD
open PySem PySem.Spec PyProof.Rows L2
/-! ### repr of data, where no repr is under way -/
theorem call_reprD {X : Cx} (hg : X.A.guards = some []) (hu : X.A.units + 66 < cLine) : CallR X (.builtin "repr") (fun xs H Q => ∃ (a : Addr) (d : PyData), xs = [.ref a] ∧ Dp X.K H (.ref a) d ∧ d.showable = true ∧ SeqAt.shaped d = true ∧ d.shown.length ≤ sizeLine ∧ Q (.str d.shown) H) := by
  intro pins s σ H xs us Q I r h
  obtain ⟨a, d, rfl, hd, hs, hp, hz, q⟩ := h
  obtain ⟨u, rfl, rx⟩ := vals1 r
  obtain ⟨as, r1⟩ := Dp.reads I d _ u hd rx
  cases (show u = Value.ref a from rx)
  have hdep : d.depth ≤ 64 := of_decide_eq_true (Bool.and_eq_true_iff.mp hp).2
  refine repr_of_reads' r1 hs (PyData.noDict_hsm (PyData.hasDict_of_canLay d (SeqAt.canLay_of_shaped hp))) hg (by omega) (fun _ _ e => e) (fun h' u tk hk => ?_) hz
  exact ⟨.str d.shown, H, I.kept hk, ⟨u, rfl⟩, q⟩
/-- what can be shown -/
def D.shw (d : D) : Bool := d.sh && d.pd.showable && decide (d.pd.shown.length ≤ sizeLine)
/-- its repr -/
def D.rep (d : D) : Str := d.pd.shown
/-- a tuple, a list: not a scalar -/
def D.box : D → Bool
  | .tup _ => true
  | .lst _ => true
  | _ => false

/-! ### defs that are run where no repr is under way -/
/-- a def's promise there -/
structure FnG (P : Program) (w : World) (K : PySem.W.Frag) (mg : Str → Option Value) (base : Heap) (k : Nat) (f : Addr) (fd : FuncData) (ps : List Str) (sp : Sp) : Prop where
  len : ∀ xs H Q E, sp xs H Q E → xs.length = ps.length
  run : ∀ (A : Around) (fs : List Env) (st : Shared) (H : Hp) (ar : Args) (us : List Value) (xs : List V) (Q : VK) (E : XK), A.guards = some [] → Room k A → Env0 P w K mg base A fs st H → BindsTo st fd ar (ps.zip us) → Vals xs us → sp xs H Q E →
    codeAny (model P w) A (.call (.ref f) ar) (CR CX0 fs P w H st Q E) st
section
variable {P : Program} {w : World} {K : PySem.W.Frag} {mg : Str → Option Value} {base : Heap}
theorem fun_okG {x qual : Str} {st : Stmt} {f : Addr} {fd : FuncData} {N ps : List Str} {k : Nat} {sp : Sp} (F : Fun K x qual st f fd) (S : FnScope N ps (defScope st)) (len : ∀ xs H Q E, sp xs H Q E → xs.length = ps.length)
    (body : ∀ (cdv : Value) (A : Around) (outer : List Env) (s : Shared) (H : Hp) (xs : List V) (Q : VK) (E : XK), A.guards = some [] → Room k (A.deeper (envOfC qual (defScope st) s.heap.objs.size f cdv)) → sp xs H Q E →
      ∃ t, PSs (cxOf CX0 P w K mg base N qual (defScope st) f cdv A outer s H E).nox (defBody st) t ∧ t { nx := fun _ H' => Q .non H', rt := Q } (L2.start N xs) H) : FnG P w K mg base (k + 1) f fd ps sp := by
  obtain ⟨oc, od, kV, doc, pm, an, cdv, ct, osl, rfl, look, cdIn⟩ := F.ex
  constructor
  · exact len
  intro A fs s0 H0 ar us xs Q E gd room en bd vs pre
  have ln := len _ _ _ _ pre
  have stay : ∀ b o, base.get? b = some o → s0.heap.get? b = some o := fun b o e => (en.bs b o e).1
  have kin : K.In s0.heap := en.mod.kin.keeps stay
  have nolim : s0.heap.NoLimit := en.mod.nolimit.keeps stay
  have kinds : ∀ y ∈ ps.zip us, (defScope st).names.lookup y.1 = some .local ∨ ((defScope st).names.lookup y.1 = some .cell ∧ ((cellsFrom (s0.heap.objs.size + 1) (defScope st).names []).lookup y.1).isSome = true) := by
    rintro ⟨z, v⟩ hz
    rcases S.par z (List.of_mem_zip hz).1 with q | q
    · exact .inl q
    · exact .inr ⟨q, PySem.W.cellsFrom_some _ _ _ (.inl q)⟩
  refine codeAny_call_function room.depth (kin _ _ look) rfl S.co S.gen rfl (PySem.W.codeRec_of kin cdIn) (bd _ _ _ _ ?_)
  refine wpAny_newFunctionEnv_cells S.kind kinds fun env0 he s1 made => ?_
  subst he
  refine ⟨nolim.keeps made.toInCall.keep, codeAny_func ?_⟩
  obtain ⟨t, ht, good⟩ := body cdv A fs s0 H0 xs Q E gd (room.deeper _) pre
  have I0 := inv_start (E := E) (CX := CX0) S room.hd en ln vs made
  refine wpAny_mono (ht.nox.run [] s1 (L2.start N xs) H0 _ I0 good) (fun fl s2 done => ?_) fun e s2 done => done
  cases fl with
  | ret u => obtain ⟨v, σ2, H2, J, rv, q⟩ := done; exact ⟨v, H2, J.os, J.bare, J.base, J.hok, rv, q⟩
  | next => obtain ⟨σ2, H2, J, q⟩ := done; exact ⟨V.non, H2, J.os, J.bare, J.base, J.hok, rfl, q⟩
  | brk => obtain ⟨_, _, _, q⟩ := done; exact q.elim
  | cont => obtain ⟨_, _, _, q⟩ := done; exact q.elim
end
section
variable {X : Cx} {k : Nat} {f : Addr} {fd : FuncData} {ps : List Str} {sp : Sp} {dvs : List V} {ds : List Value} {x : Str} {p pos : Pos} {e : Expr} {es : List Expr} {t : TA}
theorem run_fnG {pins : List (Addr × Obj)} {σ : L2.St} {H : Hp} {s : Shared} {Q : VK} {us : List Value} {xs : List V} (F : FnG X.prog X.w X.K X.mg X.base k f fd ps sp) (gd : X.A.guards = some []) (room : Room k X.A) (bd : Binds X.K fd ps ds) (dv : Vals dvs ds)
    (I : Inv X pins σ H s) (r : Vals xs us) (pre : sp (xs ++ dvs) H Q E0) : wpAny (model X.prog X.w) X.A (call (.ref f) us) (EP X pins σ Q) X.xe s := by
  have r2 := r.append dv
  have hl : (us ++ ds).length = ps.length := r2.length.symm.trans (F.len _ _ _ _ pre)
  refine wpAny_call (codeAny_mono (F.run X.A X.stack s H ⟨us, []⟩ (us ++ ds) (xs ++ dvs) Q E0 gd room I.env0 (bd s us I.kIn hl) r2 pre) fun res s2 done => ?_)
  cases res with
  | error e => exact done.elim
  | ok fl =>
    cases fl with
    | ret u => exact I.after done
    | next => exact done.elim
    | brk => exact done.elim
    | cont => exact done.elim
theorem pe_callG (F : FnG X.prog X.w X.K X.mg X.base k f fd ps sp) (gd : X.A.guards = some []) (room : Room k X.A) (hg : Gl X x) (hm : X.mg x = some (.ref f)) (kp : PySem.W.keepIn X.K (.ref f) = true) (bd : Binds X.K fd ps ds) (dv : Vals dvs ds)
    (ha : PA X (e :: es) t) (hdb : (x == ("__debug__" : Str)) = false := by decide) (he : starEach (e :: es) X.env = (false, eval e X.env) :: starEach es X.env := by rfl) (hpl : (backTo pos (starEach es X.env)).any (·.1) = false := by rfl) :
    PE X (.Call (.Name x p) (e :: es) [] pos) (tCall sp dvs E0 t) := by
  constructor
  intro pins s σ H Q I pre
  refine wpAny_Call_Name_kw (ld_glob I hg hm ?_ hdb)
  exact PySem.W.callWith_K (h₀ := X.base) I.ok.mod.kin kp (thn (ha.run pos pins s σ H _ I pre) fun us s1 ⟨xs, H1, I1, r, q⟩ => ⟨I1.kIn, run_fnG F gd room bd dv I1 r q⟩) he hpl
end
structure DfG (P : Program) (w : World) (K : PySem.W.Frag) (mg : Str → Option Value) (base : Heap) (x : Str) (k : Nat) (ps : List Str) (sp : Sp) : Prop where
  ok : ∃ f fd, FnG P w K mg base k f fd ps sp ∧ mg x = some (.ref f) ∧ PySem.W.keepIn K (.ref f) = true ∧ Binds K fd ps []
theorem DfG.of {P : Program} {w : World} {K : PySem.W.Frag} {mg : Str → Option Value} {base : Heap} {x : Str} {st : Stmt} {f : Addr} {fd : FuncData} {ps : List Str} {k : Nat} {sp : Sp} (F : Fun K x x st f fd) (ok : FnG P w K mg base k f fd ps sp) (hm : mg x = some (.ref f)) (hb : Binds K fd ps []) : DfG P w K mg base x k ps sp :=
  ⟨f, fd, ok, hm, F.kp, hb⟩
section
variable {C : Cn} {b : Nat} {δ : List Sl} {P : Nat → Res → Prop} {pos p0 : Pos} {e : Expr} {es : List Expr}
theorem ev_callG {x : Str} {k n : Nat} {ps : List Str} {pre : Nat → List Ar → Prop} {post : Nat → List Ar → Nat → Res → Prop} (F : DfG C.X.prog C.X.w C.X.K C.X.mg C.X.base x k ps (spD C.Z C.K n pre post)) (gd : C.X.A.guards = some []) (hr : Room k C.X.A)
    (h : EVA C b δ (e :: es) (fun b1 rs => rs.length = n ∧ pre b1 (rs.map Res.ar) ∧ ∀ b2 r, r.out = true → post b1 (rs.map Res.ar) b2 r → P b2 r)) (hg : Gl C.X x := by rfl)
    (hdb : (x == ("__debug__" : Str)) = false := by decide) (he : starEach (e :: es) C.X.env = (false, eval e C.X.env) :: starEach es C.X.env := by rfl) (hpl : (backTo pos (starEach es C.X.env)).any (·.1) = false := by rfl) :
    EV C b δ (.Call (.Name x p0) (e :: es) [] pos) P := by
  obtain ⟨f, fd, ok, hm, hk, hb⟩ := F.ok
  intro os σ H st Q q
  refine WE.of (pe_callG ok gd hr hg hm hk hb .nil paW hdb he hpl) ?_
  refine h os σ H st _ fun vs H1 b1 rs f1 j1 rv hh => ?_
  obtain ⟨hl, hp, hq⟩ := hh
  show spD C.Z C.K n pre post (vs ++ []) H1 Q E0
  rw [List.append_nil]
  exact ⟨b1, rs.map Res.ar, by simpa using hl, rv.ar, j1, hp, fun v H' b' r f2 j2 rv2 ho po => q v H' b' r (f1.trans f2) j2 ((rv2.any ho).from f1) (hq b' r ho po)⟩
end
section
variable {P : Program} {w : World} {K : PySem.W.Frag} {mg : Str → Option Value} {base : Heap} {Z : Vol}
theorem fn_bodyG {x qual : Str} {st : Stmt} {f : Addr} {fd : FuncData} {N ps : List Str} {k n : Nat} {pre : Nat → List Ar → Prop} {post : Nat → List Ar → Nat → Res → Prop} (F : Fun K x qual st f fd) (S : FnScope N ps (defScope st)) (hn : ps.length = n)
    (body : ∀ (cdv : Value) (A : Around) (outer : List Env) (s : Shared) (H : Hp) (E : XK) (b : Nat) (as : List Ar), (A.deeper (envOfC qual (defScope st) s.heap.objs.size f cdv)).guards = some [] → Room k (A.deeper (envOfC qual (defScope st) s.heap.objs.size f cdv)) → as.length = n → pre b as →
      SV ⟨(cxOf CX0 P w K mg base N qual (defScope st) f cdv A outer s H E).nox, Z, H⟩ b (as.map Ar.sl ++ List.replicate (N.length - n) .un) (defBody st) (retF (post b as))) :
    FnG P w K mg base (k + 1) f fd ps (spD Z K n pre post) := by
  refine fun_okG F S (fun vs H Q E h => ?_) (fun cdv A outer s H vs Q E gd hr h => ?_)
  · obtain ⟨b, as, hl, hv, _⟩ := h
    rw [hv.len, hl, hn]
  · obtain ⟨b, as, hl, hv, hj, hp, hq⟩ := h
    refine ⟨_, pssW, ?_⟩
    refine body cdv A outer s H E b as gd hr hl hp [] _ H ⟨Fr.refl, hj, fun p z => (nomatch z), [], List.nodup_nil, fun p z => (nomatch z), ?_⟩ _ ⟨fun b' δ' os' σ' H' z s g => ?_, fun _ _ _ _ _ z _ _ => z.elim, fun _ _ _ _ _ z _ _ => z.elim, fun v H' b' r z rv f j => ?_⟩
    · show Sls K Z [] H _ (L2.start N vs) []
      unfold L2.start
      rw [hv.len, hl]
      exact sls_start hv _
    · exact hq .non H' b' (.va .non) s.fr s.j (.va .non) rfl z
    · exact hq v H' b' r f j rv z.1 z.2
end
end PD
set_option Elab.async false
set_option linter.all false
set_option maxRecDepth 100000
set_option maxHeartbeats 4000000
namespace PD
open PySem PySem.Spec PyProof.Rows L2
section
variable {C : Cn} {b : Nat} {δ : List Sl} {P : Nat → Res → Prop} {pos p0 : Pos} {e e1 e2 : Expr}
/-- is None, as a value -/
theorem ev_isN {jj : Nat} {pj : Pos} (h : EV C b δ e (fun b1 r => ∃ d, r = .va d ∧ P b1 (.va (.bl d.isN)))) : EV C b δ (.Compare e [.Is] [.Constant .none jj pj] pos) P := by
  intro os σ H st Q q
  refine WE.of (pe_cmp (pc_isN peW)) ?_
  refine h os σ H st _ fun v H1 b1 r f1 j1 rv hh => ?_
  obtain ⟨d, rfl, hq⟩ := hh
  cases rv with | va rv => ?_
  show Q (.bl (decide (v = .non))) H1
  rw [isN_ok rv]
  exact q _ H1 b1 _ f1 j1 (.va (.bl _)) hq
/-! ### what is written out -/
mutual
/-- how great it is -/
def D.wide : D → Nat
  | .tup ds => max ds.length (wides ds)
  | .pt ds => max ds.length (wides ds)
  | _ => 0
def wides : List D → Nat
  | [] => 0
  | d :: ds => max d.wide (wides ds)
end
end
end PD
set_option Elab.async false
set_option linter.all false
set_option maxRecDepth 100000
set_option maxHeartbeats 8000000
namespace PD
open PySem PySem.Spec PyProof.Rows L2
section
variable {C : Cn} {b : Nat} {δ : List Sl} {F : Fin} {tg iter : Expr} {ss rest : List Stmt} {pos : Pos}
/-- a for whose walk is told for the slots as they stand -/
theorem for_at {os : List Addr} {σ : L2.St} {H : Hp} (p : Pat) (hc : C.X.calm = true) (hp : PassesOwn (model C.X.prog C.X.w) C.X.A C.X.env C.X.xe) (hg : PG C.X tg (gPat C.X.K p)) (st : Sts C os b δ σ H) {Pd : Nat → List D → Prop}
    (h : ∀ R : It → Hp → Prop, (∀ J H' b' ds, Fr C.Z.S H H' → C.Z.J b' H' → Wk C.K C.Z J ds os H' → Pd b' ds → R J H') → WI C.X tg iter σ H R)
    (hh : ∀ b1 ds, Pd b1 ds → ∃ Iv : List D → Nat → List Sl → Prop, Iv [] b1 δ ∧
      (∀ (pre : List D) (d : D) (post : List D) (b2 : Nat) (δ2 : List Sl), ds = pre ++ d :: post → Iv pre b2 δ2 →
        ∃ δ', bindP p d δ2 = some δ' ∧ SV C b2 δ' ss ⟨Iv (pre ++ [d]), fun b3 δ3 => SV C b3 δ3 rest F, Iv (pre ++ [d]), F.R⟩) ∧
      ∀ b2 δ2, Iv ds b2 δ2 → SV C b2 δ2 rest F)
    (hs : ∀ x, foldedSetIterable iter C.X.env x = pure x := by intro _; rfl) (D : Ends) (ed : EndsOk C F os H D) : WSs C.X (.For tg iter ss [] pos :: rest) D σ H := by
  refine WSs.of (pss_cons (ps_for hp hc piW hg pssW hs) pssW) ?_
  refine h _ fun J H1 b1 ds f1 j1 W hpd => ?_
  obtain ⟨Iv, i0, step, last⟩ := hh b1 ds hpd
  have st1 := st.on f1 j1
  refine ⟨fun i m σ2 H2 => m = ds.length - i ∧ i ≤ ds.length ∧ ∃ b2 δ2 os2, Sts C os2 b2 δ2 σ2 H2 ∧ Gr C.Z os H1 os2 H2 ∧ Iv (ds.take i) b2 δ2, ⟨ds.length, ?_⟩, ?_⟩
  · exact ⟨by omega, Nat.zero_le _, b1, δ, os, st1, Gr.refl, by simpa using i0⟩
  · rintro i m σ2 H2 ⟨rfl, hi, b2, δ2, os2, st2, g2, iv⟩
    by_cases hlt : i < ds.length
    · obtain ⟨go, item⟩ := W.go os2 H2 g2 i hlt
      refine .inr ⟨go, fun σ' H' => ∃ b2 δ2 os2, Sts C os2 b2 δ2 σ' H' ∧ Gr C.Z os H1 os2 H' ∧ Iv (ds.take (i + 1)) b2 δ2, fun σ' H' z => ⟨ds.length - (i + 1), by omega, rfl, hlt, z⟩, fun x H3 y => ?_⟩
      obtain ⟨f3, d, hd, rx⟩ := item x H3 y
      have f3' : Fr C.Z.S H2 H3 := f3.wide fun _ z => z.elim
      have j3 : C.Z.J b2 H3 := C.Z.stay _ _ _ st2.j (f3.wide fun _ z => z.elim)
      have eds : ds = ds.take i ++ d :: ds.drop (i + 1) := by
        obtain ⟨hh, e⟩ := List.getElem?_eq_some_iff.mp hd
        rw [← e, ← List.drop_eq_getElem_cons hh, List.take_append_drop]
      have etk : ds.take (i + 1) = ds.take i ++ [d] := by
        rw [List.take_succ, hd]
        rfl
      obtain ⟨δ', hb, hstep⟩ := step (ds.take i) d (ds.drop (i + 1)) b2 δ2 eds iv
      obtain ⟨σ', st4, _, hgo⟩ := bind_ok p rx (st2.on f3' j3) hb
      refine hgo _ ?_
      have g3 : Gr C.Z os H1 os2 H3 := g2.trans (Gr.of f3')
      refine hstep os2 σ' H3 st4 _ ⟨fun b' δ5 os' σ5 H5 n s g => ⟨b', δ5, os', s, g3.trans g, by rw [etk]; exact n⟩, fun b' δ5 os' σ5 H5 n s g => ?_, fun b' δ5 os' σ5 H5 n s g => ⟨b', δ5, os', s, g3.trans g, by rw [etk]; exact n⟩, ed.rt⟩
      exact n os' σ5 H5 s D (ed.on ((Gr.of f1).trans (g3.trans g)))
    · have e : i = ds.length := by omega
      subst e
      rw [List.take_length] at iv
      exact .inl ⟨W.stop os2 H2 g2 _ (Nat.le_refl _), last b2 δ2 iv os2 σ2 H2 st2 D (ed.on ((Gr.of f1).trans g2))⟩
end
end PD
set_option Elab.async false
set_option linter.all false
set_option maxRecDepth 100000
set_option maxHeartbeats 2000000
namespace PD
open PySem PySem.Spec PyProof.Rows L2
/-! ### d.clear(); (a new dict, a new dict); a, b = a pair at its name -/
theorem mt_dclear {X : Cx} : MtR X "dict.clear" (fun x xs H Q => ∃ a kvs, x = .ref a ∧ xs = [] ∧ H a = some (.dK kvs) ∧ Q .non (upd H a (.dK []))) := by
  intro pins s σ H x xs v us Q I rx rxs h
  obtain ⟨a, kvs, rfl, rfl, ha, q⟩ := h
  cases rx
  cases rxs
  exact d_clear I ha fun s' I' => ⟨.non, _, I', rfl, q⟩
section
variable {C : Cn} {b : Nat} {δ : List Sl} {P : Nat → Res → Prop} {F : Fin} {pos p0 p1 apos : Pos} {e1 e2 tg : Expr} {rest : List Stmt}
/-- x.clear() of a dict of one's own -/
theorem sv_dclear (i : Nat) {x : Str} {kvs : List (Key × D)} (hi : δ[i]? = some (.od (.k kvs))) (q : SV C b (δ.set i (.od (.k []))) rest F) (hline : (apos.endLine == p1.line) = true) (hN : C.X.N[i]? = some x := by rfl)
    (hv : Vis C.X.env.scope x := by first | exact Or.inl rfl | exact Or.inr (Or.inl rfl) | exact Or.inr (Or.inr rfl)) (hd : (x == ("__debug__" : Str)) = false := by decide) (hcd : (x == ("__classdict__" : Str)) = false := by decide)
    (hbase : attributeBase (.Name x p0) "clear" C.X.env (eval (.Name x p0) C.X.env) = eval (.Name x p0) C.X.env := by rfl)
    (hsw : swapsWith (.Call (.Attribute (.Name x p0) "clear" apos) [] [] p1) none pos.line C.X.env = pure false := by rfl) :
    SV C b δ (.Expr (.Call (.Attribute (.Name x p0) "clear" apos) [] [] p1) pos :: rest) F := by
  intro os σ H st D ed
  refine WSs.of (pss_cons (ps_expr (pe_bm0 PySem.F.plainAttrs_dict PySem.F.slot_dict_clear PySem.F.type_dict_clear mt_dclear (pe_var hN hv hd hcd) hbase hline) hsw) pssW) ?_
  obtain ⟨p, e1, _, _, dc, go⟩ := st.ownD hi
  cases dc with
  | @k kv _ e l ra =>
    obtain ⟨s2, g2⟩ := go _ (.dK []) (.k []) e .k (.k upd_same rfl .nil)
    exact ⟨_, e1, .inr (.inr (.inl ⟨rfl, .inl ⟨kv, e⟩⟩)), p, kv, rfl, rfl, e, q os σ _ s2 D (ed.on g2)⟩
end
end PD
set_option Elab.async false
set_option linter.all false
set_option maxRecDepth 100000
set_option maxHeartbeats 2000000
namespace PD
open PySem PySem.Spec PyProof.Rows L2
/-! ### a, b = a pair of dicts of one's own, at its name -/
section
variable {K : PySem.W.Frag} {Z : Vol} {os : List Addr} {H : Hp} {δ : List Sl} {σ : L2.St}
/-- what a slot owns is taken out of it -/
theorem Sls.take {o : List Addr} {i : Nat} {s : Sl} (h : Sls K Z os H δ σ o) (nd : o.Nodup) (e1 : δ[i]? = some s) :
    ∃ w oi o', σ[i]? = some w ∧ Slot K Z os H s w oi ∧ oi.Nodup ∧ (∀ p ∈ oi, p ∈ o) ∧ o'.Nodup ∧ (∀ p ∈ o', p ∈ o) ∧ (∀ p ∈ oi, p ∉ o') ∧ Sls K Z os H (δ.set i .un) σ o' := by
  induction h generalizing i with
  | nil => simp at e1
  | @cons s1 v1 oa δ1 σ1 ob a tl ih =>
    obtain ⟨na, nb, nc⟩ := List.nodup_append.mp nd
    cases i with
    | zero =>
      obtain rfl : s1 = s := by simpa using e1
      exact ⟨v1, oa, ob, rfl, a, na, fun p hp => List.mem_append_left _ hp, nb, fun p hp => List.mem_append_right _ hp, fun p hp hq => nc p hp p hq rfl, .cons .un tl⟩
    | succ i =>
      obtain ⟨w, oi, o', h1, h2, h3, h4, h5, h6, h7, h8⟩ := ih (i := i) nb (by simpa using e1)
      refine ⟨w, oi, oa ++ o', by simpa using h1, h2, h3, fun p hp => List.mem_append_right _ (h4 p hp), List.nodup_append.mpr ⟨na, h5, fun x hx y hy e => nc x hx y (h6 y hy) e⟩, fun p hp => ?_, fun p hp hq => ?_, .cons a h8⟩
      · rcases List.mem_append.mp hp with z | z
        · exact List.mem_append_left _ z
        · exact List.mem_append_right _ (h6 p z)
      · rcases List.mem_append.mp hq with z | z
        · exact nc p z p (h4 p hp) rfl
        · exact h7 p hp z
end
end PD
set_option Elab.async false
set_option linter.all false
set_option maxRecDepth 100000
set_option maxHeartbeats 4000000
/-! A law's state: the dict of its draws, behind its defs' back; a list of spare strings that a def takes from. The ghost b tells both: b % (10000000000000 : Nat) how much has been drawn, b / (10000000000000 : Nat) how many spare strings are left. -/
namespace PD
open PySem PySem.Spec PyProof.Rows L2
/-- where it stands: the dict, its lists, the table of the program's lambdas -/
structure LC where
  s : Addr
  l : Addr
  c : Addr
  T : Addr
  q : Str
  cells : List Int
  ts : List (Addr × Str)
  /-- the spare strings that a def is handed -/
  sp : List Str
def stKV (L : LC) (at_ : Nat) : List (Key × V) := [(.inr "cells", .ref L.c), (.inr "lefts", .ref L.l), (.inr "at", .int (at_ : Int)), (.inr "room", .int 0)]
def Spare (sp : List Str) (p : Option Addr) (H : Hp) (n : Nat) : Prop := match p with
  | none => n = 0
  | some p => ∃ xs : List Str, H p = some (.lst (xs.map V.str)) ∧ xs.length = n ∧ xs = sp.take n
/-- how the state stands -/
structure St8 (L : LC) (p : Option Addr) (H : Hp) (at_ : Nat) (lefts : List Int) (n : Nat) : Prop where
  s : H L.s = some (.dK (stKV L at_))
  c : H L.c = some (.lst (L.cells.map V.int))
  l : H L.l = some (.lst (lefts.map V.int))
  len : lefts.length = L.cells.length
  pos : ∀ x ∈ lefts, 0 ≤ x
  sp : Spare L.sp p H n
  tab : LamX.TabS H L.T L.q
  tabs : LamX.Tabs L.ts H
def lawVol (L : LC) (p : Option Addr) : Vol where
  S := fun a => a = L.s ∨ a = L.l ∨ a = L.c ∨ a = L.T ∨ some a = p ∨ ∃ t ∈ L.ts, a = t.1
  J := fun b H => ∃ lefts, St8 L p H (b % (10000000000000 : Nat)) lefts (b / (10000000000000 : Nat))
  there := by
    rintro b H a ⟨lefts, h⟩ (rfl | rfl | rfl | rfl | e | ⟨t, ht, rfl⟩)
    · rw [h.s]; exact fun z => nomatch z
    · rw [h.l]; exact fun z => nomatch z
    · rw [h.c]; exact fun z => nomatch z
    · obtain ⟨ps, e, _⟩ := h.tab
      rw [e]
      exact fun z => nomatch z
    · have hs := h.sp
      rw [← e] at hs
      obtain ⟨xs, e2, _⟩ := hs
      rw [e2]
      exact fun z => nomatch z
    · obtain ⟨ps, e, _⟩ := h.tabs t ht
      rw [e]
      exact fun z => nomatch z
  stay := by
    rintro b H H' ⟨lefts, h⟩ f
    refine ⟨lefts, f.keep (fun z => z (.inl rfl)) h.s, f.keep (fun z => z (.inr (.inr (.inl rfl)))) h.c, f.keep (fun z => z (.inr (.inl rfl))) h.l, h.len, h.pos, ?_, ?_, fun t ht => ?_⟩
    · have hs := h.sp
      cases p with
      | none => exact hs
      | some p =>
        obtain ⟨xs, e2, r⟩ := hs
        exact ⟨xs, f.keep (fun z => z (.inr (.inr (.inr (.inr (.inl rfl)))))) e2, r⟩
    · obtain ⟨ps, e, ok, all⟩ := h.tab
      refine ⟨ps, f.keep (fun z => z (.inr (.inr (.inr (.inl rfl))))) e, ok, fun pos cv hc => ?_⟩
      obtain ⟨c, e1, e2⟩ := all pos cv hc
      exact ⟨c, e1, f.code e2⟩
    · obtain ⟨ps, e, ok, all⟩ := h.tabs t ht
      refine ⟨ps, f.keep (fun z => z (.inr (.inr (.inr (.inr (.inr ⟨t, ht, rfl⟩)))))) e, ok, fun pos cv hc => ?_⟩
      obtain ⟨c, e1, e2⟩ := all pos cv hc
      exact ⟨c, e1, f.code e2⟩
/-- the places are unlike -/
structure LC.Ok (L : LC) (p : Option Addr) : Prop where
  sl : L.s ≠ L.l
  sc : L.s ≠ L.c
  sT : L.s ≠ L.T
  lc : L.l ≠ L.c
  lT : L.l ≠ L.T
  cT : L.c ≠ L.T
  pp : ∀ a, p = some a → a ≠ L.s ∧ a ≠ L.l ∧ a ≠ L.c ∧ a ≠ L.T ∧ ∀ t ∈ L.ts, a ≠ t.1
  tt : ∀ t ∈ L.ts, L.s ≠ t.1 ∧ L.l ≠ t.1 ∧ L.c ≠ t.1 ∧ L.T ≠ t.1
  tn : ∀ t ∈ L.ts, ∀ r ∈ L.ts, t.1 = r.1 → t = r
  few : L.cells.length ≤ 1000
  one : L.cells ≠ []
  sps : ∀ x ∈ L.sp, PyData.strOk x = true
theorem tab_upd {H : Hp} {T : Addr} {q : Str} {a : Addr} {o : HO} {xs : HO} (h : LamX.TabS H T q) (ha : a ≠ T) (e : H a = some xs) (hx : ∀ φ, xs ≠ .ext φ) : LamX.TabS (upd H a o) T q := by
  obtain ⟨ps, e1, ok, all⟩ := h
  refine ⟨ps, by rw [upd_ne (Ne.symm ha)]; exact e1, ok, fun pos cv hc => ?_⟩
  obtain ⟨c, e2, e3⟩ := all pos cv hc
  refine ⟨c, e2, ?_⟩
  rw [upd_ne (fun z => ?_)]
  · exact e3
  · rw [z, e] at e3
    unfold LamX.CodeO at e3
    exact hx _ (Option.some.inj e3)
theorem tabs_upd {H : Hp} {ts : List (Addr × Str)} {a : Addr} {o : HO} {xs : HO} (h : LamX.Tabs ts H) (ha : ∀ t ∈ ts, a ≠ t.1) (e : H a = some xs) (hx : ∀ φ, xs ≠ .ext φ) : LamX.Tabs ts (upd H a o) := fun t ht => tab_upd (h t ht) (ha t ht) e hx
theorem tab_grown {H : Hp} {T P c0 : Addr} {q r : Str} {ps ps' : Array Value} (h : LamX.TabS H T q) (ne : T ≠ P) (hP : H P = some (.tbl ps)) (h0 : H c0 = none) : LamX.TabS (upd (upd H P (.tbl ps')) c0 (LamX.CodeO c0 r)) T q := by
  have k : ∀ {a : Addr} {o : HO}, H a = some o → (∀ qs, o ≠ .tbl qs) ∨ a ≠ P → upd (upd H P (.tbl ps')) c0 (LamX.CodeO c0 r) a = some o := fun {a o} e hn => by
    rw [upd_ne (ne_of_none e h0), upd_ne (fun z => ?_)]
    · exact e
    · rcases hn with hn | hn
      · rw [z, hP] at e
        exact hn ps (Option.some.inj e).symm
      · exact hn z
  obtain ⟨qs, e1, ok, all⟩ := h
  refine ⟨qs, k e1 (.inr ne), ok, fun pos cv hc => ?_⟩
  obtain ⟨c, e2, e3⟩ := all pos cv hc
  exact ⟨c, e2, k e3 (.inl fun qs z => nomatch z)⟩
/-- the lambda's table, as the calls may change it -/
theorem lawVol_lam {L : LC} {p : Option Addr} (ok : L.Ok p) : LamZ (lawVol L p) L.T L.q where
  tab := fun b H ⟨_, h⟩ => h.tab
  S := .inr (.inr (.inr (.inl rfl)))
  J := by
    rintro b H H1 ⟨lefts, h⟩ g tab
    rcases g with rfl | ⟨ps, more, c0, hP, h0, rfl⟩
    · exact ⟨lefts, h.s, h.c, h.l, h.len, h.pos, h.sp, tab, h.tabs⟩
    · have ne : ∀ {a : Addr} {o o1 o2 : HO}, a ≠ L.T → H a = some o → upd (upd H L.T o1) c0 o2 a = some o := fun {a o o1 o2} hn e => by
        rw [upd_ne (ne_of_none e h0), upd_ne hn]
        exact e
      refine ⟨lefts, ne ok.sT h.s, ne ok.cT h.c, ne ok.lT h.l, h.len, h.pos, ?_, tab, fun t ht => tab_grown (h.tabs t ht) (Ne.symm (ok.tt t ht).2.2.2) hP h0⟩
      have hs := h.sp
      cases p with
      | none => exact hs
      | some p =>
        obtain ⟨xs, e2, r⟩ := hs
        exact ⟨xs, ne (ok.pp p rfl).2.2.2.1 e2, r⟩
/-- .. of another lambda -/
theorem lawVol_lam2 {L : LC} {p : Option Addr} (ok : L.Ok p) {t : Addr × Str} (ht : t ∈ L.ts) : LamZ (lawVol L p) t.1 t.2 where
  tab := fun b H ⟨_, h⟩ => h.tabs t ht
  S := .inr (.inr (.inr (.inr (.inr ⟨t, ht, rfl⟩))))
  J := by
    rintro b H H1 ⟨lefts, h⟩ g tab
    rcases g with rfl | ⟨ps, more, c0, hP, h0, rfl⟩
    · exact ⟨lefts, h⟩
    · have ne : ∀ {a : Addr} {o o1 o2 : HO}, a ≠ t.1 → H a = some o → upd (upd H t.1 o1) c0 o2 a = some o := fun {a o o1 o2} hn e => by
        rw [upd_ne (ne_of_none e h0), upd_ne hn]
        exact e
      obtain ⟨k1, k2, k3, k4⟩ := ok.tt t ht
      refine ⟨lefts, ne k1 h.s, ne k3 h.c, ne k2 h.l, h.len, h.pos, ?_, tab_grown h.tab k4 hP h0, fun r hr => ?_⟩
      · have hs := h.sp
        cases p with
        | none => exact hs
        | some p =>
          obtain ⟨xs, e2, r⟩ := hs
          exact ⟨xs, ne ((ok.pp p rfl).2.2.2.2 t ht) e2, r⟩
      · by_cases e : r.1 = t.1
        · obtain rfl := ok.tn r hr t ht e
          exact tab
        · exact tab_grown (h.tabs r hr) e hP h0
/-! ### looking at the state, changing it -/
section
variable {X : Cx} {L : LC} {p : Option Addr} {H0 : Hp} {b : Nat} {δ : List Sl} {P : Nat → Res → Prop} {F : Fin} {o i e e1 e2 value : Expr} {pos pos' p0 p1 : Pos} {rest : List Stmt}
abbrev LC.C (L : LC) (X : Cx) (p : Option Addr) (H0 : Hp) : Cn := ⟨X, lawVol L p, H0⟩
/-- the state's dict, the list of its cells, that of what is left -/
def LC.sD (L : LC) : D := .obj .dict L.s
def LC.cD (L : LC) : D := .obj .list L.c
def LC.lD (L : LC) : D := .obj .list L.l
theorem rp_obj {K : PySem.W.Frag} {H : Hp} {v : V} {t : Kd} {a : Addr} (h : Rp K H v (.obj t a)) : v = .ref a := by cases h; rfl
/-- state["cells"], state["lefts"] -/
theorem ev_zCells (hu : X.A.units + 1 < cLine) (h : EV (L.C X p H0) b δ o (fun b1 r1 => EV (L.C X p H0) b1 δ i fun b2 r2 => r1 = .va L.sD ∧ ((r2 = .va (.str "cells") ∧ P b2 (.va L.cD)) ∨ (r2 = .va (.str "lefts") ∧ P b2 (.va L.lD))))) (hs : NoSl i := by intro _ _; rfl) : EV (L.C X p H0) b δ (.Subscript o i pos) P := by
  intro os σ H st Q q
  refine WE.of (pe_dget hu peW peW hs) ?_
  refine h os σ H st _ fun v1 H1 b1 r1 f1 j1 rv1 h2 => ?_
  refine h2 os σ H1 (st.on f1 j1) _ fun v2 H2 b2 r2 f2 j2 rv2 h3 => ?_
  obtain ⟨rfl, h3⟩ := h3
  cases rv1 with | va rv1 => ?_
  obtain rfl := rp_obj rv1
  have j3 := j2
  obtain ⟨lefts, s8⟩ := j2
  rcases h3 with ⟨rfl, hq⟩ | ⟨rfl, hq⟩
  · cases rv2 with | va rv2 => ?_
    cases rv2
    exact ⟨L.s, .ref L.c, rfl, .inl ⟨_, .inr "cells", .inl s8.s, rfl, rfl⟩, q _ H2 b2 _ (f1.trans f2) j3 (.va (.obj (.l (.inl s8.c)))) hq⟩
  · cases rv2 with | va rv2 => ?_
    cases rv2
    exact ⟨L.s, .ref L.l, rfl, .inl ⟨_, .inr "lefts", .inl s8.s, rfl, rfl⟩, q _ H2 b2 _ (f1.trans f2) j3 (.va (.obj (.l (.inl s8.l)))) hq⟩
/-- one of the cells, of what is left -/
theorem ev_zIx (h : EV (L.C X p H0) b δ e1 (fun b1 r1 => EV (L.C X p H0) b1 δ e2 fun b2 r2 => ∃ j : Nat, r2 = .va (.int (j : Int)) ∧ j < L.cells.length ∧ ((r1 = .va L.cD ∧ ∀ x : Int, P b2 (.va (.int x))) ∨ (r1 = .va L.lD ∧ ∀ x : Int, 0 ≤ x → P b2 (.va (.int x)))))) (hs : PlainIx e2 := by exact fun _ _ => rfl) :
    EV (L.C X p H0) b δ (.Subscript e1 e2 pos) P := by
  intro os σ H st Q q
  refine WE.of (pe_ix ix_seq peW peW hs) ?_
  refine h os σ H st _ fun v1 H1 b1 r1 f1 j1 rv1 h2 => ?_
  refine h2 os σ H1 (st.on f1 j1) _ fun v2 H2 b2 r2 f2 j2 rv2 h3 => ?_
  obtain ⟨j, rfl, hj, h3⟩ := h3
  cases rv2 with | va rv2 => ?_
  cases rv2
  have j3 := j2
  obtain ⟨lefts, s8⟩ := j2
  rcases h3 with ⟨rfl, hq⟩ | ⟨rfl, hq⟩
  · cases rv1 with | va rv1 => ?_
    obtain rfl := rp_obj rv1
    have hx : j < (L.cells.map V.int).length := by rw [List.length_map]; exact hj
    refine .inl ⟨L.c, _, _, .int (L.cells[j]), rfl, rfl, .inl (.inl s8.c), ?_, q _ H2 b2 _ (f1.trans f2) j3 (.va (.int _)) (hq _)⟩
    exact atI_nat (by rw [List.getElem?_map, List.getElem?_eq_getElem hj]; rfl)
  · cases rv1 with | va rv1 => ?_
    obtain rfl := rp_obj rv1
    have hj' : j < lefts.length := by rw [s8.len]; exact hj
    refine .inl ⟨L.l, _, _, .int (lefts[j]), rfl, rfl, .inl (.inl s8.l), ?_, q _ H2 b2 _ (f1.trans f2) j3 (.va (.int _)) (hq _ (s8.pos _ (List.getElem_mem hj')))⟩
    exact atI_nat (by rw [List.getElem?_map, List.getElem?_eq_getElem hj']; rfl)
end
end PD
set_option Elab.async false
set_option linter.all false
set_option maxRecDepth 100000
set_option maxHeartbeats 4000000
namespace G
open PySem PD L2
/-! ### skeletons -/
mutual
/-- how many levels of elements -/
def Nd.dep : Nd → Nat
  | .s _ => 0
  | .h _ => 0
  | .el _ _ _ _ cs => ndsDep cs + 1
def ndsDep : List Nd → Nat
  | [] => 0
  | c :: cs => max c.dep (ndsDep cs)
end
theorem dep_mem {cs : List Nd} {c : Nd} (h : c ∈ cs) : c.dep ≤ ndsDep cs := by
  induction cs with
  | nil => cases h
  | cons x cs ih =>
    rw [ndsDep]
    rcases List.mem_cons.mp h with rfl | h
    · exact Nat.le_max_left _ _
    · exact Nat.le_trans (ih h) (Nat.le_max_right _ _)
theorem putB_ok {m : Bd} (h : okB m = true) {p a : Str} (hp : okS p = true) (ha : okS a = true) : okB (putB m p a) = true := by
  unfold okB at h ⊢
  rw [List.all_eq_true] at h ⊢
  unfold putB
  intro q hq
  split at hq
  · obtain ⟨r, hr, rfl⟩ := List.mem_map.mp hq
    split
    · exact Bool.and_eq_true_iff.mpr ⟨(Bool.and_eq_true_iff.mp (h r hr)).1, ha⟩
    · exact h r hr
  · rcases List.mem_append.mp hq with hq | hq
    · exact h q hq
    · rw [List.mem_singleton.mp hq]
      exact Bool.and_eq_true_iff.mpr ⟨hp, ha⟩
theorem bnd_ok {ds : List (Str × Str)} (hd : ∀ q ∈ ds, okS q.1 = true ∧ okS q.2 = true) {m : Bd} (h : okB m = true) : okB (bnd ds m) = true := by
  induction ds generalizing m with
  | nil => exact h
  | cons q ds ih =>
    have hq := hd q List.mem_cons_self
    exact ih (fun r hr => hd r (List.mem_cons_of_mem _ hr)) (putB_ok h hq.1 hq.2)
theorem okS_sm {x : Str} (h : okS x = true) : sm (.str x) = true := by
  rw [sm]
  exact decide_eq_true (Nat.le_trans (okS_2 h) (by decide))
theorem sms_all {ds : List D} (h : ∀ d ∈ ds, sm d = true) : sms ds = true := by
  induction ds with
  | nil => rw [sms]
  | cons d ds ih => rw [sms, h d List.mem_cons_self, ih fun e he => h e (List.mem_cons_of_mem _ he)]; rfl
theorem sm_tupI {ds : List D} (hl : ds.length ≤ 50000) (h : ∀ d ∈ ds, sm d = true) (h5 : isE5 ds = false := by first | rfl | exact isE5_short (by simp)) : sm (.tup ds) = true := by
  rw [sm, h5, decide_eq_true hl]
  simpa using sms_all h
theorem smK_tupI {ds : List D} (hl : ds.length ≤ 50000) (h : ∀ d ∈ ds, sm d = true) : smK (.tup ds) = true := by
  rw [smK, decide_eq_true hl, sms_all h]
  rfl
theorem smD_ptI {ds : List D} (hl : ds.length ≤ 50000) (h : ∀ d ∈ ds, sm d = true) : smD (.pt ds) = true := by
  rw [smD, decide_eq_true hl, sms_all h]
  rfl
theorem sm_elI {n a : D} {ds cs : List D} (h1 : sm n = true) (h2 : smD (.pt ds) = true) (h3 : sm a = true) (h4 : smK (.tup cs) = true) : sm (.tup [.str "element", n, .pt ds, a, .tup cs]) = true := by
  rw [sm, show isE5 [.str "element", n, .pt ds, a, .tup cs] = true from rfl]
  have e : sm5 [.str "element", n, .pt ds, a, .tup cs] = (sm n && (decide (ds.length ≤ 50000) && sms ds) && sm a && (decide (cs.length ≤ 50000) && sms cs)) := by rw [sm5]
  have h2' := smD_pt h2
  have h4' := smK_tup h4
  simp [e, h1, h2', h3, h4']
theorem sm_nm {p l : Str} (h1 : okS p = true) (h2 : okS l = true) : sm (nmD p l) = true := sm_tupI (by simp) fun d hd => by
  simp only [List.mem_cons, List.not_mem_nil, or_false] at hd
  rcases hd with rfl | rfl
  · exact okS_sm h1
  · exact okS_sm h2
mutual
theorem ok_sm : ∀ (x : Nd), x.ok = true → sm x.d = true
  | .s x, h => by rw [Nd.ok] at h; rw [Nd.d]; exact okS_sm h
  | .h x, h => by
    rw [Nd.ok] at h
    rw [Nd.d]
    refine sm_tupI (by simp) fun d hd => ?_
    simp only [List.mem_cons, List.not_mem_nil, or_false] at hd
    rcases hd with rfl | rfl
    · exact okS_sm (by decide +kernel)
    · exact okS_sm h
  | .el p l ds as cs, h => by
    have h := ok_el.mp h
    rw [Nd.d]
    have hna := h.na
    refine sm_elI ?_ ?_ ?_ ?_
    · exact sm_nm h.p h.l
    · refine smD_ptI (by rw [List.length_map]; exact Nat.le_trans h.nd (by decide)) fun d hd => ?_
      obtain ⟨q, hq, rfl⟩ := List.mem_map.mp hd
      exact sm_nm (h.hd q hq).1 (h.hd q hq).2
    · refine sm_tupI (by rw [List.length_map]; exact Nat.le_trans h.na (by decide)) (fun d hd => ?_) (isE5_short (by rw [List.length_map]; omega))
      obtain ⟨q, hq, rfl⟩ := List.mem_map.mp hd
      obtain ⟨h1, h2, h3⟩ := h.ha q hq
      refine sm_tupI (by simp) fun d hd => ?_
      simp only [List.mem_cons, List.not_mem_nil, or_false] at hd
      rcases hd with rfl | rfl
      · exact sm_nm h1 h2
      · obtain ⟨n, v⟩ := q
        cases v with
        | s x => exact okS_sm h3
        | q p' l' => exact sm_nm (Bool.and_eq_true_iff.mp h3).1 (Bool.and_eq_true_iff.mp h3).2
    · refine smK_tupI (by rw [ndsD_map, List.length_map]; exact Nat.le_trans h.nc (by decide)) fun d hd => oks_sm cs h.hc d hd
theorem oks_sm : ∀ (cs : List Nd), (∀ c ∈ cs, c.ok = true) → ∀ d ∈ ndsD cs, sm d = true
  | [], _, d, hd => by rw [ndsD] at hd; cases hd
  | c :: cs, h, d, hd => by
    rw [ndsD] at hd
    rcases List.mem_cons.mp hd with rfl | hd
    · exact ok_sm c (h c List.mem_cons_self)
    · exact oks_sm cs (fun e he => h e (List.mem_cons_of_mem _ he)) d hd
end
/-! ### what may be sorted -/
end G
set_option Elab.async false
set_option linter.all false
set_option maxRecDepth 100000
set_option maxHeartbeats 4000000
namespace G
open PySem PD L2
/-! ### the elements in their order, with what is bound in each -/
abbrev Rw3 := List Nat × Nd × Bd
mutual
def wk (p : List Nat) (m : Bd) : Nd → List Rw3
  | .el q l ds as cs => (p, .el q l ds as cs, bnd ds m) :: wks p 0 (bnd ds m) cs
  | .s _ => []
  | .h _ => []
def wks (p : List Nat) (k : Nat) (m : Bd) : List Nd → List Rw3
  | [] => []
  | c :: cs => wk (p ++ [k]) m c ++ wks p (k + 1) m cs
end
def pthD (p : List Nat) : List D := p.map fun (i : Nat) => D.int (i : Int)
def pkey (p : List Nat) : List Key := p.map fun (i : Nat) => (Sum.inl (i : Int) : Key)
theorem pthD_key (p : List Nat) : pthD p = (pkey p).map kD := by
  unfold pthD pkey
  rw [List.map_map]
  rfl
theorem pthD_snoc (p : List Nat) (k : Nat) : pthD (p ++ [k]) = pthD p ++ [.int (k : Nat)] := by
  unfold pthD
  rw [List.map_append]
  rfl
theorem pkey_inj : ∀ (p q : List Nat), pkey p = pkey q → p = q
  | [], [], _ => rfl
  | [], _ :: _, h => by cases h
  | _ :: _, [], h => by cases h
  | x :: p, y :: q, h => by
    unfold pkey at h
    rw [List.map_cons, List.map_cons, List.cons.injEq] at h
    have e := Sum.inl.inj h.1
    rw [pkey_inj p q h.2, show x = y by omega]
def rowPD (r : Rw3) : List D × D := (pthD r.1, r.2.1.d)
mutual
theorem pre_wk : ∀ (x : Nd) (p : List Nat) (m : Bd), x.isEl = true → pre (pthD p) x.d = (wk p m x).map rowPD
  | .el q l ds as cs, p, m, _ => by
    rw [pre_eq, wk, List.map_cons]
    have hk : kidsOf (Nd.el q l ds as cs).d = ndsD cs := by rw [Nd.d]; rfl
    rw [hk, pres_wks cs p 0 (bnd ds m)]
    rfl
  | .s _, _, _, h => nomatch h
  | .h _, _, _, h => nomatch h
theorem pres_wks : ∀ (cs : List Nd) (p : List Nat) (k : Nat) (m : Bd), (elemsAt (pthD p) k (ndsD cs)).flatMap (fun q => pre q.1 q.2) = (wks p k m cs).map rowPD
  | [], p, k, m => by rw [ndsD, wks]; rfl
  | c :: cs, p, k, m => by
    rw [ndsD, wks, elemsAt, begins_el, List.map_append, ← pres_wks cs p (k + 1) m]
    cases hc : c.isEl with
    | true =>
      simp only [if_true, List.flatMap_cons]
      rw [← pthD_snoc, pre_wk c (p ++ [k]) m hc]
    | false =>
      simp only [Bool.false_eq_true, if_false]
      cases c with
      | el _ _ _ _ _ => cases hc
      | s _ => rw [wk]; rfl
      | h _ => rw [wk]; rfl
end
end G
set_option Elab.async false
set_option linter.all false
set_option maxRecDepth 100000
set_option maxHeartbeats 4000000
namespace G
open PySem PD L2
/-- a row as it has to be -/
structure RwOk (r : Rw3) : Prop where
  el : r.2.1.isEl = true
  ok : r.2.1.ok = true
  okm : okB r.2.2 = true
mutual
theorem wk_ok : ∀ (x : Nd) (p : List Nat) (m : Bd), x.ok = true → okB m = true → ∀ r ∈ wk p m x, RwOk r ∧ r.2.2.length ≤ m.length + 50 * x.dep
  | .el q l ds as cs, p, m, hx, hm, r, hr => by
    have ho := ok_el.mp hx
    have hb := bnd_len ds m
    have h4 := ho.nd
    rw [wk] at hr
    rcases List.mem_cons.mp hr with rfl | hr
    · refine ⟨⟨rfl, hx, bnd_ok ho.hd hm⟩, ?_⟩
      show (bnd ds m).length ≤ m.length + 50 * (Nd.el q l ds as cs).dep
      rw [Nd.dep]
      omega
    · obtain ⟨h1, h2⟩ := wks_ok cs p 0 (bnd ds m) ho.hc (bnd_ok ho.hd hm) r hr
      refine ⟨h1, ?_⟩
      rw [Nd.dep]
      omega
  | .s _, _, _, _, _, _, hr => by rw [wk] at hr; cases hr
  | .h _, _, _, _, _, _, hr => by rw [wk] at hr; cases hr
theorem wks_ok : ∀ (cs : List Nd) (p : List Nat) (k : Nat) (m : Bd), (∀ c ∈ cs, c.ok = true) → okB m = true → ∀ r ∈ wks p k m cs, RwOk r ∧ r.2.2.length ≤ m.length + 50 * ndsDep cs
  | [], _, _, _, _, _, _, hr => by rw [wks] at hr; cases hr
  | c :: cs, p, k, m, hx, hm, r, hr => by
    rw [wks] at hr
    rw [ndsDep]
    rcases List.mem_append.mp hr with hr | hr
    · obtain ⟨h1, h2⟩ := wk_ok c _ m (hx c List.mem_cons_self) hm r hr
      refine ⟨h1, ?_⟩
      have := Nat.le_max_left c.dep (ndsDep cs)
      omega
    · obtain ⟨h1, h2⟩ := wks_ok cs p (k + 1) m (fun e he => hx e (List.mem_cons_of_mem _ he)) hm r hr
      refine ⟨h1, ?_⟩
      have := Nat.le_max_right c.dep (ndsDep cs)
      omega
end
/-- a path, an element -/
def peD (q : List Nat × Nd) : D := .tup [.tup (pthD q.1), q.2.d]
theorem pthD_inj (p q : List Nat) (h : pthD p = pthD q) : p = q := by
  rw [pthD_key, pthD_key] at h
  have kd : ∀ (a b : List Key), a.map kD = b.map kD → a = b := fun a b => map_inj (fun x y h => by
    cases x <;> cases y <;> cases h <;> rfl) a b
  exact pkey_inj _ _ (kd _ _ h)
theorem peD_inj (x y : List Nat × Nd) (h : peD x = peD y) : x = y := by
  unfold peD at h
  injection h with h
  injection h with h1 h
  injection h with h2 _
  injection h1 with h1
  exact Prod.ext (pthD_inj _ _ h1) (nd_inj _ _ h2)
def prj (r : Rw3) : List Nat × Nd := (r.1, r.2.1)
end G
set_option Elab.async false
set_option linter.all false
set_option maxRecDepth 100000
set_option maxHeartbeats 4000000
namespace G
open PySem PySem.Spec PyProof.Rows L2 PD
section
variable {P : Program} {w : World} {K : PySem.W.Frag} {mg : Str → Option Value} {base : Heap} {Z : Vol} {f : Addr} {fd : FuncData}
/-! ### skeleton -/
/-- a part, as a typed thing -/
structure Prt (x : Nd) : Prop where
  el : x.isEl = true
  ok : x.ok = true
  good : good x.d
  dep : x.dep ≤ 8
abbrev DNeed (P : Program) (w : World) (K : PySem.W.Frag) (mg : Str → Option Value) (base : Heap) (Z : Vol) := Df P w K mg base "need_part" 9 ["thing"] (spP Z K 1 (gGood .va))
end
end G
set_option Elab.async false
set_option linter.all false
set_option maxRecDepth 100000
set_option maxHeartbeats 4000000
namespace PD
open PySem PySem.Spec PyProof.Rows L2
section
variable {C : Cn} {b : Nat} {δ : List Sl} {P : Nat → Res → Prop} {pos : Pos} {e : Expr}
/-- -e -/
theorem ev_neg (h : EV C b δ e (fun b1 r => ∃ i : Int, r = .va (.int i) ∧ P b1 (.va (.int (-i))))) : EV C b δ (.UnaryOp .USub e pos) P := by
  intro os σ H st Q q
  refine WE.of (pe_un un_neg peW) ?_
  refine h os σ H st _ fun v H1 b1 r f1 j1 rv hr => ?_
  obtain ⟨i, rfl, hq⟩ := hr
  cases rv with | va rv => ?_
  cases rv
  exact ⟨i, rfl, q _ H1 b1 _ f1 j1 (.va (.int _)) hq⟩
end
end PD
namespace G
open PySem PySem.Spec PyProof.Rows L2 PD
section
variable {P : Program} {w : World} {K : PySem.W.Frag} {mg : Str → Option Value} {base : Heap} {Z : Vol} {f : Addr} {fd : FuncData}
/-! ### bound_by_path -/
abbrev DWalk (P : Program) (w : World) (K : PySem.W.Frag) (mg : Str → Option Value) (base : Heap) (Z : Vol) := Df P w K mg base "walk" 4 ["part"] (spP Z K 1 gWalk)
theorem Prt.walk {x : Nd} (h : Prt x) : gWalk [x.d] = some (.ow ((wk [] [] x).map fun r => peD (prj r))) := by
  show (if sm x.d = true ∧ fw 0 (pre [] x.d) = none then some (Res.ow ((pre [] x.d).map pairD)) else none) = _
  rw [if_pos ⟨h.good.1.1, fw_of_good h.good⟩]
  have e := pre_wk x [] [] h.el
  rw [show pthD [] = [] from rfl] at e
  rw [e, List.map_map]
  rfl
theorem el_of {x : Nd} (h : x.isEl = true) : ∃ p l ds as cs, x = .el p l ds as cs := by
  cases x with
  | el p l ds as cs => exact ⟨_, _, _, _, _, rfl⟩
  | _ => cases h
end
end G
set_option Elab.async false
set_option linter.all false
set_option maxRecDepth 100000
set_option maxHeartbeats 4000000
namespace G
open PySem PD L2
/-! ### skeletons may be compared -/
/-- data without truth values, its texts as they are, at most n deep -/
structure Cm (n : Nat) (d : D) : Prop where
  pl : d.pl = true
  lay : d.pd.canLay0 = true
  dep : d.pd.depth ≤ n
  nb : d.nb = true
theorem Cm.sh {n : Nat} {d : D} (h : Cm n d) (hn : n ≤ 64) : d.sh = true := by
  unfold D.sh SeqAt.shaped
  rw [h.pl, h.lay, decide_eq_true (Nat.le_trans h.dep hn)]
  rfl
theorem Cm.mono {n k : Nat} {d : D} (h : Cm n d) (hn : n ≤ k) : Cm k d := ⟨h.pl, h.lay, Nat.le_trans h.dep hn, h.nb⟩
theorem cm_str {x : Str} (h : okS x = true) : Cm 0 (.str x) := by
  refine ⟨by rw [D.pl], ?_, by rw [D.pd]; simp [PyData.depth], by rw [D.nb]⟩
  rw [D.pd]
  simp [PyData.canLay0, okS_1 h]
theorem cms {n : Nat} {ds : List D} (h : ∀ d ∈ ds, Cm n d) : pls ds = true ∧ PyData.canLayAll0 (pds ds) = true ∧ PyData.depthAll (pds ds) ≤ n ∧ nbs ds = true := by
  induction ds with
  | nil => simp [pls, pds, PyData.canLayAll0, PyData.depthAll, nbs]
  | cons d ds ih =>
    obtain ⟨h1, h2, h3, h4⟩ := ih fun e he => h e (List.mem_cons_of_mem _ he)
    have hd := h d List.mem_cons_self
    rw [pls, pds, nbs, hd.pl, hd.nb, h1, h4]
    simp only [PyData.canLayAll0, PyData.depthAll, hd.lay, h2]
    exact ⟨rfl, rfl, Nat.max_le.mpr ⟨hd.dep, h3⟩, rfl⟩
theorem cm_tup {n : Nat} {ds : List D} (h : ∀ d ∈ ds, Cm n d) : Cm (n + 1) (.tup ds) := by
  obtain ⟨h1, h2, h3, h4⟩ := cms h
  refine ⟨by rw [D.pl]; exact h1, ?_, ?_, by rw [D.nb]; exact h4⟩
  · rw [D.pd]
    simp only [PyData.canLay0]
    exact h2
  · rw [D.pd]
    simp only [PyData.depth]
    omega
theorem cm2 {n : Nat} {a c : D} (h1 : Cm n a) (h2 : Cm n c) : Cm (n + 1) (.tup [a, c]) := cm_tup fun d hd => by
  simp only [List.mem_cons, List.not_mem_nil, or_false] at hd
  rcases hd with rfl | rfl
  · exact h1
  · exact h2
theorem okS_hole : okS "hole" = true := by decide +kernel
theorem okS_el : okS "element" = true := by decide +kernel
theorem okS_no : okS "" = true := by decide +kernel
theorem srt_mem {key : D → D} {ds : List D} {d : D} : d ∈ srtBy key ds ↔ d ∈ ds := (List.mergeSort_perm _ _).mem_iff
end G
set_option Elab.async false
set_option linter.all false
set_option maxRecDepth 100000
set_option maxHeartbeats 4000000
namespace PD
open PySem PySem.Spec PyProof.Rows L2
section
variable {X : Cx} {L : LC} {p : Option Addr} {H0 : Hp} {b : Nat} {δ : List Sl} {P : Nat → Res → Prop} {F : Fin} {o i e e1 e2 value : Expr} {pos pos' p0 p1 p2 p3 p4 p5 p6 p7 p8 p9 : Pos} {rest : List Stmt}
/-- len(state["cells"]) -/
theorem ev_zLen (B : Blt X) (h : EV (L.C X p H0) b δ e (fun b1 r => r = .va L.cD ∧ P b1 (.va (.int (L.cells.length : Nat))))) (hg : Gl X "len" := by rfl)
    (hsx : starEach [e] X.env = (false, eval e X.env) :: starEach [] X.env := by rfl) (hpl : (backTo pos (starEach [] X.env)).any (·.1) = false := by rfl) : EV (L.C X p H0) b δ (.Call (.Name "len" p0) [e] [] pos) P := by
  intro os σ H st Q q
  refine WE.of (pe_callB call_len hg B.len PySem.boot_len (pa_cons peW pa_nil hsx) (by decide) (by decide) hsx hpl) ?_
  refine h os σ H st _ fun v H1 b1 r f1 j1 rv hh => ?_
  obtain ⟨rfl, hq⟩ := hh
  cases rv with | va rv => ?_
  obtain rfl := rp_obj rv
  have j2 := j1
  obtain ⟨lefts, s8⟩ := j1
  exact ⟨.ref L.c, L.cells.length, rfl, .inl ⟨_, .inl (.inl s8.c), (List.length_map _).symm⟩, q _ H1 b1 _ f1 j2 (.va (.int _)) hq⟩
/-- state["lefts"][place] = value -/
theorem sv_zLeft (ok : L.Ok p) (h : EV (L.C X p H0) b δ value (fun b1 r1 => EV (L.C X p H0) b1 δ o fun b2 r2 => EV (L.C X p H0) b2 δ i fun b3 r3 => ∃ (x : Int) (j : Nat), r1 = .va (.int x) ∧ 0 ≤ x ∧ r2 = .va L.lD ∧ r3 = .va (.int (j : Int)) ∧ j < L.cells.length ∧ SV (L.C X p H0) b3 δ rest F))
    (ha : ∀ v, assign (.Subscript o i pos') X.env v = (do
      let ov ← holding [v] (eval o X.env)
      let iv ← holding [v, ov] (eval i X.env)
      standAt pos'
      holding [v, ov, iv] (setItem ov iv v)
      release [v, ov, iv] []) := by intro _; rfl)
    (hs : swapsWithSole [.Subscript o i pos'] value pos.line X.env = pure false := by rfl) (hw : swappedStores [.Subscript o i pos'] value X.env = pure none := by rfl) (h1 : (assignEach [.Subscript o i pos'] X.env).map (·.2) = [assign (.Subscript o i pos') X.env] := by rfl) :
    SV (L.C X p H0) b δ (.Assign [.Subscript o i pos'] value pos :: rest) F := by
  intro os σ H st D ed
  refine WSs.of (pss_cons (ps_asg peW (pg_sub peW peW set_list ha) hs hw h1) pssW) ?_
  refine h os σ H st _ fun v1 H1 b1 r1 f1 j1 rv1 h2 => ?_
  refine h2 os σ H1 (st.on f1 j1) _ fun v2 H2 b2 r2 f2 j2 rv2 h3 => ?_
  refine h3 os σ H2 ((st.on f1 j1).on f2 j2) _ fun v3 H3 b3 r3 f3 j3 rv3 h4 => ?_
  obtain ⟨x, j, rfl, hx, rfl, rfl, hj, q⟩ := h4
  cases rv1 with | va rv1 => ?_
  cases rv2 with | va rv2 => ?_
  cases rv3 with | va rv3 => ?_
  cases rv1
  cases rv3
  obtain rfl := rp_obj rv2
  have st3 := ((st.on f1 j1).on f2 j2).on f3 j3
  obtain ⟨lefts, s8⟩ := j3
  have hjl : j < lefts.length := by rw [s8.len]; exact hj
  have hS : (lawVol L p).S L.l := .inr (.inl rfl)
  have fw : Fr (lawVol L p).S H3 (upd H3 L.l (.lst ((lefts.map V.int).set j (.int x)))) := Fr.put hS s8.l
  have em : (lefts.map V.int).set j (.int x) = (lefts.set j x).map V.int := by rw [List.map_set]
  have ne : ∀ {a : Addr} {u : HO}, a ≠ L.l → H3 a = some u → upd H3 L.l (.lst ((lefts.map V.int).set j (.int x))) a = some u := fun ha e => by rw [upd_ne ha]; exact e
  have j4 : (lawVol L p).J b3 (upd H3 L.l (.lst ((lefts.map V.int).set j (.int x)))) := by
    refine ⟨lefts.set j x, ne ok.sl s8.s, ne (Ne.symm ok.lc) s8.c, by rw [← em]; exact upd_same, by rw [List.length_set]; exact s8.len, fun y hy => ?_, ?_, tab_upd s8.tab ok.lT s8.l (fun φ z => nomatch z), tabs_upd s8.tabs (fun t ht => (ok.tt t ht).2.1) s8.l (fun φ z => nomatch z)⟩
    · rcases List.mem_or_eq_of_mem_set hy with z | z
      · exact s8.pos y z
      · rw [z]; exact hx
    · have hs := s8.sp
      cases p with
      | none => exact hs
      | some p =>
        obtain ⟨xs, e2, r⟩ := hs
        exact ⟨xs, ne (ok.pp p rfl).2.1 e2, r⟩
  refine ⟨L.l, _, (j : Int), j, rfl, rfl, s8.l, (by
    unfold ixN
    rw [List.length_map, if_pos (by omega), if_pos (by omega)]
    simp), ?_⟩
  have g : Gr (lawVol L p) os H os (upd H3 L.l (.lst ((lefts.map V.int).set j (.int x)))) := Gr.of (((f1.trans f2).trans f3).trans fw)
  exact q os σ _ (st3.on fw j4) D (ed.on g)
/-- at = state["at"]; state["at"] = at + 1 -/
theorem sv_zAt (ok : L.Ok p) (hu : X.A.units + 1 < cLine) (n0 na : Nat) {x0 xa : Str} {j1 j2 j3 : Nat} (h0 : δ[n0]? = some (.va L.sD)) (ha : na < δ.length) (h0a : n0 ≠ na) (hb : b % (10000000000000 : Nat) + 1 < (10000000000000 : Nat)) (k : ∀ k : Nat, k < (10000000000000 : Nat) → SV (L.C X p H0) (b + 1) (δ.set na (.va (.int (k : Int)))) rest F) (hN : X.N.Nodup)
    (hx0 : X.N[n0]? = some x0 := by rfl) (hxa : X.N[na]? = some xa := by rfl) (hv0 : Vis X.env.scope x0 := by first | exact Or.inl rfl | exact Or.inr (Or.inl rfl) | exact Or.inr (Or.inr rfl)) (hva : Vis X.env.scope xa := by first | exact Or.inl rfl | exact Or.inr (Or.inl rfl) | exact Or.inr (Or.inr rfl))
    (hl : Loc X.env.scope xa := by first | exact Or.inl rfl | exact Or.inr rfl) (hf : X.fn xa = true ∨ X.env.scope.names.lookup xa = some .local := by first | exact .inl rfl | exact .inr rfl)
    (hd0 : (x0 == ("__debug__" : Str)) = false := by decide) (hcd0 : (x0 == ("__classdict__" : Str)) = false := by decide) (hda : (xa == ("__debug__" : Str)) = false := by decide) (hcda : (xa == ("__classdict__" : Str)) = false := by decide)
    (hs1 : swapsWith (.Subscript (.Name x0 p1) (.Constant (.str "at") j1 p2) p3) (some (.Name xa p0)) pos.line X.env = pure false := by rfl)
    (hs2 : swapsWith (.BinOp (.Name xa p6) .Add (.Constant (.int 1) j3 p7) p8) (some (.Subscript (.Name x0 p4) (.Constant (.str "at") j2 p5) pos')) p9.line X.env = pure false := by rfl) :
    SV (L.C X p H0) b δ (.Assign [.Name xa p0] (.Subscript (.Name x0 p1) (.Constant (.str "at") j1 p2) p3) pos :: .Assign [.Subscript (.Name x0 p4) (.Constant (.str "at") j2 p5) pos'] (.BinOp (.Name xa p6) .Add (.Constant (.int 1) j3 p7) p8) p9 :: rest) F := by
  intro os σ H st D ed
  refine WSs.of (pss_cons (ps_set hN hxa hl (pe_dget hu (pe_var hx0 hv0 hd0 hcd0) pe_str (by intro _ _; rfl)) hs1 hf) (pss_cons (ps_dput hu (pe_var hx0 hv0 hd0 hcd0) pe_str (pe_op op_add (pe_var hxa hva hda hcda) pe_int) hs2) pssW)) ?_
  obtain ⟨o1, _, sub, sl⟩ := st.sl
  obtain ⟨w0, o2, e0, a0, _⟩ := sl.at h0
  cases a0 with | va r0 => ?_
  obtain rfl := rp_obj r0
  obtain ⟨lefts, s8⟩ := st.j
  have hkk : b % (10000000000000 : Nat) < (10000000000000 : Nat) := Nat.mod_lt _ (by decide)
  have e1 : (b + 1) % (10000000000000 : Nat) = b % (10000000000000 : Nat) + 1 := by omega
  have e2 : (b + 1) / (10000000000000 : Nat) = b / (10000000000000 : Nat) := by omega
  generalize hk : b % (10000000000000 : Nat) = kk at s8 hb hkk e1
  refine ⟨_, e0, L.s, .int (kk : Int), rfl, .inl ⟨_, .inr "at", .inl s8.s, rfl, rfl⟩, ?_⟩
  obtain ⟨os1, st1, g1⟩ := st.put (i := na) (b1 := b) (r := .va (.int (kk : Int))) Fr.refl st.j (.va (.int _)) rfl
  have hna : na < σ.length := by rw [sl.len]; exact ha
  refine ⟨.int (kk : Int), by rw [List.getElem?_set_self hna], (kk : Int), 1, rfl, rfl, ?_⟩
  refine ⟨.ref L.s, by rw [List.getElem?_set_ne (Ne.symm h0a)]; exact e0, L.s, _, rfl, DPut.k (k := .inr "at") s8.s (show 4 < sizeLine by decide), ?_⟩
  have ep : putK (stKV L kk) (.inr "at") (.int ((kk : Int) + 1)) = stKV L (kk + 1) := rfl
  rw [ep]
  have hS : (lawVol L p).S L.s := .inl rfl
  have fw : Fr (lawVol L p).S H (upd H L.s (.dK (stKV L (kk + 1)))) := Fr.putL hS s8.s .k
  have ne : ∀ {a : Addr} {u : HO}, a ≠ L.s → H a = some u → upd H L.s (.dK (stKV L (kk + 1))) a = some u := fun ha e => by rw [upd_ne ha]; exact e
  have j4 : (lawVol L p).J (b + 1) (upd H L.s (.dK (stKV L (kk + 1)))) := by
    refine ⟨lefts, by rw [e1]; exact upd_same, ne (Ne.symm ok.sc) s8.c, ne (Ne.symm ok.sl) s8.l, s8.len, s8.pos, ?_, tab_upd s8.tab ok.sT s8.s (fun φ z => nomatch z), tabs_upd s8.tabs (fun t ht => (ok.tt t ht).1) s8.s (fun φ z => nomatch z)⟩
    rw [e2]
    have hs := s8.sp
    cases p with
    | none => exact hs
    | some p =>
      obtain ⟨xs, e2, r⟩ := hs
      exact ⟨xs, ne (ok.pp p rfl).1 e2, r⟩
  exact k kk hkk os1 _ _ (st1.on fw j4) D (ed.on (g1.trans (Gr.of fw)))
end
end PD
set_option Elab.async false
set_option linter.all false
set_option maxRecDepth 100000
set_option maxHeartbeats 4000000
namespace PD
open PySem PySem.Spec PyProof.Rows L2
section
variable {C : Cn} {b : Nat} {δ : List Sl} {P : Nat → Res → Prop} {pos p0 : Pos} {e : Expr}
/-- int(i) -/
theorem ev_intI (B : Blt C.X) (h : EV C b δ e (fun b1 r => ∃ i : Int, r = .va (.int i) ∧ P b1 (.va (.int i)))) (hg : Gl C.X "int" := by rfl)
    (hs : starEach [e] C.X.env = (false, eval e C.X.env) :: starEach [] C.X.env := by rfl) (hpl : (backTo pos (starEach [] C.X.env)).any (·.1) = false := by rfl) : EV C b δ (.Call (.Name "int" p0) [e] [] pos) P := by
  intro os σ H st Q q
  refine WE.of (pe_callTy call_int1 hg B.int (by decide +kernel) (pa_cons peW pa_nil hs) (by decide) (by decide) hs hpl) ?_
  refine h os σ H st _ fun v H1 b1 r f1 j1 rv hr => ?_
  obtain ⟨i, rfl, hq⟩ := hr
  cases rv with | va rv => ?_
  cases rv
  exact .inl ⟨i, rfl, q _ H1 b1 _ f1 j1 (.va (.int _)) hq⟩
end
end PD
namespace G
open PySem PySem.Spec PyProof.Rows L2 PD
section
variable {P : Program} {w : World} {K : PySem.W.Frag} {mg : Str → Option Value} {base : Heap} {Z : Vol} {f : Addr} {fd : FuncData}
/-! ### _law_mixed, _law_draw -/
def mixI (c k : Int) : Int := (c % 2147483647 * (48271 + 2 * k * k) + 69621 * k + 11) % 2147483647 * 69621 % 2147483629
def gMix : List D → Option Res
  | [.int c, .int k] => if -1000000000000000000 < k ∧ k < 1000000000000000000 then some (.va (.int (mixI c k))) else none
  | _ => none
theorem gMix_out : ∀ (ds : List D) (r : Res), gMix ds = some r → r.out = true := by
  intro ds r h
  unfold gMix at h
  split at h
  · split at h
    · cases h; rfl
    · cases h
  · cases h
theorem gMix_of {c k : Int} (h : -1000000000000000000 < k ∧ k < 1000000000000000000) : gMix [.int c, .int k] = some (.va (.int (mixI c k))) := if_pos h
abbrev DMix (P : Program) (w : World) (K : PySem.W.Frag) (mg : Str → Option Value) (base : Heap) (Z : Vol) := Df P w K mg base "_law_mixed" 1 ["cell", "k"] (spP Z K 2 gMix)
abbrev sMix : Stmt := st__law_mixed
theorem ok_mix (F : Fun K "_law_mixed" "_law_mixed" sMix f fd) (T : Cst mg) : FnOk P w K mg base CX0 1 f fd ["cell", "k"] (spP Z K 2 gMix) := by
  have sc : FnScope ["cell", "k"] ["cell", "k"] (defScope sMix) := ⟨rfl, rfl, rfl, by decide +kernel, rfl, by decide +kernel, by decide +kernel⟩
  refine fn_pure F sc rfl gMix_out fun cdv A outer s H E b ds r hr hl hg => ?_
  have h : ∃ c k, ds = [.int c, .int k] ∧ (-1000000000000000000 < k ∧ k < 1000000000000000000) ∧ r = .va (.int (mixI c k)) := by
    unfold gMix at hg
    split at hg
    · split at hg
      · rename_i h
        cases hg; exact ⟨_, _, rfl, h, rfl⟩
      · cases hg
    · cases hg
  obtain ⟨c, k, rfl, hk, rfl⟩ := h
  have b0 := T.blt (cxOf CX0 P w K mg base ["cell", "k"] "_law_mixed" (defScope sMix) f cdv A outer s H E).nox rfl
  refine sv_set 0 (ev_mod (ev_intI b0 (ev_var 0 rfl ⟨c, rfl, ev_int ⟨_, _, rfl, rfl, by decide, _, rfl, ?_⟩⟩))) sc.nd
  have hc1 := Int.emod_nonneg c (show (2147483647 : Int) ≠ 0 by decide)
  have hc2 := Int.emod_lt_of_pos c (show (0 : Int) < 2147483647 by decide)
  have h64 : ∀ x : Int, 0 ≤ x → x < 2147483647 → -(2 ^ 64) < x ∧ x < 2 ^ 64 := fun x h1 h2 => ⟨by omega, by omega⟩
  have hk64 : -(2 ^ 64) < k ∧ k < 2 ^ 64 := ⟨by omega, by omega⟩
  refine sv_ret (ev_mod (ev_mul (ev_mod (ev_add (ev_add (ev_mul (ev_var 0 rfl (ev_add (ev_int (ev_mul (ev_mul (ev_int (ev_var 1 rfl ⟨2, k, rfl, rfl, .inr hk64, ?_⟩)))))))))))))
  refine ev_var 1 rfl ⟨2 * k, k, rfl, rfl, .inr hk64, 48271, 2 * k * k, rfl, rfl, c % 2147483647, _, rfl, rfl, .inl (h64 _ hc1 hc2), ?_⟩
  refine ev_mul (ev_int (ev_var 1 rfl ⟨69621, k, rfl, rfl, .inr hk64, _, _, rfl, rfl, ev_int ⟨_, 11, rfl, rfl, ev_int ⟨_, 2147483647, rfl, rfl, by decide, ev_int ⟨_, 69621, rfl, rfl, .inr ⟨by decide, by decide⟩, ev_int ⟨_, 2147483629, rfl, rfl, by decide, rfl, rfl, rfl⟩⟩⟩⟩⟩))
/-- a draw: L the law's state -/
def preDraw (L : LC) (b : Nat) (as : List Ar) : Prop := ∃ m : Nat, 1 ≤ m ∧ m ≤ 1000 ∧ b % (10000000000000 : Nat) ≤ 1000000000000 ∧ as = [.va L.sD, .va (.int (m : Int))]
def postDraw (L : LC) (b : Nat) (as : List Ar) (b' : Nat) (r : Res) : Prop := ∃ m x : Nat, as = [.va L.sD, .va (.int (m : Int))] ∧ x < m ∧ r = .va (.int (x : Int)) ∧ b' = b + 1
abbrev DDraw (P : Program) (w : World) (K : PySem.W.Frag) (mg : Str → Option Value) (base : Heap) (L : LC) (p : Option Addr) := Df P w K mg base "_law_draw" 2 ["state", "many"] (spD (lawVol L p) K 2 (preDraw L) (postDraw L))
abbrev sDraw : Stmt := st__law_draw
theorem ok_draw {L : LC} {p : Option Addr} (F : Fun K "_law_draw" "_law_draw" sDraw f fd) (T : Cst mg) (ok : L.Ok p) (D1 : DMix P w K mg base (lawVol L p)) : FnOk P w K mg base CX0 2 f fd ["state", "many"] (spD (lawVol L p) K 2 (preDraw L) (postDraw L)) := by
  have sc : FnScope ["state", "many", "at", "place", "left", "number"] ["state", "many"] (defScope sDraw) := ⟨rfl, rfl, rfl, by decide +kernel, rfl, by decide +kernel, by decide +kernel⟩
  refine fn_body F sc rfl fun cdv A outer s H E b as hr hl hp => ?_
  obtain ⟨m, hm1, hm2, hb, rfl⟩ := hp
  have b0 := T.blt (cxOf CX0 P w K mg base ["state", "many", "at", "place", "left", "number"] "_law_draw" (defScope sDraw) f cdv A outer s H E).nox rfl
  have hu := hu_of hr
  have hlen := ok.few
  have hone : 0 < L.cells.length := List.length_pos_iff.mpr ok.one
  have fin : ∀ (b' : Nat) (z : Int), b' = b + 1 → (retF (postDraw L b [.va L.sD, .va (.int (m : Int))])).R b' (.va (.int (z % (m : Int)))) := fun b' z e => by
    have h1 := Int.emod_nonneg z (show (m : Int) ≠ 0 by omega)
    have h2 := Int.emod_lt_of_pos z (show (0 : Int) < (m : Int) by omega)
    exact ⟨rfl, m, (z % (m : Int)).toNat, rfl, by omega, by rw [Int.toNat_of_nonneg h1], e⟩
  refine sv_zAt ok hu 0 2 rfl (show 2 < 6 by decide) (by decide) (by omega) (fun k hk => ?_) sc.nd
  refine sv_set 3 (ev_mod (ev_intI b0 (ev_var 2 rfl ⟨(k : Int), rfl, ev_zLen b0 (ev_zCells hu (ev_var 0 rfl (ev_str ⟨rfl, .inl ⟨rfl, rfl, _, _, rfl, rfl, by omega, _, rfl, ?_⟩⟩)))⟩))) sc.nd
  have hj : (k : Int) % (L.cells.length : Int) = ((k % L.cells.length : Nat) : Int) := by omega
  have hj2 : k % L.cells.length < L.cells.length := Nat.mod_lt _ hone
  rw [hj]
  generalize k % L.cells.length = j at hj2
  refine sv_set 4 (ev_zIx (ev_zCells hu (ev_var 0 rfl (ev_str ⟨rfl, .inr ⟨rfl, ev_var 3 rfl ⟨j, rfl, hj2, .inr ⟨rfl, fun x hx => ⟨_, rfl, ?_⟩⟩⟩⟩⟩)))) sc.nd
  refine sv_if (et_ord op_gt (nomark _) (ev_var 4 rfl (ev_int ⟨_, _, rfl, rfl, ?_⟩)))
  cases e : decide ((0 : Int) < x) with
  | true =>
    refine sv_zLeft ok (ev_fdiv (ev_var 4 rfl (ev_var 1 rfl ⟨x, (m : Int), rfl, rfl, ⟨by omega, by omega⟩, ?_⟩)))
    refine ev_zCells hu (ev_var 0 rfl (ev_str ⟨rfl, .inr ⟨rfl, ev_var 3 rfl ⟨x / (m : Int), j, rfl, Int.ediv_nonneg hx (by omega), rfl, rfl, hj2, ?_⟩⟩⟩))
    exact sv_ret (ev_mod (ev_intI b0 (ev_var 4 rfl ⟨x, rfl, ev_var 1 rfl ⟨_, _, rfl, rfl, by omega, fin _ _ rfl⟩⟩)))
  | false =>
    refine sv_nil ?_
    refine sv_set 5 (ev_callP D1 hr (eva_cons (ev_callP D1 hr (eva_cons (ev_zIx (ev_zCells hu (ev_var 0 rfl (ev_str ⟨rfl, .inl ⟨rfl, ev_var 3 rfl ⟨j, rfl, hj2, .inl ⟨rfl, fun c => ?_⟩⟩⟩⟩)))))))) sc.nd
    refine eva_cons (ev_var 2 rfl (eva_nil ⟨_, _, rfl, rfl, gMix_of ⟨by omega, by omega⟩, ?_⟩))
    refine eva_cons (ev_add (ev_int (ev_var 2 rfl ⟨_, _, rfl, rfl, eva_nil ⟨_, _, rfl, rfl, gMix_of ⟨by omega, by omega⟩, _, rfl, ?_⟩⟩)))
    refine sv_ret (ev_mod (ev_fdiv (ev_intI b0 (ev_add (ev_mul (ev_var 5 rfl (ev_int ⟨_, _, rfl, rfl, .inr ⟨by decide, by decide⟩, ?_⟩)))))))
    refine ev_callP D1 hr (eva_cons (ev_var 5 rfl (eva_cons (ev_add (ev_int (ev_var 2 rfl ⟨_, _, rfl, rfl, eva_nil ⟨_, _, rfl, rfl, gMix_of ⟨by omega, by omega⟩, ?_⟩⟩))))))
    exact ⟨_, _, rfl, rfl, _, rfl, ev_int ⟨_, _, rfl, rfl, ⟨by decide, by decide⟩, ev_var 1 rfl ⟨_, _, rfl, rfl, by omega, fin _ _ rfl⟩⟩⟩
end
end G
set_option Elab.async false
set_option linter.all false
set_option maxRecDepth 100000
set_option maxHeartbeats 4000000
namespace G
open PySem PySem.Spec PyProof.Rows L2 PD
/-- calling a draw -/
theorem ev_draw {X : Cx} {L : LC} {p : Option Addr} {H0 : Hp} {b : Nat} {δ : List Sl} {P : Nat → Res → Prop} {pos p0 : Pos} {e1 e2 : Expr} (D : DDraw X.prog X.w X.K X.mg X.base L p) (hr : Room 2 X.A)
    (h : EV (L.C X p H0) b δ e1 (fun b1 r1 => EV (L.C X p H0) b1 δ e2 fun b2 r2 => ∃ m : Nat, r1 = .va L.sD ∧ r2 = .va (.int (m : Int)) ∧ 1 ≤ m ∧ m ≤ 1000 ∧ b2 % (10000000000000 : Nat) ≤ 1000000000000 ∧ ∀ x : Nat, x < m → P (b2 + 1) (.va (.int (x : Int)))))
    (hg : Gl X "_law_draw" := by rfl) (he : starEach [e1, e2] X.env = (false, eval e1 X.env) :: starEach [e2] X.env := by rfl) (hpl : (backTo pos (starEach [e2] X.env)).any (·.1) = false := by rfl) (hs2 : starEach [e2] X.env = (false, eval e2 X.env) :: starEach [] X.env := by rfl) :
    EV (L.C X p H0) b δ (.Call (.Name "_law_draw" p0) [e1, e2] [] pos) P := by
  refine ev_call D hr (eva_cons (h.imp fun b1 r1 h2 => eva_cons (h2.imp fun b2 r2 h3 => eva_nil ?_) hs2) he) hg (by decide) he hpl
  obtain ⟨m, rfl, rfl, h1, h2, h3, hq⟩ := h3
  refine ⟨rfl, ⟨m, h1, h2, h3, rfl⟩, fun b' r _ po => ?_⟩
  obtain ⟨m', x, e, hx, rfl, rfl⟩ := po
  have em : m = m' := by
    have e' : ([Ar.va L.sD, Ar.va (.int (m : Int))] : List Ar) = [Ar.va L.sD, Ar.va (.int (m' : Int))] := e
    injection e' with _ e'
    injection e' with e' _
    injection e' with e'
    injection e' with e'
    omega
  subst em
  exact hq x hx
def pfxs : List Str := ["", "p", "q", "p", "", "r", "pp"]
def lcls : List Str := ["a", "b", "a", "c"]
section
variable {P : Program} {w : World} {K : PySem.W.Frag} {mg : Str → Option Value} {base : Heap} {Z : Vol} {f : Addr} {fd : FuncData}
/-! ### _law_prefix, _law_name -/
/-- a def of the state alone: n draws -/
abbrev preS (L : LC) (b : Nat) (as : List Ar) : Prop := b % (10000000000000 : Nat) ≤ 999999999000 ∧ as = [.va L.sD]
abbrev DPfx (P : Program) (w : World) (K : PySem.W.Frag) (mg : Str → Option Value) (base : Heap) (L : LC) (p : Option Addr) := Df P w K mg base "_law_prefix" 3 ["state"] (spD (lawVol L p) K 1 (preS L) fun b _ b' r => ∃ x ∈ pfxs, r = .va (.str x) ∧ b' = b + 1)
abbrev sPfx : Stmt := st__law_prefix
theorem at_texts {xs : List Str} {i : Nat} (h : i < xs.length) : atI (xs.map D.str) (i : Int) = some (.str xs[i]) := atI_nat (by rw [List.getElem?_map, List.getElem?_eq_getElem h]; rfl)
theorem ok_pfx {L : LC} {p : Option Addr} (F : Fun K "_law_prefix" "_law_prefix" sPfx f fd) (T : Cst mg) (D1 : DDraw P w K mg base L p) : FnOk P w K mg base CX0 3 f fd ["state"] (spD (lawVol L p) K 1 (preS L) fun b _ b' r => ∃ x ∈ pfxs, r = .va (.str x) ∧ b' = b + 1) := by
  have sc : FnScope ["state"] ["state"] (defScope sPfx) := ⟨rfl, rfl, rfl, by decide +kernel, rfl, by decide +kernel, by decide +kernel⟩
  refine fn_body F sc rfl fun cdv A outer s H E b as hr hl hp => ?_
  obtain ⟨hb, rfl⟩ := hp
  refine sv_ret (ev_ix (ev_lst (eva_cons (ev_str (eva_cons (ev_str (eva_cons (ev_str (eva_cons (ev_str (eva_cons (ev_str (eva_cons (ev_str (eva_cons (ev_str (eva_nil ⟨pfxs.map D.str, rfl, by decide, ?_⟩)))))))))))))))))
  exact ev_draw D1 hr (ev_var 0 rfl (ev_int ⟨7, rfl, rfl, by decide, by decide, by omega, fun x hx => ⟨pfxs.map D.str, _, _, .inr rfl, rfl, at_texts (xs := pfxs) hx, rfl, _, List.getElem_mem hx, rfl, rfl⟩⟩))
abbrev DNam (P : Program) (w : World) (K : PySem.W.Frag) (mg : Str → Option Value) (base : Heap) (L : LC) (p : Option Addr) := Df P w K mg base "_law_name" 4 ["state"] (spD (lawVol L p) K 1 (preS L) fun b _ b' r => ∃ x ∈ pfxs, ∃ y ∈ lcls, r = .va (nmD x y) ∧ b' = b + 2)
abbrev sNam : Stmt := st__law_name
theorem ok_nam {L : LC} {p : Option Addr} (F : Fun K "_law_name" "_law_name" sNam f fd) (T : Cst mg) (D1 : DDraw P w K mg base L p) (D2 : DPfx P w K mg base L p) : FnOk P w K mg base CX0 4 f fd ["state"] (spD (lawVol L p) K 1 (preS L) fun b _ b' r => ∃ x ∈ pfxs, ∃ y ∈ lcls, r = .va (nmD x y) ∧ b' = b + 2) := by
  have sc : FnScope ["state"] ["state"] (defScope sNam) := ⟨rfl, rfl, rfl, by decide +kernel, rfl, by decide +kernel, by decide +kernel⟩
  refine fn_body F sc rfl fun cdv A outer s H E b as hr hl hp => ?_
  obtain ⟨hb, rfl⟩ := hp
  refine sv_ret (ev_tup (eva_cons (ev_call D2 hr (eva_cons (ev_var 0 rfl (eva_nil ⟨rfl, ⟨hb, rfl⟩, fun b1 r1 _ po => ?_⟩))))))
  obtain ⟨x, hx, rfl, rfl⟩ := po
  refine eva_cons (ev_ix (ev_lst (eva_cons (ev_str (eva_cons (ev_str (eva_cons (ev_str (eva_cons (ev_str (eva_nil ⟨lcls.map D.str, rfl, by decide, ?_⟩)))))))))))
  exact ev_draw D1 (hr.mono (by decide)) (ev_var 0 rfl (ev_int ⟨4, rfl, rfl, by decide, by decide, by omega, fun y hy => ⟨lcls.map D.str, _, _, .inr rfl, rfl, at_texts (xs := lcls) hy, eva_nil ⟨_, rfl, by simp, rfl, x, hx, _, List.getElem_mem hy, rfl, rfl⟩⟩⟩))
end
end G
set_option Elab.async false
set_option linter.all false
set_option maxRecDepth 100000
set_option maxHeartbeats 4000000
namespace G
open PySem PySem.Spec PyProof.Rows L2 PD
/-! ### dicts of typed things -/
section
variable {α β : Type} [DecidableEq α]
def valG (m : List (α × β)) (p : α) : Option β := (m.find? fun q => decide (q.1 = p)).map (·.2)
def putG (m : List (α × β)) (p : α) (a : β) : List (α × β) := if (m.any fun q => decide (q.1 = p)) = true then m.map (fun q => if q.1 = p then (q.1, a) else q) else m ++ [(p, a)]
theorem putG_data {κ : Type} [DecidableEq κ] (f : α → κ) (inj : ∀ x y, f x = f y → x = y) (g : β → D) (m : List (α × β)) (p : α) (a : β) : putD (m.map fun q => (f q.1, g q.2)) (f p) (g a) = (putG m p a).map fun q => (f q.1, g q.2) := by
  unfold putD putG
  have dec : ∀ x, decide (f x = f p) = decide (x = p) := fun x => decide_eq_decide.mpr ⟨inj x p, fun z => by rw [z]⟩
  have e : ((m.map fun q => (f q.1, g q.2)).any fun kv => decide (kv.1 = f p)) = (m.any fun q => decide (q.1 = p)) := by
    rw [List.any_map]
    congr 1
    funext q
    exact dec q.1
  rw [e]
  cases (m.any fun q => decide (q.1 = p)) with
  | false => simp
  | true =>
    simp only [if_true]
    rw [List.map_map, List.map_map]
    refine List.map_congr_left fun q _ => ?_
    by_cases h : q.1 = p
    · simp [Function.comp, h]
    · have h2 : ¬ f q.1 = f p := fun z => h (inj _ _ z)
      simp [Function.comp, h, h2]
theorem valG_data {κ : Type} [DecidableEq κ] (f : α → κ) (inj : ∀ x y, f x = f y → x = y) (g : β → D) (m : List (α × β)) (p : α) : valD (m.map fun q => (f q.1, g q.2)) (f p) = (valG m p).map g := by
  have dec : ∀ x, decide (f x = f p) = decide (x = p) := fun x => decide_eq_decide.mpr ⟨inj x p, fun z => by rw [z]⟩
  unfold valD valG
  induction m with
  | nil => rfl
  | cons q m ih =>
    rw [List.map_cons, List.find?_cons, List.find?_cons]
    simp only [dec]
    cases decide (q.1 = p) with
    | true => rfl
    | false => exact ih
theorem putG_len (m : List (α × β)) (p : α) (a : β) : (putG m p a).length ≤ m.length + 1 := by
  unfold putG
  split
  · rw [List.length_map]; omega
  · rw [List.length_append]; exact Nat.le_refl _
theorem putG_keys (m : List (α × β)) (p : α) (a : β) (h : (m.map (·.1)).Nodup) : ((putG m p a).map (·.1)).Nodup := by
  unfold putG
  split
  · rw [List.map_map]
    have : m.map ((fun q : α × β => q.1) ∘ fun q => if q.1 = p then (q.1, a) else q) = m.map (·.1) := List.map_congr_left fun q _ => by
      simp only [Function.comp]
      split <;> rfl
    rw [this]
    exact h
  · rename_i hn
    rw [List.map_append, List.nodup_append]
    refine ⟨h, by simp, fun x hx y hy e => hn ?_⟩
    simp only [List.map_cons, List.map_nil, List.mem_singleton] at hy
    subst e
    obtain ⟨q, hq, e2⟩ := List.mem_map.mp hx
    exact List.any_eq_true.mpr ⟨q, hq, decide_eq_true (e2.trans hy)⟩
theorem putG_all {Q : α × β → Prop} {m : List (α × β)} {p : α} {a : β} (h : ∀ q ∈ m, Q q) (hp : Q (p, a)) : ∀ q ∈ putG m p a, Q q := by
  intro q hq
  unfold putG at hq
  split at hq
  · obtain ⟨r, hr, rfl⟩ := List.mem_map.mp hq
    split
    · rename_i e
      rw [e]; exact hp
    · exact h r hr
  · rcases List.mem_append.mp hq with hq | hq
    · exact h q hq
    · rw [List.mem_singleton.mp hq]; exact hp
theorem valG_mem {m : List (α × β)} (nd : (m.map (·.1)).Nodup) {q : α × β} (h : q ∈ m) : valG m q.1 = some q.2 := by
  unfold valG
  induction m with
  | nil => cases h
  | cons r m ih =>
    rw [List.map_cons, List.nodup_cons] at nd
    rw [List.find?_cons]
    rcases List.mem_cons.mp h with rfl | h
    · simp
    · have hne : r.1 ≠ q.1 := fun z => nd.1 (by rw [z]; exact List.mem_map.mpr ⟨q, h, rfl⟩)
      rw [decide_eq_false hne]
      exact ih nd.2 h
end
def adrs : List Str := ["u", "v", "u", "w.x", "", "u:1"]
/-- declarations as the law makes them -/
structure WD (m : List (Str × Str)) : Prop where
  nd : (m.map (·.1)).Nodup
  all : ∀ q ∈ m, q.1 ∈ pfxs ∧ q.2 ∈ adrs
section
variable {P : Program} {w : World} {K : PySem.W.Frag} {mg : Str → Option Value} {base : Heap} {Z : Vol} {f : Addr} {fd : FuncData}
/-! ### _law_declarations -/
abbrev preM (L : LC) (b : Nat) (as : List Ar) : Prop := ∃ m : Nat, m ≤ 100 ∧ b % (10000000000000 : Nat) ≤ 999999998000 ∧ as = [.va L.sD, .va (.int (m : Int))]
abbrev postDc (L : LC) (b : Nat) (as : List Ar) (b' : Nat) (r : Res) : Prop := ∃ (m : Nat) (ds : List (Str × Str)), as = [.va L.sD, .va (.int (m : Int))] ∧ WD ds ∧ ds.length ≤ m ∧ r = .va (.pt (ds.map dclD)) ∧ b ≤ b' ∧ b' ≤ b + 1 + 2 * m
abbrev DDc (P : Program) (w : World) (K : PySem.W.Frag) (mg : Str → Option Value) (base : Heap) (L : LC) (p : Option Addr) := Df P w K mg base "_law_declarations" 4 ["state", "most"] (spD (lawVol L p) K 2 (preM L) (postDc L))
abbrev sDc : Stmt := st__law_declarations
theorem kS_inj (x y : Str) (h : kS x = kS y) : x = y := Sum.inr.inj h
theorem ok_dc {L : LC} {p : Option Addr} (F : Fun K "_law_declarations" "_law_declarations" sDc f fd) (T : Cst mg) (kc : KC K) (D1 : DDraw P w K mg base L p) (D2 : DPfx P w K mg base L p) : FnOk P w K mg base CX0 4 f fd ["state", "most"] (spD (lawVol L p) K 2 (preM L) (postDc L)) := by
  have sc : FnScope ["state", "most", "found", "k", "prefix"] ["state", "most"] (defScope sDc) := ⟨rfl, rfl, rfl, by decide +kernel, rfl, by decide +kernel, by decide +kernel⟩
  refine fn_body F sc rfl fun cdv A outer s H E b as hr hl hp => ?_
  obtain ⟨m, hm, hb, rfl⟩ := hp
  have b0 := T.blt (cxOf CX0 P w K mg base ["state", "most", "found", "k", "prefix"] "_law_declarations" (defScope sDc) f cdv A outer s H E).nox rfl
  refine sv_set 2 (ev_dnewK ⟨_, rfl, ?_⟩) sc.nd
  refine sv_for (.nm 3) rfl PassesOwn.never (pg_name (i := 3) sc.nd rfl (Or.inl rfl)) (ei_range b0 (ev_draw D1 (hr.mono (by decide)) (ev_var 0 rfl (ev_add (ev_var 1 rfl (ev_int ⟨_, _, rfl, rfl, m + 1, rfl, rfl, by omega, by omega, by omega, fun n hn => ⟨n, rfl, by omega, ?_⟩⟩))))))
  refine ⟨fun pre b2 δ2 => (b ≤ b2 ∧ b2 ≤ b + 1 + 2 * pre.length) ∧ ∃ ds s3, δ2 = [.va L.sD, .va (.int (m : Int)), .od (.k (ds.map fun q => (kS q.1, D.str q.2))), s3, .un] ∧ WD ds ∧ ds.length ≤ pre.length, ⟨⟨Nat.le_succ _, Nat.le_refl _⟩, [], _, rfl, ⟨List.nodup_nil, fun q hq => (nomatch hq)⟩, Nat.le_refl _⟩, ?_, ?_⟩
  · rintro pre d post b2 δ2 e ⟨⟨hb1, hb2⟩, ds, s3, rfl, wd, hlen⟩
    have hpl : pre.length + 1 ≤ n := by
      have := congrArg List.length e
      rw [List.length_map, List.length_range, List.length_append, List.length_cons] at this
      omega
    refine ⟨_, rfl, ?_⟩
    refine sv_dput kc (hu_of hr) 2 (ev_ix (ev_lst (eva_cons (ev_str (eva_cons (ev_str (eva_cons (ev_str (eva_cons (ev_str (eva_cons (ev_str (eva_cons (ev_str (eva_nil ⟨adrs.map D.str, rfl, by decide, ?_⟩)))))))))))))))
    refine ev_draw D1 (hr.mono (by decide)) (ev_var 0 rfl (ev_int ⟨6, rfl, rfl, by decide, by decide, by omega, fun x hx => ⟨adrs.map D.str, _, _, .inr rfl, rfl, at_texts (xs := adrs) hx, ?_⟩⟩))
    refine ev_call D2 hr (eva_cons (ev_var 0 rfl (eva_nil ⟨rfl, ⟨by omega, rfl⟩, fun b4 r4 _ po => ?_⟩)))
    obtain ⟨y, hy, rfl, rfl⟩ := po
    refine ⟨_, _, rfl, rfl, .inl ⟨_, kS y, rfl, rfl, by rw [List.length_map]; omega, sv_nil ⟨?_, putG ds y adrs[x], .va d, ?_, ⟨putG_keys _ _ _ wd.nd, putG_all wd.all ⟨hy, List.getElem_mem hx⟩⟩, ?_⟩⟩⟩
    · rw [List.length_append, List.length_cons, List.length_nil]; exact ⟨by omega, by omega⟩
    · have := putG_data kS kS_inj D.str ds y adrs[x]
      show [_, _, Sl.od (.k (putD (ds.map fun q => (kS q.1, D.str q.2)) (kS y) (D.str adrs[x]))), _, _] = _
      rw [this]
    · have := putG_len ds y adrs[x]
      rw [List.length_append, List.length_cons, List.length_nil]; omega
  · rintro b2 δ2 ⟨⟨hb1, hb2⟩, ds, s3, rfl, wd, hlen⟩
    rw [List.length_map, List.length_range] at hb2 hlen
    refine sv_frzD 2 rfl ?_
    refine sv_ret (ev_tupleP b0 (ev_mapT D.str (fun x y h => by injection h) (.nm 4) [("prefix", 4)] (fun x => dclD (x, (valG ds x).getD "")) rfl sc.nd (blkOk_by (N := ["state", "most", "found", "k", "prefix"]) (sc := defScope sDc) (by decide +kernel)) (fun _ _ _ _ _ => pg_name (i := 4) sc.nd rfl (Or.inl rfl)) (by simp [Pat.slots]) ?_))
    refine eic_keys (ev_var 2 rfl (.inl ⟨ds.map fun q => (kS q.1, D.str q.2), rfl, ds.map (·.1), by rw [List.map_map, List.map_map]; rfl, by rw [List.length_map]; omega, fun x hx => ⟨_, rfl, fun s H Cc cl fp => ?_⟩, (ds.map dclD), .inl ?_, rfl, m, ds, rfl, wd, by omega, rfl, hb1, by omega⟩))
    · obtain ⟨q, hq, rfl⟩ := List.mem_map.mp hx
      refine ev_tup (eva_cons (ev_var 4 rfl (eva_cons (ev_dget kc (hu_of hr) (ev_var 2 rfl (ev_var 4 rfl ⟨_, D.str q.2, rfl, ?_, eva_nil ⟨_, rfl, by simp, rfl, ?_⟩⟩))))))
      · have h1 := valG_data kS kS_inj D.str ds q.1
        rw [valG_mem wd.nd hq] at h1
        rw [show some (D.str q.2) = valD (ds.map fun q => (kS q.1, D.str q.2)) (kS q.1) from h1.symm]
        exact Ask.str
      · rw [valG_mem wd.nd hq]
        rfl
    · show some ((ds.map (·.1)).map fun x => dclD (x, (valG ds x).getD "")) = _
      rw [List.map_map]
      refine congrArg some (List.map_congr_left fun q hq => ?_)
      simp only [Function.comp, valG_mem wd.nd hq]
      rfl
end
end G
set_option Elab.async false
set_option linter.all false
set_option maxRecDepth 100000
set_option maxHeartbeats 4000000
namespace G
open PySem PySem.Spec PyProof.Rows L2 PD
def plns : List Str := ["", "x", "x y", "1"]
def nkey (q : Str × Str) : List Key := [.inr q.1, .inr q.2]
theorem nkey_inj (x y : Str × Str) (h : nkey x = nkey y) : x = y := by
  unfold nkey at h
  injection h with h1 h
  injection h with h2 _
  exact Prod.ext (Sum.inr.inj h1) (Sum.inr.inj h2)
/-- a value as the law makes it -/
def okV : Vl → Prop
  | .s x => x ∈ plns
  | .q p l => p ∈ pfxs ∧ l ∈ lcls
/-- attributes as the law makes them -/
structure WA (as : List ((Str × Str) × Vl)) : Prop where
  nd : (as.map (·.1)).Nodup
  all : ∀ q ∈ as, q.1.1 ∈ pfxs ∧ q.1.2 ∈ lcls ∧ okV q.2
theorem kn_name {q : Str × Str} (h : q.2 ∈ lcls) : Kn (nkey q) := by
  intro z
  unfold nkey at z
  injection z with _ z
  injection z with z _
  have e := Sum.inr.inj z
  rw [e] at h
  revert h
  decide
section
variable {P : Program} {w : World} {K : PySem.W.Frag} {mg : Str → Option Value} {base : Heap} {Z : Vol} {f : Addr} {fd : FuncData}
/-! ### _law_attributes -/
abbrev postAs (L : LC) (b : Nat) (as : List Ar) (b' : Nat) (r : Res) : Prop := ∃ (m : Nat) (ds : List ((Str × Str) × Vl)), as = [.va L.sD, .va (.int (m : Int))] ∧ WA ds ∧ ds.length ≤ m ∧ r = .va (.tup (ds.map atrD)) ∧ b ≤ b' ∧ b' ≤ b + 1 + 5 * m
abbrev DAs (P : Program) (w : World) (K : PySem.W.Frag) (mg : Str → Option Value) (base : Heap) (L : LC) (p : Option Addr) := Df P w K mg base "_law_attributes" 5 ["state", "most"] (spD (lawVol L p) K 2 (preM L) (postAs L))
abbrev sAs : Stmt := st__law_attributes
abbrev asK (as : List ((Str × Str) × Vl)) : List (List Key × D) := as.map fun q => (nkey q.1, q.2.d)
theorem ok_as {L : LC} {p : Option Addr} (F : Fun K "_law_attributes" "_law_attributes" sAs f fd) (T : Cst mg) (kc : KC K) (D1 : DDraw P w K mg base L p) (D2 : DNam P w K mg base L p) : FnOk P w K mg base CX0 5 f fd ["state", "most"] (spD (lawVol L p) K 2 (preM L) (postAs L)) := by
  have sc : FnScope ["state", "most", "found", "k", "quoted", "name"] ["state", "most"] (defScope sAs) := ⟨rfl, rfl, rfl, by decide +kernel, rfl, by decide +kernel, by decide +kernel⟩
  refine fn_body F sc rfl fun cdv A outer s H E b as hr hl hp => ?_
  obtain ⟨m, hm, hb, rfl⟩ := hp
  have b0 := T.blt (cxOf CX0 P w K mg base ["state", "most", "found", "k", "quoted", "name"] "_law_attributes" (defScope sAs) f cdv A outer s H E).nox rfl
  refine sv_set 2 (ev_dnewT ⟨_, rfl, ?_⟩) sc.nd
  refine sv_for (.nm 3) rfl PassesOwn.never (pg_name (i := 3) sc.nd rfl (Or.inl rfl)) (ei_range b0 (ev_draw D1 (hr.mono (by decide)) (ev_var 0 rfl (ev_add (ev_var 1 rfl (ev_int ⟨_, _, rfl, rfl, m + 1, rfl, rfl, by omega, by omega, by omega, fun n hn => ⟨n, rfl, by omega, ?_⟩⟩))))))
  refine ⟨fun pre b2 δ2 => (b ≤ b2 ∧ b2 ≤ b + 1 + 5 * pre.length) ∧ ∃ ds s3 s4, δ2 = [.va L.sD, .va (.int (m : Int)), .od (.t (asK ds)), s3, s4, .un] ∧ WA ds ∧ ds.length ≤ pre.length, ⟨⟨Nat.le_succ _, Nat.le_refl _⟩, [], _, _, rfl, ⟨List.nodup_nil, fun q hq => (nomatch hq)⟩, Nat.le_refl _⟩, ?_, ?_⟩
  · rintro pre d post b2 δ2 e ⟨⟨hb1, hb2⟩, ds, s3, s4, rfl, wd, hlen⟩
    have hpl : pre.length + 1 ≤ n := by
      have := congrArg List.length e
      rw [List.length_map, List.length_range, List.length_append, List.length_cons] at this
      omega
    refine ⟨_, rfl, ?_⟩
    refine sv_set 4 (ev_eq (ev_draw D1 (hr.mono (by decide)) (ev_var 0 rfl (ev_int ⟨3, rfl, rfl, by decide, by decide, by omega, fun z hz => ev_int ⟨_, _, decide ((z : Int) = 0), rfl, rfl, rfl, _, rfl, ?_⟩⟩)))) sc.nd
    -- what is put in
    have fin : ∀ (b3 : Nat) (v : Vl) (y l : Str) (sq : Sl), okV v → y ∈ pfxs → l ∈ lcls → ∀ Fi : PD.Fin, (∀ ds' s3' s4', WA ds' → ds'.length ≤ pre.length + 1 → Fi.N b3 [.va L.sD, .va (.int (m : Int)), .od (.t (asK ds')), s3', s4', .un]) →
        SV (L.C (cxOf CX0 P w K mg base ["state", "most", "found", "k", "quoted", "name"] "_law_attributes" (defScope sAs) f cdv A outer s H E).nox p H) b3 [.va L.sD, .va (.int (m : Int)), .od (.t (putD (asK ds) (nkey (y, l)) v.d)), .va d, sq, .un] [] Fi := fun b3 v y l sq h2 h3 h4 Fi k => by
      have := putG_data nkey nkey_inj Vl.d ds (y, l) v
      unfold asK
      rw [this]
      refine sv_nil (k _ _ _ ⟨putG_keys _ _ _ wd.nd, putG_all (Q := fun q : (Str × Str) × Vl => q.1.1 ∈ pfxs ∧ q.1.2 ∈ lcls ∧ okV q.2) wd.all ⟨h3, h4, h2⟩⟩ ?_)
      have := putG_len ds (y, l) v
      omega
    have nxt : ∀ (b3 : Nat), b2 ≤ b3 → b3 ≤ b2 + 5 → ∀ ds' s3' s4', WA ds' → ds'.length ≤ pre.length + 1 → (b ≤ b3 ∧ b3 ≤ b + 1 + 5 * (pre ++ [d]).length) ∧ ∃ ds s3 s4, [.va L.sD, .va (.int (m : Int)), .od (.t (asK ds')), s3', s4', .un] = [Sl.va L.sD, .va (.int (m : Int)), .od (.t (asK ds)), s3, s4, .un] ∧ WA ds ∧ ds.length ≤ (pre ++ [d]).length := fun b3 h0 h ds' s3' s4' wa hl => by
      rw [List.length_append, List.length_cons, List.length_nil]
      exact ⟨⟨by omega, by omega⟩, ds', s3', s4', rfl, wa, hl⟩
    have hkl : (asK ds).length < 16000000 := by unfold asK; rw [List.length_map]; omega
    refine sv_dput kc (hu_of hr) 2 (ev_if (et_val (ev_var 4 rfl ⟨_, rfl, ?_⟩)))
    generalize decide ((z : Int) = 0) = quoted
    cases quoted with
    | true =>
      refine ev_call D2 hr (eva_cons (ev_var 0 rfl (eva_nil ⟨rfl, ⟨by omega, rfl⟩, fun b4 r4 _ po => ?_⟩)))
      obtain ⟨x, hx, y, hy, rfl, rfl⟩ := po
      refine ev_call D2 hr (eva_cons (ev_var 0 rfl (eva_nil ⟨rfl, ⟨by omega, rfl⟩, fun b5 r5 _ po => ?_⟩)))
      obtain ⟨x', hx', y', hy', rfl, rfl⟩ := po
      exact ⟨_, _, rfl, rfl, .inr ⟨asK ds, nkey (x', y'), rfl, kn_name hy', rfl, hkl, fin _ (.q x y) x' y' _ ⟨hx, hy⟩ hx' hy' _ (nxt _ (by omega) (by omega))⟩⟩
    | false =>
      refine ev_ix (ev_lst (eva_cons (ev_str (eva_cons (ev_str (eva_cons (ev_str (eva_cons (ev_str (eva_nil ⟨plns.map D.str, rfl, by decide, ?_⟩))))))))))
      refine ev_draw D1 (hr.mono (by decide)) (ev_var 0 rfl (ev_int ⟨4, rfl, rfl, by decide, by decide, by omega, fun x hx => ⟨plns.map D.str, _, _, .inr rfl, rfl, at_texts (xs := plns) hx, ?_⟩⟩))
      refine ev_call D2 hr (eva_cons (ev_var 0 rfl (eva_nil ⟨rfl, ⟨by omega, rfl⟩, fun b5 r5 _ po => ?_⟩)))
      obtain ⟨x', hx', y', hy', rfl, rfl⟩ := po
      exact ⟨_, _, rfl, rfl, .inr ⟨asK ds, nkey (x', y'), rfl, kn_name hy', rfl, hkl, fin _ (.s plns[x]) x' y' _ (List.getElem_mem hx) hx' hy' _ (nxt _ (by omega) (by omega))⟩⟩
  · rintro b2 δ2 ⟨⟨hb1, hb2⟩, ds, s3, s4, rfl, wd, hlen⟩
    rw [List.length_map, List.length_range] at hb2 hlen
    refine sv_frzD 2 rfl ?_
    refine sv_ret (ev_tuple b0 (ev_mapT (fun q : Str × Str => nmD q.1 q.2) (fun x y h => Prod.ext (nmD_inj h).1 (nmD_inj h).2) (.nm 5) [("name", 5)] (fun x => atrD (x, (valG ds x).getD (.s ""))) rfl sc.nd (blkOk_by (N := ["state", "most", "found", "k", "quoted", "name"]) (sc := defScope sAs) (by decide +kernel)) (fun _ _ _ _ _ => pg_name (i := 5) sc.nd rfl (Or.inl rfl)) (by simp [Pat.slots]) ?_))
    refine eic_keys (ev_var 2 rfl (.inr ⟨asK ds, rfl, ds.map (·.1), by unfold asK; rw [List.map_map, List.map_map]; rfl, by rw [List.length_map]; omega, fun x hx => ⟨_, rfl, fun s H Cc cl fp => ?_⟩, (ds.map atrD), ?_, rfl, m, ds, rfl, wd, by omega, rfl, hb1, by omega⟩))
    · obtain ⟨q, hq, rfl⟩ := List.mem_map.mp hx
      refine ev_tup (eva_cons (ev_var 5 rfl (eva_cons (ev_dget kc (hu_of hr) (ev_var 2 rfl (ev_var 5 rfl ⟨_, q.2.d, rfl, ?_, eva_nil ⟨_, rfl, by simp, rfl, ?_⟩⟩))))))
      · have h1 := valG_data nkey nkey_inj Vl.d ds q.1
        rw [valG_mem wd.nd hq] at h1
        rw [show some (Vl.d q.2) = valD (asK ds) (nkey q.1) from h1.symm]
        exact Ask.dt (kn_name (wd.all q hq).2.1)
      · rw [valG_mem wd.nd hq]
        rfl
    · show some ((ds.map (·.1)).map fun x => atrD (x, (valG ds x).getD (.s ""))) = _
      rw [List.map_map]
      refine congrArg some (List.map_congr_left fun q hq => ?_)
      simp only [Function.comp, valG_mem wd.nd hq]
      rfl
end
end G
set_option Elab.async false
set_option linter.all false
set_option maxRecDepth 100000
set_option maxHeartbeats 4000000
namespace G
open PySem PD L2
/-! ### elements as the law makes them -/
def txts : List Str := ["t", "some text", "-"]
def Nd.isT : Nd → Bool
  | .s _ => true
  | _ => false
/-- no two texts side by side -/
def noAdj : List Nd → Bool
  | a :: c :: cs => !(a.isT && c.isT) && noAdj (c :: cs)
  | _ => true
theorem noAdj_snoc : ∀ (cs : List Nd) (c : Nd), noAdj cs = true → ((∃ a, cs.getLast? = some a ∧ a.isT = true) → c.isT = false) → noAdj (cs ++ [c]) = true
  | [], _, _, _ => rfl
  | [a], c, _, h => by
    show (!(a.isT && c.isT) && noAdj [c]) = true
    cases ha : a.isT with
    | false => rfl
    | true => rw [h ⟨a, rfl, ha⟩]; rfl
  | a :: d :: cs, c, h0, h => by
    have h0' := Bool.and_eq_true_iff.mp (show (!(a.isT && d.isT) && noAdj (d :: cs)) = true from h0)
    show (!(a.isT && d.isT) && noAdj (d :: cs ++ [c])) = true
    rw [h0'.1, noAdj_snoc (d :: cs) c h0'.2 (fun ⟨x, hx, z⟩ => h ⟨x, by rw [List.getLast?_cons_cons]; exact hx, z⟩)]
    rfl
/-- parts may be compared -/
theorem cm_nm {p l : Str} (h1 : okS p = true) (h2 : okS l = true) : Cm 1 (nmD p l) := cm2 (cm_str h1) (cm_str h2)
theorem dcl_er (q : Str × Str) : (dclD q).er = dclD q := rfl
theorem atr_er (q : (Str × Str) × Vl) : (atrD q).er = atrD q := by
  obtain ⟨n, v⟩ := q
  cases v <;> rfl
theorem nd_er (p l : Str) (ds : List (Str × Str)) (as : List ((Str × Str) × Vl)) (cs : List Nd) : (Nd.el p l ds as cs).d.er = .tup [.str "element", nmD p l, .tup (ds.map dclD), .tup (as.map atrD), .tup (ers (ndsD cs))] := by
  rw [Nd.d]
  show D.tup [.str "element", nmD p l, .tup (ers (ds.map dclD)), .tup (ers (as.map atrD)), .tup (ers (ndsD cs))] = _
  rw [ers_map dclD dclD ds fun q _ => dcl_er q, ers_map atrD atrD as fun q _ => atr_er q]
mutual
theorem cm_nd : ∀ (x : Nd), x.ok = true → Cm (2 * x.dep + 6) x.d.er
  | .s x, h => by rw [Nd.ok] at h; rw [Nd.d]; exact (cm_str h).mono (by omega)
  | .h x, h => by rw [Nd.ok] at h; rw [Nd.d]; exact (cm2 (cm_str okS_hole) (cm_str h)).mono (by omega)
  | .el p l ds as cs, h => by
    have ho := ok_el.mp h
    rw [nd_er, Nd.dep, show 2 * (ndsDep cs + 1) + 6 = (2 * ndsDep cs + 7) + 1 by omega]
    refine cm_tup fun d hd => ?_
    simp only [List.mem_cons, List.not_mem_nil, or_false] at hd
    rcases hd with rfl | rfl | rfl | rfl | rfl
    · exact (cm_str okS_el).mono (by omega)
    · exact (cm_nm ho.p ho.l).mono (by omega)
    · refine (cm_tup (n := 1) fun d hd => ?_).mono (by omega)
      obtain ⟨q, hq, rfl⟩ := List.mem_map.mp hd
      exact cm2 (cm_str (ho.hd q hq).1) (cm_str (ho.hd q hq).2)
    · refine (cm_tup (n := 3) fun d hd => ?_).mono (by omega)
      obtain ⟨q, hq, rfl⟩ := List.mem_map.mp hd
      obtain ⟨h1, h2, h3⟩ := ho.ha q hq
      refine cm2 ((cm_nm h1 h2).mono (by decide)) ?_
      obtain ⟨n, v⟩ := q
      cases v with
      | s x => exact (cm_str h3).mono (by decide)
      | q p' l' => exact (cm_nm (Bool.and_eq_true_iff.mp h3).1 (Bool.and_eq_true_iff.mp h3).2).mono (by decide)
    · exact (cm_tup fun d hd => by
        obtain ⟨e, he, rfl⟩ := ers_mem hd
        exact cm_nds cs ho.hc e he).mono (by omega)
theorem cm_nds : ∀ (cs : List Nd), (∀ c ∈ cs, c.ok = true) → ∀ d ∈ ndsD cs, Cm (2 * ndsDep cs + 6) d.er
  | [], _, d, hd => by rw [ndsD] at hd; cases hd
  | c :: cs, h, d, hd => by
    rw [ndsD] at hd
    rw [ndsDep]
    rcases List.mem_cons.mp hd with rfl | hd
    · have := Nat.le_max_left c.dep (ndsDep cs)
      exact (cm_nd c (h c List.mem_cons_self)).mono (by omega)
    · have := Nat.le_max_right c.dep (ndsDep cs)
      exact (cm_nds cs (fun e he => h e (List.mem_cons_of_mem _ he)) d hd).mono (by omega)
end
end G
set_option Elab.async false
set_option linter.all false
set_option maxRecDepth 100000
set_option maxHeartbeats 4000000
namespace PD
open PySem PySem.Spec PyProof.Rows L2
/-! ### the list of spare strings -/
section
variable {X : Cx} {L : LC} {p : Addr} {H0 : Hp} {b : Nat} {δ : List Sl} {P : Nat → Res → Prop} {Pt : Nat → Bool → Prop} {F : Fin} {o i e e1 e2 e3 e4 value : Expr} {pos pos' p0 p1 p2 : Pos} {rest : List Stmt} {es : List Expr}
def spD' (p : Addr) : D := .obj .list p
theorem dp_strs {K : PySem.W.Frag} {H : Hp} : ∀ xs : List Str, DpAll K H (xs.map V.str) (xs.map PyData.str)
  | [] => .nil
  | x :: xs => .cons (.str x) (dp_strs xs)
/-- spare != [] -/
theorem et_zSpare (oks : L.Ok (some p)) (hu : X.A.units + 64 < cLine) (h : EV (L.C X (some p) H0) b δ e1 (fun b1 r1 => EV (L.C X (some p) H0) b1 δ e2 fun b2 r2 => r1 = .va (spD' p) ∧ r2 = .ow [] ∧ Pt b2 (decide (b2 / (10000000000000 : Nat) ≠ 0)))) : ET (L.C X (some p) H0) b δ (.Compare e1 [.NotEq] [e2] pos) Pt := by
  intro os σ H st Q k
  refine WT.of (pt_cmpR (op_neD hu) peW peW (nomark _)) ?_
  refine h os σ H st _ fun v1 H1 b1 r1 f1 j1 rv1 h2 => ?_
  refine h2 os σ H1 (st.on f1 j1) _ fun v2 H2 b2 r2 f2 j2 rv2 h3 => ?_
  obtain ⟨rfl, rfl, q⟩ := h3
  cases rv1 with | va rv1 => ?_
  obtain rfl := rp_obj rv1
  have j3 := j2
  obtain ⟨lefts, s8⟩ := j2
  obtain ⟨xs, e, hl, hh⟩ := s8.sp
  cases rv2 with
  | @ow p2 ys _ n2 e2' ns2 ra =>
    cases ra
    have d1 : Dp X.K H2 (.ref p) (.list (xs.map PyData.str)) := .lst (.inl (.inl e)) (dp_strs xs)
    have d2 : Dp X.K H2 (.ref p2) (.list []) := .lst (.inl (.inl e2')) .nil
    have ok : ∀ x ∈ xs, PyData.strOk x = true := fun x hx => oks.sps x (List.mem_of_mem_take (by rw [← hh]; exact hx))
    have c1 : PyData.canLayAll0 (xs.map PyData.str) = true ∧ PyData.depthAll (xs.map PyData.str) = 0 := by
      clear e hl s8 d1 hh
      induction xs with
      | nil => exact ⟨rfl, rfl⟩
      | cons x xs ih =>
        have := ih fun y hy => ok y (List.mem_cons_of_mem _ hy)
        rw [List.map_cons]
        simp [PyData.canLayAll0, PyData.canLay0, PyData.depthAll, PyData.depth, ok x List.mem_cons_self, this.1, this.2]
    refine ⟨_, _, d1, d2, ?_, by decide, ?_⟩
    · simp [SeqAt.shaped, PyData.canLay0, PyData.depth, c1.1, c1.2]
    · have eb : (!PyData.eqv (.list (xs.map PyData.str)) (.list [])) = decide (b2 / (10000000000000 : Nat) ≠ 0) := by
        cases xs with
        | nil =>
          rw [← hl]
          rfl
        | cons x xs =>
          rw [← hl]
          simp [PyData.eqv, PyData.eqvAll]
      rw [eb]
      exact ⟨_, rfl, k _ H2 b2 (f1.trans f2) j3 q⟩
/-- spare.pop() -/
theorem ev_zPop (ok : L.Ok (some p)) (n : Nat) {x : Str} {apos : Pos} (h0 : δ[n]? = some (.va (spD' p))) (h1 : 1 ≤ b / (10000000000000 : Nat)) (q : ∀ y, L.sp[b / (10000000000000 : Nat) - 1]? = some y → P (b - (10000000000000 : Nat)) (.va (.str y))) (hN : X.N[n]? = some x := by rfl)
    (hv : Vis X.env.scope x := by first | exact Or.inl rfl | exact Or.inr (Or.inl rfl) | exact Or.inr (Or.inr rfl)) (hd : (x == ("__debug__" : Str)) = false := by decide) (hcd : (x == ("__classdict__" : Str)) = false := by decide)
    (hline : (apos.endLine == p1.line) = true := by rfl) (hbase : attributeBase (.Name x p0) "pop" X.env (eval (.Name x p0) X.env) = eval (.Name x p0) X.env := by rfl) : EV (L.C X (some p) H0) b δ (.Call (.Attribute (.Name x p0) "pop" apos) [] [] p1) P := by
  intro os σ H st Q k
  refine WE.of (pe_bm0 PySem.F.plainAttrs_list PySem.F.slot_list_pop PySem.F.type_list_pop mt_pop (pe_var hN hv hd hcd) hbase hline) ?_
  obtain ⟨o1, _, sub, sl⟩ := st.sl
  obtain ⟨w0, o2, e0, a0, _⟩ := sl.at h0
  cases a0 with | va r0 => ?_
  obtain rfl := rp_obj r0
  obtain ⟨lefts, s8⟩ := st.j
  obtain ⟨xs, e, hl, hh⟩ := s8.sp
  refine ⟨_, e0, .inl ⟨rfl, _, SqL.of e⟩, ?_⟩
  have hx : 0 < xs.length := by omega
  obtain ⟨y, hy⟩ : ∃ y, xs[xs.length - 1]? = some y := ⟨xs[xs.length - 1]'(by omega), List.getElem?_eq_getElem _⟩
  have hlast : (xs.map V.str)[(xs.map V.str).length - 1]? = some (.str y) := by
    rw [List.length_map, List.getElem?_map, hy]
    rfl
  have hsy : L.sp[b / (10000000000000 : Nat) - 1]? = some y := by
    rw [← hy, hl]
    conv => rhs; rw [hh]
    rw [List.getElem?_take, if_pos (by omega)]
  refine ⟨p, _, .str y, rfl, rfl, e, hlast, ?_⟩
  have hS : (lawVol L (some p)).S p := .inr (.inr (.inr (.inr (.inl rfl))))
  have em : (xs.map V.str).dropLast = xs.dropLast.map V.str := by rw [List.map_dropLast]
  have fw : Fr (lawVol L (some p)).S H (upd H p (.lst (xs.map V.str).dropLast)) := Fr.put hS e
  obtain ⟨a1, a2, a3, a4, a5⟩ := ok.pp p rfl
  have ne : ∀ {a : Addr} {u : HO}, a ≠ p → H a = some u → upd H p (.lst (xs.map V.str).dropLast) a = some u := fun ha e => by rw [upd_ne ha]; exact e
  have j4 : (lawVol L (some p)).J (b - (10000000000000 : Nat)) (upd H p (.lst (xs.map V.str).dropLast)) := by
    have m1 : (b - (10000000000000 : Nat)) % (10000000000000 : Nat) = b % (10000000000000 : Nat) := by omega
    have m2 : (b - (10000000000000 : Nat)) / (10000000000000 : Nat) = b / (10000000000000 : Nat) - 1 := by omega
    refine ⟨lefts, ?_⟩
    rw [m1, m2]
    refine ⟨ne (Ne.symm a1) s8.s, ne (Ne.symm a3) s8.c, ne (Ne.symm a2) s8.l, s8.len, s8.pos, ⟨xs.dropLast, by rw [← em]; exact upd_same, by rw [List.length_dropLast]; omega, ?_⟩, tab_upd s8.tab a4 e (fun φ z => nomatch z), tabs_upd s8.tabs a5 e (fun φ z => nomatch z)⟩
    · rw [List.dropLast_eq_take, hl]
      conv => lhs; rw [hh]
      rw [List.take_take, Nat.min_eq_left (by omega)]
  exact k _ _ (b - (10000000000000 : Nat)) _ fw j4 (.va (.str y)) (q y hsy)
end
/-! ### a def that is handed a new list to take from -/
structure DfA (P : Program) (w : World) (K : PySem.W.Frag) (mg : Str → Option Value) (base : Heap) (x : Str) (k : Nat) (ps : List Str) (ok : Addr → Prop) (sp : Addr → Sp) : Prop where
  at_ : ∃ f fd, (∀ p, ok p → FnOk P w K mg base CX0 k f fd ps (sp p)) ∧ mg x = some (.ref f) ∧ PySem.W.keepIn K (.ref f) = true ∧ Binds K fd ps []
/-- what any of several promises says -/
theorem fnOk_any {P : Program} {w : World} {K : PySem.W.Frag} {mg : Str → Option Value} {base : Heap} {k : Nat} {f : Addr} {fd : FuncData} {ps : List Str} {ok : Addr → Prop} {sp : Addr → Sp} (F : ∀ p, ok p → FnOk P w K mg base CX0 k f fd ps (sp p)) :
    FnOk P w K mg base CX0 k f fd ps (fun vs H Q E => ∃ p, ok p ∧ sp p vs H Q E) :=
  ⟨fun vs H Q E ⟨p, hp, h⟩ => (F p hp).len vs H Q E h, fun A outer s H args us vs Q E hr e0 hb r ⟨p, hp, h⟩ => (F p hp).run A outer s H args us vs Q E hr e0 hb r h⟩
section
variable {X : Cx} {L : LC} {H0 : Hp} {b : Nat} {δ : List Sl} {P : Nat → Res → Prop} {e : Expr} {es : List Expr} {pos p0 : Pos}
/-- the law's state, with other spare strings -/
abbrev LC.w (L : LC) (zs : List Str) : LC := { L with sp := zs }
theorem rpa_strsN {K : PySem.W.Frag} {H : Hp} : ∀ {zs : List Str} {xs : List V}, RpA K H xs (zs.map D.str) → xs = zs.map V.str
  | [], _, h => by cases h; rfl
  | z :: zs, _, h => by
    cases h with
    | cons a b =>
      cases a
      rw [rpa_strsN b]
      rfl
end
end PD
set_option Elab.async false
set_option linter.all false
set_option maxRecDepth 100000
set_option maxHeartbeats 4000000
namespace G
open PySem PySem.Spec PyProof.Rows L2 PD
theorem et_imp {C : Cn} {b : Nat} {δ : List Sl} {e : Expr} {Pt Pt' : Nat → Bool → Prop} (h : ET C b δ e Pt) (i : ∀ b' k, Pt b' k → Pt' b' k) : ET C b δ e Pt' := fun os σ H st Q q => h os σ H st Q fun kk H' b' f j z => q kk H' b' f j (i b' kk z)
theorem lst_sh {ds : List D} (h : ∀ d ∈ ds, Cm 40 d) : (D.lst ds).sh = true := by
  obtain ⟨h1, h2, h3, h4⟩ := cms h
  unfold D.sh SeqAt.shaped
  have hd : (PyData.list (pds ds)).depth ≤ 64 := by simp only [PyData.depth]; omega
  have hl : (PyData.list (pds ds)).canLay0 = true := by simp only [PyData.canLay0]; exact h2
  rw [D.pl, D.pd, h1, hl, decide_eq_true hd]
  rfl
theorem lst_shE {ds : List D} (h : ∀ d ∈ ds, Cm 40 d.er) : (D.lst ds).sh = true := by
  rw [er_sh]
  show (D.lst (ers ds)).sh = true
  refine lst_sh fun d hd => ?_
  obtain ⟨e, he, rfl⟩ := ers_mem hd
  exact h e he
theorem eqv_nil (ds : List D) : (D.lst ds).eqv (.lst []) = ds.isEmpty := by
  unfold D.eqv
  rw [D.pd, D.pd, pds]
  cases ds with
  | nil => rfl
  | cons d ds => rw [pds]; rfl
theorem atI_last (ds : List D) (d : D) : atI (ds ++ [d]) (-1) = some d := by
  unfold atI ixN
  rw [if_neg (by decide)]
  simp only [List.length_append, List.length_cons, List.length_nil]
  rw [if_pos (by omega), show ((-1 : Int) + ((ds.length + (0 + 1) : Nat) : Int)).toNat = ds.length by omega]
  simp
theorem isS_d (x : Nd) : x.d.isS = x.isT := by
  cases x <;> (rw [Nd.d]; rfl)
abbrev sEl : Stmt := st__law_element
end G
set_option Elab.async false
set_option linter.all false
set_option maxRecDepth 100000
set_option maxHeartbeats 2000000
namespace PD
open PySem PySem.Spec PyProof.Rows L2
/-! ### a dict of one's own, lent for the length of a test: it is frozen, and thawed behind it -/
theorem inv_thaw {X : Cx} {pins : List (Addr × Obj)} {σ : L2.St} {H : Hp} {s : Shared} {p : Addr} {o : Obj} {u : HO} (I : Inv X pins σ H s) (e : H p = some (.frz o u)) (hu : Fz u) (h0 : X.H_0 p = none) : Inv X pins σ (upd H p u) s := by
  have nn : ∀ b, H b = none → b ≠ p := fun b h z => by rw [z, e] at h; cases h
  have nf : ∀ b w, H b = some w → (∀ o u, w ≠ .frz o u) → b ≠ p := fun b w h n z => by
    rw [z, e] at h
    exact n _ _ (Option.some.inj h).symm
  refine ⟨I.ok, I.os, I.bare, ⟨I.base.keep, I.base.slot, fun b o1 h1 h2 h3 => ?_, I.base.there, fun b xs h => ?_, fun b o1 u1 h => ?_, fun b ps h => ?_⟩, I.loc, I.cell, ?_, fun x c h => ?_, fun q hq => ?_, fun b w h => ?_, I.len⟩
  · have z := I.base.free b o1 h1 h2 h3
    rw [upd_ne (nn b z)]
    exact z
  · have z := I.base.tups b xs h
    rw [upd_ne (nf b _ z fun o u q => nomatch q)]
    exact z
  · have z := I.base.frzs b o1 u1 h
    rw [upd_ne (fun q => by rw [q, h0] at h; cases h)]
    exact z
  · obtain ⟨more, z⟩ := I.base.tbls b ps h
    exact ⟨more, by rw [upd_ne (nf b _ z fun o u q => nomatch q)]; exact z⟩
  · rw [upd_ne (nn _ I.free)]
    exact I.free
  · rw [upd_ne (nn _ (I.freeC x c h))]
    exact I.freeC x c h
  · obtain ⟨h1, h2, h3⟩ := I.pin q hq
    exact ⟨h1, by rw [upd_ne (nn _ h2)]; exact h2, h3⟩
  · have st : ∀ {b w}, ObjOk X.prog X.w H s.heap b w → ObjOk X.prog X.w (upd H p u) s.heap b w := fun {b w} x => x.stay (fun _ _ _ q => q) (fun c q => by rw [upd_ne (nf c _ q fun o u q => nomatch q)]; exact q) fun c xs q => by rw [upd_ne (nf c _ q fun o u q => nomatch q)]; exact q
    by_cases hb : b = p
    · subst hb
      rw [upd_same] at h
      cases h
      exact st (show s.heap.get? b = some o ∧ ObjOk X.prog X.w H s.heap b u from I.hok b _ e).2
    · rw [upd_ne hb] at h
      exact st (I.hok b w h)
/-- what may change behind one's back stands a thaw elsewhere -/
def Thaw (Z : Vol) : Prop := ∀ b (H : Hp) p o u, Fz u → H p = some (.frz o u) → ¬ Z.S p → Z.J b H → Z.J b (upd H p u)
theorem tab_thaw {H : Hp} {T p : Addr} {q : Str} {o : Obj} {u : HO} (h : LamX.TabS H T q) (ne : T ≠ p) (e : H p = some (.frz o u)) : LamX.TabS (upd H p u) T q := by
  obtain ⟨ps, e1, ok, all⟩ := h
  refine ⟨ps, by rw [upd_ne ne]; exact e1, ok, fun pos cv hc => ?_⟩
  obtain ⟨c, e2, e3⟩ := all pos cv hc
  refine ⟨c, e2, ?_⟩
  rw [upd_ne fun z => ?_]
  · exact e3
  · rw [z, e] at e3
    unfold LamX.CodeO at e3
    cases e3
theorem thaw_law (L : LC) : Thaw (lawVol L none) := by
  rintro b H p o u hu e ns ⟨lefts, h⟩
  have ne : ∀ {a : Addr}, (lawVol L none).S a → a ≠ p := fun hs z => ns (by rw [← z]; exact hs)
  exact ⟨lefts, by rw [upd_ne (ne (.inl rfl))]; exact h.s, by rw [upd_ne (ne (.inr (.inr (.inl rfl))))]; exact h.c, by rw [upd_ne (ne (.inr (.inl rfl)))]; exact h.l, h.len, h.pos, h.sp, tab_thaw h.tab (ne (.inr (.inr (.inr (.inl rfl))))) e, fun t ht => tab_thaw (h.tabs t ht) (ne (.inr (.inr (.inr (.inr (.inr ⟨t, ht, rfl⟩)))))) e⟩
section
variable {C : Cn} {b : Nat} {δ : List Sl} {P : Nat → Bool → Prop} {e : Expr}
theorem et_lend (i : Nat) {c : Dc} (hi : δ[i]? = some (.od c)) (hX : C.X.H_0 = C.H0) (hZ : Thaw C.Z) (h : ET C b (δ.set i (.va c.d)) e P) : ET C b δ e P := by
  intro os σ H st Q k
  obtain ⟨o, nd, sub, sl⟩ := id st.sl
  obtain ⟨w, o1, e1, a, ho⟩ := sl.at hi
  cases a with
  | @od p _ dc =>
    obtain ⟨u, e2, hu, rp⟩ := dco_frz dc
    have hp := sub p (ho p (by simp))
    obtain ⟨n0, ns, _⟩ := st.new p hp
    intro pins s I
    obtain ⟨ob, I2⟩ := inv_frz I e2 hu
    have z := st.putG (s' := .va c.d) (q := []) hi e1 e2 (hu.lk ob) hp (fun o1 z => by cases z; simp) (.inr rfl) (.va (rp ob))
    refine thn (h os σ _ z.1 (fun kk H1 => ∃ b1, Fr C.Z.S (upd H p (.frz ob u)) H1 ∧ C.Z.J b1 H1 ∧ P b1 kk) (fun kk H1 b1 f1 j1 hp => ⟨b1, f1, j1, hp⟩) pins s I2) fun kk s' hk => ?_
    obtain ⟨H1, I3, b1, f1, j1, hP⟩ := hk
    have e3 : H1 p = some (.frz ob u) := f1.frz upd_same
    refine ⟨upd H1 p u, inv_thaw I3 e3 hu (by rw [hX]; exact n0), k kk _ b1 (fun a x ha => ?_) (hZ b1 H1 p ob u hu e3 ns j1) hP⟩
    by_cases hap : a = p
    · subst hap
      rw [e2] at ha
      exact .inl (by rw [upd_same]; exact ha)
    · rw [upd_ne hap]
      exact f1 a x (by rw [upd_ne hap]; exact ha)
end
end PD
set_option Elab.async false
set_option linter.all false
set_option maxRecDepth 100000
set_option maxHeartbeats 2000000
namespace PD
open PySem PySem.Spec PyProof.Rows L2
/-! ### data without what is frozen: it stands a thaw -/
mutual
def D.nfz : D → Bool
  | .tup ds => nfzs ds
  | .pt ds => nfzs ds
  | .lst _ => false
  | .dk _ => false
  | .dt _ => false
  | .obj _ _ => false
  | .non => true
  | .bl _ => true
  | .int _ => true
  | .str _ => true
def nfzs : List D → Bool
  | [] => true
  | d :: ds => D.nfz d && nfzs ds
end
section
variable {K : PySem.W.Frag} {H : Hp} {p : Addr} {o : Obj} {u w : HO}
mutual
theorem rp_thaw (e : H p = some (.frz o u)) (hu : Fz u) : ∀ (d : D) (v : V), Rp K H v d → d.nfz = true → Rp K (upd H p w) v d
  | .non, _, h, _ => by cases h; exact .non
  | .bl b, _, h, _ => by cases h; exact .bl b
  | .int i, _, h, _ => by cases h; exact .int i
  | .str x, _, h, _ => by cases h; exact .str x
  | .tup ds, _, h, n => by
    rw [D.nfz] at n
    cases h with
    | tup t r =>
      refine .tup ?_ (rps_thaw e hu ds _ r n)
      cases t with
      | h ea => exact .h (by rw [upd_ne (fun z => by rw [z, e] at ea; cases ea)]; exact ea)
      | c e0 e1 e2 e3 e4 e5 => exact .c e0 e1 e2 e3 e4 e5
  | .pt ds, _, h, n => by
    rw [D.nfz] at n
    cases h with
    | ptup ea eo r => exact .ptup (by rw [upd_ne (fun z => by rw [z, e] at ea; cases ea; exact hu)]; exact ea) eo (rps_thaw e hu ds _ r n)
  | .lst _, _, _, n => by rw [D.nfz] at n; cases n
  | .dk _, _, _, n => by rw [D.nfz] at n; cases n
  | .dt _, _, _, n => by rw [D.nfz] at n; cases n
  | .obj _ _, _, _, n => by rw [D.nfz] at n; cases n
theorem rps_thaw (e : H p = some (.frz o u)) (hu : Fz u) : ∀ (ds : List D) (vs : List V), RpA K H vs ds → nfzs ds = true → RpA K (upd H p w) vs ds
  | [], _, h, _ => by cases h; exact .nil
  | d :: ds, _, h, n => by
    rw [nfzs, Bool.and_eq_true] at n
    cases h with
    | cons a r => exact .cons (rp_thaw e hu d _ a n.1) (rps_thaw e hu ds _ r n.2)
end
end
section
variable {C : Cn} {b : Nat} {δ : List Sl} {P : Nat → Res → Prop} {F : Fin} {e e1 e2 e3 tg : Expr} {pos p0 p1 p2 pt apos cpos : Pos} {rest : List Stmt}
/-- a dict of one's own, lent for the length of an expression -/
theorem ev_lend (i : Nat) {c : Dc} (hi : δ[i]? = some (.od c)) (hX : C.X.H_0 = C.H0) (hZ : Thaw C.Z) (h : EV C b (δ.set i (.va c.d)) e (fun b1 r => ∃ d, r = .va d ∧ d.nfz = true ∧ P b1 (.va d))) : EV C b δ e P := by
  intro os σ H st Q k
  obtain ⟨o, nd, sub, sl⟩ := id st.sl
  obtain ⟨w, o1, e1, a, ho⟩ := sl.at hi
  cases a with
  | @od p _ dc =>
    obtain ⟨u, e2, hu, rp⟩ := dco_frz dc
    have hp := sub p (ho p (by simp))
    obtain ⟨n0, ns, _⟩ := st.new p hp
    intro pins s I
    obtain ⟨ob, I2⟩ := inv_frz I e2 hu
    have z := st.putG (s' := .va c.d) (q := []) hi e1 e2 (hu.lk ob) hp (fun o1 z => by cases z; simp) (.inr rfl) (.va (rp ob))
    refine thn (h os σ _ z.1 (fun v H1 => ∃ b1 d, Fr C.Z.S (upd H p (.frz ob u)) H1 ∧ C.Z.J b1 H1 ∧ Rp C.K H1 v d ∧ d.nfz = true ∧ P b1 (.va d)) (fun v H1 b1 r f1 j1 rv hr => ?_) pins s I2) fun uu s' hk => ?_
    · obtain ⟨d, rfl, nf, hP⟩ := hr
      cases rv with | va rv => exact ⟨b1, d, f1, j1, rv, nf, hP⟩
    · obtain ⟨v, H1, I3, rv, b1, d, f1, j1, rp1, nf, hP⟩ := hk
      have e3 : H1 p = some (.frz ob u) := f1.frz upd_same
      refine ⟨v, upd H1 p u, inv_thaw I3 e3 hu (by rw [hX]; exact n0), rv, k v _ b1 (.va d) (fun a x ha => ?_) (hZ b1 H1 p ob u hu e3 ns j1) (.va (rp_thaw e3 hu d v rp1 nf)) hP⟩
      by_cases hap : a = p
      · subst hap
        rw [e2] at ha
        exact .inl (by rw [upd_same]; exact ha)
      · rw [upd_ne hap]
        exact f1 a x (by rw [upd_ne hap]; exact ha)
/-! ### x.setdefault(k, v), told by a statement; list(d.items()) -/
/-! ### three: a dict of one's own, data, a dict of one's own -/
end
end PD
set_option Elab.async false
set_option linter.all false
set_option maxRecDepth 100000
set_option maxHeartbeats 4000000
namespace G
open PySem PySem.Spec PyProof.Rows L2 PD
/-! ### _clashes_in: states at one local -/
theorem kS_inj9 {x y : Str} (h : kS x = kS y) : x = y := Sum.inr.inj h
end G
set_option Elab.async false
set_option linter.all false
set_option maxRecDepth 100000
set_option maxHeartbeats 2000000
namespace PD
open PySem PySem.Spec PyProof.Rows L2
/-! ### a list times an int; what is written out with names in it -/
theorem rpa_rep {K : PySem.W.Frag} {H : Hp} {vs : List V} {ds : List D} (h : RpA K H vs ds) : ∀ n : Nat, RpA K H (List.replicate n vs).flatten (List.replicate n ds).flatten
  | 0 => by rw [List.replicate_zero, List.replicate_zero]; exact .nil
  | n + 1 => by rw [List.replicate_succ, List.replicate_succ, List.flatten_cons, List.flatten_cons]; exact h.append (rpa_rep h n)
mutual
/-- what is written out, with names of data in it -/
inductive CV (C : Cn) (b : Nat) (δ : List Sl) : Expr → D → Prop
  | str {x : Str} {j : Nat} {pos : Pos} : CV C b δ (.Constant (.str x) j pos) (.str x)
  | int {i : Int} {j : Nat} {pos : Pos} : CV C b δ (.Constant (.int i) j pos) (.int i)
  | bl {k : Bool} {j : Nat} {pos : Pos} : CV C b δ (.Constant (.bool k) j pos) (.bl k)
  | non {j : Nat} {pos : Pos} : CV C b δ (.Constant .none j pos) .non
  | var {x : Str} {pos : Pos} {d : D} : EV C b δ (.Name x pos) (fun b' r => b' = b ∧ r = .va d) → CV C b δ (.Name x pos) d
  /-- any other expression of data -/
  | ev {e : Expr} {d : D} : EV C b δ e (fun b' r => b' = b ∧ r = .va d) → (∀ (es : List Expr) (env : Env), starEach (e :: es) env = (false, eval e env) :: starEach es env) → CV C b δ e d
  | cat {e1 e2 : Expr} {ds es : List D} {pos : Pos} : CV C b δ e1 (.tup ds) → CV C b δ e2 (.tup es) → CV C b δ (.BinOp e1 .Add e2 pos) (.tup (ds ++ es))
  | tup {es : List Expr} {ds : List D} {k : Nat} {pos : Pos} : CVs C b δ es ds → CV C b δ (.Tuple es k pos) (.tup ds)
  | pt {es : List Expr} {ds : List D} {k : Nat} {pos : Pos} : CVs C b δ es ds → CV C b δ (.Tuple es k pos) (.pt ds)
inductive CVs (C : Cn) (b : Nat) (δ : List Sl) : List Expr → List D → Prop
  | nil : CVs C b δ [] []
  | cons {e : Expr} {d : D} {es : List Expr} {ds : List D} : CV C b δ e d → CVs C b δ es ds → CVs C b δ (e :: es) (d :: ds)
end
theorem cv_star {C : Cn} {b : Nat} {δ : List Sl} {e : Expr} {d : D} (h : CV C b δ e d) (es : List Expr) (env : Env) : starEach (e :: es) env = (false, eval e env) :: starEach es env := by
  cases h with
  | ev _ h => exact h es env
  | _ => rfl
theorem wides_app : ∀ (ds es : List D), wides (ds ++ es) = max (wides ds) (wides es)
  | [], es => by rw [List.nil_append, wides, Nat.zero_max]
  | d :: ds, es => by rw [List.cons_append, wides, wides, wides_app ds es, Nat.max_assoc]
mutual
theorem cv_ev {C : Cn} {b : Nat} {δ : List Sl} : ∀ {e : Expr} {d : D}, CV C b δ e d → d.wide ≤ 16000000 → EV C b δ e (fun b' r => b' = b ∧ r = .va d)
  | _, _, .str, _ => ev_str ⟨rfl, rfl⟩
  | _, _, .int, _ => ev_int ⟨rfl, rfl⟩
  | _, _, .bl, _ => ev_bl ⟨rfl, rfl⟩
  | _, _, .non, _ => ev_non ⟨rfl, rfl⟩
  | _, _, .var h, _ => h
  | _, _, .ev h _, _ => h
  | _, _, .cat (ds := ds) (es := es) h g, hw => by
    rw [D.wide, List.length_append, wides_app] at hw
    have w1 : (D.tup ds).wide ≤ 16000000 := by rw [D.wide]; omega
    have w2 : (D.tup es).wide ≤ 16000000 := by rw [D.wide]; omega
    have z1 := cv_ev h w1
    have z2 := cv_ev g w2
    refine ev_cat (z1.imp fun b1 r1 hh => ?_)
    obtain ⟨rfl, rfl⟩ := hh
    refine z2.imp fun b2 r2 hh => ?_
    obtain ⟨rfl, rfl⟩ := hh
    exact ⟨ds, es, rfl, rfl, by omega, rfl, rfl⟩
  | _, .tup ds, .tup h, hw => by
    rw [D.wide] at hw
    have h1 := Nat.le_max_left ds.length (wides ds)
    have h2 := Nat.le_max_right ds.length (wides ds)
    have z := cvs_ev h (by omega)
    refine ev_tup fun os σ H st Q k => z os σ H st Q fun vs H' b' rs f j rv hh => k vs H' b' rs f j rv ⟨ds, hh.2, by omega, hh.1, rfl⟩
  | _, .pt ds, .pt h, hw => by
    rw [D.wide] at hw
    have h1 := Nat.le_max_left ds.length (wides ds)
    have h2 := Nat.le_max_right ds.length (wides ds)
    have z := cvs_ev h (by omega)
    refine ev_tupP fun os σ H st Q k => z os σ H st Q fun vs H' b' rs f j rv hh => k vs H' b' rs f j rv ⟨ds, hh.2, by omega, hh.1, rfl⟩
theorem cvs_ev {C : Cn} {b : Nat} {δ : List Sl} : ∀ {es : List Expr} {ds : List D}, CVs C b δ es ds → wides ds ≤ 16000000 → EVA C b δ es (fun b' rs => b' = b ∧ vas rs = some ds)
  | _, _, .nil, _ => eva_nil ⟨rfl, rfl⟩
  | _, d :: ds, .cons (es := es) h t, hw => by
    rw [wides] at hw
    have h1 := Nat.le_max_left d.wide (wides ds)
    have h2 := Nat.le_max_right d.wide (wides ds)
    refine eva_cons ((cv_ev h (by omega)).imp fun b1 r hh => ?_) (cv_star h es C.X.env)
    obtain ⟨rfl, rfl⟩ := hh
    have z := cvs_ev t (by omega)
    refine fun os σ H st Q k => z os σ H st Q fun vs H' b' rs f j rv hh => k vs H' b' rs f j rv ⟨hh.1, ?_⟩
    show (vas rs).map (d :: ·) = _
    rw [hh.2]
    rfl
end
/-- .. a list of such -/
theorem cvl_ev {C : Cn} {b : Nat} {δ : List Sl} {es : List Expr} {ds : List D} {pos : Pos} (h : CVs C b δ es ds) (hw : (D.tup ds).wide ≤ 16000000) : EV C b δ (.List es pos) (fun b' r => b' = b ∧ r = .ow ds) := by
  rw [D.wide] at hw
  have h1 := Nat.le_max_left ds.length (wides ds)
  have h2 := Nat.le_max_right ds.length (wides ds)
  have z := cvs_ev h (by omega)
  exact ev_lst fun os σ H st Q k => z os σ H st Q fun vs H' b' rs f j rv hh => k vs H' b' rs f j rv ⟨ds, hh.2, by omega, hh.1, rfl⟩
end PD
set_option Elab.async false
set_option linter.all false
set_option maxRecDepth 100000
set_option maxHeartbeats 2000000
namespace PD
open PySem PySem.Spec PyProof.Rows L2
/-! ### text * n -/
def repS (x : Str) (n : Nat) : Str := if (((n : Int) == 1) || x.length == 0) = true then x else ⟨(List.replicate n x.cps).foldl (· ++ ·) #[]⟩
theorem op_repS {X : Cx} : OpR X (binaryOp .Mult) (fun x y H Q => ∃ (i : Str) (n : Nat), x = .str i ∧ y = .int (n : Int) ∧ 1 ≤ n ∧ i.length * n ≤ 1000000 ∧ n ≤ 1000000 ∧ (repS i n).length ≤ 1000000 ∧ Q (.str (repS i n)) H) := by
  intro pins s σ H x y v u Q I rx ry h
  obtain ⟨i, n, rfl, rfl, h1, h2, h3, h4, q⟩ := h
  obtain ⟨t, rfl⟩ := rx
  obtain ⟨t', rfl⟩ := ry
  have hn : ¬ ((n : Int) < 1) := by omega
  have ht : ∀ m : Nat, m ≤ 1000000 → Builtin.Str.tooLong m = false := fun m hm => by
    unfold Builtin.Str.tooLong
    rw [decide_eq_false]
    have := sizeLine_eq
    omega
  refine PySem.P.mul_str (by rw [decide_eq_false (by omega), decide_eq_false (by omega)]; rfl) (fun _ _ => ?_) (fun _ _ => ?_) ?_
  · intro z
    have h5 : (2 ^ 63 - 1 : Int) / (n : Int) ≥ (i.length : Int) := by
      refine (Int.le_ediv_iff_mul_le (by omega)).mpr ?_
      have : ((i.length * n : Nat) : Int) ≤ 1000000 := by omega
      rw [Int.natCast_mul] at this
      omega
    omega
  · rw [Int.toNat_natCast]
    exact ht _ h2
  · rw [if_neg hn]
    unfold repS at q h4
    by_cases e : (((n : Int) == 1) || i.length == 0) = true
    · rw [if_pos e] at q ⊢
      exact ⟨.str i, H, I, ⟨_, rfl⟩, q⟩
    · rw [if_neg e] at q h4 ⊢
      rw [Int.toNat_natCast]
      exact ⟨Nat.le_trans h4 (by rw [sizeLine_eq]; decide), ⟨.str _, H, I.tok _, ⟨_, rfl⟩, q⟩⟩
section
variable {C : Cn} {b : Nat} {δ : List Sl} {P : Nat → Res → Prop} {e1 e2 : Expr} {pos : Pos}
theorem ev_repS (h : EV C b δ e1 (fun b1 r1 => EV C b1 δ e2 fun b2 r2 => ∃ (x : Str) (n : Nat), r1 = .va (.str x) ∧ r2 = .va (.int (n : Int)) ∧ 1 ≤ n ∧ x.length * n ≤ 1000000 ∧ n ≤ 1000000 ∧ (repS x n).length ≤ 1000000 ∧ P b2 (.va (.str (repS x n))))) : EV C b δ (.BinOp e1 .Mult e2 pos) P := by
  refine ev_bin op_repS (h.imp fun b1 r1 h2 => h2.imp fun b2 r2 ⟨x, n, c1, c2, h1, hx, hn, hl, hq⟩ => ?_)
  subst c1 c2
  intro os H H' u v jj rx ry Q q
  cases rx with | va rx => ?_
  cases ry with | va ry => ?_
  cases rx
  cases ry
  exact ⟨x, n, rfl, rfl, h1, hx, hn, hl, q _ H' _ Fr.refl jj (.va (.str _)) hq⟩
end
end PD
set_option Elab.async false
set_option linter.all false
set_option maxRecDepth 100000
set_option maxHeartbeats 4000000
namespace G
open PySem PySem.Spec PyProof.Rows L2 PD
theorem valB_put (m : Bd) (p a q : Str) : valB (putB m p a) q = if q = p then some a else valB m q := by
  have inj : ∀ {o r : Option Str}, o.map atD = r.map atD → o = r := fun {o r} h => by
    cases o with
    | none => cases r with
      | none => rfl
      | some y => cases h
    | some x => cases r with
      | none => cases h
      | some y =>
        have h := Option.some.inj h
        unfold atD at h
        injection h with h
        injection h with _ h
        injection h with h _
        injection h with h
        rw [h]
  have e := bdK_val (putB m p a) q
  rw [← bdK_put, valD_put, bdK_val] at e
  by_cases h : q = p
  · rw [if_pos h]
    rw [if_pos (by rw [h])] at e
    exact (inj (o := some a) e).symm
  · rw [if_neg h]
    rw [if_neg fun z => h (kS_inj9 z)] at e
    exact (inj e).symm
/-! ### a layer by itself -/
/-! ### the whole, wrapped: as the part by itself -/
end G
set_option Elab.async false
set_option linter.all false
set_option maxRecDepth 100000
set_option maxHeartbeats 4000000
namespace G
open PySem PySem.Spec PyProof.Rows L2 PD
/-- a part with another element at a path -/
def chg : List Nat → Nd → Nd → Nd
  | [], _, y => y
  | i :: r, .el p l ds as cs, y => match cs[i]? with
    | some c => .el p l ds as (cs.set i (chg r c y))
    | none => .el p l ds as cs
  | _ :: _, x, _ => x
/-- a path in a part -/
def okPath : List Nat → Nd → Prop
  | [], _ => True
  | i :: r, .el _ _ _ _ cs => ∃ c, cs[i]? = some c ∧ okPath r c
  | _ :: _, _ => False
theorem cm_int (i : Int) : Cm 0 (.int i) := ⟨by rw [D.pl], by rw [D.pd]; simp [PyData.canLay0], by rw [D.pd]; simp [PyData.depth], by rw [D.nb]⟩
end G
set_option Elab.async false
set_option linter.all false
set_option maxRecDepth 100000
set_option maxHeartbeats 4000000
namespace G
open PySem PySem.Spec PyProof.Rows L2 PD
/-! ### the elements with their paths -/
def enumN : Nat → List Nd → List (Nat × Nd)
  | _, [] => []
  | k, c :: cs => (k, c) :: enumN (k + 1) cs
/-- the elements among children -/
def kidsE (p : List Nat) (k : Nat) (cs : List Nd) : List (List Nat × Nd) := ((enumN k cs).filter fun q => q.2.isEl).map fun q => (p ++ [q.1], q.2)
mutual
def ew (p : List Nat) : Nd → List (List Nat × Nd)
  | .el q l ds as cs => (p, .el q l ds as cs) :: ews p 0 cs
  | .s _ => []
  | .h _ => []
def ews (p : List Nat) (k : Nat) : List Nd → List (List Nat × Nd)
  | [] => []
  | c :: cs => ew (p ++ [k]) c ++ ews p (k + 1) cs
end
theorem ews_kids : ∀ (cs : List Nd) (p : List Nat) (k : Nat), ews p k cs = (kidsE p k cs).flatMap fun q => ew q.1 q.2
  | [], p, k => by rw [ews]; rfl
  | c :: cs, p, k => by
    rw [ews, ews_kids cs p (k + 1)]
    unfold kidsE
    rw [enumN, List.filter_cons]
    cases hc : c.isEl with
    | true => simp only [if_true, List.map_cons, List.flatMap_cons]
    | false =>
      simp only [Bool.false_eq_true, if_false]
      cases c with
      | el _ _ _ _ _ => cases hc
      | s _ => rw [ew]; rfl
      | h _ => rw [ew]; rfl
mutual
theorem ew_wk : ∀ (x : Nd) (p : List Nat) (m : Bd), (wk p m x).map prj = ew p x
  | .el q l ds as cs, p, m => by rw [wk, ew, List.map_cons, ews_wks cs p 0 (bnd ds m)]; rfl
  | .s _, _, _ => by rw [wk, ew]; rfl
  | .h _, _, _ => by rw [wk, ew]; rfl
theorem ews_wks : ∀ (cs : List Nd) (p : List Nat) (k : Nat) (m : Bd), (wks p k m cs).map prj = ews p k cs
  | [], p, k, m => by rw [wks, ews]; rfl
  | c :: cs, p, k, m => by rw [wks, ews, List.map_append, ew_wk c (p ++ [k]) m, ews_wks cs p (k + 1) m]
end
def ewAll (st : List (List Nat × Nd)) : List (List Nat × Nd) := st.flatMap fun q => ew q.1 q.2
theorem ewAll_cons (p : List Nat) (q l : Str) (ds : List (Str × Str)) (as : List ((Str × Str) × Vl)) (cs : List Nd) (st : List (List Nat × Nd)) : ewAll ((p, .el q l ds as cs) :: st) = (p, .el q l ds as cs) :: ewAll (kidsE p 0 cs ++ st) := by
  unfold ewAll
  rw [List.flatMap_cons, ew, ews_kids, List.flatMap_append]
  rfl
theorem enumN_d : ∀ (cs : List Nd) (k : Nat), enumD k (ndsD cs) = (enumN k cs).map fun q => D.tup [.int (q.1 : Int), q.2.d]
  | [], k => by rw [ndsD]; rfl
  | c :: cs, k => by rw [ndsD, enumD, enumN, enumN_d cs (k + 1)]; rfl
theorem enumN_mem : ∀ {cs : List Nd} {k : Nat} {q : Nat × Nd}, q ∈ enumN k cs → q.2 ∈ cs
  | c :: cs, k, q, h => by
    rcases List.mem_cons.mp h with rfl | h
    · exact List.mem_cons_self
    · exact List.mem_cons_of_mem _ (enumN_mem h)
theorem enumN_len : ∀ (cs : List Nd) (k : Nat), (enumN k cs).length = cs.length
  | [], _ => rfl
  | c :: cs, k => by rw [enumN, List.length_cons, List.length_cons, enumN_len cs]
theorem kidsE_mem {p : List Nat} {k : Nat} {cs : List Nd} {q : List Nat × Nd} (h : q ∈ kidsE p k cs) : q.2 ∈ cs ∧ q.2.isEl = true := by
  obtain ⟨r, hr, rfl⟩ := List.mem_map.mp h
  obtain ⟨h1, h2⟩ := List.mem_filter.mp hr
  exact ⟨enumN_mem h1, h2⟩
theorem isT_d (x : Nd) : x.d.isT = !x.isT := by
  cases x <;> (rw [Nd.d]; rfl)
theorem ewAll_len (st : List (List Nat × Nd)) (h : ∀ q ∈ st, q.2.isEl = true) : st.length ≤ (ewAll st).length := by
  induction st with
  | nil => exact Nat.le_refl _
  | cons q st ih =>
    obtain ⟨p, x⟩ := q
    obtain ⟨a, l, ds, as, cs, rfl⟩ := el_of (h _ List.mem_cons_self)
    have ih := ih fun r hr => h r (List.mem_cons_of_mem _ hr)
    unfold ewAll at ih ⊢
    rw [List.flatMap_cons, ew, List.length_append, List.length_cons, List.length_cons]
    omega
end G
set_option Elab.async false
set_option linter.all false
set_option maxRecDepth 100000
set_option maxHeartbeats 4000000
namespace G
open PySem PySem.Spec PyProof.Rows L2 PD
/-- one that may be walked -/
structure Wlk (x : Nd) : Prop where
  el : x.isEl = true
  ok : x.ok = true
  dep : x.dep ≤ 8
  len : (ew [] x).length ≤ 1000
def stE (st : List (List Nat × Nd)) : List D := st.reverse.map peD
theorem peD_cm {q : List Nat × Nd} (h : q.2.ok = true) (hd : q.2.dep ≤ 8) : Cm 40 (peD q).er := by
  show Cm 40 (.tup [.tup (ers (pthD q.1)), q.2.d.er])
  rw [show ers (pthD q.1) = pthD q.1 from by unfold pthD; exact ers_map _ _ q.1 fun _ _ => rfl]
  refine (cm2 (n := 22) ((cm_tup (n := 0) fun d hd => ?_).mono (by decide)) ((cm_nd q.2 h).mono (by omega))).mono (by decide)
  obtain ⟨i, _, rfl⟩ := List.mem_map.mp hd
  exact cm_int _
section
variable {P : Program} {w : World} {K : PySem.W.Frag} {mg : Str → Option Value} {base : Heap} {Z : Vol} {f : Addr} {fd : FuncData}
/-! ### _law_elements -/
noncomputable def gElems : List D → Option Res := gT (fun x : Nd => [x.d]) Wlk fun x => .ow ((ew [] x).map peD)
theorem gElems_of {x : Nd} (h : Wlk x) : gElems [x.d] = some (.ow ((ew [] x).map peD)) := gT_of (enc := fun x : Nd => [x.d]) one_inj h
abbrev sElems : Stmt := st__law_elements
abbrev nmE : List Str := ["part", "found", "left", "path", "one", "inside", "k", "child", "pair"]
theorem ok_elems (F : Fun K "_law_elements" "_law_elements" sElems f fd) (T : Cst mg) : FnOk P w K mg base CX0 1 f fd ["part"] (spP Z K 1 gElems) := by
  have sc : FnScope nmE ["part"] (defScope sElems) := ⟨rfl, rfl, rfl, by decide +kernel, rfl, by decide +kernel, by decide +kernel⟩
  refine fn_pure F sc rfl (gT_out fun x hx => rfl) fun cdv A outer s H E b ds r hr hl hg => ?_
  obtain ⟨x, rfl, hx, rfl⟩ := gT_one hg
  have b0 := T.blt (cxOf CX0 P w K mg base nmE "_law_elements" (defScope sElems) f cdv A outer s H E).nox rfl
  refine sv_set2W 1 2 rfl sc.nd (by decide) (eva_cons (ev_lst (eva_nil ⟨[], rfl, by decide, ?_⟩)))
  refine eva_cons (ev_lst (eva_cons (ev_tup (eva_cons (ev_tup (eva_nil ⟨[], rfl, by decide, ?_⟩))))))
  refine eva_cons (ev_var 0 rfl (eva_nil ⟨[.tup [], x.d], rfl, by simp, ?_⟩))
  refine eva_nil ⟨[peD ([], x)], rfl, by simp, ?_⟩
  refine eva_nil ⟨_, _, rfl, by simp, ?_⟩
  refine sv_while (fun b' δ' => b' = b ∧ ∃ done st s3 s4 s5, δ' = [.va x.d, .ow (done.map peD), .ow (stE st), s3, s4, s5, .un, .un, .un] ∧ ew [] x = done ++ ewAll st ∧ ∀ q ∈ st, q.2.isEl = true ∧ q.2.ok = true ∧ q.1.length + q.2.dep ≤ 8)
    (fun δ' => match δ' with | [_, .ow fs, _, _, _, _, _, _, _] => (ew [] x).length - fs.length | _ => 0) PassesOwn.never ⟨rfl, [], [([], x)], _, _, _, rfl, by simp [ewAll], fun q hq => by rw [List.mem_singleton.mp hq]; exact ⟨hx.el, hx.ok, by have := hx.dep; simpa using this⟩⟩ ?_
  rintro b2 δ2 ⟨rfl, done, st, s3, s4, s5, rfl, hp, hst⟩
  have cmS : ∀ d ∈ stE st, Cm 40 d.er := fun d hd => by
    obtain ⟨q, hq, rfl⟩ := List.mem_map.mp hd
    obtain ⟨_, h2, h3⟩ := hst q (List.mem_reverse.mp hq)
    exact peD_cm h2 (by omega)
  refine et_neD hr.units (ev_varO 2 rfl (ev_lst (eva_nil ⟨[], rfl, by decide, .lst (stE st), .lst [], rfl, rfl, lst_shE cmS, lst_sh (fun d hd => nomatch hd), ?_⟩)))
  rw [eqv_nil]
  cases st with
  | nil =>
    have e0 : ewAll [] = [] := rfl
    rw [e0, List.append_nil] at hp
    exact sv_retO 1 rfl ⟨rfl, rfl, by rw [hp]⟩
  | cons q st =>
    obtain ⟨p, y⟩ := q
    obtain ⟨hel, hok, hdp⟩ := hst _ List.mem_cons_self
    obtain ⟨a, l, de, as, cs, rfl⟩ := el_of hel
    have ho := ok_el.mp hok
    rw [ewAll_cons] at hp
    have hlen := hx.len
    rw [hp, List.length_append, List.length_cons] at hlen
    have kel : ∀ q ∈ kidsE p 0 cs ++ st, q.2.isEl = true ∧ q.2.ok = true ∧ q.1.length + q.2.dep ≤ 8 := fun q hq => by
      rcases List.mem_append.mp hq with hq | hq
      · obtain ⟨h1, h2⟩ := kidsE_mem hq
        refine ⟨h2, ho.hc _ h1, ?_⟩
        obtain ⟨r, hr', rfl⟩ := List.mem_map.mp hq
        have := dep_mem (show r.2 ∈ cs from h1)
        rw [Nd.dep] at hdp
        rw [List.length_append, List.length_cons, List.length_nil]
        simp only at hdp ⊢
        omega
      · exact hst q (List.mem_cons_of_mem _ hq)
    have hl2 := ewAll_len (kidsE p 0 cs ++ st) fun q hq => (kel q hq).1
    have ecs : stE ((p, .el a l de as cs) :: st) = stE st ++ [peD (p, .el a l de as cs)] := by simp [stE]
    have ne : (!(stE ((p, Nd.el a l de as cs) :: st)).isEmpty) = true := by rw [ecs]; simp
    rw [ne]
    refine sv_popU (.tp [.nm 3, .nm 4]) 2 (ds := stE st) (d := peD (p, .el a l de as cs)) (pg_tup rfl (pgs_cons (pg_name (i := 3) sc.nd rfl (Or.inr rfl)) (pgs_cons (pg_name (i := 4) sc.nd rfl (Or.inl rfl)) pgs_nil))) (by rw [ecs]; rfl) rfl ?_ rfl
    have hd4 : (Nd.el a l de as cs).d = .tup [.str "element", nmD a l, .pt (de.map dclD), .tup (as.map atrD), .tup (ndsD cs)] := by rw [Nd.d]
    refine sv_append 1 rfl (ev_tup (eva_cons (ev_var 3 rfl (eva_cons (ev_var 4 rfl (eva_nil ⟨[.tup (pthD p), (Nd.el a l de as cs).d], rfl, by simp, _, done.map peD, rfl, rfl, ?_, ?_⟩))))))
    · rw [List.length_map]; omega
    refine sv_setLc 5 (.tp [.nm 6, .nm 7]) [("k", 6), ("child", 7)] rfl sc.nd (blkOk_by (N := nmE) (sc := defScope sElems) (by decide +kernel)) (fun _ _ _ _ _ => pg_tup rfl (pgs_cons (pg_name (i := 6) sc.nd rfl (Or.inl rfl)) (pgs_cons (pg_name (i := 7) sc.nd rfl (Or.inl rfl)) pgs_nil))) (by simp [Pat.slots, slotsAll])
      (lc_filtT (fun q : Nat × Nd => D.tup [.int (q.1 : Int), q.2.d]) (.tp [.nm 6, .nm 7]) [("k", 6), ("child", 7)] (fun q => !q.2.isT) (fun q => peD (p ++ [q.1], q.2)) (EI.c (ei_enum b0 (ev_ix (ev_var 4 rfl (ev_int ⟨[.str "element", nmD a l, .pt (de.map dclD), .tup (as.map atrD), .tup (ndsD cs)], _, _, .inl ?_, rfl, atN (j := 4) rfl, ndsD cs, rfl, enumN 0 cs, enumN_d cs 0, ?_, fun q hq => ⟨_, rfl, fun s H Cc cl fp => ?_, fun _ s H Cc cl fp => ?_⟩, _, rfl, ?_⟩))))))
    · show Res.va (Nd.el a l de as cs).d = _
      rw [hd4]
    · rw [enumN_len]; exact Nat.le_trans ho.nc (by decide)
    · refine et_val (ev_isi (t := "tuple") (T.blt _ rfl) (T.blt _ rfl).tuple (by decide +kernel) (ev_var 7 rfl ⟨_, isi_t _, _, rfl, rfl, ?_⟩))
      rw [isT_d]
    · refine ev_tup (eva_cons (ev_cat (ev_var 3 rfl (ev_tup (eva_cons (ev_var 6 rfl (eva_nil ⟨[.int (q.1 : Int)], rfl, by simp, pthD p, _, rfl, rfl, ?_, ?_⟩)))))))
      · unfold pthD
        rw [List.length_map, List.length_cons, List.length_nil]
        simp only at hdp
        omega
      · refine eva_cons (ev_var 7 rfl (eva_nil ⟨_, rfl, by simp, rfl, ?_⟩))
        rw [← pthD_snoc]
        rfl
    refine sv_set 2 (ev_catL (ev_varO 2 rfl (ev_filtT peD peD_inj (.nm 8) [("pair", 8)] (fun q => q.2.isEl) peD rfl sc.nd (blkOk_by (N := nmE) (sc := defScope sElems) (by decide +kernel)) (fun _ _ _ _ _ => pg_name (i := 8) sc.nd rfl (Or.inl rfl)) (by simp [Pat.slots]) ?_))) sc.nd
    have exs : ((((enumN 0 cs).filter fun q => !q.2.isT).map fun q => peD (p ++ [q.1], q.2)).reverse) = ((((enumN 0 cs).filter fun q => !q.2.isT).map fun q => (p ++ [q.1], q.2)).reverse).map peD := by
      rw [List.map_reverse, List.map_map]
      rfl
    have efl : ((((enumN 0 cs).filter fun q => !q.2.isT).map fun q => (p ++ [q.1], q.2)).reverse.filter fun q : List Nat × Nd => q.2.isEl) = (kidsE p 0 cs).reverse := by
      rw [List.filter_reverse, List.filter_map, List.filter_filter]
      unfold kidsE
      congr 3
      funext q
      obtain ⟨k, c⟩ := q
      cases c <;> rfl
    refine eic_list (ev_revL (ev_varO 5 rfl ⟨_, rfl, _, rfl, _, exs, ?_, fun q hq => ⟨_, rfl, fun s H Cc cl fp => ?_, fun _ s H Cc cl fp => ev_var 8 rfl ⟨rfl, rfl⟩⟩, _, _, rfl, rfl, ?_, _, rfl, ?_⟩))
    · rw [List.length_reverse, List.length_map]
      have := List.length_filter_le (fun q : Nat × Nd => !q.2.isT) (enumN 0 cs)
      rw [enumN_len] at this
      have := ho.nc
      omega
    · have hq := List.mem_reverse.mp hq
      obtain ⟨r, hr', rfl⟩ := List.mem_map.mp hq
      obtain ⟨_, ht⟩ := List.mem_filter.mp hr'
      obtain ⟨k, c⟩ := r
      cases c with
      | s x => cases ht
      | h x =>
        refine et_eq (ev_ix (ev_ix (ev_var 8 rfl (ev_int ⟨[.tup (pthD (p ++ [k])), .tup [.str "hole", .str x]], _, _, .inl (by show Res.va (peD (p ++ [k], Nd.h x)) = _; unfold peD; rw [Nd.d]), rfl, at1, ev_int ⟨_, _, _, .inl rfl, rfl, at0, ev_str ⟨_, _, _, rfl, rfl, str_sc _ _, rfl, ?_⟩⟩⟩))))
        show decide (("hole" : Str) = "element") = false
        decide +kernel
      | el a' l' de' as' cs' =>
        refine et_eq (ev_ix (ev_ix (ev_var 8 rfl (ev_int ⟨[.tup (pthD (p ++ [k])), .tup [.str "element", nmD a' l', .pt (de'.map dclD), .tup (as'.map atrD), .tup (ndsD cs')]], _, _, .inl (by show Res.va (peD (p ++ [k], Nd.el a' l' de' as' cs')) = _; unfold peD; rw [Nd.d]), rfl, at1, ev_int ⟨_, _, _, .inl rfl, rfl, at0, ev_str ⟨_, _, _, rfl, rfl, str_sc _ _, rfl, ?_⟩⟩⟩))))
        show decide (("element" : Str) = "element") = true
        decide +kernel
    · rw [efl, List.length_map, List.length_reverse]
      unfold stE
      rw [List.length_map, List.length_reverse]
      rw [List.length_append] at hl2
      omega
    · rw [efl]
      refine sv_nil ⟨⟨rfl, done ++ [(p, .el a l de as cs)], kidsE p 0 cs ++ st, .va (.tup (pthD p)), .va (Nd.el a l de as cs).d, .ow (((enumN 0 cs).filter fun q => !q.2.isT).map fun q => peD (p ++ [q.1], q.2)), ?_, by rw [hp, List.append_assoc]; rfl, kel⟩, ?_⟩
      · unfold stE
        rw [List.reverse_append, List.map_append, List.map_append]
        rfl
      · show (ew [] x).length - (done.map peD ++ [_]).length < (ew [] x).length - (done.map peD).length
        rw [hp]
        simp only [List.length_append, List.length_map, List.length_cons, List.length_nil]
        omega
end
end G
set_option Elab.async false
set_option linter.all false
set_option maxRecDepth 100000
set_option maxHeartbeats 4000000
namespace G
open PySem PD L2
/-! ### another element at a path keeps what the law's elements are -/
def elP : List Nat → Nd → Option Nd
  | [], x => some x
  | i :: r, .el _ _ _ _ cs => (cs[i]?).bind fun c => elP r c
  | _ :: _, _ => none
mutual
theorem ew_at : ∀ (x : Nd) (p : List Nat) (q : List Nat × Nd), q ∈ ew p x → ∃ r, q.1 = p ++ r ∧ elP r x = some q.2 ∧ okPath r x ∧ q.2.isEl = true ∧ r.length < x.dep
  | .el a l ds as cs, p, q, h => by
    rw [ew] at h
    rcases List.mem_cons.mp h with rfl | h
    · exact ⟨[], by simp, rfl, trivial, rfl, by rw [Nd.dep]; exact Nat.succ_pos _⟩
    · obtain ⟨j, r, c, hc, e1, e2, e3, e4, e5⟩ := ews_at cs p 0 q h
      refine ⟨j :: r, by rw [e1]; simp, ?_, ⟨c, hc, e3⟩, e4, ?_⟩
      · rw [elP, hc]; exact e2
      · have := dep_mem (List.mem_of_getElem? hc)
        rw [Nd.dep, List.length_cons]
        omega
  | .s _, _, _, h => by rw [ew] at h; cases h
  | .h _, _, _, h => by rw [ew] at h; cases h
theorem ews_at : ∀ (cs : List Nd) (p : List Nat) (k : Nat) (q : List Nat × Nd), q ∈ ews p k cs → ∃ j r c, cs[j]? = some c ∧ q.1 = p ++ (k + j) :: r ∧ elP r c = some q.2 ∧ okPath r c ∧ q.2.isEl = true ∧ r.length < c.dep
  | [], _, _, _, h => by rw [ews] at h; cases h
  | c :: cs, p, k, q, h => by
    rw [ews] at h
    rcases List.mem_append.mp h with h | h
    · obtain ⟨r, e1, e2⟩ := ew_at c (p ++ [k]) q h
      exact ⟨0, r, c, rfl, by rw [e1]; simp, e2⟩
    · obtain ⟨j, r, c', hc, e1, e2⟩ := ews_at cs p (k + 1) q h
      exact ⟨j + 1, r, c', by simpa using hc, by rw [e1, show k + 1 + j = k + (j + 1) by omega], e2⟩
end
theorem noAdj_map : ∀ (cs ds : List Nd), cs.map Nd.isT = ds.map Nd.isT → noAdj cs = noAdj ds
  | [], [], _ => rfl
  | [], _ :: _, h => by cases h
  | _ :: _, [], h => by cases h
  | [a], [c], _ => rfl
  | [a], _ :: _ :: _, h => by simp at h
  | _ :: _ :: _, [c], h => by simp at h
  | a :: a2 :: cs, c :: c2 :: ds, h => by
    have h' := h
    rw [List.map_cons, List.map_cons, List.map_cons, List.map_cons, List.cons.injEq, List.cons.injEq] at h'
    show (!(a.isT && a2.isT) && noAdj (a2 :: cs)) = (!(c.isT && c2.isT) && noAdj (c2 :: ds))
    rw [h'.1, h'.2.1, noAdj_map (a2 :: cs) (c2 :: ds) (by rw [List.map_cons, List.map_cons, h'.2.1, h'.2.2])]
theorem isT_el {x : Nd} (h : x.isEl = true) : x.isT = false := by cases x <;> first | rfl | cases h
end G
set_option Elab.async false
set_option linter.all false
set_option maxRecDepth 100000
set_option maxHeartbeats 4000000
/-! What the law makes is a part. -/
namespace G
open PySem PD L2
theorem nodupB_of {α : Type} [DecidableEq α] : ∀ {xs : List α}, xs.Nodup → nodupB xs = true
  | [], _ => rfl
  | x :: xs, h => by
    obtain ⟨h1, h2⟩ := List.nodup_cons.mp h
    show (!decide (x ∈ xs) && nodupB xs) = true
    rw [nodupB_of h2, decide_eq_false h1]
    rfl
/-! ### names, values by names -/
/-! ### elements -/
theorem isS_isT (x : Nd) : x.d.isS = x.isT := by
  cases x <;> (rw [Nd.d]; rfl)
/-! ### along its elements -/
def Nd.isH : Nd → Bool
  | .h _ => true
  | _ => false
theorem begins_hole (c : Nd) : begins "hole" c.d = c.isH := by
  cases c with
  | s x => rw [Nd.d]; rfl
  | h x => rw [Nd.d]; rfl
  | el p l ds as cs =>
    rw [Nd.d]
    show decide (("element" : Str) = "hole") = false
    decide +kernel
theorem fw_none : ∀ (l : List (List D × D)) (n : Nat), n + l.length ≤ 60 → (∀ q ∈ l, q.1.length < 8 ∧ wrongItem q.2 = none) → fw n l = none
  | [], n, _, _ => rfl
  | (p, d) :: l, n, hl, h => by
    have := h (p, d) List.mem_cons_self
    rw [List.length_cons] at hl
    unfold fw
    rw [if_pos ⟨by omega, this.1⟩, this.2]
    exact fw_none l (n + 1) (by omega) fun q hq => h q (List.mem_cons_of_mem _ hq)
/-! ### the barred part -/
end G
set_option Elab.async false
set_option linter.all false
set_option maxRecDepth 100000
set_option maxHeartbeats 4000000
/-! Surroundings, lists of prefixes, addresses. -/
namespace G
open PySem PD L2
/-! ### dicts from texts to texts -/
def suK (m : Bd) : List (Key × D) := m.map fun q => (kS q.1, .str q.2)
def suD (m : Bd) : D := .dk (suK m)
theorem suK_val (m : Bd) (p : Str) : valD (suK m) (kS p) = (valB m p).map D.str := by
  unfold valD valB suK
  induction m with
  | nil => rfl
  | cons q m ih =>
    rw [List.map_cons, List.find?_cons, List.find?_cons]
    simp only [key_dec]
    cases decide (q.1 = p) with
    | true => rfl
    | false => exact ih
theorem suK_put (m : Bd) (p a : Str) : putD (suK m) (kS p) (.str a) = suK (putB m p a) := by
  unfold putD putB
  have e : ((suK m).any fun kv => decide (kv.1 = kS p)) = (m.any fun q => decide (q.1 = p)) := by
    unfold suK
    rw [List.any_map]
    congr 1
    funext q
    exact key_dec q.1 p
  rw [e]
  cases (m.any fun q => decide (q.1 = p)) with
  | false => simp [suK]
  | true =>
    simp only [if_true]
    unfold suK
    rw [List.map_map, List.map_map]
    refine List.map_congr_left fun q _ => ?_
    show (if kS q.1 = kS p then (kS q.1, D.str a) else (kS q.1, D.str q.2)) = _
    by_cases h : q.1 = p
    · rw [if_pos (by rw [h]), Function.comp, if_pos h]
    · rw [if_neg (fun z => h (Sum.inr.inj z)), Function.comp, if_neg h]
theorem su_inj (x y : Bd) (h : suD x = suD y) : x = y := by
  unfold suD suK at h
  injection h with h
  induction x generalizing y with
  | nil =>
    cases y with
    | nil => rfl
    | cons _ _ => cases h
  | cons q x ih =>
    cases y with
    | nil => cases h
    | cons r y =>
      rw [List.map_cons, List.map_cons, List.cons.injEq] at h
      obtain ⟨h1, h2⟩ := h
      rw [Prod.mk.injEq] at h1
      have e1 := Sum.inr.inj h1.1
      have e2 := D.str.inj h1.2
      rw [ih y h2, Prod.ext e1 e2]
/-- d.get(p, "") -/
def getB (m : Bd) (p : Str) : Str := (valB m p).getD ""
theorem suK_get (m : Bd) (p : Str) : (valD (suK m) (kS p)).getD (.str "") = .str (getB m p) := by
  rw [suK_val]
  unfold getB
  cases valB m p <;> rfl
/-! ### lists of prefixes: a tuple, or the module's own empty one -/
theorem str_inj (x y : Str) (h : D.str x = D.str y) : x = y := D.str.inj h
theorem pfx_sm {p : Str} (h : isPrefix (.str p) = true) : sm (.str p) = true := by
  unfold isPrefix mdo at h
  simp only [Bool.and_eq_true, decide_eq_true_eq] at h
  have := h.1.1.2
  show decide (p.length ≤ 100000) = true
  exact decide_eq_true (by omega)
end G
set_option Elab.async false
set_option linter.all false
set_option maxRecDepth 100000
set_option maxHeartbeats 4000000
/-! Sealing: what is visible, what is declared, as functions of what prefixes are bound to. -/
namespace G
open PySem PD L2
theorem getB_put (m : Bd) (p a q : Str) : getB (putB m p a) q = if q = p then a else getB m q := by
  unfold getB
  rw [valB_put]
  split <;> rfl
/-! ### what prefixes are bound to -/
abbrev Af := Str → Str
def bndA (ds : List (Str × Str)) (A : Af) : Af := ds.foldl (fun A q => fun p => if p = q.1 then q.2 else A p) A
theorem bndA_get (ds : List (Str × Str)) (m : Bd) : getB (bnd ds m) = bndA ds (getB m) := by
  induction ds generalizing m with
  | nil => rfl
  | cons q ds ih =>
    show getB (bnd ds (putB m q.1 q.2)) = bndA ds (fun p => if p = q.1 then q.2 else getB m p)
    rw [ih]
    congr 1
    funext p
    exact getB_put m q.1 q.2 p
/-! ### what an element declares in a sealed form -/
/-! ### the sealed form -/
/-! ### plainer -/
/-! ### meanings of plain parts -/
def addrOf (A : Af) (own : Str) : Str := if own = "" then "" else A own
end G
set_option Elab.async false
set_option linter.all false
set_option maxRecDepth 100000
set_option maxHeartbeats 4000000
/-! The elements in their order, with what the sealed form has declared around each; without holes. -/
namespace G
open PySem PD L2
mutual
/-- without holes -/
def noH : Nd → Bool
  | .el _ _ _ _ cs => noHs cs
  | .s _ => true
  | .h _ => false
def noHs : List Nd → Bool
  | [] => true
  | c :: cs => noH c && noHs cs
end
theorem noHs_mem : ∀ {cs : List Nd}, noHs cs = true → ∀ c ∈ cs, noH c = true
  | c :: cs, h, d, hd => by
    rw [noHs, Bool.and_eq_true] at h
    rcases List.mem_cons.mp hd with rfl | hd
    · exact h.1
    · exact noHs_mem h.2 d hd
/-- the children of every element are as they have to be -/
theorem prt_kids {x : Nd} (h : Prt x) {r : Rw3} (hr : r ∈ wk [] [] x) {q l : Str} {ds : List (Str × Str)} {as : List ((Str × Str) × Vl)} {cs : List Nd} (e : r.2.1 = .el q l ds as cs) : smK (.tup (ndsD cs)) = true ∧ kidsOk false (ndsD cs) = true := by
  have e0 := pre_wk x [] [] h.el
  rw [show pthD [] = [] from rfl] at e0
  have hm : (pthD r.1, r.2.1.d) ∈ pre [] x.d := by
    rw [e0]
    exact List.mem_map.mpr ⟨r, hr, rfl⟩
  have hw := fw_mem (fw_of_good h.good) _ hm
  obtain ⟨n, de, at_, ks, e1, _, _, _, hk⟩ := wrong_none hw
  have hs := pre_sm _ _ _ (Nat.le_refl _) h.good.1.1 _ hm
  simp only at e1 hs
  rw [e, Nd.d] at e1
  injection e1 with e1
  injection e1 with _ e1
  injection e1 with _ e1
  injection e1 with _ e1
  injection e1 with _ e1
  injection e1 with e1 _
  injection e1 with e1
  rw [e1]
  refine ⟨?_, hk⟩
  rw [e, Nd.d] at hs
  rw [← e1]
  exact (sm_el hs).2.2.2.2
/-! ### rows -/
/-! ### the dicts by paths -/
/-! ### other declarations -/
end G
set_option Elab.async false
set_option linter.all false
set_option maxRecDepth 100000
set_option maxHeartbeats 4000000
namespace G
open PySem PySem.Spec PyProof.Rows L2 PD
section
variable {P : Program} {w : World} {K : PySem.W.Frag} {mg : Str → Option Value} {base : Heap} {Z : Vol} {f : Addr} {fd : FuncData}
/-! ### holes, of a part without -/
abbrev sHol : Stmt := st_holes
theorem srtD_nil : srtD [] = [] := List.Perm.eq_nil (srtD_perm [])
/-! ### need_surrounding -/
structure SuOk (W : Bd) : Prop where
  pf : ∀ q ∈ W, isPrefix (.str q.1) = true ∧ isAddr (.str q.2) = true
  nd : (W.map (·.1)).Nodup
  len : W.length ≤ 100
noncomputable def gSur : List D → Option Res := gT (fun W : Bd => [suD W]) SuOk fun W => .va (suD W)
theorem su1_inj (x y : Bd) (h : [suD x] = [suD y]) : x = y := su_inj x y (by injection h)
theorem gSur_of {W : Bd} (h : SuOk W) : gSur [suD W] = some (.va (suD W)) := gT_of (enc := fun W : Bd => [suD W]) su1_inj h
abbrev DSur (P : Program) (w : World) (K : PySem.W.Frag) (mg : Str → Option Value) (base : Heap) (Z : Vol) := Df P w K mg base "need_surrounding" 3 ["thing"] (spP Z K 1 gSur)
abbrev sSur : Stmt := st_need_surrounding
theorem adr_sm {p : Str} (h : isAddr (.str p) = true) : sm (.str p) = true := by
  unfold isAddr mdo at h
  simp only [Bool.and_eq_true, decide_eq_true_eq] at h
  have := h.1.2
  show decide (p.length ≤ 100000) = true
  exact decide_eq_true (by omega)
theorem pairs_su (W : Bd) : pairsD (suK W) = W.map dclD := by
  unfold pairsD suK
  rw [List.map_map]
  rfl
theorem ok_sur (F : Fun K "need_surrounding" "need_surrounding" sSur f fd) (T : Cst mg) (D1 : DB P w K mg base Z "is_prefix" 2 isPrefix) (D2 : DB P w K mg base Z "is_address" 2 isAddr) : FnOk P w K mg base CX0 3 f fd ["thing"] (spP Z K 1 gSur) := by
  have sc : FnScope ["thing", "prefix", "address"] ["thing"] (defScope sSur) := ⟨rfl, rfl, rfl, by decide +kernel, rfl, by decide +kernel, by decide +kernel⟩
  refine fn_pure F sc rfl (gT_out fun x hx => rfl) fun cdv A outer s H E b ds r hr hl hg => ?_
  obtain ⟨W, rfl, hW, rfl⟩ := gT_one hg
  have b0 := T.blt (cxOf CX0 P w K mg base ["thing", "prefix", "address"] "need_surrounding" (defScope sSur) f cdv A outer s H E).nox rfl
  refine sv_if (et_not (et_val (ev_isi (t := "dict") b0 b0.dict (by decide +kernel) (ev_var 0 rfl ⟨_, isi_d (suD W), _, rfl, ?_⟩))))
  refine sv_nil ?_
  refine sv_forT dclD dclD_inj (.tp [.nm 1, .nm 2]) rfl PassesOwn.never (pg_tup rfl (pgs_cons (pg_name (i := 1) sc.nd rfl (by first | exact Or.inl rfl | exact Or.inr rfl)) (pgs_cons (pg_name (i := 2) sc.nd rfl (by first | exact Or.inl rfl | exact Or.inr rfl)) pgs_nil)))
    (ei_items (ev_var 0 rfl ⟨suK W, rfl, W, pairs_su W, fun _ b2 δ2 => b2 = b ∧ ∃ s1 s2, δ2 = [.va (suD W), s1, s2], ⟨rfl, _, _, rfl⟩, ?_, ?_⟩))
  · rintro pre q post b2 δ2 e ⟨rfl, s1, s2, rfl⟩
    obtain ⟨h1, h2⟩ := hW.pf q (by rw [e]; simp)
    refine ⟨_, rfl, ?_⟩
    refine sv_if (et_pw (ew_or (et_not (et_val (ev_callP D1 hr (eva_cons (ev_var 1 rfl (eva_nil ⟨_, _, rfl, rfl, gB_of (pfx_sm h1), _, rfl, ?_⟩))))))))
    rw [h1]
    refine ew_or1 (et_not (et_val (ev_callP D2 hr (eva_cons (ev_var 2 rfl (eva_nil ⟨_, _, rfl, rfl, gB_of (adr_sm h2), _, rfl, ?_⟩))))))
    rw [h2]
    exact sv_nil (sv_nil ⟨rfl, _, _, rfl⟩)
  · rintro b2 δ2 ⟨rfl, s1, s2, rfl⟩
    exact sv_ret (ev_var 0 rfl ⟨rfl, rfl, rfl⟩)
/-! ### element_at, at an element's path -/
theorem elP_el {i : Nat} {r : List Nat} {x y : Nd} (h : elP (i :: r) x = some y) : ∃ p l ds as cs c, x = .el p l ds as cs ∧ cs[i]? = some c ∧ elP r c = some y := by
  cases x with
  | el p l ds as cs =>
    rw [elP] at h
    obtain ⟨c, hc, h⟩ := Option.bind_eq_some_iff.mp h
    exact ⟨p, l, ds, as, cs, c, rfl, hc, h⟩
  | s _ => cases h
  | h _ => cases h
/-! ### _need_sealable -/
/-! ### visible -/
theorem elP_ok : ∀ {r : List Nat} {x y : Nd}, elP r x = some y → x.ok = true → y.ok = true
  | [], x, y, h, ho => by
    have e : x = y := Option.some.inj h
    rw [← e]; exact ho
  | i :: r, x, y, h, ho => by
    obtain ⟨p, l, ds, as, cs, c, rfl, hc, h⟩ := elP_el h
    exact elP_ok h ((ok_el.mp ho).hc c (List.mem_of_getElem? hc))
end
end G
set_option Elab.async false
set_option linter.all false
set_option maxRecDepth 100000
set_option maxHeartbeats 4000000
/-! Elements of parts without holes; what the law makes, and its sealed forms, are parts. -/
namespace G
open PySem PD L2
def gP (x : Str) : Bool := isPrefix (.str x) && okS x
def gL (x : Str) : Bool := isLocal (.str x) && okS x
def gA (x : Str) : Bool := (isAddr (.str x) || isEmptyS (.str x)) && okS x
def gTx (x : Str) : Bool := !isEmptyS (.str x) && isPlain (.str x) && okS x
def gV : Vl → Bool
  | .s x => isPlain (.str x) && okS x
  | .q p l => gP p && gL l
theorem gP_ok {x : Str} (h : gP x = true) : okS x = true := (Bool.and_eq_true_iff.mp h).2
theorem gL_ok {x : Str} (h : gL x = true) : okS x = true := (Bool.and_eq_true_iff.mp h).2
theorem gA_ok {x : Str} (h : gA x = true) : okS x = true := (Bool.and_eq_true_iff.mp h).2
theorem gTx_ok {x : Str} (h : gTx x = true) : okS x = true := (Bool.and_eq_true_iff.mp h).2
theorem gV_ok {v : Vl} (h : gV v = true) : v.ok = true := by
  cases v with
  | s x => exact (Bool.and_eq_true_iff.mp h).2
  | q p l =>
    obtain ⟨h1, h2⟩ := Bool.and_eq_true_iff.mp h
    exact Bool.and_eq_true_iff.mpr ⟨gP_ok h1, gL_ok h2⟩
theorem g_name {p l : Str} (hp : gP p = true) (hl : gL l = true) : isName (nmD p l) = true := by
  show (isPrefix (.str p) && isLocal (.str l)) = true
  rw [(Bool.and_eq_true_iff.mp hp).1, (Bool.and_eq_true_iff.mp hl).1]
  rfl
theorem g_decl {q : Str × Str} (h : gP q.1 = true ∧ gA q.2 = true) : isDecl (dclD q) = true := by
  show (isPrefix (.str q.1) && (isAddr (.str q.2) || isEmptyS (.str q.2))) = true
  rw [(Bool.and_eq_true_iff.mp h.1).1, (Bool.and_eq_true_iff.mp h.2).1]
  rfl
theorem g_attr {q : (Str × Str) × Vl} (h : gP q.1.1 = true ∧ gL q.1.2 = true ∧ gV q.2 = true) : isAttr (atrD q) = true := by
  show (isName (nmD q.1.1 q.1.2) && (isPlain q.2.d || isName q.2.d)) = true
  rw [g_name h.1 h.2.1]
  obtain ⟨nm, v⟩ := q
  cases v with
  | s x =>
    have := (Bool.and_eq_true_iff.mp h.2.2).1
    show (true && (isPlain (.str x) || _)) = true
    rw [this]
    rfl
  | q p l =>
    obtain ⟨a, c⟩ := Bool.and_eq_true_iff.mp h.2.2
    show (true && (_ || isName (nmD p l))) = true
    rw [g_name a c, Bool.or_true]
    rfl
/-! ### sealed forms -/
/-! ### what the law draws from -/
theorem g_pfxs {x : Str} (h : x ∈ pfxs) : gP x = true := by
  have : pfxs.all gP = true := by decide +kernel
  exact List.all_eq_true.mp this x h
theorem g_lcls {x : Str} (h : x ∈ lcls) : gL x = true := by
  have : lcls.all gL = true := by decide +kernel
  exact List.all_eq_true.mp this x h
theorem g_adrs {x : Str} (h : x ∈ adrs) : gA x = true := by
  have : adrs.all gA = true := by decide +kernel
  exact List.all_eq_true.mp this x h
theorem g_txts {x : Str} (h : x ∈ txts) : gTx x = true := by
  have : txts.all gTx = true := by decide +kernel
  exact List.all_eq_true.mp this x h
theorem g_plns {x : Str} (h : x ∈ plns) : (isPlain (.str x) && okS x) = true := by
  have : (plns.all fun x => isPlain (.str x) && okS x) = true := by decide +kernel
  exact List.all_eq_true.mp this x h
theorem g_okV {v : Vl} (h : okV v) : gV v = true := by
  cases v with
  | s x => exact g_plns h
  | q p l => exact Bool.and_eq_true_iff.mpr ⟨g_pfxs h.1, g_lcls h.2⟩
end G
set_option Elab.async false
set_option linter.all false
set_option maxRecDepth 100000
set_option maxHeartbeats 4000000
/-! A wrapped part is a part (k11). -/
namespace G
open PySem PySem.Spec PyProof.Rows L2 PD
/-- a part, told by its rows -/
theorem prt_rows {x : Nd} (hel : x.isEl = true) (hok : x.ok = true) (hdep : x.dep ≤ 8) (few : ∀ r ∈ wk [] [] x, fewA r.2.1.d = true) (hw : fw 0 ((wk [] [] x).map rowPD) = none) (hh : fh [] ((wk [] [] x).map rowPD) = none) (hn : holesIn ((wk [] [] x).map rowPD) ≤ 1000) : Prt x := by
  have hpre : pre [] x.d = (wk [] [] x).map rowPD := pre_wk x [] [] hel
  refine ⟨hel, hok, ⟨⟨ok_sm x hok, ?_, by rw [hpre]; exact hn⟩, ?_⟩, hdep⟩
  · unfold fewAll
    rw [hpre, List.all_map]
    exact List.all_eq_true.mpr fun r hr => few r hr
  · unfold fault
    rw [hpre, hw]
    exact hh
end G
set_option Elab.async false
set_option linter.all false
set_option maxRecDepth 100000
set_option maxHeartbeats 4000000
/-! Parts of any kind, with holes: what is a part. -/
namespace G
open PySem PySem.Spec PyProof.Rows L2 PD
def gW (x : Str) : Bool := isHole (.tup [.str "hole", .str x]) && okS x
mutual
/-- a good text, hole, element -/
def GB : Nd → Bool
  | .s t => gTx t
  | .h t => gW t
  | .el p l ds as cs => gP p && gL l && decide ((ds.map (·.1)).Nodup) && ds.all (fun q => gP q.1 && gA q.2) && decide (ds.length ≤ 50) && decide ((as.map (·.1)).Nodup) && as.all (fun q => gP q.1.1 && gL q.1.2 && gV q.2) && decide (as.length ≤ 4) && decide (cs.length ≤ 60) && noAdj cs && GBs cs
def GBs : List Nd → Bool
  | [] => true
  | c :: cs => GB c && GBs cs
end
theorem gbs_mem : ∀ {cs : List Nd}, GBs cs = true ↔ ∀ c ∈ cs, GB c = true
  | [] => by rw [GBs]; simp
  | c :: cs => by rw [GBs, Bool.and_eq_true, gbs_mem]; simp
structure GE (p l : Str) (ds : List (Str × Str)) (as : List ((Str × Str) × Vl)) (cs : List Nd) : Prop where
  p : gP p = true
  l : gL l = true
  dn : (ds.map (·.1)).Nodup
  hd : ∀ q ∈ ds, gP q.1 = true ∧ gA q.2 = true
  nd : ds.length ≤ 50
  an : (as.map (·.1)).Nodup
  ha : ∀ q ∈ as, gP q.1.1 = true ∧ gL q.1.2 = true ∧ gV q.2 = true
  na : as.length ≤ 4
  nc : cs.length ≤ 60
  adj : noAdj cs = true
  hc : ∀ c ∈ cs, GB c = true
theorem gb_el {p l : Str} {ds : List (Str × Str)} {as : List ((Str × Str) × Vl)} {cs : List Nd} : GB (.el p l ds as cs) = true ↔ GE p l ds as cs := by
  rw [GB]
  simp only [Bool.and_eq_true, decide_eq_true_eq, List.all_eq_true, gbs_mem]
  constructor
  · rintro ⟨⟨⟨⟨⟨⟨⟨⟨⟨⟨h1, h2⟩, h3⟩, h4⟩, h5⟩, h6⟩, h7⟩, h8⟩, h9⟩, h10⟩, h11⟩
    exact ⟨h1, h2, h3, fun q hq => h4 q hq, h5, h6, fun q hq => ⟨(h7 q hq).1.1, (h7 q hq).1.2, (h7 q hq).2⟩, h8, h9, h10, h11⟩
  · intro h
    exact ⟨⟨⟨⟨⟨⟨⟨⟨⟨⟨h.p, h.l⟩, h.dn⟩, fun q hq => h.hd q hq⟩, h.nd⟩, h.an⟩, fun q hq => ⟨⟨(h.ha q hq).1, (h.ha q hq).2.1⟩, (h.ha q hq).2.2⟩⟩, h.na⟩, h.nc⟩, h.adj⟩, h.hc⟩
theorem gW_ok {x : Str} (h : gW x = true) : okS x = true := (Bool.and_eq_true_iff.mp h).2
mutual
theorem gb_ok : ∀ (x : Nd), GB x = true → x.ok = true
  | .s t, h => by rw [GB] at h; rw [Nd.ok]; exact gTx_ok h
  | .h t, h => by rw [GB] at h; rw [Nd.ok]; exact gW_ok h
  | .el p l ds as cs, h => by
    have g := gb_el.mp h
    exact ok_el.mpr ⟨gP_ok g.p, gL_ok g.l, fun q hq => ⟨gP_ok (g.hd q hq).1, gA_ok (g.hd q hq).2⟩, fun q hq => ⟨gP_ok (g.ha q hq).1, gL_ok (g.ha q hq).2.1, gV_ok (g.ha q hq).2.2⟩, g.nd, g.na, g.nc, gbs_ok cs g.hc⟩
theorem gbs_ok : ∀ (cs : List Nd), (∀ c ∈ cs, GB c = true) → ∀ c ∈ cs, c.ok = true
  | [], _, c, hc => nomatch hc
  | d :: cs, h, c, hc => by
    rcases List.mem_cons.mp hc with e | hc
    · rw [e]; exact gb_ok d (h d List.mem_cons_self)
    · exact gbs_ok cs (fun e he => h e (List.mem_cons_of_mem _ he)) c hc
end
theorem gbkids : ∀ (cs : List Nd) (bt : Bool), noAdj cs = true → (bt = true → ∀ c, cs.head? = some c → c.isT = false) → (∀ c ∈ cs, GB c = true) → kidsOk bt (ndsD cs) = true
  | [], bt, _, _, _ => by rw [ndsD]; rfl
  | c :: cs, bt, na, hb, h => by
    have na2 : noAdj cs = true := by
      cases cs with
      | nil => rfl
      | cons d cs => exact (Bool.and_eq_true_iff.mp (show (!(c.isT && d.isT) && noAdj (d :: cs)) = true from na)).2
    have hb2 : c.isT = true → ∀ d, cs.head? = some d → d.isT = false := fun hc d hd => by
      cases cs with
      | nil => cases hd
      | cons e cs =>
        cases hd
        have := (Bool.and_eq_true_iff.mp (show (!(c.isT && d.isT) && noAdj (d :: cs)) = true from na)).1
        rw [hc] at this
        simpa using this
    have rest : ∀ bt, (bt = true → c.isT = true) → kidsOk bt (ndsD cs) = true := fun bt h2 => gbkids cs bt na2 (fun z => hb2 (h2 z)) fun d hd => h d (List.mem_cons_of_mem _ hd)
    have hc := h c List.mem_cons_self
    rw [ndsD]
    unfold kidsOk
    rw [isS_isT]
    cases c with
    | s t =>
      rw [GB] at hc
      have hbf : bt = false := by
        cases bt with
        | false => rfl
        | true => exact nomatch hb rfl _ rfl
      obtain ⟨p1, p2⟩ := Bool.and_eq_true_iff.mp (Bool.and_eq_true_iff.mp hc).1
      rw [rest true fun _ => rfl, hbf, Nd.d]
      have p1' : isEmptyS (.str t) = false := by simpa using p1
      rw [p1', p2]
      rfl
    | h t =>
      rw [GB] at hc
      have hh := (Bool.and_eq_true_iff.mp hc).1
      rw [rest false (fun z => nomatch z), begins_el]
      have e : isHole (Nd.h t).d = true := by rw [Nd.d]; exact hh
      rw [e]
      rfl
    | el p l ds as ks =>
      rw [rest false (fun z => nomatch z), begins_el]
      rfl
theorem gb_wrong {x : Nd} (hel : x.isEl = true) (h : GB x = true) : wrongItem x.d = none := by
  obtain ⟨p, l, ds, as, cs, rfl⟩ := el_of hel
  have g := gb_el.mp h
  have hd : areDecls (.pt (ds.map dclD)) = true := by
    show ((ds.map dclD).all isDecl && nodupB ((ds.map dclD).map fun d => strOf (fstOf d))) = true
    have e1 : (ds.map dclD).all isDecl = true := List.all_eq_true.mpr fun d hd => by
      obtain ⟨q, hq, rfl⟩ := List.mem_map.mp hd
      exact g_decl (g.hd q hq)
    have e2 : (ds.map dclD).map (fun d => strOf (fstOf d)) = ds.map (·.1) := by rw [List.map_map]; rfl
    rw [e1, e2, nodupB_of g.dn]
    rfl
  have ha : areAttrs (.tup (as.map atrD)) = true := by
    show ((as.map atrD).all isAttr && nodupB ((as.map atrD).map fun d => nameOf (fstOf d))) = true
    have e1 : (as.map atrD).all isAttr = true := List.all_eq_true.mpr fun d hd => by
      obtain ⟨q, hq, rfl⟩ := List.mem_map.mp hd
      exact g_attr (g.ha q hq)
    have e2 : (as.map atrD).map (fun d => nameOf (fstOf d)) = as.map (·.1) := by rw [List.map_map]; rfl
    rw [e1, e2, nodupB_of g.an]
    rfl
  have hc : areChildren (.tup (ndsD cs)) = true := gbkids cs false g.adj (fun z => nomatch z) g.hc
  have hb := begins_el (Nd.el p l ds as cs)
  rw [Nd.d] at hb ⊢
  have hb : begins "element" (.tup [.str "element", nmD p l, .pt (ds.map dclD), .tup (as.map atrD), .tup (ndsD cs)]) = true := hb
  show (if begins "element" (.tup [.str "element", nmD p l, .pt (ds.map dclD), .tup (as.map atrD), .tup (ndsD cs)]) then
    if isName (nmD p l) then if areDecls (.pt (ds.map dclD)) then if areAttrs (.tup (as.map atrD)) then if areChildren (.tup (ndsD cs)) then none else some "children" else some "attributes" else some "declarations" else some "name"
    else some "form" : Option Str) = none
  rw [if_pos hb, if_pos (g_name g.p g.l), if_pos hd, if_pos ha, if_pos hc]
/-! ### its holes, how many elements -/
def ownHs (cs : List Nd) : List Str := cs.filterMap fun c => match c with | .h x => some x | _ => none
mutual
def hlL : Nd → List Str
  | .el _ _ _ _ cs => ownHs cs ++ hlLs cs
  | .s _ => []
  | .h _ => []
def hlLs : List Nd → List Str
  | [] => []
  | c :: cs => hlL c ++ hlLs cs
end
mutual
def cnt : Nd → Nat
  | .el _ _ _ _ cs => 1 + cnts cs
  | .s _ => 0
  | .h _ => 0
def cnts : List Nd → Nat
  | [] => 0
  | c :: cs => cnt c + cnts cs
end
def ownHN : Nd → List Str
  | .el _ _ _ _ cs => ownHs cs
  | _ => []
mutual
theorem wk_hl : ∀ (x : Nd) (p : List Nat) (m : Bd), (wk p m x).flatMap (fun r => ownHN r.2.1) = hlL x
  | .el q l ds as cs, p, m => by rw [wk, hlL, List.flatMap_cons, wks_hl cs]; rfl
  | .s _, _, _ => by rw [wk, hlL]; rfl
  | .h _, _, _ => by rw [wk, hlL]; rfl
theorem wks_hl : ∀ (cs : List Nd) (p : List Nat) (k : Nat) (m : Bd), (wks p k m cs).flatMap (fun r => ownHN r.2.1) = hlLs cs
  | [], _, _, _ => by rw [wks, hlLs]; rfl
  | c :: cs, p, k, m => by rw [wks, hlLs, List.flatMap_append, wk_hl c, wks_hl cs]
end
mutual
theorem wk_cnt : ∀ (x : Nd) (p : List Nat) (m : Bd), (wk p m x).length = cnt x
  | .el q l ds as cs, p, m => by rw [wk, cnt, List.length_cons, wks_cnt cs]; omega
  | .s _, _, _ => by rw [wk, cnt]; rfl
  | .h _, _, _ => by rw [wk, cnt]; rfl
theorem wks_cnt : ∀ (cs : List Nd) (p : List Nat) (k : Nat) (m : Bd), (wks p k m cs).length = cnts cs
  | [], _, _, _ => by rw [wks, cnts]; rfl
  | c :: cs, p, k, m => by rw [wks, cnts, List.length_append, wk_cnt c, wks_cnt cs]
end
mutual
/-- each row's element is good, not deeper than the whole -/
theorem gb_wk : ∀ (x : Nd) (p : List Nat) (m : Bd), GB x = true → ∀ r ∈ wk p m x, GB r.2.1 = true ∧ r.2.1.isEl = true ∧ r.1.length < p.length + x.dep
  | .el q l ds as cs, p, m, h, r, hr => by
    rw [wk] at hr
    rw [Nd.dep]
    rcases List.mem_cons.mp hr with rfl | hr
    · exact ⟨h, rfl, by show p.length < _; omega⟩
    · obtain ⟨h1, h2, h3⟩ := gbs_wk cs p 0 (bnd ds m) (gb_el.mp h).hc r hr
      exact ⟨h1, h2, by omega⟩
  | .s _, _, _, _, r, hr => by rw [wk] at hr; cases hr
  | .h _, _, _, _, r, hr => by rw [wk] at hr; cases hr
theorem gbs_wk : ∀ (cs : List Nd) (p : List Nat) (k : Nat) (m : Bd), (∀ c ∈ cs, GB c = true) → ∀ r ∈ wks p k m cs, GB r.2.1 = true ∧ r.2.1.isEl = true ∧ r.1.length < p.length + 1 + ndsDep cs
  | [], _, _, _, _, r, hr => by rw [wks] at hr; cases hr
  | c :: cs, p, k, m, h, r, hr => by
    rw [wks] at hr
    rw [ndsDep]
    rcases List.mem_append.mp hr with hr | hr
    · obtain ⟨h1, h2, h3⟩ := gb_wk c (p ++ [k]) m (h c List.mem_cons_self) r hr
      refine ⟨h1, h2, ?_⟩
      rw [List.length_append] at h3
      simp only [List.length_cons, List.length_nil] at h3
      have := Nat.le_max_left c.dep (ndsDep cs)
      omega
    · obtain ⟨h1, h2, h3⟩ := gbs_wk cs p (k + 1) m (fun d hd => h d (List.mem_cons_of_mem _ hd)) r hr
      have := Nat.le_max_right c.dep (ndsDep cs)
      exact ⟨h1, h2, by omega⟩
end
theorem hs_own : ∀ cs : List Nd, (holeStrs (ndsD cs)).map strOf = ownHs cs
  | [] => by rw [ndsD]; rfl
  | c :: cs => by
    rw [ndsD, holeStrs, begins_hole]
    cases c with
    | s x => rw [show Nd.isH (.s x) = false from rfl, if_neg (by decide), hs_own cs]; rfl
    | h x =>
      rw [show Nd.isH (.h x) = true from rfl, if_pos rfl, List.map_cons, hs_own cs, Nd.d]
      rfl
    | el p l ds as ks => rw [show Nd.isH (.el p l ds as ks) = false from rfl, if_neg (by decide), hs_own cs]; rfl
theorem hs_row {x : Nd} (h : x.isEl = true) : (holeStrs (kidsOf x.d)).map strOf = ownHN x := by
  obtain ⟨p, l, ds, as, cs, rfl⟩ := el_of h
  rw [← show ndsD cs = kidsOf (Nd.el p l ds as cs).d by rw [Nd.d]; rfl, hs_own]
  rfl
theorem fh_nd : ∀ (l : List (List D × D)) (told : List Str), (told ++ l.flatMap fun q => (holeStrs (kidsOf q.2)).map strOf).Nodup → fh told l = none
  | [], _, _ => rfl
  | (p, d) :: l, told, h => by
    rw [List.flatMap_cons, ← List.append_assoc] at h
    unfold fh
    rw [if_pos (nodupB_of (List.nodup_append.mp h).1)]
    exact fh_nd l _ h
/-- a good element of few levels, elements, holes is a part -/
structure GP (x : Nd) : Prop where
  el : x.isEl = true
  g : GB x = true
  dep : x.dep ≤ 8
  cnt : cnt x ≤ 60
  nd : (hlL x).Nodup
  few : (hlL x).length ≤ 1000
theorem gp_hl {x : Nd} (hg : GB x = true) : ((wk [] [] x).map rowPD).flatMap (fun q => (holeStrs (kidsOf q.2)).map strOf) = hlL x := by
  rw [← wk_hl x [] [], List.flatMap_map]
  have key : ∀ l : List Rw3, (∀ r ∈ l, r.2.1.isEl = true) → l.flatMap (fun r => (holeStrs (kidsOf (rowPD r).2)).map strOf) = l.flatMap fun r => ownHN r.2.1 := by
    intro l
    induction l with
    | nil => intro _; rfl
    | cons r l ih =>
      intro h
      rw [List.flatMap_cons, List.flatMap_cons, ih fun q hq => h q (List.mem_cons_of_mem _ hq), ← hs_row (h r List.mem_cons_self)]
      rfl
  exact key _ fun r hr => (gb_wk x [] [] hg r hr).2.1
theorem gp_prt {x : Nd} (h : GP x) : Prt x := by
  have hall := gb_wk x [] [] h.g
  have hl := gp_hl h.g
  refine prt_rows h.el (gb_ok x h.g) h.dep (fun r hr => ?_) (fw_none _ 0 ?_ fun q hq => ?_) (fh_nd _ [] ?_) ?_
  · obtain ⟨a, l, de, at_, cs, e⟩ := el_of (hall r hr).2.1
    have hg := (hall r hr).1
    rw [e] at hg ⊢
    have g := gb_el.mp hg
    rw [Nd.d]
    show (decide ((de.map dclD).length ≤ 50) && decide ((at_.map atrD).length ≤ 4)) = true
    rw [List.length_map, List.length_map, decide_eq_true g.nd, decide_eq_true g.na]
    rfl
  · rw [List.length_map, wk_cnt]
    have := h.cnt
    omega
  · obtain ⟨r, hr, rfl⟩ := List.mem_map.mp hq
    obtain ⟨h1, h2, h3⟩ := hall r hr
    refine ⟨?_, gb_wrong h2 h1⟩
    show (pthD r.1).length < 8
    unfold pthD
    rw [List.length_map]
    have h4 := h.dep
    have h5 : ([] : List Nat).length = 0 := rfl
    omega
  · rw [List.nil_append, hl]
    exact h.nd
  · have e : holesIn ((wk [] [] x).map rowPD) = (((wk [] [] x).map rowPD).flatMap (fun q => (holeStrs (kidsOf q.2)).map strOf)).length := by
      unfold holesIn
      rw [List.length_flatMap]
      congr 1
      refine List.map_congr_left fun q _ => ?_
      rw [List.length_map]
    rw [e, hl]
    exact h.few
mutual
/-- its holes, child by child -/
def hlW : Nd → List Str
  | .el _ _ _ _ cs => hlWs cs
  | .s _ => []
  | .h x => [x]
def hlWs : List Nd → List Str
  | [] => []
  | c :: cs => hlW c ++ hlWs cs
end
mutual
theorem hl_perm : ∀ (x : Nd), x.isEl = true → (hlL x).Perm (hlW x)
  | .el _ _ _ _ cs, _ => by rw [hlL, hlW]; exact hls_perm cs
  | .s _, h => nomatch h
  | .h _, h => nomatch h
theorem hls_perm : ∀ (cs : List Nd), (ownHs cs ++ hlLs cs).Perm (hlWs cs)
  | [] => by rw [hlLs, hlWs]; exact List.Perm.refl _
  | c :: cs => by
    have ih := hls_perm cs
    rw [hlLs, hlWs]
    cases c with
    | el p l ds as ks =>
      rw [show ownHs (.el p l ds as ks :: cs) = ownHs cs from rfl]
      have h1 := hl_perm (.el p l ds as ks) rfl
      refine List.Perm.trans ?_ (h1.append ih)
      rw [← List.append_assoc, ← List.append_assoc]
      exact List.perm_append_comm.append_right _
    | s x => rw [show ownHs (.s x :: cs) = ownHs cs from rfl, hlL, hlW]; exact ih
    | h x => rw [show ownHs (.h x :: cs) = x :: ownHs cs from rfl, hlL, hlW]; exact ih.cons x
end
end G
set_option Elab.async false
set_option linter.all false
set_option maxRecDepth 100000
set_option maxHeartbeats 4000000
namespace G
open PySem PySem.Spec PyProof.Rows L2 PD
/-! ### the keys of a dict of truth values -/
section
variable {P : Program} {w : World} {K : PySem.W.Frag} {mg : Str → Option Value} {base : Heap} {Z : Vol} {f : Addr} {fd : FuncData}
/-! ### _law_bound -/
noncomputable def gLB : List D → Option Res := gT (fun x : List (Str × Str) × Bd => [.pt (x.1.map dclD), suD x.2]) (fun x => x.1.length + x.2.length ≤ 1000000) fun x => .od (.k (suK (bnd x.1 x.2)))
theorem lb_inj (x y : List (Str × Str) × Bd) (h : ([.pt (x.1.map dclD), suD x.2] : List D) = [.pt (y.1.map dclD), suD y.2]) : x = y := by
  injection h with h1 h
  injection h with h2 _
  injection h1 with h1
  exact Prod.ext (map_inj dclD_inj _ _ h1) (su_inj _ _ h2)
theorem gLB_of {ds : List (Str × Str)} {m : Bd} (h : ds.length + m.length ≤ 1000000) : gLB [.pt (ds.map dclD), suD m] = some (.od (.k (suK (bnd ds m)))) := gT_of (enc := fun x : List (Str × Str) × Bd => [.pt (x.1.map dclD), suD x.2]) (x := (ds, m)) lb_inj h
abbrev DLB (P : Program) (w : World) (K : PySem.W.Frag) (mg : Str → Option Value) (base : Heap) (Z : Vol) := Df P w K mg base "_law_bound" 1 ["declarations", "outside"] (spP Z K 2 gLB)
abbrev sLB : Stmt := st__law_bound
abbrev nmLB : List Str := ["declarations", "outside", "found", "prefix", "address"]
theorem ok_lb (F : Fun K "_law_bound" "_law_bound" sLB f fd) (T : Cst mg) (kc : KC K) : FnOk P w K mg base CX0 1 f fd ["declarations", "outside"] (spP Z K 2 gLB) := by
  have sc : FnScope nmLB ["declarations", "outside"] (defScope sLB) := ⟨rfl, rfl, rfl, by decide +kernel, rfl, by decide +kernel, by decide +kernel⟩
  refine fn_pure F sc rfl (gT_out fun x hx => rfl) fun cdv A outer s H E b ds r hr hl hg => ?_
  obtain ⟨⟨ds, m⟩, rfl, hlen, rfl⟩ := gT_one hg
  have hlen : ds.length + m.length ≤ 1000000 := hlen
  have b0 := T.blt (cxOf CX0 P w K mg base nmLB "_law_bound" (defScope sLB) f cdv A outer s H E).nox rfl
  refine sv_set 2 (ev_dcopy b0 (ev_var 1 rfl ⟨suK m, rfl, _, rfl, ?_⟩)) sc.nd
  refine sv_forT dclD dclD_inj (.tp [.nm 3, .nm 4]) rfl PassesOwn.never (pg_tup rfl (pgs_cons (pg_name (i := 3) sc.nd rfl (Or.inl rfl)) (pgs_cons (pg_name (i := 4) sc.nd rfl (Or.inl rfl)) pgs_nil)))
    (ei_tupU (ev_var 0 rfl ⟨ds.map dclD, rfl, ds, rfl, fun pre b2 δ2 => b2 = b ∧ ∃ s3 s4, δ2 = [.va (.pt (ds.map dclD)), .va (suD m), .od (.k (suK (bnd pre m))), s3, s4], ⟨rfl, _, _, rfl⟩, ?_, ?_⟩))
  · rintro pre q post b2 δ2 e ⟨rfl, s3, s4, rfl⟩
    refine ⟨_, rfl, ?_⟩
    refine sv_dput kc (hu_of hr) 2 (ev_var 4 rfl (ev_var 3 rfl ⟨_, _, rfl, rfl, .inl ⟨_, kS q.1, rfl, rfl, ?_, sv_nil ⟨rfl, .va (.str q.1), .va (.str q.2), ?_⟩⟩⟩))
    · have h1 := bnd_len pre m
      have h2 := congrArg List.length e
      rw [List.length_append, List.length_cons] at h2
      unfold suK
      rw [List.length_map]
      omega
    · rw [bnd_snoc, ← suK_put]
      rfl
  · rintro b2 δ2 ⟨rfl, s3, s4, rfl⟩
    exact sv_retD 2 rfl ⟨rfl, rfl, rfl⟩
/-! ### _law_seen -/
end
end G
set_option Elab.async false
set_option linter.all false
set_option maxRecDepth 100000
set_option maxHeartbeats 4000000
namespace PD
open PySem PySem.Spec PyProof.Rows L2
theorem fnOk_up {P : Program} {w : World} {K : PySem.W.Frag} {mg : Str → Option Value} {base : Heap} {k k' : Nat} {f : Addr} {fd : FuncData} {ps : List Str} {sp : Sp} (h : k ≤ k') (F : FnOk P w K mg base CX0 k f fd ps sp) : FnOk P w K mg base CX0 k' f fd ps sp :=
  ⟨F.len, fun A outer s H args us vs Q E hr e0 hb r hs => F.run A outer s H args us vs Q E (hr.mono h) e0 hb r hs⟩
section
variable {X : Cx} {L : LC} {H0 : Hp} {b : Nat} {δ : List Sl} {P : Nat → Res → Prop} {e : Expr} {es : List Expr} {pos p0 : Pos}
/-- a call that hands a new empty list on -/
theorem ev_callNew0 {x : Str} {k : Nat} {ps : List Str} {pre : Addr → Nat → List Ar → Prop} {post : Addr → Nat → List Ar → Nat → Res → Prop} (ok : L.Ok none) (F : DfA X.prog X.w X.K X.mg X.base x k ps (fun p => L.Ok (some p)) (fun p => spD (lawVol L (some p)) X.K 4 (pre p) (post p))) (hr : Room k X.A)
    (h : EVA (L.C X none H0) b δ (e :: es) (fun b1 rs => ∃ d1 d2 d3, rs = [.va d1, .va d2, .va d3, .ow []] ∧ b1 < (10000000000000 : Nat) ∧ ∀ p, pre p b1 [.va d1, .va d2, .va d3, .va (spD' p)] ∧ ∀ b2 r, post p b1 [.va d1, .va d2, .va d3, .va (spD' p)] b2 r → ∃ d, r = .va d ∧ P (b2 % (10000000000000 : Nat)) (.va d))) (hg : Gl X x := by rfl)
    (hdb : (x == ("__debug__" : Str)) = false := by decide) (he : starEach (e :: es) X.env = (false, eval e X.env) :: starEach es X.env := by rfl) (hpl : (backTo pos (starEach es X.env)).any (·.1) = false := by rfl) :
    EV (L.C X none H0) b δ (.Call (.Name x p0) (e :: es) [] pos) P := by
  obtain ⟨f, fd, oks, hm, hk, hb⟩ := F.at_
  intro os σ H st Q q
  refine WE.of (pe_call (fnOk_any oks) hr hg hm hk hb .nil pass0 paW hdb he hpl) ?_
  refine h os σ H st _ fun vs H1 b1 rs f1 j1 rv hh => ?_
  obtain ⟨d1, d2, d3, rfl, hb1, hp⟩ := hh
  cases rv with | @cons v1 vs1 _ _ r1 rv => ?_
  cases rv with | @cons v2 vs2 _ _ r2 rv => ?_
  cases rv with | @cons v3 vs3 _ _ r3 rv => ?_
  cases rv with | @cons v4 vs4 _ _ r4 rv => ?_
  cases rv
  cases r1 with | va r1 => ?_
  cases r2 with | va r2 => ?_
  cases r3 with | va r3 => ?_
  cases r4 with | @ow p xs _ n e4 ns ra => ?_
  cases ra
  obtain ⟨lefts, s8⟩ := j1
  have hp0 : ∀ a o, H a = some o → p ≠ a := fun a o ha z => by rw [← z, n] at ha; cases ha
  have ns' : p ≠ L.s ∧ p ≠ L.l ∧ p ≠ L.c ∧ p ≠ L.T ∧ ∀ t ∈ L.ts, p ≠ t.1 := ⟨fun z => ns (.inl z), fun z => ns (.inr (.inl z)), fun z => ns (.inr (.inr (.inl z))), fun z => ns (.inr (.inr (.inr (.inl z)))), fun t ht z => ns (.inr (.inr (.inr (.inr (.inr ⟨t, ht, z⟩)))))⟩
  have okp : L.Ok (some p) := ⟨ok.sl, ok.sc, ok.sT, ok.lc, ok.lT, ok.cT, fun a ha => by cases ha; exact ns', ok.tt, ok.tn, ok.few, ok.one, ok.sps⟩
  obtain ⟨pr, po⟩ := hp p
  have j2 : (lawVol L (some p)).J b1 H1 := by
    have m2 : b1 / (10000000000000 : Nat) = 0 := by omega
    refine ⟨lefts, ?_⟩
    rw [m2]
    exact ⟨s8.s, s8.c, s8.l, s8.len, s8.pos, ⟨[], e4, rfl, rfl⟩, s8.tab, s8.tabs⟩
  show ∃ p', L.Ok (some p') ∧ spD (lawVol L (some p')) X.K 4 (pre p') (post p') ([v1, v2, v3, .ref p] ++ []) H1 Q E0
  refine ⟨p, okp, b1, [.va d1, .va d2, .va d3, .va (spD' p)], rfl, .cons (.va r1) (.cons (.va r2) (.cons (.va r3) (.cons (.va (.obj (.l (.inl e4)))) .nil))), j2, pr, fun v H' b' r f2 j3 rv2 ho hpo => ?_⟩
  obtain ⟨d, rfl, hP⟩ := po b' r hpo
  cases rv2 with | va rv2 => ?_
  obtain ⟨lefts', s9⟩ := j3
  have j4 : (lawVol L none).J (b' % (10000000000000 : Nat)) H' := by
    have m1 : (b' % (10000000000000 : Nat)) % (10000000000000 : Nat) = b' % (10000000000000 : Nat) := by omega
    have m2 : (b' % (10000000000000 : Nat)) / (10000000000000 : Nat) = 0 := by omega
    refine ⟨lefts', ?_⟩
    rw [m1, m2]
    exact ⟨s9.s, s9.c, s9.l, s9.len, s9.pos, rfl, s9.tab, s9.tabs⟩
  have f3 : Fr (lawVol L none).S H H' := fun a o ha => by
    rcases f1 a o ha with z | ⟨m, u, e1, l⟩
    · rcases f2 a o z with z2 | ⟨m, l⟩
      · exact .inl z2
      · refine .inr ⟨?_, l⟩
        rcases m with m | m | m | m | m | m
        · exact .inl m
        · exact .inr (.inl m)
        · exact .inr (.inr (.inl m))
        · exact .inr (.inr (.inr (.inl m)))
        · exact absurd (Option.some.inj m).symm (hp0 a o ha)
        · exact .inr (.inr (.inr (.inr (.inr m))))
    · rcases f2 a u e1 with z2 | ⟨_, v, z2, l2⟩
      · exact .inr ⟨m, u, z2, l⟩
      · exact .inr ⟨m, v, z2, l.trans l2⟩
  exact q v H' _ _ f3 j4 (.va rv2) hP
end
end PD
namespace G
open PySem PySem.Spec PyProof.Rows L2 PD
end G
set_option Elab.async false
set_option linter.all false
set_option maxRecDepth 100000
set_option maxHeartbeats 4000000
namespace G
open PySem PySem.Spec PyProof.Rows L2 PD
/-! ### plain parts, their meanings as data -/
def mnD : Option D → D
  | none => .non
  | some d => d
theorem bndA_ok {ds : List (Str × Str)} {A : Af} (hd : ∀ q ∈ ds, okS q.2 = true) (hA : ∀ p, okS (A p) = true) : ∀ p, okS (bndA ds A p) = true := by
  induction ds generalizing A with
  | nil => exact hA
  | cons q ds ih =>
    refine ih (A := fun p => if p = q.1 then q.2 else A p) (fun r hr => hd r (List.mem_cons_of_mem _ hr)) fun p => ?_
    show okS (if p = q.1 then q.2 else A p) = true
    split
    · exact hd q List.mem_cons_self
    · exact hA p
theorem addrOf_ok {A : Af} (hA : ∀ p, okS (A p) = true) (p : Str) : okS (addrOf A p) = true := by
  unfold addrOf
  split
  · exact okS_no
  · exact hA p
def pr2 (q : Str × Str) : D := .tup [.str q.1, .str q.2]
theorem pr2_srt (ks : List (Str × Str)) : Srt (ks.map pr2) := by
  have hp := pds_map (ks.map pr2)
  have pd : ∀ q : Str × Str, (pr2 q).pd = .tuple [.str q.1, .str q.2] := fun q => by simp [pr2, D.pd, pds]
  refine ⟨?_, ?_, ?_, fun d hd => ?_⟩
  · rw [pls_all, List.all_eq_true]
    intro d hd
    obtain ⟨x, _, rfl⟩ := List.mem_map.mp hd
    simp [pr2, D.pl, pls]
  · rw [hp, List.map_map]
    intro d hd d' hd'
    obtain ⟨x, _, rfl⟩ := List.mem_map.mp hd
    obtain ⟨y, _, rfl⟩ := List.mem_map.mp hd'
    show PySem.W.alike (pr2 x).pd (pr2 y).pd = true
    rw [pd, pd]
    simp [PySem.W.alike, PySem.W.alikeAll]
  · rw [hp, List.map_map]
    refine .inl fun d hd => ?_
    obtain ⟨x, _, rfl⟩ := List.mem_map.mp hd
    exact ⟨_, _, pd x⟩
  · obtain ⟨x, _, rfl⟩ := List.mem_map.mp hd
    rw [pd]
    simp [PyData.depth, PyData.depthAll]
theorem pr2_any {nm : List (Str × Str)} {q : Str × Str} : ((nm.map pr2).any fun z => z.eqv (pr2 q)) = decide (q ∈ nm) := by
  have nb : ∀ q : Str × Str, (pr2 q).nb = true := fun q => by simp [pr2, D.nb, nbs]
  have inj : ∀ x y : Str × Str, pr2 x = pr2 y → x = y := fun x y h => dclD_inj x y h
  by_cases h : q ∈ nm
  · rw [decide_eq_true h, List.any_eq_true]
    exact ⟨pr2 q, List.mem_map.mpr ⟨q, h, rfl⟩, (eqv_iff _ _ (nb q) (nb q)).mpr rfl⟩
  · rw [decide_eq_false h, List.any_eq_false]
    intro d hd z
    obtain ⟨y, hy, rfl⟩ := List.mem_map.mp hd
    exact h (by rw [← inj _ _ ((eqv_iff _ _ (nb y) (nb q)).mp z)]; exact hy)
section
variable {P : Program} {w : World} {K : PySem.W.Frag} {mg : Str → Option Value} {base : Heap} {Z : Vol} {f : Addr} {fd : FuncData}
/-! ### _law_meaning, of plain parts -/
abbrev sMn : Stmt := st__law_meaning
end
end G
set_option Elab.async false
set_option linter.all false
set_option maxRecDepth 100000
set_option maxHeartbeats 4000000
namespace G
open PySem PySem.Spec PyProof.Rows L2 PD
/-! ### meanings as data, with quoted names -/
def valQ (A : Af) : Vl → D
  | .s x => .str x
  | .q p l => .tup [.str (A p), .str l]
def badV (A : Af) : Vl → Bool
  | .s _ => false
  | .q p _ => !decide (p = ("" : Str)) && decide (A p = "")
def rowQ (A : Af) (q : (Str × Str) × Vl) : D := .tup [.tup [.str (addrOf A q.1.1), .str q.1.2], valQ A q.2]
def attQ (A : Af) : List (Str × Str) → List ((Str × Str) × Vl) → Option (List D)
  | _, [] => some []
  | nm, q :: r => if ((q.1.1 ≠ "" ∧ addrOf A q.1.1 = "") ∨ (addrOf A q.1.1, q.1.2) ∈ nm) ∨ badV A q.2 = true then none else (attQ A (nm ++ [(addrOf A q.1.1, q.1.2)]) r).map fun ds => rowQ A q :: ds
mutual
def meanQ (A : Af) : Nd → Option D
  | .el p lo ds as cs => if p ≠ "" ∧ bndA ds A p = "" then none else match attQ (bndA ds A) [] as with
    | none => none
    | some rows => match meansQ (bndA ds A) cs with
      | none => none
      | some ins => some (.tup [.str "element", .tup [.str (bndA ds A p), .str lo], .tup (srtBy fstOf rows), .tup ins])
  | .s x => some (.str x)
  | .h _ => none
def meansQ (A : Af) : List Nd → Option (List D)
  | [] => some []
  | c :: cs => match meanQ A c with
    | none => none
    | some d => (meansQ A cs).map fun ds => d :: ds
end
theorem attQ_cons (A : Af) (nm : List (Str × Str)) (q : (Str × Str) × Vl) (r : List ((Str × Str) × Vl)) : attQ A nm (q :: r) = if ((q.1.1 ≠ "" ∧ addrOf A q.1.1 = "") ∨ (addrOf A q.1.1, q.1.2) ∈ nm) ∨ badV A q.2 = true then none else (attQ A (nm ++ [(addrOf A q.1.1, q.1.2)]) r).map fun ds => rowQ A q :: ds := rfl
theorem attQ_mem {A : Af} : ∀ (as : List ((Str × Str) × Vl)) (nm : List (Str × Str)) (ds : List D), attQ A nm as = some ds → ds = as.map (rowQ A)
  | [], nm, ds, h => by cases h; rfl
  | q :: as, nm, ds, h => by
    unfold attQ at h
    split at h
    · cases h
    · obtain ⟨es, e1, e2⟩ := Option.map_eq_some_iff.mp h
      rw [← e2, attQ_mem as _ es e1]
      rfl
theorem rowQ_cm {A : Af} (hA : ∀ p, okS (A p) = true) {q : (Str × Str) × Vl} (h : okS q.1.2 = true ∧ q.2.ok = true) : Cm 3 (rowQ A q) := by
  refine cm2 ((cm2 (cm_str (addrOf_ok hA _)) (cm_str h.1)).mono (by decide)) ?_
  obtain ⟨n, v⟩ := q
  cases v with
  | s x => exact (cm_str h.2).mono (by decide)
  | q p l =>
    have h2 := (Bool.and_eq_true_iff.mp h.2).2
    exact (cm2 (cm_str (hA p)) (cm_str h2)).mono (by decide)
mutual
theorem meanQ_cm : ∀ (x : Nd) (A : Af) (d : D), x.ok = true → (∀ p, okS (A p) = true) → meanQ A x = some d → Cm (2 * x.dep + 6) d
  | .el p lo ds as cs, A, d, hx, hA, h => by
    have ho := ok_el.mp hx
    have hB := bndA_ok (fun q hq => (ho.hd q hq).2) hA
    rw [meanQ] at h
    split at h
    · cases h
    · cases ea : attQ (bndA ds A) [] as with
      | none => rw [ea] at h; cases h
      | some rows =>
        rw [ea] at h
        cases em : meansQ (bndA ds A) cs with
        | none => rw [em] at h; cases h
        | some ins =>
          rw [em] at h
          rw [← Option.some.inj h, Nd.dep, show 2 * (ndsDep cs + 1) + 6 = (2 * ndsDep cs + 7) + 1 by omega]
          refine cm_tup fun d hd => ?_
          simp only [List.mem_cons, List.not_mem_nil, or_false] at hd
          rcases hd with rfl | rfl | rfl | rfl
          · exact (cm_str okS_el).mono (by omega)
          · exact (cm2 (cm_str (hB p)) (cm_str ho.l)).mono (by omega)
          · refine (cm_tup (n := 3) fun d hd => ?_).mono (by omega)
            have hd := srt_mem.mp hd
            rw [attQ_mem as [] rows ea] at hd
            obtain ⟨q, hq, rfl⟩ := List.mem_map.mp hd
            exact rowQ_cm hB (ho.ha q hq).2
          · exact (cm_tup (meansQ_cm cs (bndA ds A) ins ho.hc hB em)).mono (by omega)
  | .s x, A, d, hx, hA, h => by
    rw [meanQ] at h
    rw [← Option.some.inj h]
    rw [Nd.ok] at hx
    exact (cm_str hx).mono (by omega)
  | .h _, _, _, _, _, h => by rw [meanQ] at h; cases h
theorem meansQ_cm : ∀ (cs : List Nd) (A : Af) (ds : List D), (∀ c ∈ cs, c.ok = true) → (∀ p, okS (A p) = true) → meansQ A cs = some ds → ∀ d ∈ ds, Cm (2 * ndsDep cs + 6) d
  | [], A, ds, _, _, h, d, hd => by rw [meansQ] at h; cases h; cases hd
  | c :: cs, A, ds, hx, hA, h, d, hd => by
    rw [meansQ] at h
    cases ec : meanQ A c with
    | none => rw [ec] at h; cases h
    | some e =>
      rw [ec] at h
      obtain ⟨es, e1, e2⟩ := Option.map_eq_some_iff.mp h
      rw [ndsDep]
      rw [← e2] at hd
      rcases List.mem_cons.mp hd with rfl | hd
      · have := Nat.le_max_left c.dep (ndsDep cs)
        exact (meanQ_cm c A _ (hx c List.mem_cons_self) hA ec).mono (by omega)
      · have := Nat.le_max_right c.dep (ndsDep cs)
        exact (meansQ_cm cs A es (fun e he => hx e (List.mem_cons_of_mem _ he)) hA e1 d hd).mono (by omega)
end
end G
set_option Elab.async false
set_option linter.all false
set_option maxRecDepth 100000
set_option maxHeartbeats 4000000
/-! Meanings of parts with holes, what fills them; a part put into a hole. -/
namespace G
open PySem PySem.Spec PyProof.Rows L2 PD
mutual
/-- with what fills the holes: of parts without holes -/
def meanF (A : Af) (Φ : Str → Nd) : Nd → Option D
  | .el p lo ds as cs => if p ≠ "" ∧ bndA ds A p = "" then none else match attQ (bndA ds A) [] as with
    | none => none
    | some rows => match meansF (bndA ds A) Φ cs with
      | none => none
      | some ins => some (.tup [.str "element", .tup [.str (bndA ds A p), .str lo], .tup (srtBy fstOf rows), .tup ins])
  | .s x => some (.str x)
  | .h x => meanQ A (Φ x)
def meansF (A : Af) (Φ : Str → Nd) : List Nd → Option (List D)
  | [] => some []
  | c :: cs => match meanF A Φ c with
    | none => none
    | some d => (meansF A Φ cs).map fun ds => d :: ds
end
mutual
theorem meanF_no (Φ : Str → Nd) : ∀ (x : Nd) (A : Af), noH x = true → meanF A Φ x = meanQ A x
  | .el p lo ds as cs, A, h => by rw [noH] at h; rw [meanF, meanQ, meansF_no Φ cs _ h] <;> rfl
  | .s _, A, _ => by rw [meanF, meanQ]
  | .h _, A, h => by rw [noH] at h; cases h
theorem meansF_no (Φ : Str → Nd) : ∀ (cs : List Nd) (A : Af), noHs cs = true → meansF A Φ cs = meansQ A cs
  | [], A, _ => by rw [meansF, meansQ]
  | c :: cs, A, h => by
    rw [noHs, Bool.and_eq_true] at h
    rw [meansF, meansQ, meanF_no Φ c A h.1, meansF_no Φ cs A h.2] <;> rfl
end
theorem meansF_snoc (A : Af) (Φ : Str → Nd) (c : Nd) : ∀ cs : List Nd, meansF A Φ (cs ++ [c]) = (meansF A Φ cs).bind fun ds => (meanF A Φ c).map fun d => ds ++ [d]
  | [] => by
    rw [List.nil_append, meansF, meansF]
    cases meanF A Φ c <;> simp [meansF]
  | d :: cs => by
    rw [List.cons_append, meansF, meansF, meansF_snoc A Φ c cs]
    cases meanF A Φ d with
    | none => rfl
    | some e =>
      cases meansF A Φ cs with
      | none => rfl
      | some es => cases meanF A Φ c <;> rfl
theorem meansF_none (A : Af) (Φ : Str → Nd) (c : Nd) (h : meanF A Φ c = none) : ∀ (cs ds : List Nd), meansF A Φ (cs ++ c :: ds) = none
  | [], ds => by rw [List.nil_append, meansF, h]
  | d :: cs, ds => by
    rw [List.cons_append, meansF, meansF_none A Φ c h cs ds]
    cases meanF A Φ d <;> rfl
/-- one by one -/
theorem meansF_map (A : Af) (Φ : Str → Nd) : ∀ cs : List Nd, meansF A Φ cs = if (cs.any fun c => (meanF A Φ c).isNone) = true then none else some (cs.map fun c => mnD (meanF A Φ c))
  | [] => by rw [meansF]; rfl
  | c :: cs => by
    rw [meansF, meansF_map A Φ cs, List.any_cons]
    cases h : meanF A Φ c with
    | none => rfl
    | some d =>
      rw [show (some d : Option D).isNone = false from rfl, Bool.false_or]
      cases cs.any fun c => (meanF A Φ c).isNone with
      | true => rfl
      | false => rw [if_neg (by decide), if_neg (by decide), List.map_cons, h]; rfl
theorem meanF_el_ne {A : Af} {Φ : Str → Nd} {x : Nd} {d : D} (hel : x.isEl = true) (h : meanF A Φ x = some d) : d.isN = false := by
  obtain ⟨p, l, ds, as, cs, rfl⟩ := el_of hel
  rw [meanF] at h
  split at h
  · cases h
  · split at h
    · cases h
    · split at h
      · cases h
      · rw [← Option.some.inj h]; rfl
/-! ### filled, put -/
/-! what is put, filled is a part -/
end G
set_option Elab.async false
set_option linter.all false
set_option maxRecDepth 100000
set_option maxHeartbeats 4000000
/-! What reading.py tells, as functions of data; it is meanF. -/
namespace G
open PySem PySem.Spec PyProof.Rows L2 PD
def rdNm (A : Af) (p l : Str) : D := if p ≠ "" ∧ A p = "" then .non else nmD (A p) l
def rdAn (A : Af) (p l : Str) : D := if p = "" then nmD "" l else rdNm A p l
def rdV (A : Af) : Vl → D
  | .s x => .str x
  | .q p l => rdNm A p l
def rdR (A : Af) (q : (Str × Str) × Vl) : D := .tup [rdAn A q.1.1 q.1.2, rdV A q.2]
def badQ (A : Af) (q : (Str × Str) × Vl) : Bool := (!decide (q.1.1 = ("" : Str)) && decide (addrOf A q.1.1 = "")) || badV A q.2
def fnQ (A : Af) (q : (Str × Str) × Vl) : Str × Str := (addrOf A q.1.1, q.1.2)
def rdAs (A : Af) (as : List ((Str × Str) × Vl)) : Option D := if as.any (badQ A) = true then none else if nodupB (as.map (fnQ A)) = true then some (.tup (srtBy fstOf (as.map (rowQ A)))) else none
theorem rdAn_is (A : Af) (p l : Str) : rdAn A p l = if (!decide (p = ("" : Str)) && decide (addrOf A p = "")) = true then .non else nmD (addrOf A p) l := by
  unfold rdAn rdNm addrOf
  by_cases h : p = ""
  · subst h
    simp
  · simp [h]
theorem rdV_is (A : Af) (v : Vl) : rdV A v = if badV A v = true then .non else valQ A v := by
  cases v with
  | s x => rfl
  | q p l =>
    unfold rdV rdNm badV valQ
    by_cases h : p = ""
    · subst h; simp; rfl
    · by_cases h2 : A p = ""
      · simp [h, h2]
      · simp [h, h2]; rfl
theorem bad_isN (A : Af) (q : (Str × Str) × Vl) : ((rdAn A q.1.1 q.1.2).isN || (rdV A q.2).isN) = badQ A q := by
  rw [rdAn_is, rdV_is]
  unfold badQ
  cases (!decide (q.1.1 = ("" : Str)) && decide (addrOf A q.1.1 = "")) with
  | true => rfl
  | false =>
    rw [if_neg (by decide)]
    cases badV A q.2 with
    | true => rfl
    | false =>
      rw [if_neg (by decide)]
      cases q.2 <;> rfl
theorem rdR_is {A : Af} {q : (Str × Str) × Vl} (h : badQ A q = false) : rdR A q = rowQ A q := by
  unfold badQ at h
  rw [Bool.or_eq_false_iff] at h
  unfold rdR rowQ
  rw [rdAn_is, rdV_is, h.1, h.2]
  rfl
theorem attQ_is (A : Af) : ∀ (as : List ((Str × Str) × Vl)) (nm : List (Str × Str)), attQ A nm as = if as.any (badQ A) = true then none else if (as.map (fnQ A)).Nodup ∧ ∀ z ∈ as.map (fnQ A), z ∉ nm then some (as.map (rowQ A)) else none
  | [], nm => by
    rw [if_neg (by simp), if_pos ⟨List.nodup_nil, fun z hz => nomatch hz⟩]
    rfl
  | q :: as, nm => by
    rw [attQ_cons, attQ_is A as, List.any_cons]
    by_cases hb : badQ A q = true
    · rw [hb, Bool.true_or, if_pos rfl, if_pos]
      unfold badQ at hb
      rw [Bool.or_eq_true, Bool.and_eq_true] at hb
      rcases hb with ⟨h1, h2⟩ | h
      · exact .inl (.inl ⟨by simpa using h1, of_decide_eq_true h2⟩)
      · exact .inr h
    · have hb' : badQ A q = false := by simpa using hb
      have h0 := hb'
      unfold badQ at h0
      rw [Bool.or_eq_false_iff, Bool.and_eq_false_iff] at h0
      have hnb : ¬ (q.1.1 ≠ "" ∧ addrOf A q.1.1 = "") := fun ⟨z1, z2⟩ => by
        rcases h0.1 with y | y
        · have : q.1.1 = "" := by simpa using y
          exact z1 this
        · exact absurd z2 (of_decide_eq_false y)
      have hnv : ¬ badV A q.2 = true := by rw [h0.2]; decide
      rw [hb', Bool.false_or]
      by_cases ha : as.any (badQ A) = true
      · rw [if_pos ha]
        split <;> rfl
      · rw [if_neg ha]
        by_cases hm : (addrOf A q.1.1, q.1.2) ∈ nm
        · rw [if_pos (.inl (.inr hm)), if_neg ha, if_neg]
          exact fun z => z.2 _ (List.mem_cons_self) hm
        · rw [if_neg (fun z => z.elim (fun z => z.elim hnb hm) hnv), if_neg ha]
          by_cases hc : (as.map (fnQ A)).Nodup ∧ ∀ z ∈ as.map (fnQ A), z ∉ nm ++ [(addrOf A q.1.1, q.1.2)]
          · rw [if_pos hc, if_pos]
            · rfl
            · rw [List.map_cons, List.nodup_cons]
              refine ⟨⟨fun z => hc.2 _ z (by rw [List.mem_append]; exact .inr (List.mem_singleton.mpr rfl)), hc.1⟩, fun z hz => ?_⟩
              rcases List.mem_cons.mp hz with rfl | hz
              · exact hm
              · exact fun y => hc.2 z hz (List.mem_append_left _ y)
          · rw [if_neg hc, if_neg]
            · rfl
            · rintro ⟨z1, z2⟩
              rw [List.map_cons, List.nodup_cons] at z1
              refine hc ⟨z1.2, fun z hz y => ?_⟩
              rcases List.mem_append.mp y with y | y
              · exact z2 z (List.mem_cons_of_mem _ hz) y
              · rw [List.mem_singleton.mp y] at hz
                exact z1.1 hz
theorem rdAs_is (A : Af) (as : List ((Str × Str) × Vl)) : rdAs A as = (attQ A [] as).map fun rows => .tup (srtBy fstOf rows) := by
  rw [attQ_is]
  unfold rdAs
  by_cases ha : as.any (badQ A) = true
  · rw [if_pos ha, if_pos ha]; rfl
  · rw [if_neg ha, if_neg ha]
    by_cases hn : (as.map (fnQ A)).Nodup
    · rw [if_pos (nodupB_of hn), if_pos ⟨hn, fun z _ y => nomatch y⟩]; rfl
    · rw [if_neg (fun z => hn ((nodupB_iff _).mp z)), if_neg (fun z => hn z.1)]; rfl
/-- an element, as it is read -/
theorem meanF_rd (A : Af) (Φ : Str → Nd) (p lo : Str) (ds : List (Str × Str)) (as : List ((Str × Str) × Vl)) (cs : List Nd) :
    mnD (meanF A Φ (.el p lo ds as cs)) = if ((rdNm (bndA ds A) p lo).isN || (mnD (rdAs (bndA ds A) as)).isN || cs.any fun c => (meanF (bndA ds A) Φ c).isNone) = true then .non else .tup [.str "element", rdNm (bndA ds A) p lo, mnD (rdAs (bndA ds A) as), .tup (cs.map fun c => mnD (meanF (bndA ds A) Φ c))] := by
  rw [meanF, rdAs_is, meansF_map]
  generalize bndA ds A = B
  unfold rdNm
  by_cases h : p ≠ "" ∧ B p = ""
  · rw [if_pos h, if_pos h]; rfl
  · rw [if_neg h, if_neg h]
    cases attQ B [] as with
    | none => rfl
    | some rows =>
      cases cs.any fun c => (meanF B Φ c).isNone with
      | true => rfl
      | false => rfl
/-! ### what fills the holes -/
abbrev Fl := List (Str × Nd)
theorem valD_cons {κ : Type} [DecidableEq κ] (q : κ × D) (kvs : List (κ × D)) (k : κ) : valD (q :: kvs) k = if q.1 = k then some q.2 else valD kvs k := by
  unfold valD
  rw [List.find?_cons]
  by_cases h : q.1 = k
  · rw [decide_eq_true h, if_pos h]; rfl
  · rw [decide_eq_false h, if_neg h]
def flK (fl : Fl) : List (Key × D) := fl.map fun q => (kS q.1, q.2.d)
def flD (fl : Fl) : D := .dk (flK fl)
def flF (fl : Fl) (z : Str) : Nd := ((fl.find? fun q => decide (q.1 = z)).map (·.2)).getD (.s "")
theorem flF_mem {fl : Fl} {z : Str} (h : z ∈ fl.map (·.1)) : ∃ q ∈ fl, flF fl z = q.2 := by
  induction fl with
  | nil => cases h
  | cons q fl ih =>
    unfold flF at ih ⊢
    rw [List.find?_cons]
    by_cases e : q.1 = z
    · rw [decide_eq_true e]
      exact ⟨q, List.mem_cons_self, rfl⟩
    · rw [decide_eq_false e]
      rw [List.map_cons] at h
      obtain ⟨r, hr, e2⟩ := ih ((List.mem_cons.mp h).elim (fun y => absurd y.symm e) id)
      exact ⟨r, List.mem_cons_of_mem _ hr, e2⟩
theorem flK_val {fl : Fl} {z : Str} (h : z ∈ fl.map (·.1)) : valD (flK fl) (kS z) = some (flF fl z).d := by
  induction fl with
  | nil => cases h
  | cons q fl ih =>
    show valD ((kS q.1, q.2.d) :: flK fl) (kS z) = _
    unfold flF at ih ⊢
    rw [List.find?_cons, valD_cons]
    by_cases e : q.1 = z
    · rw [decide_eq_true e, if_pos (by rw [e])]
      rfl
    · rw [decide_eq_false e, if_neg (fun y => e (kS_inj _ _ y))]
      rw [List.map_cons] at h
      exact ih ((List.mem_cons.mp h).elim (fun y => absurd y.symm e) id)
theorem fl_inj (x y : Fl) (h : flD x = flD y) : x = y := by
  unfold flD flK at h
  injection h with h
  have key : ∀ (x y : Fl), x.map (fun q => (kS q.1, q.2.d)) = y.map (fun q => (kS q.1, q.2.d)) → x = y := by
    intro x
    induction x with
    | nil => intro y h; cases y with
      | nil => rfl
      | cons _ _ => cases h
    | cons q x ih =>
      intro y h
      cases y with
      | nil => cases h
      | cons r y =>
        rw [List.map_cons, List.map_cons, List.cons.injEq] at h
        obtain ⟨h1, h2⟩ := h
        injection h1 with h1 h3
        rw [ih y h2, Prod.ext (kS_inj _ _ h1) (nd_inj _ _ h3)]
  exact key x y h
/-- how deep the reading goes, if what fills goes to H -/
def hdp (H : Nat) (x : Nd) : Nat := if noH x = true then x.dep else x.dep + H
theorem hdp_kid {H : Nat} {p l : Str} {ds : List (Str × Str)} {as : List ((Str × Str) × Vl)} {cs : List Nd} {c : Nd} (hc : c ∈ cs) : hdp H c + 1 ≤ hdp H (.el p l ds as cs) := by
  have hd := dep_mem hc
  unfold hdp
  rw [noH, Nd.dep]
  by_cases h : noHs cs = true
  · rw [if_pos h, if_pos (noHs_mem h c hc)]
    omega
  · rw [if_neg h]
    split <;> omega
structure FlOk (H : Nat) (fl : Fl) : Prop where
  el : ∀ q ∈ fl, q.2.isEl = true
  ok : ∀ q ∈ fl, q.2.ok = true
  no : ∀ q ∈ fl, noH q.2 = true
  dep : ∀ q ∈ fl, q.2.dep ≤ H
mutual
theorem hlW_no : ∀ x : Nd, hlW x = [] ↔ noH x = true
  | .el _ _ _ _ cs => by rw [hlW, noH]; exact hlWs_no cs
  | .s _ => by rw [hlW, noH]; simp
  | .h _ => by rw [hlW, noH]; simp
theorem hlWs_no : ∀ cs : List Nd, hlWs cs = [] ↔ noHs cs = true
  | [] => by rw [hlWs, noHs]; simp
  | c :: cs => by rw [hlWs, noHs, List.append_eq_nil_iff, hlW_no c, hlWs_no cs, Bool.and_eq_true]
end
theorem hlW_kid {p l : Str} {ds : List (Str × Str)} {as : List ((Str × Str) × Vl)} {cs : List Nd} {c : Nd} (hc : c ∈ cs) {z : Str} (hz : z ∈ hlW c) : z ∈ hlW (.el p l ds as cs) := by
  rw [hlW]
  induction cs with
  | nil => cases hc
  | cons d cs ih =>
    rw [hlWs]
    rcases List.mem_cons.mp hc with rfl | hc
    · exact List.mem_append_left _ hz
    · exact List.mem_append_right _ (ih hc)
theorem cm_non : Cm 0 .non := ⟨rfl, rfl, Nat.le_refl _, rfl⟩
mutual
theorem meanF_cm {H : Nat} {Φ : Str → Nd} : ∀ (x : Nd) (A : Af) (d : D), x.ok = true → (∀ p, okS (A p) = true) → (∀ z ∈ hlW x, (Φ z).ok = true ∧ (Φ z).dep ≤ H) → meanF A Φ x = some d → Cm (2 * hdp H x + 6) d
  | .el p lo ds as cs, A, d, hx, hA, hf, h => by
    have ho := ok_el.mp hx
    have hB := bndA_ok (fun q hq => (ho.hd q hq).2) hA
    have hk : ∀ c ∈ cs, hdp H c + 1 ≤ hdp H (.el p lo ds as cs) := fun c hc => hdp_kid hc
    have hd1 : 1 ≤ hdp H (.el p lo ds as cs) := by unfold hdp; rw [Nd.dep]; split <;> omega
    rw [meanF] at h
    split at h
    · cases h
    · cases ea : attQ (bndA ds A) [] as with
      | none => rw [ea] at h; cases h
      | some rows =>
        rw [ea] at h
        cases em : meansF (bndA ds A) Φ cs with
        | none => rw [em] at h; cases h
        | some ins =>
          rw [em] at h
          rw [← Option.some.inj h, show 2 * hdp H (.el p lo ds as cs) + 6 = (2 * hdp H (.el p lo ds as cs) + 5) + 1 by omega]
          refine cm_tup fun d hd => ?_
          simp only [List.mem_cons, List.not_mem_nil, or_false] at hd
          rcases hd with rfl | rfl | rfl | rfl
          · exact (cm_str okS_el).mono (by omega)
          · exact (cm2 (cm_str (hB p)) (cm_str ho.l)).mono (by omega)
          · refine (cm_tup (n := 3) fun d hd => ?_).mono (by omega)
            have hd := srt_mem.mp hd
            rw [attQ_mem as [] rows ea] at hd
            obtain ⟨q, hq, rfl⟩ := List.mem_map.mp hd
            exact rowQ_cm hB (ho.ha q hq).2
          · refine (cm_tup (n := 2 * (hdp H (.el p lo ds as cs) - 1) + 6) fun d hd => ?_).mono (by omega)
            obtain ⟨c, hc, e⟩ := meansF_at cs (bndA ds A) ins em d hd
            exact (kids_cm cs (bndA ds A) ho.hc hB (fun c hc z hz => hf z (hlW_kid hc hz)) c hc d e).mono (by have := hk c hc; omega)
  | .s x, A, d, hx, hA, _, h => by
    rw [meanF] at h
    rw [← Option.some.inj h]
    rw [Nd.ok] at hx
    exact (cm_str hx).mono (by omega)
  | .h z, A, d, _, hA, hf, h => by
    rw [meanF] at h
    obtain ⟨h1, h2⟩ := hf z (by rw [hlW]; exact List.mem_singleton.mpr rfl)
    refine (meanQ_cm (Φ z) A d h1 hA h).mono ?_
    have e : hdp H (.h z) = H := by unfold hdp; rw [noH, Nd.dep]; simp
    rw [e]
    omega
theorem kids_cm {H : Nat} {Φ : Str → Nd} : ∀ (cs : List Nd) (A : Af), (∀ c ∈ cs, c.ok = true) → (∀ p, okS (A p) = true) → (∀ c ∈ cs, ∀ z ∈ hlW c, (Φ z).ok = true ∧ (Φ z).dep ≤ H) → ∀ c ∈ cs, ∀ d, meanF A Φ c = some d → Cm (2 * hdp H c + 6) d
  | [], _, _, _, _, c, hc, _, _ => nomatch hc
  | e :: cs, A, ho, hA, hf, c, hc, d, h => by
    rcases List.mem_cons.mp hc with e1 | hc
    · rw [e1] at h ⊢
      exact meanF_cm e A d (ho e List.mem_cons_self) hA (hf e List.mem_cons_self) h
    · exact kids_cm cs A (fun x hx => ho x (List.mem_cons_of_mem _ hx)) hA (fun x hx => hf x (List.mem_cons_of_mem _ hx)) c hc d h
theorem meansF_at {Φ : Str → Nd} : ∀ (cs : List Nd) (A : Af) (ins : List D), meansF A Φ cs = some ins → ∀ d ∈ ins, ∃ c ∈ cs, meanF A Φ c = some d
  | [], A, ins, h, d, hd => by rw [meansF] at h; cases h; cases hd
  | c :: cs, A, ins, h, d, hd => by
    rw [meansF] at h
    cases ec : meanF A Φ c with
    | none => rw [ec] at h; cases h
    | some e =>
      rw [ec] at h
      obtain ⟨es, e1, e2⟩ := Option.map_eq_some_iff.mp h
      rw [← e2] at hd
      rcases List.mem_cons.mp hd with rfl | hd
      · exact ⟨c, List.mem_cons_self, ec⟩
      · obtain ⟨c', hc', e3⟩ := meansF_at cs A es e1 d hd
        exact ⟨c', List.mem_cons_of_mem _ hc', e3⟩
end
end G
set_option Elab.async false
set_option linter.all false
set_option maxRecDepth 100000
set_option maxHeartbeats 4000000
namespace G
open PySem PySem.Spec PyProof.Rows L2 PD
section
variable {P : Program} {w : World} {K : PySem.W.Frag} {mg : Str → Option Value} {base : Heap} {Z : Vol} {f : Addr} {fd : FuncData}
/-! ### reading.py: _bound_in -/
abbrev DBndR (P : Program) (w : World) (K : PySem.W.Frag) (mg : Str → Option Value) (base : Heap) (Z : Vol) := Df P w K mg base xBndR 1 ["declarations", "around"] (spP Z K 2 gLB)
abbrev sBndR : Stmt := st_bound_in_r
abbrev nmBR : List Str := ["declarations", "around", "bound", "prefix", "address"]
theorem ok_bndR (F : Fun K "_bound_in" "_bound_in" sBndR f fd) (T : Cst mg) (kc : KC K) : FnOk P w K mg base CX0 1 f fd ["declarations", "around"] (spP Z K 2 gLB) := by
  have sc : FnScope nmBR ["declarations", "around"] (defScope sBndR) := ⟨rfl, rfl, rfl, by decide +kernel, rfl, by decide +kernel, by decide +kernel⟩
  refine fn_pure F sc rfl (gT_out fun x hx => rfl) fun cdv A outer s H E b ds r hr hl hg => ?_
  obtain ⟨⟨ds, m⟩, rfl, hlen, rfl⟩ := gT_one hg
  have hlen : ds.length + m.length ≤ 1000000 := hlen
  have b0 := T.blt (cxOf CX0 P w K mg base nmBR "_bound_in" (defScope sBndR) f cdv A outer s H E).nox rfl
  refine sv_set 2 (ev_dcopy b0 (ev_var 1 rfl ⟨suK m, rfl, _, rfl, ?_⟩)) sc.nd
  refine sv_forT dclD dclD_inj (.tp [.nm 3, .nm 4]) rfl PassesOwn.never (pg_tup rfl (pgs_cons (pg_name (i := 3) sc.nd rfl (Or.inl rfl)) (pgs_cons (pg_name (i := 4) sc.nd rfl (Or.inl rfl)) pgs_nil)))
    (ei_tupU (ev_var 0 rfl ⟨ds.map dclD, rfl, ds, rfl, fun pre b2 δ2 => b2 = b ∧ ∃ s3 s4, δ2 = [.va (.pt (ds.map dclD)), .va (suD m), .od (.k (suK (bnd pre m))), s3, s4], ⟨rfl, _, _, rfl⟩, ?_, ?_⟩))
  · rintro pre q post b2 δ2 e ⟨rfl, s3, s4, rfl⟩
    refine ⟨_, rfl, ?_⟩
    refine sv_dput kc (hu_of hr) 2 (ev_var 4 rfl (ev_var 3 rfl ⟨_, _, rfl, rfl, .inl ⟨_, kS q.1, rfl, rfl, ?_, sv_nil ⟨rfl, .va (.str q.1), .va (.str q.2), ?_⟩⟩⟩))
    · have h1 := bnd_len pre m
      have h2 := congrArg List.length e
      rw [List.length_append, List.length_cons] at h2
      unfold suK
      rw [List.length_map]
      omega
    · rw [bnd_snoc, ← suK_put]
      rfl
  · rintro b2 δ2 ⟨rfl, s3, s4, rfl⟩
    exact sv_retD 2 rfl ⟨rfl, rfl, rfl⟩
/-! ### _read_name, _read_attribute_name, _read_value -/
abbrev nsE (x : (Str × Str) × Bd) : List D := [nmD x.1.1 x.1.2, suD x.2]
theorem nsE_inj (x y : (Str × Str) × Bd) (h : nsE x = nsE y) : x = y := by
  unfold nsE at h
  injection h with h1 h
  injection h with h2 _
  obtain ⟨e1, e2⟩ := nmD_inj h1
  exact Prod.ext (Prod.ext e1 e2) (su_inj _ _ h2)
noncomputable def gRn : List D → Option Res := gT nsE yes fun x => .va (rdNm (getB x.2) x.1.1 x.1.2)
theorem gRn_of (p l : Str) (m : Bd) : gRn [nmD p l, suD m] = some (.va (rdNm (getB m) p l)) := gT_of (enc := nsE) (x := ((p, l), m)) nsE_inj trivial
abbrev DRn (P : Program) (w : World) (K : PySem.W.Frag) (mg : Str → Option Value) (base : Heap) (Z : Vol) := Df P w K mg base "_read_name" 2 ["name", "bound"] (spP Z K 2 gRn)
abbrev sRn : Stmt := st__read_name
abbrev nmRn : List Str := ["name", "bound", "prefix", "local", "address"]
theorem ok_rn (F : Fun K "_read_name" "_read_name" sRn f fd) (T : Cst mg) (kc : KC K) : FnOk P w K mg base CX0 2 f fd ["name", "bound"] (spP Z K 2 gRn) := by
  have sc : FnScope nmRn ["name", "bound"] (defScope sRn) := ⟨rfl, rfl, rfl, by decide +kernel, rfl, by decide +kernel, by decide +kernel⟩
  refine fn_pure F sc rfl (gT_out fun x hx => rfl) fun cdv A outer s H E b ds r hr hl hg => ?_
  obtain ⟨⟨⟨p, l⟩, m⟩, rfl, _, rfl⟩ := gT_one hg
  have hu := hu_of hr
  refine sv_unpack (.tp [.nm 2, .nm 3]) (pg_tup rfl (pgs_cons (pg_name (i := 2) sc.nd rfl (Or.inl rfl)) (pgs_cons (pg_name (i := 3) sc.nd rfl (Or.inl rfl)) pgs_nil))) (ev_var 0 rfl ⟨_, _, rfl, rfl, ?_⟩)
  refine sv_set 4 (ev_getd kc hu (ev_var 1 rfl ⟨rfl, ev_var 2 rfl (ev_str ⟨_, _, _, rfl, rfl, Ask.str, _, rfl, ?_⟩)⟩)) sc.nd
  rw [suK_get]
  show SV _ _ [.va (nmD p l), .va (suD m), .va (.str p), .va (.str l), .va (.str (getB m p))] _ _
  refine sv_if (et_imp (Pt := fun b' k => b' = b ∧ k = decide (p ≠ "" ∧ getB m p = "")) ?_ fun b' k hk => ?_)
  · refine et_pw (ew_and (et_ne (ev_var 2 rfl (ev_str ⟨_, _, _, rfl, rfl, str_sc _ _, ?_⟩))))
    by_cases hp : p = ""
    · rw [decide_eq_true hp]
      exact ⟨rfl, (decide_eq_false fun z => z.1 hp).symm⟩
    · rw [decide_eq_false hp]
      refine ew_and1 (et_eq (ev_var 4 rfl (ev_str ⟨_, _, _, rfl, rfl, str_sc _ _, rfl, ?_⟩)))
      exact decide_eq_decide.mpr ⟨fun z => ⟨hp, z⟩, fun z => z.2⟩
  · obtain ⟨rfl, rfl⟩ := hk
    by_cases hc : p ≠ "" ∧ getB m p = ""
    · rw [decide_eq_true hc]
      refine sv_ret (ev_non ⟨rfl, rfl, ?_⟩)
      show Res.va .non = .va (rdNm (getB m) p l)
      unfold rdNm
      rw [if_pos hc]
    · rw [decide_eq_false hc]
      refine sv_nil (sv_ret (ev_tup (eva_cons (ev_var 4 rfl (eva_cons (ev_var 3 rfl (eva_nil ⟨_, rfl, by simp, rfl, rfl, ?_⟩)))))))
      show Res.va _ = .va (rdNm (getB m) p l)
      unfold rdNm
      rw [if_neg hc]
      rfl
noncomputable def gRan : List D → Option Res := gT nsE yes fun x => .va (rdAn (getB x.2) x.1.1 x.1.2)
theorem gRan_of (p l : Str) (m : Bd) : gRan [nmD p l, suD m] = some (.va (rdAn (getB m) p l)) := gT_of (enc := nsE) (x := ((p, l), m)) nsE_inj trivial
abbrev DRan (P : Program) (w : World) (K : PySem.W.Frag) (mg : Str → Option Value) (base : Heap) (Z : Vol) := Df P w K mg base "_read_attribute_name" 3 ["name", "bound"] (spP Z K 2 gRan)
abbrev sRan : Stmt := st__read_attribute_name
theorem ok_ran (F : Fun K "_read_attribute_name" "_read_attribute_name" sRan f fd) (T : Cst mg) (D1 : DRn P w K mg base Z) : FnOk P w K mg base CX0 3 f fd ["name", "bound"] (spP Z K 2 gRan) := by
  have sc : FnScope ["name", "bound"] ["name", "bound"] (defScope sRan) := ⟨rfl, rfl, rfl, by decide +kernel, rfl, by decide +kernel, by decide +kernel⟩
  refine fn_pure F sc rfl (gT_out fun x hx => rfl) fun cdv A outer s H E b ds r hr hl hg => ?_
  obtain ⟨⟨⟨p, l⟩, m⟩, rfl, _, rfl⟩ := gT_one hg
  refine sv_if (et_eq (ev_ix (ev_var 0 rfl (ev_int ⟨_, _, _, .inl rfl, rfl, at0, ev_str ⟨_, _, _, rfl, rfl, str_sc _ _, ?_⟩⟩))))
  by_cases h : p = ""
  · rw [decide_eq_true h]
    refine sv_ret (ev_var 0 rfl ⟨rfl, rfl, ?_⟩)
    show Res.va (nmD p l) = .va (rdAn (getB m) p l)
    unfold rdAn
    rw [if_pos h, h]
  · rw [decide_eq_false h]
    refine sv_nil (sv_ret (ev_callP D1 hr (eva_cons (ev_var 0 rfl (eva_cons (ev_var 1 rfl (eva_nil ⟨_, _, rfl, rfl, gRn_of p l m, rfl, rfl, ?_⟩)))))))
    show Res.va _ = .va (rdAn (getB m) p l)
    unfold rdAn
    rw [if_neg h]
abbrev vsE (x : Vl × Bd) : List D := [x.1.d, suD x.2]
theorem vsE_inj (x y : Vl × Bd) (h : vsE x = vsE y) : x = y := by
  unfold vsE at h
  injection h with h1 h
  injection h with h2 _
  exact Prod.ext (vl_inj _ _ h1) (su_inj _ _ h2)
noncomputable def gRv : List D → Option Res := gT vsE yes fun x => .va (rdV (getB x.2) x.1)
theorem gRv_of (v : Vl) (m : Bd) : gRv [v.d, suD m] = some (.va (rdV (getB m) v)) := gT_of (enc := vsE) (x := (v, m)) vsE_inj trivial
abbrev DRv (P : Program) (w : World) (K : PySem.W.Frag) (mg : Str → Option Value) (base : Heap) (Z : Vol) := Df P w K mg base "_read_value" 3 ["value", "bound"] (spP Z K 2 gRv)
abbrev sRv : Stmt := st__read_value
theorem ok_rv (F : Fun K "_read_value" "_read_value" sRv f fd) (T : Cst mg) (D1 : DRn P w K mg base Z) : FnOk P w K mg base CX0 3 f fd ["value", "bound"] (spP Z K 2 gRv) := by
  have sc : FnScope ["value", "bound"] ["value", "bound"] (defScope sRv) := ⟨rfl, rfl, rfl, by decide +kernel, rfl, by decide +kernel, by decide +kernel⟩
  refine fn_pure F sc rfl (gT_out fun x hx => rfl) fun cdv A outer s H E b ds r hr hl hg => ?_
  obtain ⟨⟨v, m⟩, rfl, _, rfl⟩ := gT_one hg
  refine sv_if (et_val (ev_isi (t := "str") (T.blt _ rfl) (T.blt _ rfl).str (by decide +kernel) (ev_var 0 rfl ⟨_, isi_s _, _, rfl, ?_⟩)))
  cases v with
  | s x => exact sv_ret (ev_var 0 rfl ⟨rfl, rfl, rfl⟩)
  | q p l => exact sv_nil (sv_ret (ev_callP D1 hr (eva_cons (ev_var 0 rfl (eva_cons (ev_var 1 rfl (eva_nil ⟨_, _, rfl, rfl, gRn_of p l m, rfl, rfl, rfl⟩)))))))
/-! ### _read_attributes -/
abbrev asE (x : List ((Str × Str) × Vl) × Bd) : List D := [.tup (x.1.map atrD), suD x.2]
theorem asE_inj (x y : List ((Str × Str) × Vl) × Bd) (h : asE x = asE y) : x = y := by
  unfold asE at h
  injection h with h1 h
  injection h with h2 _
  injection h1 with h1
  exact Prod.ext (map_inj atrD_inj _ _ h1) (su_inj _ _ h2)
noncomputable def gRas : List D → Option Res := gT asE (fun x => x.1.length ≤ 4) fun x => .va (mnD (rdAs (getB x.2) x.1))
theorem gRas_of {as : List ((Str × Str) × Vl)} (h : as.length ≤ 4) (m : Bd) : gRas [.tup (as.map atrD), suD m] = some (.va (mnD (rdAs (getB m) as))) := gT_of (enc := asE) (x := (as, m)) asE_inj h
abbrev lamR : Str := "_read_attributes.<locals>.<lambda>"
abbrev DRas (P : Program) (w : World) (K : PySem.W.Frag) (mg : Str → Option Value) (base : Heap) (Z : Vol) := Df P w K mg base "_read_attributes" 5 ["attributes", "bound"] (spP Z K 2 gRas)
abbrev sRas : Stmt := st__read_attributes
abbrev nmRas : List Str := ["attributes", "bound", "rows", "name", "value", "full_name", "_"]
theorem ok_ras {c Tb : Addr} (F : FunC K "_read_attributes" "_read_attributes" sRas f fd c) (T : Cst mg) (TB : LamX.TabB base mg c Tb) (LZ : LamZ Z Tb lamR) (D1 : DRan P w K mg base Z) (D2 : DRv P w K mg base Z) : FnOk P w K mg base CX0 5 f fd ["attributes", "bound"] (spP Z K 2 gRas) := by
  have sc : FnScope nmRas ["attributes", "bound"] (defScope sRas) := ⟨rfl, rfl, rfl, by decide +kernel, rfl, by decide +kernel, by decide +kernel⟩
  refine fn_pureC F sc rfl (gT_out fun x hx => rfl) fun A outer s H E b ds r hr hl hg => ?_
  obtain ⟨⟨as, m⟩, rfl, hlen, rfl⟩ := gT_one hg
  have hlen : as.length ≤ 4 := hlen
  have b0 := T.blt (cxOf CX0 P w K mg base nmRas "_read_attributes" (defScope sRas) f (.ref c) A outer s H E).nox rfl
  generalize hB : getB m = B
  have hfin : ∀ d, mnD (rdAs B as) = d → (retF fun b' r' => b' = b ∧ r' = Res.va (mnD (rdAs B (as, m).1))).R b (.va d) := fun d e => by
    refine ⟨rfl, rfl, ?_⟩
    show Res.va d = .va (mnD (rdAs B as))
    rw [e]
  refine sv_setLc 2 (.tp [.nm 3, .nm 4]) [("name", 3), ("value", 4)] rfl sc.nd (blkOk_by (N := nmRas) (sc := defScope sRas) (by decide +kernel)) (fun _ _ _ _ _ => pg_tup rfl (pgs_cons (pg_name (i := 3) sc.nd rfl (Or.inl rfl)) (pgs_cons (pg_name (i := 4) sc.nd rfl (Or.inl rfl)) pgs_nil))) (by simp [Pat.slots, slotsAll])
    (lc_mapT atrD (.tp [.nm 3, .nm 4]) [("name", 3), ("value", 4)] (rdR B) (EI.c (ei_tup (ev_var 0 rfl ⟨as.map atrD, rfl, as, rfl, Nat.le_trans hlen (by decide), fun q hq => ⟨_, rfl, fun s H Cc cl fp => ?_⟩, _, rfl, ?_⟩))))
  · refine ev_tup (eva_cons (ev_callP D1 (hr.mono (by decide)) (eva_cons (ev_var 3 rfl (eva_cons (ev_var 1 rfl (eva_nil ⟨[nmD q.1.1 q.1.2, suD m], _, rfl, rfl, gRan_of q.1.1 q.1.2 m, ?_⟩)))))))
    refine eva_cons (ev_callP D2 (hr.mono (by decide)) (eva_cons (ev_var 4 rfl (eva_cons (ev_var 1 rfl (eva_nil ⟨[q.2.d, suD m], _, rfl, rfl, gRv_of q.2 m, eva_nil ⟨_, rfl, by simp, rfl, ?_⟩⟩))))))
    rw [hB]
    rfl
  show SV _ _ [.va (.tup (as.map atrD)), .va (suD m), .ow (as.map (rdR B)), .un, .un, .un, .un] _ _
  refine sv_if (et_val (ev_any rfl b0 (ev_map (.tp [.nm 5, .nm 4]) [("full_name", 5), ("value", 4)] (fun d => .bl ((fstOf d).isN || (sndOf d).isN)) rfl sc.nd (blkOk_by (N := nmRas) (sc := defScope sRas) (by decide +kernel)) (fun _ _ _ _ _ => pg_tup rfl (pgs_cons (pg_name (i := 5) sc.nd rfl (Or.inl rfl)) (pgs_cons (pg_name (i := 4) sc.nd rfl (Or.inl rfl)) pgs_nil))) (by simp [Pat.slots, slotsAll])
    (eic_list (ev_varO 2 rfl ⟨as.map (rdR B), rfl, ?_⟩)))))
  refine ⟨by rw [List.length_map]; omega, fun d hd => ?_, as.map (badQ B), ?_, _, rfl, ?_⟩
  · obtain ⟨q, hq, rfl⟩ := List.mem_map.mp hd
    refine ⟨_, rfl, fun s H Cc cl fp => ev_or (ev_isN (ev_var 5 rfl ⟨_, rfl, _, rfl, ?_⟩))⟩
    show if _ then _ else _
    cases e1 : (rdAn B q.1.1 q.1.2).isN with
    | true => exact ⟨rfl, by show Res.va (.bl true) = .va (.bl ((rdAn B q.1.1 q.1.2).isN || (rdV B q.2).isN)); rw [e1]; rfl⟩
    | false => exact ev_one (ev_isN (ev_var 4 rfl ⟨_, rfl, rfl, by show Res.va _ = .va (.bl ((rdAn B q.1.1 q.1.2).isN || (rdV B q.2).isN)); rw [e1]; rfl⟩))
  · show some _ = some _
    rw [List.map_map, List.map_map]
    refine congrArg some (List.map_congr_left fun q _ => ?_)
    exact congrArg D.bl (bad_isN B q)
  have eany : (as.map (badQ B)).any id = as.any (badQ B) := by rw [List.any_map]; rfl
  rw [eany]
  cases ea : as.any (badQ B) with
  | true =>
    refine sv_ret (ev_non (hfin _ ?_))
    unfold rdAs
    rw [if_pos ea]
    rfl
  | false =>
    have eall : ∀ q ∈ as, badQ B q = false := fun q hq => by
      cases e : badQ B q with
      | false => rfl
      | true =>
        have := List.any_eq_true.mpr ⟨q, hq, e⟩
        rw [ea] at this
        cases this
    have erow : as.map (rdR B) = as.map (rowQ B) := List.map_congr_left fun q hq => rdR_is (eall q hq)
    rw [erow]
    refine sv_nil ?_
    refine sv_if (et_ord op_lt (nomark _) (ev_lenSC (keyD _ (hu_of hr)) (.tp [.nm 5, .nm 6]) [("full_name", 5), ("_", 6)] (fun d => pairL (nameOf (fstOf d))) rfl sc.nd (blkOk_by (N := nmRas) (sc := defScope sRas) (by decide +kernel)) (fun _ _ _ _ _ => pg_tup rfl (pgs_cons (pg_name (i := 5) sc.nd rfl (Or.inl rfl)) (pgs_cons (pg_name (i := 6) sc.nd rfl (Or.inl rfl)) pgs_nil))) (by simp [Pat.slots, slotsAll]) b0 (eic_list (ev_varO 2 rfl ⟨as.map (rowQ B), rfl, ?_⟩))))
    refine ⟨by rw [List.length_map]; exact hlen, by rw [List.length_map]; omega, fun d hd => ?_, ev_len b0 (ev_varO 2 rfl ⟨_, .seq rfl, _, _, rfl, rfl, ?_⟩)⟩
    · obtain ⟨q, hq, rfl⟩ := List.mem_map.mp hd
      exact ⟨_, rfl, fun s H Cc cl fp => ev_var 5 rfl ⟨rfl, rfl⟩⟩
    have ecnt : ((as.map (rowQ B)).map fun d => pairL (nameOf (fstOf d))) = (as.map (fnQ B)).map pairL := by rw [List.map_map, List.map_map]; rfl
    show if decide (((@PD.cnt (List Str) inferInstance ((as.map (rowQ B)).map fun d => pairL (nameOf (fstOf d))) : Nat) : Int) < (((as.map (rowQ B)).length : Nat) : Int)) = true then _ else _
    rw [ecnt]
    have hle := cnt_le ((as.map (fnQ B)).map pairL)
    have hnd := cnt_nodup ((as.map (fnQ B)).map pairL)
    have hnb : nodupB ((as.map (fnQ B)).map pairL) = nodupB (as.map (fnQ B)) := nodupB_inj pairL_inj _
    have hll : ((as.map (fnQ B)).map pairL).length = as.length := by rw [List.length_map, List.length_map]
    have hl2 : (as.map (rowQ B)).length = as.length := List.length_map _
    rw [hl2]
    generalize hc : @PD.cnt _ _ ((as.map (fnQ B)).map pairL) = n at hle hnd
    cases en : nodupB (as.map (fnQ B)) with
    | false =>
      have hne : n ≠ as.length := fun z => by
        have := (nodupB_iff _).mpr (hnd.mp (by rw [z, hll]))
        rw [hnb, en] at this
        cases this
      rw [decide_eq_true (by omega : (n : Int) < (as.length : Int))]
      refine sv_ret (ev_non (hfin _ ?_))
      unfold rdAs
      rw [if_neg (by rw [ea]; decide), if_neg (by rw [en]; decide)]
      rfl
    | true =>
      have he : n = as.length := by
        rw [← hll]
        exact hnd.mpr ((nodupB_iff _).mp (by rw [hnb]; exact en))
      rw [decide_eq_false (by omega : ¬ (n : Int) < (as.length : Int))]
      refine sv_nil (sv_ret (ev_tuple b0 (ev_sortLam fstOf b0 (hr.mono (by decide)) rfl rfl TB LZ ⟨⟨rfl, rfl, rfl, rfl⟩, rfl, fun _ _ _ _ _ => rfl⟩ (ev_varO 2 rfl ⟨as.map (rowQ B), rfl, ?_, ⟨_, rfl, hfin _ ?_⟩, ?_⟩))))
      · have e : (as.map (rowQ B)).map fstOf = (as.map (fnQ B)).map pr2 := by
          rw [List.map_map, List.map_map]
          rfl
        rw [e]
        exact pr2_srt _
      · unfold rdAs
        rw [if_neg (by rw [ea]; decide), if_pos en]
        rfl
      · intro d hd A outer s H f' c'
        obtain ⟨q, hq, rfl⟩ := List.mem_map.mp hd
        exact ev_ix (ev_var 0 rfl (ev_int ⟨_, _, _, .inl rfl, rfl, at0, rfl, rfl⟩))
end
end G
set_option Elab.async false
set_option linter.all false
set_option maxRecDepth 100000
set_option maxHeartbeats 4000000
namespace G
open PySem PySem.Spec PyProof.Rows L2 PD
section
variable {P : Program} {w : World} {K : PySem.W.Frag} {mg : Str → Option Value} {base : Heap} {Z : Vol} {f : Addr} {fd : FuncData}
/-! ### _read, _read_child -/
structure RdOk (H N : Nat) (q : (Nd × Bd) × Fl) : Prop where
  ok : q.1.1.ok = true
  dep : hdp H q.1.1 ≤ N
  m : q.1.2.length + 50 * hdp H q.1.1 ≤ 100000
  okm : ∀ p, okS (getB q.1.2 p) = true
  fl : FlOk H q.2
  hl : ∀ z ∈ hlW q.1.1, z ∈ q.2.map (·.1)
abbrev rdE3 (q : (Nd × Bd) × Fl) : List D := [q.1.1.d, suD q.1.2, flD q.2]
theorem rdE3_inj (x y : (Nd × Bd) × Fl) (h : rdE3 x = rdE3 y) : x = y := by
  unfold rdE3 at h
  injection h with h1 h
  injection h with h2 h
  injection h with h3 _
  exact Prod.ext (Prod.ext (nd_inj _ _ h1) (su_inj _ _ h2)) (fl_inj _ _ h3)
noncomputable def gRd (H N : Nat) : List D → Option Res := gT rdE3 (fun q => q.1.1.isEl = true ∧ RdOk H N q) fun q => .va (mnD (meanF (getB q.1.2) (flF q.2) q.1.1))
noncomputable def gRc (H N : Nat) : List D → Option Res := gT rdE3 (RdOk H N) fun q => .va (mnD (meanF (getB q.1.2) (flF q.2) q.1.1))
theorem gRd_of {H N : Nat} {x : Nd} {m : Bd} {fl : Fl} (he : x.isEl = true) (h : RdOk H N ((x, m), fl)) : gRd H N [x.d, suD m, flD fl] = some (.va (mnD (meanF (getB m) (flF fl) x))) := gT_of (enc := rdE3) (x := ((x, m), fl)) rdE3_inj ⟨he, h⟩
theorem gRc_of {H N : Nat} {x : Nd} {m : Bd} {fl : Fl} (h : RdOk H N ((x, m), fl)) : gRc H N [x.d, suD m, flD fl] = some (.va (mnD (meanF (getB m) (flF fl) x))) := gT_of (enc := rdE3) (x := ((x, m), fl)) rdE3_inj h
abbrev DRd (P : Program) (w : World) (K : PySem.W.Frag) (mg : Str → Option Value) (base : Heap) (Z : Vol) (H N : Nat) := Df P w K mg base "_read" (6 + 2 * N) ["element", "around", "filling"] (spP Z K 3 (gRd H N))
abbrev DRc (P : Program) (w : World) (K : PySem.W.Frag) (mg : Str → Option Value) (base : Heap) (Z : Vol) (H N : Nat) := Df P w K mg base "_read_child" (7 + 2 * N) ["child", "bound", "filling"] (spP Z K 3 (gRc H N))
abbrev sRc : Stmt := st__read_child
theorem hdp_h (H : Nat) (z : Str) : hdp H (.h z) = H := by
  unfold hdp
  rw [noH, Nd.dep]
  simp
theorem hdp_no {H : Nat} {x : Nd} (h : noH x = true) : hdp H x = x.dep := if_pos h
theorem ok_rc {H N : Nat} (F : Fun K "_read_child" "_read_child" sRc f fd) (T : Cst mg) (kc : KC K) (D1 : N ≠ 0 → DRd P w K mg base Z H N) : FnOk P w K mg base CX0 (7 + 2 * N) f fd ["child", "bound", "filling"] (spP Z K 3 (gRc H N)) := by
  have sc : FnScope ["child", "bound", "filling"] ["child", "bound", "filling"] (defScope sRc) := ⟨rfl, rfl, rfl, by decide +kernel, rfl, by decide +kernel, by decide +kernel⟩
  rw [show 7 + 2 * N = (6 + 2 * N) + 1 by omega]
  refine fn_pure F sc rfl (gT_out fun x hx => rfl) fun cdv A outer s H0 E b ds r hr hl hg => ?_
  obtain ⟨⟨⟨x, m⟩, fl⟩, rfl, hx, rfl⟩ := gT_one hg
  have b0 := T.blt (cxOf CX0 P w K mg base ["child", "bound", "filling"] "_read_child" (defScope sRc) f cdv A outer s H0 E).nox rfl
  have hu := hu_of hr
  refine sv_if (et_val (ev_isi (t := "str") b0 b0.str (by decide +kernel) (ev_var 0 rfl ⟨_, isi_s _, _, rfl, ?_⟩)))
  cases x with
  | s x =>
    show if D.isS (Nd.d (.s x)) = true then _ else _
    rw [show D.isS (Nd.d (.s x)) = true by rw [Nd.d]; rfl]
    refine sv_ret (ev_var 0 rfl ⟨rfl, rfl, ?_⟩)
    show Res.va (Nd.d (.s x)) = .va (mnD (meanF (getB m) (flF fl) (.s x)))
    rw [Nd.d, meanF]
    rfl
  | h z =>
    have hd := hx.dep
    rw [show hdp H (((Nd.h z, m), fl) : (Nd × Bd) × Fl).1.1 = H from hdp_h H z] at hd
    obtain ⟨q, hq, eq⟩ := flF_mem (hx.hl z (by show z ∈ hlW (.h z); rw [hlW]; exact List.mem_singleton.mpr rfl))
    have hqd : q.2.dep ≤ H := hx.fl.dep q hq
    have hq1 : 1 ≤ q.2.dep := by
      obtain ⟨a, l, de, as, cs, e⟩ := el_of (hx.fl.el q hq)
      rw [e, Nd.dep]
      omega
    have hN : N ≠ 0 := by omega
    have hzd : (Nd.h z).d = .tup [.str "hole", .str z] := by rw [Nd.d]
    show if D.isS (Nd.d (.h z)) = true then _ else _
    rw [show D.isS (Nd.d (.h z)) = false by rw [hzd]; rfl]
    refine sv_nil ?_
    refine sv_if (et_eq (ev_ix (ev_var 0 rfl (ev_int ⟨[.str "hole", .str z], _, _, .inl (by show Res.va (Nd.d (.h z)) = _; rw [hzd]), rfl, at0, ev_str ⟨_, _, decide (("hole" : Str) = "hole"), rfl, rfl, rfl, ?_⟩⟩))))
    rw [decide_eq_true rfl]
    refine sv_ret (ev_callP (D1 hN) hr (eva_cons (ev_dget kc hu (ev_var 2 rfl (ev_ix (ev_var 0 rfl (ev_int ⟨[.str "hole", .str z], _, _, .inl (by show Res.va (Nd.d (.h z)) = _; rw [hzd]), rfl, at1, ?_⟩)))))))
    refine ⟨.str z, (flF fl z).d, rfl, ?_, ?_⟩
    · have := Ask.str (kvs := flK fl) (x := z)
      rw [show valD (flK fl) (Sum.inr z) = some (flF fl z).d from flK_val (hx.hl z (by show z ∈ hlW (.h z); rw [hlW]; exact List.mem_singleton.mpr rfl))] at this
      exact this
    have hm := hx.m
    rw [show hdp H (((Nd.h z, m), fl) : (Nd × Bd) × Fl).1.1 = H from hdp_h H z] at hm
    have hno : noH q.2 = true := hx.fl.no q hq
    refine eva_cons (ev_var 1 rfl (eva_cons (ev_var 2 rfl (eva_nil ⟨[(flF fl z).d, suD m, flD fl], _, rfl, rfl, gRd_of (by rw [eq]; exact hx.fl.el q hq) ⟨by show (flF fl z).ok = true; rw [eq]; exact hx.fl.ok q hq, ?_, ?_, hx.okm, hx.fl, fun y hy => ?_⟩, rfl, rfl, ?_⟩))))
    · show hdp H (flF fl z) ≤ N
      rw [eq, hdp_no hno]
      omega
    · show m.length + 50 * hdp H (flF fl z) ≤ 100000
      rw [eq, hdp_no hno]
      have : (((Nd.h z, m), fl) : (Nd × Bd) × Fl).1.2.length = m.length := rfl
      omega
    · have hy : y ∈ hlW (flF fl z) := hy
      rw [eq, (hlW_no q.2).mpr hno] at hy
      cases hy
    · show Res.va (mnD (meanF (getB m) (flF fl) (flF fl z))) = .va (mnD (meanF (getB m) (flF fl) (.h z)))
      rw [meanF, meanF_no _ _ _ (by rw [eq]; exact hno)]
  | el p l de as cs =>
    have hN : N ≠ 0 := by
      have := hx.dep
      have h1 : 1 ≤ hdp H (Nd.el p l de as cs) := by unfold hdp; rw [Nd.dep]; split <;> omega
      have h2 : hdp H (Nd.el p l de as cs) ≤ N := this
      omega
    have hzd : (Nd.el p l de as cs).d = .tup [.str "element", nmD p l, .pt (de.map dclD), .tup (as.map atrD), .tup (ndsD cs)] := by rw [Nd.d]
    show if D.isS (Nd.d (.el p l de as cs)) = true then _ else _
    rw [show D.isS (Nd.d (.el p l de as cs)) = false by rw [hzd]; rfl]
    refine sv_nil ?_
    refine sv_if (et_eq (ev_ix (ev_var 0 rfl (ev_int ⟨[.str "element", nmD p l, .pt (de.map dclD), .tup (as.map atrD), .tup (ndsD cs)], _, _, .inl (by show Res.va (Nd.d (.el p l de as cs)) = _; rw [hzd]), rfl, at0, ev_str ⟨_, _, decide (("element" : Str) = "hole"), rfl, rfl, rfl, ?_⟩⟩))))
    rw [show decide (("element" : Str) = "hole") = false by decide +kernel]
    refine sv_nil ?_
    exact sv_ret (ev_callP (D1 hN) hr (eva_cons (ev_var 0 rfl (eva_cons (ev_var 1 rfl (eva_cons (ev_var 2 rfl (eva_nil ⟨[(Nd.el p l de as cs).d, suD m, flD fl], _, rfl, rfl, gRd_of rfl hx, rfl, rfl, rfl⟩))))))))
abbrev sRd : Stmt := st__read
abbrev nmRd : List Str := ["element", "around", "filling", "_", "name", "declarations", "attributes", "children", "bound", "full_name", "rows", "inner", "child"]
theorem mn_eqv {d : D} (h : Cm 40 d) : d.eqv .non = d.isN := by
  cases e : d.isN with
  | true =>
    cases d <;> first | exact (eqv_iff _ _ rfl rfl).mpr rfl | cases e
  | false =>
    cases z : d.eqv .non with
    | false => rfl
    | true =>
      have := (eqv_iff _ _ h.nb rfl).mp z
      rw [this] at e
      cases e
theorem ok_rd {H N : Nat} (hN : N ≤ 14) (F : Fun K "_read" "_read" sRd f fd) (T : Cst mg) (kc : KC K) (D1 : DBndR P w K mg base Z) (D2 : DRn P w K mg base Z) (D3 : DRas P w K mg base Z) (D4 : DRc P w K mg base Z H N) : FnOk P w K mg base CX0 (6 + 2 * (N + 1)) f fd ["element", "around", "filling"] (spP Z K 3 (gRd H (N + 1))) := by
  have sc : FnScope nmRd ["element", "around", "filling"] (defScope sRd) := ⟨rfl, rfl, rfl, by decide +kernel, rfl, by decide +kernel, by decide +kernel⟩
  rw [show 6 + 2 * (N + 1) = (7 + 2 * N) + 1 by omega]
  refine fn_pure F sc rfl (gT_out fun x hx => rfl) fun cdv A outer s H0 E b ds r hr hl hg => ?_
  obtain ⟨⟨⟨x, m⟩, fl⟩, rfl, ⟨hel, hx⟩, rfl⟩ := gT_one hg
  have hel : x.isEl = true := hel
  obtain ⟨p, lo, de, as, cs, rfl⟩ := el_of hel
  have ho := ok_el.mp hx.ok
  have hdep : hdp H (Nd.el p lo de as cs) ≤ N + 1 := hx.dep
  have hm : m.length + 50 * hdp H (Nd.el p lo de as cs) ≤ 100000 := hx.m
  have hokm : ∀ p, okS (getB m p) = true := hx.okm
  have hfl : FlOk H fl := hx.fl
  have hhl : ∀ z ∈ hlW (Nd.el p lo de as cs), z ∈ fl.map (·.1) := hx.hl
  have h4 := ho.nd
  have ha4 := ho.na
  have hb := bnd_len de m
  have hd1 : 1 ≤ hdp H (Nd.el p lo de as cs) := by unfold hdp; rw [Nd.dep]; split <;> omega
  have b0 := T.blt (cxOf CX0 P w K mg base nmRd "_read" (defScope sRd) f cdv A outer s H0 E).nox rfl
  have hu65 : (A.deeper (envOfC "_read" (defScope sRd) s.heap.objs.size f cdv)).units + 65 < cLine := by have := hr.un; omega
  have hzd : (Nd.el p lo de as cs).d = .tup [.str "element", nmD p lo, .pt (de.map dclD), .tup (as.map atrD), .tup (ndsD cs)] := by rw [Nd.d]
  refine sv_unpack (.tp [.nm 3, .nm 4, .nm 5, .nm 6, .nm 7]) (pg_tup rfl (pgs_cons (pg_name (i := 3) sc.nd rfl (Or.inl rfl)) (pgs_cons (pg_name (i := 4) sc.nd rfl (Or.inl rfl)) (pgs_cons (pg_name (i := 5) sc.nd rfl (Or.inl rfl)) (pgs_cons (pg_name (i := 6) sc.nd rfl (Or.inl rfl)) (pgs_cons (pg_name (i := 7) sc.nd rfl (Or.inl rfl)) pgs_nil)))))) (ev_var 0 rfl ⟨(Nd.el p lo de as cs).d, [.va (Nd.el p lo de as cs).d, .va (suD m), .va (flD fl), .va (.str "element"), .va (nmD p lo), .va (.pt (de.map dclD)), .va (.tup (as.map atrD)), .va (.tup (ndsD cs)), .un, .un, .un, .un, .un], rfl, by rw [hzd]; rfl, ?_⟩)
  refine sv_set 8 (ev_frzD (ev_callP D1 (hr.mono (by omega)) (eva_cons (ev_var 5 rfl (eva_cons (ev_var 1 rfl (eva_nil ⟨[.pt (de.map dclD), suD m], _, rfl, rfl, gLB_of (by omega), _, rfl, _, rfl, ?_⟩))))))) sc.nd
  refine sv_set 9 (ev_callP D2 (hr.mono (by omega)) (eva_cons (ev_var 4 rfl (eva_cons (ev_var 8 rfl (eva_nil ⟨[nmD p lo, suD (bnd de m)], _, rfl, rfl, gRn_of p lo (bnd de m), _, rfl, ?_⟩)))))) sc.nd
  refine sv_set 10 (ev_callP D3 (hr.mono (by omega)) (eva_cons (ev_var 6 rfl (eva_cons (ev_var 8 rfl (eva_nil ⟨[.tup (as.map atrD), suD (bnd de m)], _, rfl, rfl, gRas_of ha4 (bnd de m), _, rfl, ?_⟩)))))) sc.nd
  have hBo : ∀ q, okS (getB (bnd de m) q) = true := by rw [bndA_get]; exact bndA_ok (fun q hq => (ho.hd q hq).2) hokm
  have emean := meanF_rd (getB m) (flF fl) p lo de as cs
  rw [← bndA_get] at emean
  refine sv_setLc 11 (.nm 12) [("child", 12)] rfl sc.nd (blkOk_by (N := nmRd) (sc := defScope sRd) (by decide +kernel)) (fun _ _ _ _ _ => pg_name (i := 12) sc.nd rfl (Or.inl rfl)) (by simp [Pat.slots])
    (lc_mapT Nd.d (.nm 12) [("child", 12)] (fun c => mnD (meanF (getB (bnd de m)) (flF fl) c)) (EI.c (ei_tup (ev_var 7 rfl ⟨ndsD cs, rfl, cs, ndsD_map cs, Nat.le_trans ho.nc (by decide), fun x hx => ⟨_, rfl, fun s H1 Cc cl fp => ?_⟩, _, rfl, ?_⟩))))
  · have hk := hdp_kid (H := H) (p := p) (l := lo) (ds := de) (as := as) hx
    refine ev_callP D4 hr (eva_cons (ev_var 12 rfl (eva_cons (ev_var 8 rfl (eva_cons (ev_var 2 rfl (eva_nil ⟨[x.d, suD (bnd de m), flD fl], _, rfl, rfl, gRc_of ⟨ho.hc x hx, ?_, ?_, hBo, hfl, fun z hz => hhl z (hlW_kid hx hz)⟩, rfl, rfl⟩)))))))
    · show hdp H x ≤ N
      omega
    · show (bnd de m).length + 50 * hdp H x ≤ 100000
      omega
  generalize hB : getB (bnd de m) = B at emean hBo
  have hcm : ∀ d ∈ cs.map (fun c => mnD (meanF B (flF fl) c)), Cm 40 d := fun d hd => by
    obtain ⟨c, hc, rfl⟩ := List.mem_map.mp hd
    cases e : meanF B (flF fl) c with
    | none => exact cm_non.mono (by decide)
    | some d =>
      have hk := hdp_kid (H := H) (p := p) (l := lo) (ds := de) (as := as) hc
      refine (kids_cm (H := H) cs B ho.hc hBo (fun c hc z hz => ?_) c hc d e).mono (by omega)
      obtain ⟨q, hq, eq⟩ := flF_mem (hhl z (hlW_kid hc hz))
      rw [eq]
      exact ⟨hfl.ok q hq, hfl.dep q hq⟩
  refine sv_if (et_imp (Pt := fun b' k => b' = b ∧ k = ((rdNm B p lo).isN || (mnD (rdAs B as)).isN || cs.any fun c => (meanF B (flF fl) c).isNone)) ?_ fun b' k hk => ?_)
  · refine et_pw (ew_or (et_isN (ev_var 9 rfl ⟨_, rfl, ?_⟩)))
    cases e1 : (rdNm B p lo).isN with
    | true => exact ⟨rfl, by rw [Bool.true_or, Bool.true_or]⟩
    | false =>
      refine ew_or (et_isN (ev_var 10 rfl ⟨_, rfl, ?_⟩))
      cases e2 : (mnD (rdAs B as)).isN with
      | true => exact ⟨rfl, by rw [Bool.false_or, Bool.true_or]⟩
      | false =>
        refine ew_or1 (et_inL hu65 (ev_non (ev_varO 11 rfl ⟨.non, _, rfl, rfl, cm_non.sh (by decide), ?_, rfl, ?_⟩)))
        · exact lst_sh hcm
        · rw [Bool.false_or, Bool.false_or, List.any_map]
          have : ∀ ks : List Nd, (∀ c ∈ ks, c ∈ cs) → (ks.any ((fun z => z.eqv .non) ∘ fun c => mnD (meanF B (flF fl) c))) = ks.any fun c => (meanF B (flF fl) c).isNone := by
            intro ks
            induction ks with
            | nil => intro _; rfl
            | cons c ks ih =>
              intro h
              rw [List.any_cons, List.any_cons, ih fun d hd => h d (List.mem_cons_of_mem _ hd)]
              congr 1
              show (mnD (meanF B (flF fl) c)).eqv .non = _
              rw [mn_eqv (hcm _ (List.mem_map.mpr ⟨c, h c List.mem_cons_self, rfl⟩))]
              cases e : meanF B (flF fl) c with
              | none => rfl
              | some d =>
                show d.isN = false
                cases c with
                | s x => rw [meanF] at e; rw [← Option.some.inj e]; rfl
                | h z =>
                  rw [meanF] at e
                  obtain ⟨q, hq, eq⟩ := flF_mem (hhl z (hlW_kid (h _ List.mem_cons_self) (by rw [hlW]; exact List.mem_singleton.mpr rfl)))
                  rw [eq, ← meanF_no (flF fl) q.2 B (hfl.no q hq)] at e
                  exact meanF_el_ne (hfl.el q hq) e
                | el _ _ _ _ _ => exact meanF_el_ne rfl e
          exact this cs fun c hc => hc
  · obtain ⟨rfl, rfl⟩ := hk
    by_cases hc : ((rdNm B p lo).isN || (mnD (rdAs B as)).isN || cs.any fun c => (meanF B (flF fl) c).isNone) = true
    · rw [hc]
      refine sv_ret (ev_non ⟨rfl, rfl, ?_⟩)
      show Res.va .non = .va (mnD (meanF (getB m) (flF fl) (.el p lo de as cs)))
      rw [emean, if_pos hc]
    · have hc' : ((rdNm B p lo).isN || (mnD (rdAs B as)).isN || cs.any fun c => (meanF B (flF fl) c).isNone) = false := by simpa using hc
      rw [hc']
      refine sv_nil (sv_ret (ev_tup (eva_cons (ev_str (eva_cons (ev_var 9 rfl (eva_cons (ev_var 10 rfl (eva_cons (ev_tuple b0 (ev_varO 11 rfl ⟨_, rfl, eva_nil ⟨_, rfl, by simp, rfl, rfl, ?_⟩⟩)))))))))))
      show Res.va _ = .va (mnD (meanF (getB m) (flF fl) (.el p lo de as cs)))
      rw [emean, if_neg hc]
end
end G
set_option Elab.async false
set_option linter.all false
set_option maxRecDepth 100000
set_option maxHeartbeats 4000000
namespace G
open PySem PySem.Spec PyProof.Rows L2 PD
/-! ### _law_meaning, with fillings -/
/-- what is read where a child stands -/
def rdOf (fl : Fl) : Nd → Nd
  | .h z => flF fl z
  | c => c
theorem rdOf_ok {H : Nat} {fl : Fl} {c : Nd} {B : Af} (hfl : FlOk H fl) (hc : c.ok = true) (ht : c.isT = false) (hl : ∀ z ∈ hlW c, z ∈ fl.map (·.1)) :
    (rdOf fl c).isEl = true ∧ (rdOf fl c).ok = true ∧ hdp H (rdOf fl c) ≤ hdp H c ∧ (∀ z ∈ hlW (rdOf fl c), z ∈ fl.map (·.1)) ∧ meanF B (flF fl) (rdOf fl c) = meanF B (flF fl) c := by
  cases c with
  | s t => cases ht
  | el p l ds as cs => exact ⟨rfl, hc, Nat.le_refl _, hl, rfl⟩
  | h t =>
    obtain ⟨q, hq, eq⟩ := flF_mem (hl t (by rw [hlW]; exact List.mem_singleton.mpr rfl))
    have hno := hfl.no q hq
    refine ⟨by rw [rdOf, eq]; exact hfl.el q hq, by rw [rdOf, eq]; exact hfl.ok q hq, ?_, fun z hz => ?_, ?_⟩
    · rw [rdOf, eq, hdp_no hno, hdp_h]
      exact hfl.dep q hq
    · rw [rdOf, eq, (hlW_no q.2).mpr hno] at hz
      cases hz
    · rw [rdOf, meanF, meanF_no _ _ _ (by rw [eq]; exact hno)]
theorem isT_nd (c : Nd) : D.isT c.d = !c.isT := by
  cases c <;> (rw [Nd.d]; rfl)
section
variable {P : Program} {w : World} {K : PySem.W.Frag} {mg : Str → Option Value} {base : Heap} {Z : Vol} {f : Addr} {fd : FuncData}
abbrev nmM7 : List Str := ["part", "outside", "fill", "word", "name", "declarations", "attributes", "children", "bound", "prefix", "local", "found", "names", "own", "value", "address", "inside", "child"]
abbrev DMf (P : Program) (w : World) (K : PySem.W.Frag) (mg : Str → Option Value) (base : Heap) (Z : Vol) (H n : Nat) := Df P w K mg base "_law_meaning" (4 + n) ["part", "outside", "fill"] (spP Z K 3 (gRd H n))
theorem mf_step {Hn n : Nat} (hn14 : n ≤ 14) {c Tb : Addr} (F : FunC K "_law_meaning" "_law_meaning" sMn f fd c) (T : Cst mg) (kc : KC K) (TB : LamX.TabB base mg c Tb) (LZ : LamZ Z Tb "_law_meaning.<locals>.<lambda>") (D1 : DLB P w K mg base Z) (D2 : n ≠ 0 → DMf P w K mg base Z Hn n) : FnOk P w K mg base CX0 (4 + (n + 1)) f fd ["part", "outside", "fill"] (spP Z K 3 (gRd Hn (n + 1))) := by
  have sc : FnScope nmM7 ["part", "outside", "fill"] (defScope sMn) := ⟨rfl, rfl, rfl, by decide +kernel, rfl, by decide +kernel, by decide +kernel⟩
  rw [show 4 + (n + 1) = (4 + n) + 1 by omega]
  refine fn_pureC F sc rfl (gT_out fun x hx => rfl) fun A outer s H E b ds r hr hl hg => ?_
  obtain ⟨⟨⟨x, m⟩, fl⟩, rfl, ⟨hel, hx⟩, rfl⟩ := gT_one hg
  have hel : x.isEl = true := hel
  have hok : x.ok = true := hx.ok
  have hokm : ∀ p, okS (getB m p) = true := hx.okm
  have hfl : FlOk Hn fl := hx.fl
  have b0 := T.blt (cxOf CX0 P w K mg base nmM7 "_law_meaning" (defScope sMn) f (.ref c) A outer s H E).nox rfl
  have hu := hu_of hr
  have hu65 : (A.deeper (envOfC "_law_meaning" (defScope sMn) s.heap.objs.size f (.ref c))).units + 65 < cLine := by have := hr.un; omega
  obtain ⟨p, lo, de, as, cs, rfl⟩ := el_of hel
  have ho := ok_el.mp hok
  have ha4 := ho.na
  have hd4 := ho.nd
  have hdep : hdp Hn (Nd.el p lo de as cs) ≤ n + 1 := hx.dep
  have hm : m.length + 50 * hdp Hn (Nd.el p lo de as cs) ≤ 100000 := hx.m
  have hhl : ∀ z ∈ hlW (Nd.el p lo de as cs), z ∈ fl.map (·.1) := hx.hl
  have hd1 : 1 ≤ hdp Hn (Nd.el p lo de as cs) := by unfold hdp; rw [Nd.dep]; split <;> omega
  have bl := bnd_len de m
  have hzd : (Nd.el p lo de as cs).d = .tup [.str "element", nmD p lo, .pt (de.map dclD), .tup (as.map atrD), .tup (ndsD cs)] := by rw [Nd.d]
  refine sv_unpack (.tp [.nm 3, .nm 4, .nm 5, .nm 6, .nm 7]) (pg_tup rfl (pgs_cons (pg_name (i := 3) sc.nd rfl (Or.inl rfl)) (pgs_cons (pg_name (i := 4) sc.nd rfl (Or.inl rfl)) (pgs_cons (pg_name (i := 5) sc.nd rfl (Or.inl rfl)) (pgs_cons (pg_name (i := 6) sc.nd rfl (Or.inl rfl)) (pgs_cons (pg_name (i := 7) sc.nd rfl (Or.inl rfl)) pgs_nil)))))) (ev_var 0 rfl ⟨(Nd.el p lo de as cs).d, [.va (Nd.el p lo de as cs).d, .va (suD m), .va (flD fl), .va (.str "element"), .va (nmD p lo), .va (.pt (de.map dclD)), .va (.tup (as.map atrD)), .va (.tup (ndsD cs)), .un, .un, .un, .un, .un, .un, .un, .un, .un, .un], rfl, by rw [hzd]; rfl, ?_⟩)
  refine sv_set 8 (ev_frzD (ev_callP D1 (hr.mono (by omega)) (eva_cons (ev_var 5 rfl (eva_cons (ev_var 1 rfl (eva_nil ⟨_, _, rfl, rfl, gLB_of (by omega), _, rfl, _, rfl, ?_⟩))))))) sc.nd
  refine sv_unpack (.tp [.nm 9, .nm 10]) (pg_tup rfl (pgs_cons (pg_name (i := 9) sc.nd rfl (Or.inl rfl)) (pgs_cons (pg_name (i := 10) sc.nd rfl (Or.inl rfl)) pgs_nil))) (ev_var 4 rfl ⟨_, _, rfl, rfl, ?_⟩)
  generalize hA : bndA de (getB m) = B
  have hgB : ∀ q, (valD (suK (bnd de m)) (kS q)).getD (.str "") = .str (B q) := fun q => by rw [suK_get, bndA_get, hA]
  have hBo : ∀ q, okS (B q) = true := by rw [← hA]; exact bndA_ok (fun q hq => (ho.hd q hq).2) hokm
  have emean : meanF (getB m) (flF fl) (.el p lo de as cs) = if p ≠ "" ∧ B p = "" then none else match attQ B [] as with
    | none => none
    | some rows => match meansF B (flF fl) cs with
      | none => none
      | some ins => some (.tup [.str "element", .tup [.str (B p), .str lo], .tup (srtBy fstOf rows), .tup ins]) := by
    first | (rw [meanF, hA]; done) | (rw [meanF, hA]; rfl)
  refine sv_if (et_imp (Pt := fun b' k => b' = b ∧ k = decide (p ≠ "" ∧ B p = "")) ?_ fun b' k hk => ?_)
  · refine et_pw (ew_and (et_ne (ev_var 9 rfl (ev_str ⟨_, _, _, rfl, rfl, str_sc _ _, ?_⟩))))
    by_cases hp : p = ""
    · rw [decide_eq_true hp]
      exact ⟨rfl, (decide_eq_false fun z => z.1 hp).symm⟩
    · rw [decide_eq_false hp]
      refine ew_and1 (et_eq (ev_getd kc hu (ev_var 8 rfl ⟨rfl, ev_var 9 rfl (ev_str ⟨_, _, _, rfl, rfl, Ask.str, ev_str ⟨.str (B p), .str "", decide (B p = ""), congrArg Res.va (hgB p), rfl, rfl, rfl, ?_⟩⟩)⟩)))
      exact decide_eq_decide.mpr ⟨fun z => ⟨hp, z⟩, fun z => z.2⟩
  · obtain ⟨rfl, rfl⟩ := hk
    by_cases hc : p ≠ "" ∧ B p = ""
    · rw [decide_eq_true hc]
      refine sv_ret (ev_non ⟨rfl, rfl, ?_⟩)
      show Res.va .non = .va (mnD (meanF (getB m) (flF fl) (.el p lo de as cs)))
      rw [emean, if_pos hc]
      rfl
    · rw [decide_eq_false hc]
      rw [if_neg hc] at emean
      refine sv_nil ?_
      refine sv_set2N 11 12 rfl sc.nd (by decide) ?_
      refine sv_forT atrD atrD_inj (.tp [.tp [.nm 13, .nm 3], .nm 14]) rfl PassesOwn.never (pg_tup rfl (pgs_cons (pg_tup rfl (pgs_cons (pg_name (i := 13) sc.nd rfl (Or.inl rfl)) (pgs_cons (pg_name (i := 3) sc.nd rfl (Or.inl rfl)) pgs_nil))) (pgs_cons (pg_name (i := 14) sc.nd rfl (Or.inl rfl)) pgs_nil)))
        (ei_tup (ev_var 6 rfl ⟨as.map atrD, rfl, as, rfl, ?_⟩))
      refine ⟨fun pre b2 δ2 => b2 = b' ∧ ∃ s3 s13 s14 s15, δ2 = [.va (Nd.el p lo de as cs).d, .va (suD m), .va (flD fl), s3, .va (nmD p lo), .va (.pt (de.map dclD)), .va (.tup (as.map atrD)), .va (.tup (ndsD cs)), .va (suD (bnd de m)), .va (.str p), .va (.str lo), .ow (pre.map (rowQ B)), .ow ((pre.map fun q => (addrOf B q.1.1, q.1.2)).map pr2), s13, s14, s15, .un, .un] ∧
        ∀ post, as = pre ++ post → attQ B [] as = (attQ B (pre.map fun q => (addrOf B q.1.1, q.1.2)) post).map fun ds => pre.map (rowQ B) ++ ds, ⟨rfl, _, _, _, _, rfl, fun post e => ?_⟩, ?_, ?_⟩
      · rw [e]
        show attQ B [] post = (attQ B [] post).map fun ds => [] ++ ds
        cases attQ B [] post <;> rfl
      · rintro pre q post b2 δ2 e ⟨rfl, s3, s13, s14, s15, rfl, hat⟩
        have hat := hat (q :: post) e
        have hqm : q ∈ as := by rw [e]; simp
        obtain ⟨qa, qb, qc⟩ := ho.ha q hqm
        obtain ⟨⟨own, wd⟩, v⟩ := q
        have hlen : pre.length + 1 ≤ 4 := by
          have := congrArg List.length e
          rw [List.length_append, List.length_cons] at this
          omega
        refine ⟨_, rfl, ?_⟩
        refine sv_set 15 (EV.imp (P := fun b1 rr => b1 = b2 ∧ rr = Res.va (.str (addrOf B own))) (ev_if (et_ne (ev_var 13 rfl (ev_str ⟨_, _, _, rfl, rfl, str_sc _ _, ?_⟩)))) fun b1 rr hh => ?_) sc.nd
        · unfold addrOf
          by_cases ho0 : own = ""
          · rw [decide_eq_true ho0, if_pos ho0]
            exact ev_str ⟨rfl, rfl⟩
          · rw [decide_eq_false ho0, if_neg ho0]
            exact ev_getd kc hu (ev_var 8 rfl ⟨rfl, ev_var 13 rfl (ev_str ⟨_, _, _, rfl, rfl, Ask.str, rfl, congrArg Res.va (hgB own)⟩)⟩)
        · obtain ⟨rfl, rfl⟩ := hh
          refine ⟨_, rfl, ?_⟩
          rw [attQ_cons] at hat
          generalize hnm : (pre.map fun q => (addrOf B q.1.1, q.1.2)) = nm at hat
          simp only at hat
          have hnl : nm.length = pre.length := by rw [← hnm, List.length_map]
          have hnc : ∀ d ∈ nm.map pr2, Cm 40 d := fun d hd => by
            obtain ⟨z, hz, rfl⟩ := List.mem_map.mp hd
            rw [← hnm] at hz
            obtain ⟨r, hr1, rfl⟩ := List.mem_map.mp hz
            exact (cm2 (cm_str (addrOf_ok hBo _)) (cm_str (ho.ha r (by rw [e]; exact List.mem_append_left _ hr1)).2.1)).mono (by decide)
          refine sv_if (et_imp (Pt := fun b' k => b' = b1 ∧ k = decide ((own ≠ "" ∧ addrOf B own = "") ∨ (addrOf B own, wd) ∈ nm)) ?_ fun b' k hk => ?_)
          · refine et_pw (ew_or (et_imp (Pt := fun b' k => b' = b1 ∧ k = decide (own ≠ "" ∧ addrOf B own = "")) ?_ fun b' k hk => ?_))
            · refine et_pw (ew_and (et_ne (ev_var 13 rfl (ev_str ⟨_, _, _, rfl, rfl, str_sc _ _, ?_⟩))))
              by_cases ho0 : own = ""
              · rw [decide_eq_true ho0]
                exact ⟨rfl, (decide_eq_false fun z => z.1 ho0).symm⟩
              · rw [decide_eq_false ho0]
                refine ew_and1 (et_eq (ev_var 15 rfl (ev_str ⟨_, _, _, rfl, rfl, str_sc _ _, rfl, ?_⟩)))
                exact decide_eq_decide.mpr ⟨fun z => ⟨ho0, z⟩, fun z => z.2⟩
            · obtain ⟨rfl, rfl⟩ := hk
              by_cases h1 : own ≠ "" ∧ addrOf B own = ""
              · rw [decide_eq_true h1]
                exact ⟨rfl, (decide_eq_true (Or.inl h1)).symm⟩
              · rw [decide_eq_false h1]
                refine ew_or1 (et_inL hu65 (ev_tup (eva_cons (ev_var 15 rfl (eva_cons (ev_var 3 rfl (eva_nil ⟨[.str (addrOf B own), .str wd], rfl, by simp, ev_varO 12 rfl ⟨pr2 (addrOf B own, wd), _, rfl, rfl, (cm2 (cm_str (addrOf_ok hBo _)) (cm_str qb)).sh (by decide), ?_, rfl, ?_⟩⟩)))))))
                · exact lst_sh hnc
                · rw [pr2_any]
                  exact decide_eq_decide.mpr ⟨Or.inr, fun z => z.elim (fun y => absurd y h1) id⟩
          · obtain ⟨rfl, rfl⟩ := hk
            by_cases hcond : (own ≠ "" ∧ addrOf B own = "") ∨ (addrOf B own, wd) ∈ nm
            · rw [decide_eq_true hcond]
              rw [if_pos (Or.inl hcond)] at hat
              refine sv_ret (ev_non ⟨rfl, rfl, ?_⟩)
              show Res.va .non = .va (mnD (meanF (getB m) (flF fl) (.el p lo de as cs)))
              rw [emean, hat]
              rfl
            · rw [decide_eq_false hcond]
              refine sv_nil ?_
              refine sv_append 12 rfl (ev_tup (eva_cons (ev_var 15 rfl (eva_cons (ev_var 3 rfl (eva_nil ⟨[.str (addrOf B own), .str wd], rfl, by simp, _, _, rfl, rfl, ?_, ?_⟩))))))
              · rw [List.length_map]; omega
              cases v with
              | s vx =>
                rw [if_neg (fun z => z.elim hcond fun z => nomatch z)] at hat
                refine sv_if (et_val (ev_isi (t := "tuple") b0 b0.tuple (by decide +kernel) (ev_var 14 rfl ⟨_, isi_t (.str vx), _, rfl, ?_⟩)))
                refine sv_nil ?_
                refine sv_append 11 rfl (ev_tup (eva_cons (ev_tup (eva_cons (ev_var 15 rfl (eva_cons (ev_var 3 rfl (eva_nil ⟨[.str (addrOf B own), .str wd], rfl, by simp, eva_cons (ev_var 14 rfl (eva_nil ⟨_, rfl, by simp, _, _, rfl, rfl, ?_, sv_nil ⟨rfl, .va (.str wd), .va (.str own), .va (.str vx), .va (.str (addrOf B own)), ?_, fun post' e' => ?_⟩⟩))⟩))))))))
                · rw [List.length_map]; omega
                · rw [← hnm, List.map_append, List.map_append, List.map_append]
                  rfl
                · rw [e, List.append_assoc] at e'
                  have e' := List.append_cancel_left e'
                  have e' : post = post' := by
                    rw [List.singleton_append, List.cons.injEq] at e'
                    exact e'.2
                  subst e'
                  rw [hat, List.map_append (f := fun q : (Str × Str) × Vl => (addrOf B q.1.1, q.1.2)), hnm, Option.map_map]
                  exact congrFun (congrArg Option.map (funext fun ds => by simp)) _
              | q vp vl =>
                have hvl : okS vp = true ∧ okS vl = true := Bool.and_eq_true_iff.mp qc
                refine sv_if (et_val (ev_isi (t := "tuple") b0 b0.tuple (by decide +kernel) (ev_var 14 rfl ⟨_, isi_t (nmD vp vl), _, rfl, ?_⟩)))
                refine sv_if (et_imp (Pt := fun b2' k => b2' = b' ∧ k = badV B (.q vp vl)) ?_ fun b2' k hk => ?_)
                · refine et_pw (ew_and (et_ne (ev_ix (ev_var 14 rfl (ev_int ⟨[.str vp, .str vl], _, _, .inl rfl, rfl, at0, ev_str ⟨_, _, _, rfl, rfl, str_sc _ _, ?_⟩⟩)))))
                  by_cases hp0 : vp = ""
                  · rw [decide_eq_true hp0]
                    exact ⟨rfl, by show false = (!decide (vp = ("" : Str)) && decide (B vp = "")); rw [decide_eq_true hp0]; rfl⟩
                  · rw [decide_eq_false hp0]
                    refine ew_and1 (et_eq (ev_getd kc hu (ev_var 8 rfl ⟨rfl, ev_ix (ev_var 14 rfl (ev_int ⟨[.str vp, .str vl], _, _, .inl rfl, rfl, at0, ev_str ⟨_, _, _, rfl, rfl, Ask.str, ev_str ⟨.str (B vp), .str "", decide (B vp = ""), congrArg Res.va (hgB vp), rfl, rfl, rfl, ?_⟩⟩⟩))⟩)))
                    show decide (B vp = "") = (!decide (vp = ("" : Str)) && decide (B vp = ""))
                    rw [decide_eq_false hp0]
                    rfl
                · obtain ⟨rfl, rfl⟩ := hk
                  cases hbv : badV B (.q vp vl) with
                  | true =>
                    rw [if_pos (Or.inr hbv)] at hat
                    refine sv_ret (ev_non ⟨rfl, rfl, ?_⟩)
                    show Res.va .non = .va (mnD (meanF (getB m) (flF fl) (.el p lo de as cs)))
                    rw [emean, hat]
                    rfl
                  | false =>
                    rw [if_neg (fun z => z.elim hcond fun z => by rw [hbv] at z; cases z)] at hat
                    refine sv_nil ?_
                    refine sv_set 14 (ev_tup (eva_cons (ev_getd kc hu (ev_var 8 rfl ⟨rfl, ev_ix (ev_var 14 rfl (ev_int ⟨[.str vp, .str vl], _, _, .inl rfl, rfl, at0, ev_str ⟨_, _, _, rfl, rfl, Ask.str, eva_cons (ev_ix (ev_var 14 rfl (ev_int ⟨[.str vp, .str vl], _, _, .inl rfl, rfl, at1, eva_nil ⟨[.str (B vp), .str vl], ?_, by simp, _, rfl, sv_nil ?_⟩⟩)))⟩⟩))⟩)))) sc.nd
                    · show vas [Res.va ((valD (suK (bnd de m)) (kS vp)).getD (.str "")), .va (.str vl)] = _
                      rw [hgB]
                      rfl
                    refine sv_append 11 rfl (ev_tup (eva_cons (ev_tup (eva_cons (ev_var 15 rfl (eva_cons (ev_var 3 rfl (eva_nil ⟨[.str (addrOf B own), .str wd], rfl, by simp, eva_cons (ev_var 14 rfl (eva_nil ⟨_, rfl, by simp, _, _, rfl, rfl, ?_, sv_nil ⟨rfl, .va (.str wd), .va (.str own), .va (.tup [.str (B vp), .str vl]), .va (.str (addrOf B own)), ?_, fun post' e' => ?_⟩⟩))⟩))))))))
                    · rw [List.length_map]; omega
                    · rw [← hnm, List.map_append, List.map_append, List.map_append]
                      rfl
                    · rw [e, List.append_assoc] at e'
                      have e' := List.append_cancel_left e'
                      have e' : post = post' := by
                        rw [List.singleton_append, List.cons.injEq] at e'
                        exact e'.2
                      subst e'
                      rw [hat, List.map_append (f := fun q : (Str × Str) × Vl => (addrOf B q.1.1, q.1.2)), hnm, Option.map_map]
                      exact congrFun (congrArg Option.map (funext fun ds => by simp)) _
      · rintro b2 δ2 ⟨rfl, s3, s13, s14, s15, rfl, hat⟩
        have hat := hat [] (by simp)
        have erows : attQ B [] as = some (as.map (rowQ B)) := by
          rw [hat]
          show some (as.map (rowQ B) ++ []) = _
          rw [List.append_nil]
        rw [erows] at emean
        simp only at emean
        refine sv_set 16 (ev_lst (eva_nil ⟨[], rfl, by decide, _, rfl, ?_⟩)) sc.nd
        refine sv_forT Nd.d nd_inj (.nm 17) rfl PassesOwn.never (pg_name (i := 17) sc.nd rfl (Or.inl rfl)) (ei_tup (ev_var 7 rfl ⟨ndsD cs, rfl, cs, ndsD_map cs, ?_⟩))
        refine ⟨fun pre b3 δ3 => b3 = b2 ∧ ∃ s17 ins, δ3 = [.va (Nd.el p lo de as cs).d, .va (suD m), .va (flD fl), s3, .va (nmD p lo), .va (.pt (de.map dclD)), .va (.tup (as.map atrD)), .va (.tup (ndsD cs)), .va (suD (bnd de m)), .va (.str p), .va (.str lo), .ow (as.map (rowQ B)), .ow ((as.map fun q => (addrOf B q.1.1, q.1.2)).map pr2), s13, s14, s15, .ow ins, s17] ∧ meansF B (flF fl) pre = some ins ∧ ins.length ≤ pre.length, ⟨rfl, _, [], rfl, by rw [meansF], Nat.le_refl _⟩, ?_, ?_⟩
        · rintro pre cc post b3 δ3 e ⟨rfl, s17, ins, rfl, hins, hil⟩
          have hcm : cc ∈ cs := by rw [e]; simp
          have hkd := hdp_kid (H := Hn) (p := p) (l := lo) (ds := de) (as := as) hcm
          have hil2 : ins.length < 16000000 := by
            have := congrArg List.length e
            rw [List.length_append, List.length_cons] at this
            have := ho.nc
            omega
          have fin : ∀ (dd : D) (s17' : Sl), meanF B (flF fl) cc = some dd → b3 = b3 ∧ ∃ s17 ins', [Sl.va (Nd.el p lo de as cs).d, .va (suD m), .va (flD fl), s3, .va (nmD p lo), .va (.pt (de.map dclD)), .va (.tup (as.map atrD)), .va (.tup (ndsD cs)), .va (suD (bnd de m)), .va (.str p), .va (.str lo), .ow (as.map (rowQ B)), .ow ((as.map fun q => (addrOf B q.1.1, q.1.2)).map pr2), s13, s14, s15, .ow (ins ++ [dd]), s17'] = [.va (Nd.el p lo de as cs).d, .va (suD m), .va (flD fl), s3, .va (nmD p lo), .va (.pt (de.map dclD)), .va (.tup (as.map atrD)), .va (.tup (ndsD cs)), .va (suD (bnd de m)), .va (.str p), .va (.str lo), .ow (as.map (rowQ B)), .ow ((as.map fun q => (addrOf B q.1.1, q.1.2)).map pr2), s13, s14, s15, .ow ins', s17] ∧ meansF B (flF fl) (pre ++ [cc]) = some ins' ∧ ins'.length ≤ (pre ++ [cc]).length := fun dd s17' hmc => by
            refine ⟨rfl, s17', ins ++ [dd], rfl, by rw [meansF_snoc, hins, hmc]; rfl, ?_⟩
            rw [List.length_append, List.length_append]
            simp only [List.length_cons, List.length_nil]
            omega
          refine ⟨_, rfl, ?_⟩
          refine sv_if (et_val (ev_isi (t := "tuple") b0 b0.tuple (by decide +kernel) (ev_var 17 rfl ⟨_, isi_t _, _, rfl, ?_⟩)))
          rw [isT_nd]
          cases hcs : cc.isT with
          | true =>
            obtain ⟨t, rfl⟩ : ∃ t, cc = .s t := by
              cases cc with
              | s t => exact ⟨t, rfl⟩
              | h t => cases hcs
              | el _ _ _ _ _ => cases hcs
            refine sv_nil (sv_append 16 rfl (ev_var 17 rfl ⟨_, _, rfl, rfl, hil2, sv_nil ?_⟩))
            have := fin (.str t) (.va (.str t)) (by rw [meanF])
            rw [Nd.d]
            exact this
          | false =>
            have hn : n ≠ 0 := fun z => by
              have : 1 ≤ hdp Hn cc := by
                cases cc with
                | s t => cases hcs
                | h t =>
                  rw [hdp_h]
                  obtain ⟨q, hq, eq⟩ := flF_mem (hhl t (hlW_kid hcm (by rw [hlW]; exact List.mem_singleton.mpr rfl)))
                  have h1 := hfl.dep q hq
                  obtain ⟨_, _, _, _, _, e⟩ := el_of (hfl.el q hq)
                  rw [e, Nd.dep] at h1
                  omega
                | el _ _ _ _ _ => unfold hdp; rw [Nd.dep]; split <;> omega
              omega
            refine sv_set 17 (EV.imp (P := fun b4 rr => b4 = b3 ∧ rr = Res.va (mnD (meanF B (flF fl) cc))) (ev_callP (D2 hn) hr (eva_cons (EV.imp (P := fun b4 rr => b4 = b3 ∧ rr = Res.va (rdOf fl cc).d) (ev_if ?_) fun b4 rr hh => ?_))) fun b4 rr hh => ?_) sc.nd
            · cases cc with
              | s t => cases hcs
              | h t =>
                have hz : t ∈ fl.map (·.1) := hhl t (hlW_kid hcm (by rw [hlW]; exact List.mem_singleton.mpr rfl))
                have hzd2 : (Nd.h t).d = .tup [.str "hole", .str t] := by rw [Nd.d]
                refine et_eq (ev_ix (ev_var 17 rfl (ev_int ⟨[.str "hole", .str t], _, _, .inl (by rw [hzd2]), rfl, at0, ev_str ⟨_, _, decide (("hole" : Str) = "hole"), rfl, rfl, rfl, ?_⟩⟩)))
                rw [decide_eq_true rfl]
                refine ev_dget kc hu (ev_var 2 rfl (ev_ix (ev_var 17 rfl (ev_int ⟨[.str "hole", .str t], _, _, .inl (by rw [hzd2]), rfl, at1, .str t, (flF fl t).d, rfl, ?_, rfl, rfl⟩))))
                have := Ask.str (kvs := flK fl) (x := t)
                rw [show valD (flK fl) (Sum.inr t) = some (flF fl t).d from flK_val hz] at this
                exact this
              | el q' l' de' as' cs' =>
                have hccd : (Nd.el q' l' de' as' cs').d = .tup [.str "element", nmD q' l', .pt (de'.map dclD), .tup (as'.map atrD), .tup (ndsD cs')] := by rw [Nd.d]
                refine et_eq (ev_ix (ev_var 17 rfl (ev_int ⟨[.str "element", nmD q' l', .pt (de'.map dclD), .tup (as'.map atrD), .tup (ndsD cs')], _, _, .inl (by rw [hccd]), rfl, at0, ev_str ⟨_, _, decide (("element" : Str) = "hole"), rfl, rfl, rfl, ?_⟩⟩)))
                rw [show decide (("element" : Str) = "hole") = false by decide +kernel]
                exact ev_var 17 rfl ⟨rfl, rfl⟩
            · obtain ⟨rfl, rfl⟩ := hh
              obtain ⟨r1, r2, r3, r4, r5⟩ := rdOf_ok hfl (ho.hc cc hcm) hcs (fun z hz => hhl z (hlW_kid hcm hz)) (B := B)
              refine eva_cons (ev_var 8 rfl (eva_cons (ev_var 2 rfl (eva_nil ⟨[(rdOf fl cc).d, suD (bnd de m), flD fl], _, rfl, rfl, gRd_of r1 ⟨r2, ?_, ?_, ?_, hfl, r4⟩, rfl, ?_⟩))))
              · show hdp Hn (rdOf fl cc) ≤ n
                omega
              · show (bnd de m).length + 50 * hdp Hn (rdOf fl cc) ≤ 100000
                omega
              · intro q
                show okS (getB (bnd de m) q) = true
                rw [bndA_get, hA]
                exact hBo q
              · rw [show getB (bnd de m) = B by rw [bndA_get, hA], r5]
            · obtain ⟨rfl, rfl⟩ := hh
              refine ⟨_, rfl, ?_⟩
              cases hmc : meanF B (flF fl) cc with
              | none =>
                refine sv_if (et_isN (ev_var 17 rfl ⟨.non, rfl, ?_⟩))
                refine sv_ret (ev_non ⟨rfl, rfl, ?_⟩)
                show Res.va .non = .va (mnD (meanF (getB m) (flF fl) (.el p lo de as cs)))
                rw [emean, e, meansF_none B (flF fl) cc hmc pre post]
                rfl
              | some dd =>
                have hdn : dd.isN = false := by
                  obtain ⟨r1, r2, r3, r4, r5⟩ := rdOf_ok hfl (ho.hc cc hcm) hcs (fun z hz => hhl z (hlW_kid hcm hz)) (B := B)
                  rw [← r5] at hmc
                  exact meanF_el_ne r1 hmc
                refine sv_if (et_isN (ev_var 17 rfl ⟨dd, rfl, ?_⟩))
                rw [hdn]
                exact sv_nil (sv_nil (sv_append 16 rfl (ev_var 17 rfl ⟨_, _, rfl, rfl, hil2, sv_nil (fin dd (.va dd) hmc)⟩)))
        · rintro b3 δ3 ⟨rfl, s17, ins, rfl, hins, hil⟩
          rw [hins] at emean
          refine sv_set 11 (ev_sortLam fstOf b0 (hr.mono (by omega)) rfl rfl TB LZ ⟨⟨rfl, rfl, rfl, rfl⟩, rfl, fun _ _ _ _ _ => rfl⟩ (ev_varO 11 rfl ⟨as.map (rowQ B), rfl, ?_, ⟨_, rfl, ?_⟩, ?_⟩)) sc.nd
          · have e : (as.map (rowQ B)).map fstOf = (as.map fun q => (addrOf B q.1.1, q.1.2)).map pr2 := by
              rw [List.map_map, List.map_map]
              rfl
            rw [e]
            exact pr2_srt _
          · refine sv_ret (ev_tup (eva_cons (ev_str (eva_cons (ev_tup (eva_cons (ev_getd kc hu (ev_var 8 rfl ⟨rfl, ev_var 9 rfl (ev_str ⟨_, _, _, rfl, rfl, Ask.str, eva_cons (ev_var 10 rfl (eva_nil ⟨[.str (B p), .str lo], ?_, by simp, ?_⟩))⟩)⟩))))))))
            · show vas [Res.va ((valD (suK (bnd de m)) (kS p)).getD (.str "")), .va (.str lo)] = _
              rw [hgB]
              rfl
            · refine eva_cons (ev_tuple b0 (ev_varO 11 rfl ⟨_, rfl, eva_cons (ev_tuple b0 (ev_varO 16 rfl ⟨_, rfl, eva_nil ⟨_, rfl, by simp, rfl, rfl, ?_⟩⟩))⟩))
              show Res.va _ = .va (mnD (meanF (getB m) (flF fl) (.el p lo de as cs)))
              rw [emean]
              rfl
          · intro d hd A outer s H f' c'
            obtain ⟨q, hq, rfl⟩ := List.mem_map.mp hd
            exact ev_ix (ev_var 0 rfl (ev_int ⟨_, _, _, .inl rfl, rfl, at0, rfl, rfl⟩))
end
end G
set_option Elab.async false
set_option linter.all false
set_option maxRecDepth 100000
set_option maxHeartbeats 4000000
namespace G
open PySem PySem.Spec PyProof.Rows L2 PD
theorem srtD_strs (zs : List Str) : ∃ ys : List Str, srtD (zs.map D.str) = ys.map D.str ∧ ys.Perm zs := by
  have h := srtD_perm (zs.map D.str)
  have : ∀ (l : List D), (∀ d ∈ l, d ∈ zs.map D.str) → ∃ ys : List Str, l = ys.map D.str := by
    intro l
    induction l with
    | nil => intro _; exact ⟨[], rfl⟩
    | cons d l ih =>
      intro h
      obtain ⟨ys, e⟩ := ih fun e he => h e (List.mem_cons_of_mem _ he)
      obtain ⟨y, _, e2⟩ := List.mem_map.mp (h d List.mem_cons_self)
      exact ⟨y :: ys, by rw [e, ← e2]; rfl⟩
  obtain ⟨ys, e⟩ := this _ fun d hd => h.mem_iff.mp hd
  refine ⟨ys, e, ?_⟩
  rw [e] at h
  have key : ∀ l : List Str, (l.map D.str).map strOf = l := fun l => by
    rw [List.map_map]
    exact List.map_id' l
  have h2 := h.map strOf
  rw [key, key] at h2
  exact h2
section
variable {P : Program} {w : World} {K : PySem.W.Frag} {mg : Str → Option Value} {base : Heap} {Z : Vol} {f : Addr} {fd : FuncData}
/-! ### is_part, holes -/
abbrev DIsP (P : Program) (w : World) (K : PySem.W.Frag) (mg : Str → Option Value) (base : Heap) (Z : Vol) := Df P w K mg base "is_part" 9 ["thing"] (spP Z K 1 (gGood fun _ => .va (.bl true)))
abbrev sIsP : Stmt := st_is_part
theorem ok_isp (F : Fun K "is_part" "is_part" sIsP f fd) (T : Cst mg) (D1 : Df P w K mg base "_fault" 8 ["thing"] (spP Z K 1 gFault)) : FnOk P w K mg base CX0 9 f fd ["thing"] (spP Z K 1 (gGood fun _ => .va (.bl true))) := by
  have sc : FnScope ["thing"] ["thing"] (defScope sIsP) := ⟨rfl, rfl, rfl, by decide +kernel, rfl, by decide +kernel, by decide +kernel⟩
  refine fn_pure F sc rfl (gGood_out fun _ => rfl) fun cdv A outer s H E b ds r hr hl hg => ?_
  obtain ⟨d, rfl, ⟨hs, hf⟩, rfl⟩ := gGood_one hg
  refine sv_ret (ev_isN (ev_callP D1 hr (eva_cons (ev_var 0 rfl (eva_nil ⟨_, _, rfl, rfl, gFault_of hs, _, rfl, rfl, rfl, ?_⟩)))))
  rw [hf]
  rfl
noncomputable def gHolG : List D → Option Res := gT (fun x : Nd => [x.d]) Prt fun x => .va (.tup (srtD ((hlL x).map D.str)))
theorem gHolG_of {x : Nd} (h : Prt x) : gHolG [x.d] = some (.va (.tup (srtD ((hlL x).map D.str)))) := gT_of (enc := fun x : Nd => [x.d]) one_inj h
abbrev DHolG (P : Program) (w : World) (K : PySem.W.Frag) (mg : Str → Option Value) (base : Heap) (Z : Vol) := Df P w K mg base "holes" 10 ["part"] (spP Z K 1 gHolG)
theorem hs_ownD : ∀ cs : List Nd, holeStrs (ndsD cs) = (ownHs cs).map D.str
  | [] => by rw [ndsD]; rfl
  | c :: cs => by
    rw [ndsD, holeStrs, begins_hole]
    cases c with
    | s x => rw [show Nd.isH (.s x) = false from rfl, if_neg (by decide), hs_ownD cs]; rfl
    | h x =>
      rw [show Nd.isH (.h x) = true from rfl, if_pos rfl, hs_ownD cs, Nd.d]
      rfl
    | el p l ds as ks => rw [show Nd.isH (.el p l ds as ks) = false from rfl, if_neg (by decide), hs_ownD cs]; rfl
theorem hl_few {x : Nd} (h : Prt x) : (hlL x).length ≤ 1000 := by
  have h1 := h.good.1.2.2
  have e0 := pre_wk x [] [] h.el
  rw [show pthD [] = [] from rfl] at e0
  rw [e0] at h1
  have hel : ∀ r ∈ wk [] [] x, r.2.1.isEl = true := fun r hr => (wk_ok x [] [] h.ok rfl r hr).1.el
  have e : holesIn ((wk [] [] x).map rowPD) = (hlL x).length := by
    unfold holesIn
    rw [List.map_map, ← wk_hl x [] [], List.length_flatMap]
    congr 1
    refine List.map_congr_left fun r hr => ?_
    show (holeStrs (kidsOf r.2.1.d)).length = _
    rw [← hs_row (hel r hr), List.length_map]
  omega
theorem ok_holG (F : Fun K "holes" "holes" sHol f fd) (T : Cst mg) (D0 : DNeed P w K mg base Z) (D1 : DWalk P w K mg base Z) (D2 : Df P w K mg base "holes_among" 2 ["children"] (spP Z K 1 gHoles)) : FnOk P w K mg base CX0 10 f fd ["part"] (spP Z K 1 gHolG) := by
  have sc : FnScope ["part", "_", "element", "hole"] ["part"] (defScope sHol) := ⟨rfl, rfl, rfl, by decide +kernel, rfl, by decide +kernel, by decide +kernel⟩
  refine fn_pure F sc rfl (gT_out fun x hx => rfl) fun cdv A outer s H E b ds r hr hl hg => ?_
  obtain ⟨x, rfl, hx, rfl⟩ := gT_one hg
  have b0 := T.blt (cxOf CX0 P w K mg base ["part", "_", "element", "hole"] "holes" (defScope sHol) f cdv A outer s H E).nox rfl
  have hrow : ∀ r ∈ wk [] [] x, r.2.1.isEl = true := fun r hr => (wk_ok x [] [] hx.ok rfl r hr).1.el
  have hmap : ((wk [] [] x).map fun r => peD (prj r)).flatMap (fun d => holeStrs (kidsOf (sndOf d))) = (hlL x).map D.str := by
    rw [List.flatMap_map, ← wk_hl x [] [], List.map_flatMap]
    have key : ∀ l : List Rw3, (∀ r ∈ l, r.2.1.isEl = true) → l.flatMap (fun r => holeStrs (kidsOf (sndOf (peD (prj r))))) = l.flatMap fun r => (ownHN r.2.1).map D.str := by
      intro l
      induction l with
      | nil => intro _; rfl
      | cons r l ih =>
        intro h
        rw [List.flatMap_cons, List.flatMap_cons, ih fun q hq => h q (List.mem_cons_of_mem _ hq)]
        congr 1
        obtain ⟨p, l, ds, as, cs, e⟩ := el_of (h r List.mem_cons_self)
        show holeStrs (kidsOf r.2.1.d) = _
        rw [e, ← show ndsD cs = kidsOf (Nd.el p l ds as cs).d by rw [Nd.d]; rfl, hs_ownD]
        rfl
    exact key _ hrow
  refine sv_expr (ev_callP D0 hr (eva_cons (ev_var 0 rfl (eva_nil ⟨_, _, rfl, rfl, if_pos hx.good, ?_⟩))))
  refine sv_ret (ev_tupleU b0 (ev_sorted (hu40 hr) b0 (ev_flat (.tp [.nm 1, .nm 2]) (.nm 3) [("_", 1), ("element", 2), ("hole", 3)] rfl sc.nd (blkOk_by (N := ["part", "_", "element", "hole"]) (sc := defScope sHol) (by decide +kernel)) (fun _ _ _ _ _ => pg_tup rfl (pgs_cons (pg_name (i := 1) sc.nd rfl (by first | exact Or.inl rfl | exact Or.inr rfl)) (pgs_cons (pg_name (i := 2) sc.nd rfl (by first | exact Or.inl rfl | exact Or.inr rfl)) pgs_nil))) (fun _ _ _ _ _ => pg_name (i := 3) sc.nd rfl (by first | exact Or.inl rfl | exact Or.inr rfl)) (by simp [Pat.slots, slotsAll]) (by simp [Pat.slots])
    (eic_list (ev_callP D1 (hr.mono (by decide)) (eva_cons (ev_var 0 rfl (eva_nil ⟨_, _, rfl, rfl, hx.walk, _, rfl, fun d => holeStrs (kidsOf (sndOf d)), fun _ d => d, by rw [hmap, List.length_map]; have := hl_few hx; omega, fun d hd => ?_, ?_⟩))))))))
  · obtain ⟨r, hr0, rfl⟩ := List.mem_map.mp hd
    obtain ⟨rok, _⟩ := wk_ok x [] [] hx.ok rfl r hr0
    obtain ⟨p, l, de, as, cs, hel⟩ := el_of rok.el
    obtain ⟨h1, h2⟩ := prt_kids hx hr0 hel
    refine ⟨_, rfl, fun s H Cc cl fp => ?_, fun y hy => ⟨_, rfl, fun s H Cc cl fp => ev_var 3 rfl ⟨rfl, rfl⟩⟩⟩
    refine ei_list (ev_callP D2 (hr.mono (by decide)) (eva_cons (ev_ix (ev_var 2 rfl (ev_int ⟨[.str "element", nmD p l, .pt (de.map dclD), .tup (as.map atrD), .tup (ndsD cs)], _, _, .inl ?_, rfl, atN (j := 4) rfl, eva_nil ⟨_, _, rfl, rfl, gHoles_of h1 h2, _, .inl rfl, rfl, ?_⟩⟩)))))
    · show Res.va r.2.1.d = _
      rw [hel, Nd.d]
    · show holeStrs (ndsD cs) = holeStrs (kidsOf r.2.1.d)
      rw [hel, ← show ndsD cs = kidsOf (Nd.el p l de as cs).d by rw [Nd.d]; rfl]
  · have e : (((wk [] [] x).map fun r => peD (prj r)).flatMap fun d => (holeStrs (kidsOf (sndOf d))).map fun d => d) = (hlL x).map D.str := by
      rw [← hmap]
      congr 1
      funext d
      rw [List.map_id']
    refine ⟨_, rfl, ?_⟩
    rw [e]
    exact ⟨TX.srt_texts _, _, .inl rfl, rfl, rfl, rfl⟩
/-! ### need_filling -/
def flE (q : Str × Nd) : D := .tup [.str q.1, q.2.d]
theorem flE_inj (x y : Str × Nd) (h : flE x = flE y) : x = y := by
  unfold flE at h
  injection h with h
  injection h with h1 h
  injection h with h2 _
  injection h1 with h1
  exact Prod.ext h1 (nd_inj _ _ h2)
theorem pairs_fl (fl : Fl) : pairsD (flK fl) = fl.map flE := by
  unfold pairsD flK
  rw [List.map_map]
  rfl
structure FlG (fl : Fl) : Prop where
  w : ∀ q ∈ fl, gW q.1 = true
  p : ∀ q ∈ fl, GP q.2
  no : ∀ q ∈ fl, hlW q.2 = []
noncomputable def gFil : List D → Option Res := gT (fun fl : Fl => [flD fl]) FlG fun fl => .va (flD fl)
theorem fl1_inj (x y : Fl) (h : [flD x] = [flD y]) : x = y := fl_inj x y (by injection h)
theorem gFil_of {fl : Fl} (h : FlG fl) : gFil [flD fl] = some (.va (flD fl)) := gT_of (enc := fun fl : Fl => [flD fl]) fl1_inj h
abbrev DFil (P : Program) (w : World) (K : PySem.W.Frag) (mg : Str → Option Value) (base : Heap) (Z : Vol) := Df P w K mg base "need_filling" 11 ["thing"] (spP Z K 1 gFil)
abbrev sFil : Stmt := st_need_filling
theorem gW_word {x : Str} (h : gW x = true) : isWord (.str x) = true := by
  have := (Bool.and_eq_true_iff.mp h).1
  unfold isHole at this
  exact (Bool.and_eq_true_iff.mp this).2
theorem ok_fil (F : Fun K "need_filling" "need_filling" sFil f fd) (T : Cst mg) (D1 : DB P w K mg base Z "is_word" 2 isWord) (D2 : DIsP P w K mg base Z) (D3 : DHolG P w K mg base Z) : FnOk P w K mg base CX0 11 f fd ["thing"] (spP Z K 1 gFil) := by
  have sc : FnScope ["thing", "hole", "part"] ["thing"] (defScope sFil) := ⟨rfl, rfl, rfl, by decide +kernel, rfl, by decide +kernel, by decide +kernel⟩
  refine fn_pure F sc rfl (gT_out fun x hx => rfl) fun cdv A outer s H E b ds r hr hl hg => ?_
  obtain ⟨fl, rfl, hF, rfl⟩ := gT_one hg
  have b0 := T.blt (cxOf CX0 P w K mg base ["thing", "hole", "part"] "need_filling" (defScope sFil) f cdv A outer s H E).nox rfl
  refine sv_if (et_not (et_val (ev_isi (t := "dict") b0 b0.dict (by decide +kernel) (ev_var 0 rfl ⟨_, isi_d (flD fl), _, rfl, ?_⟩))))
  refine sv_nil ?_
  refine sv_forT flE flE_inj (.tp [.nm 1, .nm 2]) rfl PassesOwn.never (pg_tup rfl (pgs_cons (pg_name (i := 1) sc.nd rfl (by first | exact Or.inl rfl | exact Or.inr rfl)) (pgs_cons (pg_name (i := 2) sc.nd rfl (by first | exact Or.inl rfl | exact Or.inr rfl)) pgs_nil)))
    (ei_items (ev_var 0 rfl ⟨flK fl, rfl, fl, pairs_fl fl, fun _ b2 δ2 => b2 = b ∧ ∃ s1 s2, δ2 = [.va (flD fl), s1, s2], ⟨rfl, _, _, rfl⟩, ?_, ?_⟩))
  · rintro pre q post b2 δ2 e ⟨rfl, s1, s2, rfl⟩
    have hq : q ∈ fl := by rw [e]; simp
    have hw := gW_word (hF.w q hq)
    have hp := gp_prt (hF.p q hq)
    refine ⟨_, rfl, ?_⟩
    refine sv_if (et_pw (ew_or (et_not (et_val (ev_callP D1 (hr.mono (by decide)) (eva_cons (ev_var 1 rfl (eva_nil ⟨[.str q.1], _, rfl, rfl, gB_of (ok_sm (.s q.1) (by rw [Nd.ok]; exact gW_ok (hF.w q hq))), _, rfl, ?_⟩))))))))
    rw [show isWord (.str q.1) = true from hw]
    refine ew_or (et_not (et_val (ev_callP D2 (hr.mono (by decide)) (eva_cons (ev_var 2 rfl (eva_nil ⟨[q.2.d], _, rfl, rfl, if_pos hp.good, _, rfl, ?_⟩))))))
    refine ew_or1 (et_tup (ev_callP D3 hr (eva_cons (ev_var 2 rfl (eva_nil ⟨[q.2.d], _, rfl, rfl, gHolG_of hp, _, rfl, ?_⟩)))))
    have e0 : hlL q.2 = [] := List.Perm.eq_nil ((hF.no q hq) ▸ hl_perm q.2 hp.el)
    rw [e0, List.map_nil, srtD_nil]
    exact sv_nil (sv_nil ⟨rfl, _, _, rfl⟩)
  · rintro b2 δ2 ⟨rfl, s1, s2, rfl⟩
    exact sv_ret (ev_var 0 rfl ⟨rfl, rfl, rfl⟩)
/-! ### meaning -/
abbrev sMng : Stmt := st_meaning
abbrev nmMng : List Str := ["part", "surrounding", "filling", "filled", "hole"]
/-! ### put -/
end
end G
set_option Elab.async false
set_option linter.all false
set_option maxRecDepth 100000
set_option maxHeartbeats 4000000
/-! meaning, of any levels; where no filling is told. -/
namespace G
open PySem PySem.Spec PyProof.Rows L2 PD
section
variable {P : Program} {w : World} {K : PySem.W.Frag} {mg : Str → Option Value} {base : Heap} {Z : Vol} {f : Addr} {fd : FuncData}
structure MgOk (H N : Nat) (q : (Nd × Bd) × Fl) : Prop where
  p : Prt q.1.1
  su : SuOk q.1.2
  ok : ∀ p, okS (getB q.1.2 p) = true
  fl : FlG q.2
  dep : ∀ r ∈ q.2, r.2.dep ≤ H
  hdp : G.hdp H q.1.1 ≤ N
  hl : ∀ z ∈ hlW q.1.1, z ∈ q.2.map (·.1)
noncomputable def gMx (H N : Nat) : List D → Option Res := gT rdE3 (MgOk H N) fun q => .va (mnD (meanF (getB q.1.2) (flF q.2) q.1.1))
theorem gMx_of {H N : Nat} {x : Nd} {m : Bd} {fl : Fl} (h : MgOk H N ((x, m), fl)) : gMx H N [x.d, suD m, flD fl] = some (.va (mnD (meanF (getB m) (flF fl) x))) := gT_of (enc := rdE3) (x := ((x, m), fl)) rdE3_inj h
theorem ok_mgx {H N : Nat} (hN : N ≤ 1900) {dv : V} (F : FunX K "meaning" sMng dv f fd) (T : Cst mg) (kc : KC K) (D0 : DNeed P w K mg base Z) (D1 : DSur P w K mg base Z) (D2 : DFil P w K mg base Z) (D3 : DHolG P w K mg base Z) (D4 : DRd P w K mg base Z H N) : FnOk P w K mg base CX0 (max 12 (6 + 2 * N) + 1) f fd ["part", "surrounding", "filling"] (spP Z K 3 (gMx H N)) := by
  have sc : FnScope nmMng ["part", "surrounding", "filling"] (defScope sMng) := ⟨rfl, rfl, rfl, by decide +kernel, rfl, by decide +kernel, by decide +kernel⟩
  refine fn_pureD F sc rfl (gT_out fun x hx => rfl) fun cdv A outer s H0 E b ds r hr hl hg => ?_
  obtain ⟨⟨⟨x, m⟩, fl⟩, rfl, hx, rfl⟩ := gT_one hg
  have hp : Prt x := hx.p
  have hsu : SuOk m := hx.su
  have hfl : FlG fl := hx.fl
  have hhl : ∀ z ∈ hlW x, z ∈ fl.map (·.1) := hx.hl
  have hu := hu_of hr
  refine sv_expr (ev_callP D0 (hr.mono (by omega)) (eva_cons (ev_var 0 rfl (eva_nil ⟨[x.d], _, rfl, rfl, if_pos hp.good, ?_⟩))))
  refine sv_expr (ev_callP D1 (hr.mono (by omega)) (eva_cons (ev_var 1 rfl (eva_nil ⟨[suD m], _, rfl, rfl, gSur_of hsu, ?_⟩))))
  refine sv_set 3 (EV.imp (P := fun b1 r1 => b1 = b ∧ r1 = Res.va (flD fl)) (ev_if (et_isN (ev_var 2 rfl ⟨flD fl, rfl, ev_callP D2 (hr.mono (by omega)) (eva_cons (ev_var 2 rfl (eva_nil ⟨[flD fl], _, rfl, rfl, gFil_of hfl, rfl, rfl⟩)))⟩))) fun b1 r1 hh => ?_) sc.nd
  obtain ⟨rfl, rfl⟩ := hh
  refine ⟨_, rfl, ?_⟩
  show SV _ _ [.va x.d, .va (suD m), .va (flD fl), .va (flD fl), .un] _ _
  obtain ⟨ys, ey, pm⟩ := srtD_strs (hlL x)
  refine sv_forT D.str str_inj (.nm 4) rfl PassesOwn.never (pg_name (i := 4) sc.nd rfl (Or.inl rfl)) (ei_tup (ev_callP D3 (hr.mono (by omega)) (eva_cons (ev_var 0 rfl (eva_nil ⟨[x.d], _, rfl, rfl, gHolG_of hp, srtD ((hlL x).map D.str), rfl, ys, ey, fun _ b2 δ2 => b2 = b1 ∧ ∃ s4, δ2 = [.va x.d, .va (suD m), .va (flD fl), .va (flD fl), s4], ⟨rfl, _, rfl⟩, ?_, ?_⟩)))))
  · rintro pre z post b2 δ2 e ⟨rfl, s4, rfl⟩
    have hz : z ∈ fl.map (·.1) := hhl z ((hl_perm x hp.el).mem_iff.mp (pm.mem_iff.mp (by rw [e]; simp)))
    refine ⟨_, rfl, ?_⟩
    have ask := Ask.str (kvs := flK fl) (x := z)
    rw [show valD (flK fl) (Sum.inr z) = some (flF fl z).d from flK_val hz] at ask
    refine sv_if (et_dnin kc hu (ev_var 4 rfl (ev_var 3 rfl ⟨_, _, rfl, ask, ?_⟩)))
    exact sv_nil (sv_nil ⟨rfl, _, rfl⟩)
  · rintro b2 δ2 ⟨rfl, s4, rfl⟩
    have hdp : G.hdp H x ≤ N := hx.hdp
    refine sv_ret (ev_callP D4 (hr.mono (by omega)) (eva_cons (ev_var 0 rfl (eva_cons (ev_var 1 rfl (eva_cons (ev_var 3 rfl (eva_nil ⟨[x.d, suD m, flD fl], _, rfl, rfl, gRd_of hp.el ⟨hp.ok, hdp, ?_, hx.ok, ⟨fun q hq => (hfl.p q hq).el, fun q hq => gb_ok q.2 (hfl.p q hq).g, fun q hq => (hlW_no q.2).mp (hfl.no q hq), hx.dep⟩, hhl⟩, rfl, rfl, rfl⟩))))))))
    have h1 : m.length ≤ 100 := hsu.len
    show m.length + 50 * G.hdp H x ≤ 100000
    omega
/-! ### where no filling is told -/
structure M0Ok (N : Nat) (q : Nd × Bd) : Prop where
  p : Prt q.1
  su : SuOk q.2
  ok : ∀ p, okS (getB q.2 p) = true
  dep : q.1.dep ≤ N
  hl : hlW q.1 = []
abbrev m0E (q : Nd × Bd) : List D := [q.1.d, suD q.2, .non]
theorem m0_inj (x y : Nd × Bd) (h : m0E x = m0E y) : x = y := by
  unfold m0E at h
  injection h with h1 h
  injection h with h2 _
  exact Prod.ext (nd_inj _ _ h1) (su_inj _ _ h2)
noncomputable def gM0 (N : Nat) : List D → Option Res := gT m0E (M0Ok N) fun q => .va (mnD (meanF (getB q.2) (flF []) q.1))
theorem gM0_of {N : Nat} {x : Nd} {m : Bd} (h : M0Ok N (x, m)) : gM0 N [x.d, suD m, .non] = some (.va (mnD (meanF (getB m) (flF []) x))) := gT_of (enc := m0E) (x := (x, m)) m0_inj h
theorem ok_mg0 {H N : Nat} (hN : N ≤ 1900) {dv : V} (F : FunX K "meaning" sMng dv f fd) (T : Cst mg) (kc : KC K) (D0 : DNeed P w K mg base Z) (D1 : DSur P w K mg base Z) (D3 : DHolG P w K mg base Z) (D4 : DRd P w K mg base Z H N) : FnOk P w K mg base CX0 (max 12 (6 + 2 * N) + 1) f fd ["part", "surrounding", "filling"] (spP Z K 3 (gM0 N)) := by
  have sc : FnScope nmMng ["part", "surrounding", "filling"] (defScope sMng) := ⟨rfl, rfl, rfl, by decide +kernel, rfl, by decide +kernel, by decide +kernel⟩
  refine fn_pureD F sc rfl (gT_out fun x hx => rfl) fun cdv A outer s H0 E b ds r hr hl hg => ?_
  obtain ⟨⟨x, m⟩, rfl, hx, rfl⟩ := gT_one hg
  have hp : Prt x := hx.p
  have hsu : SuOk m := hx.su
  have hhl : hlW x = [] := hx.hl
  have hu := hu_of hr
  have b0 := T.blt (cxOf CX0 P w K mg base nmMng "meaning" (defScope sMng) f cdv A outer s H0 E).nox rfl
  refine sv_expr (ev_callP D0 (hr.mono (by omega)) (eva_cons (ev_var 0 rfl (eva_nil ⟨[x.d], _, rfl, rfl, if_pos hp.good, ?_⟩))))
  refine sv_expr (ev_callP D1 (hr.mono (by omega)) (eva_cons (ev_var 1 rfl (eva_nil ⟨[suD m], _, rfl, rfl, gSur_of hsu, ?_⟩))))
  refine sv_set 3 (EV.imp (P := fun b1 r1 => b1 = b ∧ r1 = Res.va (flD [])) (ev_if (et_isN (ev_var 2 rfl ⟨.non, rfl, ?_⟩))) fun b1 r1 hh => ?_) sc.nd
  · exact ev_frzD (ev_dnewK ⟨_, rfl, rfl, rfl⟩)
  obtain ⟨rfl, rfl⟩ := hh
  refine ⟨_, rfl, ?_⟩
  show SV _ _ [.va x.d, .va (suD m), .va .non, .va (flD []), .un] _ _
  have e0 : hlL x = [] := List.Perm.eq_nil (hhl ▸ hl_perm x hp.el)
  refine sv_forT D.str str_inj (.nm 4) rfl PassesOwn.never (pg_name (i := 4) sc.nd rfl (Or.inl rfl)) (ei_tup (ev_callP D3 (hr.mono (by omega)) (eva_cons (ev_var 0 rfl (eva_nil ⟨[x.d], _, rfl, rfl, gHolG_of hp, srtD ((hlL x).map D.str), rfl, [], by rw [e0, List.map_nil, srtD_nil], fun _ b2 δ2 => b2 = b1 ∧ ∃ s4, δ2 = [.va x.d, .va (suD m), .va .non, .va (flD []), s4], ⟨rfl, _, rfl⟩, ?_, ?_⟩)))))
  · rintro pre z post b2 δ2 e ⟨rfl, s4, rfl⟩
    cases pre <;> cases e
  · rintro b2 δ2 ⟨rfl, s4, rfl⟩
    have hno : noH x = true := (hlW_no x).mp hhl
    have hdp : G.hdp H x ≤ N := by rw [hdp_no hno]; exact hx.dep
    refine sv_ret (ev_callP D4 (hr.mono (by omega)) (eva_cons (ev_var 0 rfl (eva_cons (ev_var 1 rfl (eva_cons (ev_var 3 rfl (eva_nil ⟨[x.d, suD m, flD []], _, rfl, rfl, gRd_of hp.el ⟨hp.ok, hdp, ?_, hx.ok, ⟨(fun q hq => nomatch hq), (fun q hq => nomatch hq), (fun q hq => nomatch hq), (fun q hq => nomatch hq)⟩, fun z hz => ?_⟩, rfl, rfl, rfl⟩))))))))
    · have h1 : m.length ≤ 100 := hsu.len
      show m.length + 50 * G.hdp H x ≤ 100000
      omega
    · have hz : z ∈ hlW x := hz
      rw [hhl] at hz
      cases hz
end
end G
set_option Elab.async false
set_option linter.all false
set_option maxRecDepth 100000
set_option maxHeartbeats 4000000
namespace G
open PySem PySem.Spec PyProof.Rows L2 PD
/-! ### what the law makes, with holes of any names -/
def mst (M : Nat) : Nat → Nat
  | 0 => 0
  | n + 1 => 1 + M * mst M n
/-- as the law makes them: of at most n levels, M children each -/
structure WB (n M : Nat) (x : Nd) : Prop where
  el : x.isEl = true
  g : GB x = true
  dep : x.dep ≤ n
  cnt : cnt x ≤ mst M n
theorem g_wd {ds : List (Str × Str)} (h : WD ds) : (ds.map (·.1)).Nodup ∧ ∀ q ∈ ds, gP q.1 = true ∧ gA q.2 = true := ⟨h.nd, fun q hq => ⟨g_pfxs (h.all q hq).1, g_adrs (h.all q hq).2⟩⟩
theorem g_wa {as : List ((Str × Str) × Vl)} (h : WA as) : (as.map (·.1)).Nodup ∧ ∀ q ∈ as, gP q.1.1 = true ∧ gL q.1.2 = true ∧ gV q.2 = true := ⟨h.nd, fun q hq => ⟨g_pfxs (h.all q hq).1, g_lcls (h.all q hq).2.1, g_okV (h.all q hq).2.2⟩⟩
theorem gbs_snoc {cs : List Nd} {x : Nd} (h : ∀ c ∈ cs, GB c = true) (hx : GB x = true) : ∀ c ∈ cs ++ [x], GB c = true := fun c hc => by
  rcases List.mem_append.mp hc with hc | hc
  · exact h c hc
  · rw [List.mem_singleton.mp hc]; exact hx
theorem hlWs_snoc : ∀ (cs : List Nd) (x : Nd), hlWs (cs ++ [x]) = hlWs cs ++ hlW x
  | [], x => by rw [List.nil_append, hlWs, hlWs, hlWs]; simp
  | c :: cs, x => by rw [List.cons_append, hlWs, hlWs, hlWs_snoc cs x, List.append_assoc]
theorem cnts_snoc : ∀ (cs : List Nd) (x : Nd), cnts (cs ++ [x]) = cnts cs + cnt x
  | [], x => by rw [List.nil_append, cnts, cnts, cnts]; omega
  | c :: cs, x => by rw [List.cons_append, cnts, cnts, cnts_snoc cs x]; omega
theorem ndsDep_snoc : ∀ (cs : List Nd) (x : Nd), ndsDep (cs ++ [x]) = max (ndsDep cs) x.dep
  | [], x => by rw [List.nil_append, ndsDep, ndsDep, ndsDep]; omega
  | c :: cs, x => by rw [List.cons_append, ndsDep, ndsDep, ndsDep_snoc cs x, Nat.max_assoc]
/-- what has been taken of the spare strings: from k down to j -/
def tkn (sp : List Str) (k j : Nat) : List Str := (sp.take k).drop j
theorem tkn_step {sp : List Str} {k i j : Nat} (h1 : i ≤ k) (h2 : j ≤ i) (h : k ≤ sp.length) : (tkn sp k i ++ tkn sp i j).Perm (tkn sp k j) := by
  have e : tkn sp k j = tkn sp i j ++ tkn sp k i := by
    unfold tkn
    have h3 : sp.take k = sp.take i ++ (sp.take k).drop i := by
      conv => lhs; rw [← List.take_append_drop i (sp.take k)]
      rw [List.take_take, Nat.min_eq_left h1]
    conv => lhs; rw [h3]
    rw [List.drop_append_of_le_length (by rw [List.length_take]; omega)]
  rw [e]
  exact List.perm_append_comm
theorem tkn_one {sp : List Str} {k : Nat} {y : Str} (h : 1 ≤ k) (e : sp[k - 1]? = some y) : tkn sp k (k - 1) = [y] := by
  have hl := (List.getElem?_eq_some_iff.mp e).1
  unfold tkn
  rw [List.drop_take, show k - (k - 1) = 1 by omega, List.drop_eq_getElem_cons hl, List.take_succ_cons, List.take_zero, (List.getElem?_eq_some_iff.mp e).2]
theorem tkn_none (sp : List Str) (k : Nat) : tkn sp k k = [] := by
  unfold tkn
  rw [List.drop_eq_nil_iff, List.length_take]
  exact Nat.min_le_left _ _
section
variable {P : Program} {w : World} {K : PySem.W.Frag} {mg : Str → Option Value} {base : Heap} {Z : Vol} {f : Addr} {fd : FuncData}
abbrev preG (L : LC) (n M : Nat) (p : Addr) (b : Nat) (as : List Ar) : Prop := b % (10000000000000 : Nat) + 100000 * n ≤ 999999900000 ∧ b / (10000000000000 : Nat) ≤ L.sp.length ∧ as = [.va L.sD, .va (.int (n : Int)), .va (.int (M : Int)), .va (spD' p)]
abbrev postG (L : LC) (n M c : Nat) (p : Addr) (b : Nat) (as : List Ar) (b' : Nat) (r : Res) : Prop := ∃ x, WB n M x ∧ r = .va x.d ∧ b' % (10000000000000 : Nat) ≤ b % (10000000000000 : Nat) + c ∧ b' / (10000000000000 : Nat) ≤ b / (10000000000000 : Nat) ∧ (hlW x).Perm (tkn L.sp (b / (10000000000000 : Nat)) (b' / (10000000000000 : Nat)))
abbrev DG (P : Program) (w : World) (K : PySem.W.Frag) (mg : Str → Option Value) (base : Heap) (L : LC) (p : Addr) (n M c : Nat) := Df P w K mg base "_law_element" (5 + n) ["state", "deep", "most", "spare"] (spD (lawVol L (some p)) K 4 (preG L n M p) (postG L n M c p))
/-- the children so far -/
structure Kids (L : LC) (n M b b2 N : Nat) (cs : List Nd) : Prop where
  len : cs.length ≤ N
  adj : noAdj cs = true
  g : ∀ c ∈ cs, GB c = true
  dep : ndsDep cs ≤ n
  cnt : cnts cs ≤ N * mst M n
  le : b2 / (10000000000000 : Nat) ≤ b / (10000000000000 : Nat)
  hl : (hlWs cs).Perm (tkn L.sp (b / (10000000000000 : Nat)) (b2 / (10000000000000 : Nat)))
theorem Kids.snoc {L : LC} {n M b b2 b3 N : Nat} {cs : List Nd} {x : Nd} (h : Kids L n M b b2 N cs) (hsp : b / (10000000000000 : Nat) ≤ L.sp.length) (adj : noAdj (cs ++ [x]) = true) (g : GB x = true) (dep : x.dep ≤ n) (cn : G.cnt x ≤ mst M n) (le : b3 / (10000000000000 : Nat) ≤ b2 / (10000000000000 : Nat)) (hl : (hlW x).Perm (tkn L.sp (b2 / (10000000000000 : Nat)) (b3 / (10000000000000 : Nat)))) : Kids L n M b b3 (N + 1) (cs ++ [x]) := by
  refine ⟨by rw [List.length_append, List.length_singleton]; have := h.len; omega, adj, gbs_snoc h.g g, by rw [ndsDep_snoc]; exact Nat.max_le.mpr ⟨h.dep, dep⟩, by rw [cnts_snoc, Nat.add_mul, Nat.one_mul]; have := h.cnt; omega, Nat.le_trans le h.le, ?_⟩
  rw [hlWs_snoc]
  exact (h.hl.append hl).trans (tkn_step h.le le hsp)
theorem ok_elG {L : LC} {p : Addr} {n M c : Nat} (hn : n ≤ 5) (hM : M ≤ 3) (hc : c ≤ 20000) (hgw : ∀ z ∈ L.sp, gW z = true) (F : Fun K "_law_element" "_law_element" sEl f fd) (T : Cst mg) (ok : L.Ok (some p)) (D1 : DDraw P w K mg base L (some p)) (D2 : DDc P w K mg base L (some p)) (D3 : DAs P w K mg base L (some p)) (D4 : DNam P w K mg base L (some p))
    (D5 : n ≠ 0 → DG P w K mg base L p n M c) : FnOk P w K mg base CX0 (5 + (n + 1)) f fd ["state", "deep", "most", "spare"] (spD (lawVol L (some p)) K 4 (preG L (n + 1) M p) (postG L (n + 1) M (3 * c + 30) p)) := by
  have sc : FnScope ["state", "deep", "most", "spare", "inside", "k", "way", "declarations", "attributes"] ["state", "deep", "most", "spare"] (defScope sEl) := ⟨rfl, rfl, rfl, by decide +kernel, rfl, by decide +kernel, by decide +kernel⟩
  rw [show 5 + (n + 1) = (5 + n) + 1 by omega]
  refine fn_body F sc rfl fun cdv A outer s H E b as hr hl hp => ?_
  obtain ⟨hb, hsp, rfl⟩ := hp
  have b0 := T.blt (cxOf CX0 P w K mg base ["state", "deep", "most", "spare", "inside", "k", "way", "declarations", "attributes"] "_law_element" (defScope sEl) f cdv A outer s H E).nox rfl
  refine sv_set 4 (ev_lst (eva_nil ⟨[], rfl, by decide, _, rfl, ?_⟩)) sc.nd
  refine sv_for (.nm 5) rfl PassesOwn.never (pg_name (i := 5) sc.nd rfl (Or.inl rfl)) (ei_range b0 (EV.imp (P := fun b1 r => ∃ N : Nat, r = .va (.int (N : Int)) ∧ (n = 0 → N = 0) ∧ N ≤ M ∧ b ≤ b1 ∧ b1 ≤ b + 1 ∧ b1 / (10000000000000 : Nat) = b / (10000000000000 : Nat)) ?_ fun b1 r hh => ?_))
  · refine ev_if (et_ord op_gt (nomark _) (ev_var 1 rfl (ev_int ⟨_, _, rfl, rfl, ?_⟩)))
    by_cases h0 : n = 0
    · subst h0
      exact ev_int ⟨0, rfl, fun _ => rfl, by omega, by omega, by omega, rfl⟩
    · rw [decide_eq_true (by omega)]
      exact ev_draw D1 (hr.mono (by omega)) (ev_var 0 rfl (ev_add (ev_var 2 rfl (ev_int ⟨_, _, rfl, rfl, M + 1, rfl, rfl, by omega, by omega, by omega, fun x hx => ⟨x, rfl, fun z => absurd z h0, by omega, by omega, by omega, by omega⟩⟩))))
  · obtain ⟨N, rfl, hN, hN2, hb1, hb2, hbm⟩ := hh
    refine ⟨N, rfl, by omega, ?_⟩
    refine ⟨fun pre b2 δ2 => (b2 % (10000000000000 : Nat) ≤ b % (10000000000000 : Nat) + 1 + (c + 3) * pre.length) ∧ ∃ cs sk sw, δ2 = [.va L.sD, .va (.int ((n + 1 : Nat) : Int)), .va (.int (M : Int)), .va (spD' p), .ow (ndsD cs), sk, sw, .un, .un] ∧ Kids L n M b b2 pre.length cs, ⟨by simp; omega, [], _, _, by rw [ndsD]; rfl, Nat.le_refl _, rfl, fun c hc => (nomatch hc), by simp [ndsDep], by simp [cnts], by omega, by rw [hbm, tkn_none, hlWs]⟩, ?_, ?_⟩
    · rintro pre d post b2 δ2 e ⟨hb3, cs, sk, sw, rfl, hk⟩
      have hpl : pre.length + 1 ≤ N := by
        have := congrArg List.length e
        rw [List.length_map, List.length_range, List.length_append, List.length_cons] at this
        omega
      have hn0 : n ≠ 0 := fun z => by have := hN z; omega
      have hpd : (pre ++ [d]).length = pre.length + 1 := by rw [List.length_append, List.length_singleton]
      have hmul : (c + 3) * (pre.length + 1) = (c + 3) * pre.length + (c + 3) := Nat.mul_succ _ _
      have hml : (c + 3) * pre.length ≤ (c + 3) * 2 := Nat.mul_le_mul_left _ (by omega)
      have cms_ : ∀ d ∈ ndsD cs, Cm 40 d.er := fun d hd => by
        refine (cm_nds cs (gbs_ok cs hk.g) d hd).mono ?_
        have := hk.dep
        omega
      have hcl := hk.len
      -- a child more
      have nxt : ∀ (b3 : Nat) (x : Nd) (sk' sw' : Sl), b3 % (10000000000000 : Nat) ≤ b2 % (10000000000000 : Nat) + (c + 3) → noAdj (cs ++ [x]) = true → GB x = true → x.dep ≤ n → cnt x ≤ mst M n → b3 / (10000000000000 : Nat) ≤ b2 / (10000000000000 : Nat) → (hlW x).Perm (tkn L.sp (b2 / (10000000000000 : Nat)) (b3 / (10000000000000 : Nat))) →
          (b3 % (10000000000000 : Nat) ≤ b % (10000000000000 : Nat) + 1 + (c + 3) * (pre ++ [d]).length) ∧ ∃ cs' sk sw, [Sl.va L.sD, .va (.int ((n + 1 : Nat) : Int)), .va (.int (M : Int)), .va (spD' p), .ow (ndsD cs ++ [x.d]), sk', sw', .un, .un] = [.va L.sD, .va (.int ((n + 1 : Nat) : Int)), .va (.int (M : Int)), .va (spD' p), .ow (ndsD cs'), sk, sw, .un, .un] ∧ Kids L n M b b3 (pre ++ [d]).length cs' := fun b3 x sk' sw' h1 h2 h3 h4 h5 h6 h7 => by
        rw [hpd]
        exact ⟨by omega, cs ++ [x], sk', sw', by rw [ndsD_map, ndsD_map, List.map_append]; rfl, hk.snoc hsp h2 h3 h4 h5 h6 h7⟩
      have one : 1 ≤ mst M n := by
        cases n with
        | zero => exact absurd rfl hn0
        | succ n => rw [mst]; omega
      refine ⟨_, rfl, ?_⟩
      refine sv_set 6 (ev_draw D1 (hr.mono (by omega)) (ev_var 0 rfl (ev_int ⟨6, rfl, rfl, by decide, by decide, by omega, fun way hway => ⟨_, rfl, ?_⟩⟩))) sc.nd
      have hdl : (ndsD cs).length < 16000000 := by rw [ndsD_map, List.length_map]; omega
      refine sv_if (et_imp (Pt := fun b' k => b' = b2 + 1 ∧ (k = true → ¬ ∃ a, cs.getLast? = some a ∧ a.isT = true)) ?_ fun b' k hk => ?_)
      · refine et_pw (ew_and (et_eq (ev_var 6 rfl (ev_int ⟨_, _, decide ((way : Int) = 0), rfl, rfl, rfl, ?_⟩))))
        cases decide ((way : Int) = 0) with
        | false => exact ⟨rfl, fun z => nomatch z⟩
        | true =>
          refine ew_and1 (et_pw (ew_or (et_eqD hr.units (ev_varO 4 rfl (ev_lst (eva_nil ⟨[], rfl, by decide, .lst (ndsD cs), .lst [], rfl, rfl, lst_shE cms_, lst_sh (fun d hd => nomatch hd), ?_⟩))))))
          rw [eqv_nil]
          rcases List.eq_nil_or_concat cs with rfl | ⟨cs0, a, rfl⟩
          · exact ⟨rfl, fun _ ⟨a, h, _⟩ => nomatch h⟩
          · have e1 : ndsD (cs0 ++ [a]) = ndsD cs0 ++ [a.d] := by rw [ndsD_map, ndsD_map, List.map_append]; rfl
            rw [List.concat_eq_append] at *
            rw [e1]
            have e2 : (ndsD cs0 ++ [a.d]).isEmpty = false := by cases ndsD cs0 <;> rfl
            rw [e2]
            refine ew_or1 (et_not (et_val (ev_isi (t := "str") b0 b0.str (by decide +kernel) (ev_ix (ev_varO 4 rfl (ev_neg (ev_int ⟨1, rfl, ndsD cs0 ++ [a.d], _, _, .inr ?_, rfl, atI_last _ _, _, isi_s _, _, rfl, rfl, fun z => ?_⟩)))))))
            · rfl
            · rintro ⟨a', h1, h2⟩
              rw [List.getLast?_append] at h1
              simp at h1
              subst h1
              rw [isS_d, h2] at z
              cases z
      · obtain ⟨rfl, hkt⟩ := hk
        cases k with
        | true =>
          refine sv_append 4 rfl (ev_ix (ev_lst (eva_cons (ev_str (eva_cons (ev_str (eva_cons (ev_str (eva_nil ⟨txts.map D.str, rfl, by decide, ?_⟩)))))))))
          refine ev_draw D1 (hr.mono (by omega)) (ev_var 0 rfl (ev_int ⟨3, rfl, rfl, by decide, by decide, by omega, fun x hx => ⟨txts.map D.str, _, _, .inr rfl, rfl, at_texts (xs := txts) hx, _, _, rfl, rfl, hdl, sv_nil (sv_nil ?_)⟩⟩))
          have := nxt (b2 + 1 + 1) (.s txts[x]) (.va d) (.va (.int (way : Int))) (by omega) (noAdj_snoc _ _ hk.adj fun z => absurd z (hkt rfl)) (by rw [GB]; exact g_txts (List.getElem_mem hx)) (by simp [Nd.dep]) (by simp [cnt]) (by omega) (by rw [show (b2 + 1 + 1) / (10000000000000 : Nat) = b2 / (10000000000000 : Nat) by omega, tkn_none, hlW])
          rw [Nd.d] at this
          exact this
        | false =>
          refine sv_if (et_imp (Pt := fun b' k => b' = b2 + 1 ∧ (k = true → 1 ≤ b' / (10000000000000 : Nat))) ?_ fun b' k hk2 => ?_)
          · refine et_pw (ew_and (et_eq (ev_var 6 rfl (ev_int ⟨_, _, decide ((way : Int) = 1), rfl, rfl, rfl, ?_⟩))))
            cases decide ((way : Int) = 1) with
            | false => exact ⟨rfl, fun z => nomatch z⟩
            | true => exact ew_and1 (et_zSpare ok hr.units (ev_var 3 rfl (ev_lst (eva_nil ⟨[], rfl, by decide, rfl, rfl, rfl, fun z => by have := of_decide_eq_true z; omega⟩))))
          · obtain ⟨rfl, hk2⟩ := hk2
            cases k with
            | true =>
              have hk2 := hk2 rfl
              refine sv_append 4 rfl (ev_tup (eva_cons (ev_str (eva_cons (ev_zPop ok 3 rfl hk2 fun y hy => eva_nil ⟨_, rfl, by simp, _, _, rfl, rfl, hdl, sv_nil (sv_nil (sv_nil ?_))⟩)))))
              have e5 : (b2 + 1 - (10000000000000 : Nat)) / (10000000000000 : Nat) = b2 / (10000000000000 : Nat) - 1 := by omega
              have e6 : (b2 + 1) / (10000000000000 : Nat) = b2 / (10000000000000 : Nat) := by omega
              rw [e6] at hy hk2
              have := nxt (b2 + 1 - (10000000000000 : Nat)) (.h y) (.va d) (.va (.int (way : Int))) (by omega) (noAdj_snoc _ _ hk.adj fun _ => rfl) (by rw [GB]; exact hgw y (List.mem_of_getElem? hy)) (by simp [Nd.dep]) (by simp [cnt]) (by omega) (by rw [e5, tkn_one hk2 hy, hlW])
              rw [Nd.d] at this
              exact this
            | false =>
              refine sv_append 4 rfl (ev_call (D5 hn0) hr (eva_cons (ev_var 0 rfl (eva_cons (ev_sub (ev_var 1 rfl (ev_int ⟨_, _, rfl, rfl, eva_cons (ev_var 2 rfl (eva_cons (ev_var 3 rfl (eva_nil ⟨rfl, ⟨by omega, by have := hk.le; omega, congrArg (fun z : Int => [Ar.va L.sD, .va (.int z), .va (.int (M : Int)), .va (spD' p)]) (by omega : (((n + 1 : Nat) : Int) - 1) = (n : Int))⟩, fun b5 r5 _ po => ?_⟩))))⟩)))))))
              obtain ⟨x, hx, rfl, h1, h2, h3⟩ := po
              have e6 : (b2 + 1) / (10000000000000 : Nat) = b2 / (10000000000000 : Nat) := by omega
              rw [e6] at h2 h3
              exact ⟨_, _, rfl, rfl, hdl, sv_nil (sv_nil (sv_nil (nxt b5 x _ _ (by omega) (noAdj_snoc _ _ hk.adj fun _ => by have := hx.el; cases x <;> first | rfl | cases this) hx.g hx.dep hx.cnt h2 h3)))⟩
    · rintro b2 δ2 ⟨hb3, cs, sk, sw, rfl, hk⟩
      rw [List.length_map, List.length_range] at hb3 hk
      have hml : (c + 3) * N ≤ (c + 3) * 3 := Nat.mul_le_mul_left _ (by omega)
      refine sv_set2 7 8 rfl sc.nd (by decide) (eva_cons (ev_call D2 (hr.mono (by omega)) (eva_cons (ev_var 0 rfl (eva_cons (ev_int (eva_nil ⟨rfl, ⟨2, by decide, by omega, rfl⟩, fun b4 r4 _ po => ?_⟩)))))))
      obtain ⟨m', ds, em, wd, hl2, rfl, h1, h2⟩ := po
      obtain rfl : m' = 2 := by
        injection em with _ em
        injection em with em _
        injection em with em
        injection em with em
        omega
      refine eva_cons (ev_call D3 (hr.mono (by omega)) (eva_cons (ev_var 0 rfl (eva_cons (ev_int (eva_nil ⟨rfl, ⟨2, by decide, by omega, rfl⟩, fun b5 r5 _ po => ?_⟩))))))
      obtain ⟨m', as, em, wa, hl3, rfl, h3, h4⟩ := po
      obtain rfl : m' = 2 := by
        injection em with _ em
        injection em with em _
        injection em with em
        injection em with em
        omega
      refine eva_nil ⟨_, _, rfl, ?_⟩
      refine sv_ret (ev_tup (eva_cons (ev_str (eva_cons (ev_call D4 (hr.mono (by omega)) (eva_cons (ev_var 0 rfl (eva_nil ⟨rfl, ⟨by omega, rfl⟩, fun b6 r6 _ po => ?_⟩))))))))
      obtain ⟨x, hx, y, hy, rfl, rfl⟩ := po
      have hcl := hk.len
      have ge : GB (.el x y ds as cs) = true := gb_el.mpr ⟨g_pfxs hx, g_lcls hy, (g_wd wd).1, (g_wd wd).2, by omega, (g_wa wa).1, (g_wa wa).2, by omega, by omega, hk.adj, hk.g⟩
      have e6 : (b5 + 2) / (10000000000000 : Nat) = b2 / (10000000000000 : Nat) := by omega
      refine eva_cons (ev_var 7 rfl (eva_cons (ev_var 8 rfl (eva_cons (ev_tuple b0 (ev_varO 4 rfl ⟨_, rfl, eva_nil ⟨_, rfl, by simp, rfl, .el x y ds as cs, ⟨rfl, ge, by rw [Nd.dep]; have := hk.dep; omega, ?_⟩, ?_, ?_, by rw [e6]; exact hk.le, by rw [e6, hlW]; exact hk.hl⟩⟩))))))
      · rw [cnt, mst]
        have h5 := hk.cnt
        have h6 := Nat.mul_le_mul_right (mst M n) hN2
        omega
      · rw [Nd.d]
      · omega
end
end G
set_option Elab.async false
set_option linter.all false
set_option maxRecDepth 100000
set_option maxHeartbeats 4000000
/-! Another element at a path. -/
namespace G
open PySem PySem.Spec PyProof.Rows L2 PD
theorem ew_cnt (x : Nd) : (ew [] x).length = cnt x := by
  rw [← ew_wk x [] [], List.length_map, wk_cnt]
theorem gb_wlk {x : Nd} (hel : x.isEl = true) (h : GB x = true) (hd : x.dep ≤ 8) (hc : cnt x ≤ 60) : Wlk x := ⟨hel, gb_ok x h, hd, by rw [ew_cnt]; omega⟩
end G
set_option Elab.async false
set_option linter.all false
set_option maxRecDepth 100000
set_option maxHeartbeats 4000000
namespace G
open PySem PySem.Spec PyProof.Rows L2 PD
theorem cut_to (k n d a c : D) : cutD [k, n, d, a, c] none (some 1) = [k] ∧ cutD [k, n, d, a, c] none (some 2) = [k, n] ∧ cutD [k, n, d, a, c] none (some 3) = [k, n, d] ∧ cutD [k, n, d, a, c] (some 2) none = [d, a, c] ∧ cutD [k, n, d, a, c] (some 3) none = [a, c] ∧ cutD [k, n, d, a, c] (some 4) none = [c] := ⟨rfl, rfl, rfl, rfl, rfl, rfl⟩
section
variable {P : Program} {w : World} {K : PySem.W.Frag} {mg : Str → Option Value} {base : Heap} {Z : Vol} {f : Addr} {fd : FuncData}
/-! ### _law_near -/
abbrev DElems (P : Program) (w : World) (K : PySem.W.Frag) (mg : Str → Option Value) (base : Heap) (Z : Vol) := Df P w K mg base "_law_elements" 1 ["part"] (spP Z K 1 gElems)
/-! ### _law_holes -/
noncomputable def gLho : List D → Option Res := gT (fun x : Nd => [x.d]) Wlk fun x => .ow (srtD ((hlL x).map D.str))
theorem gLho_of {x : Nd} (h : Wlk x) : gLho [x.d] = some (.ow (srtD ((hlL x).map D.str))) := gT_of (enc := fun x : Nd => [x.d]) one_inj h
abbrev DLho (P : Program) (w : World) (K : PySem.W.Frag) (mg : Str → Option Value) (base : Heap) (Z : Vol) := Df P w K mg base "_law_holes" 2 ["part"] (spP Z K 1 gLho)
abbrev sLho : Stmt := st__law_holes
abbrev nmLho : List Str := ["part", "found", "path", "one", "child"]
def isHN : Nd → Bool
  | .h _ => true
  | _ => false
def hnD : Nd → D
  | .h z => .str z
  | _ => .non
theorem own_filt : ∀ cs : List Nd, (cs.filter isHN).map hnD = (ownHs cs).map D.str
  | [] => rfl
  | c :: cs => by
    cases c with
    | s x => exact own_filt cs
    | h x =>
      show D.str x :: (cs.filter isHN).map hnD = D.str x :: (ownHs cs).map D.str
      rw [own_filt cs]
    | el _ _ _ _ _ => exact own_filt cs
theorem ew_hl (x : Nd) : (ew [] x).flatMap (fun q => ownHN q.2) = hlL x := by
  rw [← ew_wk x [] [], List.flatMap_map, ← wk_hl x [] []]
  rfl
theorem own_len {cs : List Nd} : (ownHs cs).length ≤ cs.length := List.length_filterMap_le _ _
theorem ok_lho (F : Fun K "_law_holes" "_law_holes" sLho f fd) (T : Cst mg) (D1 : DElems P w K mg base Z) : FnOk P w K mg base CX0 2 f fd ["part"] (spP Z K 1 gLho) := by
  have sc : FnScope nmLho ["part"] (defScope sLho) := ⟨rfl, rfl, rfl, by decide +kernel, rfl, by decide +kernel, by decide +kernel⟩
  refine fn_pure F sc rfl (gT_out fun x hx => rfl) fun cdv A outer s H E b ds r hr hl hg => ?_
  obtain ⟨x, rfl, hx, rfl⟩ := gT_one hg
  have b0 := T.blt (cxOf CX0 P w K mg base nmLho "_law_holes" (defScope sLho) f cdv A outer s H E).nox rfl
  refine sv_set 1 (ev_lst (eva_nil ⟨[], rfl, by decide, _, rfl, ?_⟩)) sc.nd
  refine sv_forT peD peD_inj (.tp [.nm 2, .nm 3]) rfl PassesOwn.never (pg_tup rfl (pgs_cons (pg_name (i := 2) sc.nd rfl (Or.inl rfl)) (pgs_cons (pg_name (i := 3) sc.nd rfl (Or.inl rfl)) pgs_nil)))
    (ei_list (ev_callP D1 hr (eva_cons (ev_var 0 rfl (eva_nil ⟨[x.d], _, rfl, rfl, gElems_of hx, _, .inl rfl, ew [] x, rfl, fun pre b2 δ2 => b2 = b ∧ ∃ s2 s3, δ2 = [.va x.d, .ow ((pre.flatMap fun q => ownHN q.2).map D.str), s2, s3, .un] ∧ (pre.flatMap fun q => ownHN q.2).length ≤ 60 * pre.length, ⟨rfl, _, _, rfl, Nat.le_refl _⟩, ?_, ?_⟩)))))
  · rintro pre q post b2 δ2 e ⟨rfl, s2, s3, rfl, hlen⟩
    have hq : q ∈ ew [] x := by rw [e]; simp
    have hpl : pre.length < (ew [] x).length := by rw [e, List.length_append, List.length_cons]; omega
    have hl1 := hx.len
    obtain ⟨path, e0⟩ := q
    obtain ⟨r, _, he, _, hel, _⟩ := ew_at x [] _ hq
    have hok := elP_ok he hx.ok
    obtain ⟨p, l, de, as, cs, rfl⟩ := el_of hel
    have ho := ok_el.mp hok
    have hzd : (Nd.el p l de as cs).d = .tup [.str "element", nmD p l, .pt (de.map dclD), .tup (as.map atrD), .tup (ndsD cs)] := by rw [Nd.d]
    refine ⟨[.va x.d, .ow ((pre.flatMap fun q => ownHN q.2).map D.str), .va (.tup (pthD path)), .va (Nd.el p l de as cs).d, .un], rfl, ?_⟩
    refine sv_extend 1 rfl (ev_filtT Nd.d nd_inj (.nm 4) [("child", 4)] isHN hnD rfl sc.nd (blkOk_by (N := nmLho) (sc := defScope sLho) (by decide +kernel)) (fun _ _ _ _ _ => pg_name (i := 4) sc.nd rfl (Or.inl rfl)) (by simp [Pat.slots])
      (EI.c (ei_tup (ev_ix (ev_var 3 rfl (ev_int ⟨[.str "element", nmD p l, .pt (de.map dclD), .tup (as.map atrD), .tup (ndsD cs)], _, _, .inl (by rw [hzd]), rfl, atN (j := 4) rfl, ndsD cs, rfl, cs, ndsD_map cs, Nat.le_trans ho.nc (by decide), fun c hc => ⟨_, rfl, fun s H Cc cl fp => ?_, fun hc2 s H Cc cl fp => ?_⟩, ?_⟩))))))
    · refine et_pw (ew_and (et_val (ev_isi (t := "tuple") (T.blt _ rfl) (T.blt _ rfl).tuple (by decide +kernel) (ev_var 4 rfl ⟨_, isi_t _, _, rfl, ?_⟩))))
      rw [isT_nd]
      cases c with
      | s z => exact ⟨rfl, rfl⟩
      | h z =>
        have hz : (Nd.h z).d = .tup [.str "hole", .str z] := by rw [Nd.d]
        refine ew_and1 (et_eq (ev_ix (ev_var 4 rfl (ev_int ⟨[.str "hole", .str z], _, _, .inl (by rw [hz]), rfl, at0, ev_str ⟨_, _, decide (("hole" : Str) = "hole"), rfl, rfl, rfl, rfl, ?_⟩⟩))))
        rw [decide_eq_true rfl]
        rfl
      | el q' l' de' as' cs' =>
        have hz : (Nd.el q' l' de' as' cs').d = .tup [.str "element", nmD q' l', .pt (de'.map dclD), .tup (as'.map atrD), .tup (ndsD cs')] := by rw [Nd.d]
        refine ew_and1 (et_eq (ev_ix (ev_var 4 rfl (ev_int ⟨[.str "element", nmD q' l', .pt (de'.map dclD), .tup (as'.map atrD), .tup (ndsD cs')], _, _, .inl (by rw [hz]), rfl, at0, ev_str ⟨_, _, decide (("element" : Str) = "hole"), rfl, rfl, rfl, rfl, ?_⟩⟩))))
        exact (by decide +kernel : decide (("element" : Str) = "hole") = false)
    · cases c with
      | h z =>
        have hz : (Nd.h z).d = .tup [.str "hole", .str z] := by rw [Nd.d]
        exact ev_ix (ev_var 4 rfl (ev_int ⟨[.str "hole", .str z], _, _, .inl (by rw [hz]), rfl, at1, rfl, rfl⟩))
      | s _ => cases hc2
      | el _ _ _ _ _ => cases hc2
    · rw [own_filt]
      have h5 := own_len (cs := cs)
      have h6 := ho.nc
      refine ⟨_, _, rfl, rfl, by simp only [List.length_map]; omega, sv_nil ⟨rfl, .va (.tup (pthD path)), .va (Nd.el p l de as cs).d, ?_, ?_⟩⟩
      · rw [List.flatMap_append, List.map_append, List.flatMap_cons, List.flatMap_nil, List.append_nil]
        rfl
      · rw [List.flatMap_append, List.length_append, List.flatMap_cons, List.flatMap_nil, List.append_nil, List.length_append, List.length_singleton]
        show _ + (ownHs cs).length ≤ _
        omega
  · rintro b2 δ2 ⟨rfl, s2, s3, rfl, hlen⟩
    rw [ew_hl]
    exact sv_ret (ev_sorted (hu40 hr) b0 (ev_varO 1 rfl ⟨(hlL x).map D.str, rfl, TX.srt_texts _, rfl, rfl, rfl⟩))
/-! ### _law_filled -/
end
end G
set_option Elab.async false
set_option linter.all false
set_option maxRecDepth 100000
set_option maxHeartbeats 4000000
/-! _law_tame. -/
namespace G
open PySem PySem.Spec PyProof.Rows L2 PD
/-- the same but for what is declared -/
structure Tm (x y : Nd) : Prop where
  el : y.isEl = true
  g : GB y = true
  dep : y.dep = x.dep
  cnt : G.cnt y = G.cnt x
  hl : hlW y = hlW x
/-- children so far -/
structure TmK (cs ds : List Nd) : Prop where
  t : ds.map Nd.isT = cs.map Nd.isT
  g : ∀ c ∈ ds, GB c = true
  dep : ndsDep ds = ndsDep cs
  cnt : cnts ds = cnts cs
  hl : hlWs ds = hlWs cs
theorem TmK.snoc {cs ds : List Nd} {c d : Nd} (h : TmK cs ds) (t : d.isT = c.isT) (g : GB d = true) (dep : d.dep = c.dep) (cn : G.cnt d = G.cnt c) (hl : hlW d = hlW c) : TmK (cs ++ [c]) (ds ++ [d]) :=
  ⟨by rw [List.map_append, List.map_append, h.t]; show _ ++ [d.isT] = _ ++ [c.isT]; rw [t], gbs_snoc h.g g, by rw [ndsDep_snoc, ndsDep_snoc, h.dep, dep], by rw [cnts_snoc, cnts_snoc, h.cnt, cn], by rw [hlWs_snoc, hlWs_snoc, h.hl, hl]⟩
theorem cnts_app : ∀ (cs ds : List Nd), cnts (cs ++ ds) = cnts cs + cnts ds
  | [], ds => by rw [List.nil_append, cnts]; omega
  | c :: cs, ds => by rw [List.cons_append, cnts, cnts, cnts_app cs ds]; omega
section
variable {P : Program} {w : World} {K : PySem.W.Frag} {mg : Str → Option Value} {base : Heap} {Z : Vol} {f : Addr} {fd : FuncData}
abbrev preTm (L : LC) (n : Nat) (b : Nat) (as : List Ar) : Prop := ∃ x : Nd, x.isEl = true ∧ GB x = true ∧ x.dep ≤ n ∧ b % (10000000000000 : Nat) + 60 * cnt x ≤ 999999900000 ∧ as = [.va L.sD, .va x.d]
abbrev postTm (L : LC) (b : Nat) (as : List Ar) (b' : Nat) (r : Res) : Prop := ∃ x y, as = [.va L.sD, .va x.d] ∧ Tm x y ∧ r = .va y.d ∧ b ≤ b' ∧ b' ≤ b + 60 * cnt x
abbrev DTm (P : Program) (w : World) (K : PySem.W.Frag) (mg : Str → Option Value) (base : Heap) (L : LC) (p : Option Addr) (n : Nat) := Df P w K mg base "_law_tame" (5 + n) ["state", "part"] (spD (lawVol L p) K 2 (preTm L n) (postTm L))
abbrev sTm : Stmt := st__law_tame
abbrev nmTm : List Str := ["state", "part", "declarations", "prefix", "address", "is_bad", "inside", "child", "is_one"]
theorem gA_v : gA "v" = true := by decide +kernel
theorem ok_tm {L : LC} {p : Option Addr} {n : Nat} (F : Fun K "_law_tame" "_law_tame" sTm f fd) (T : Cst mg) (D1 : DDraw P w K mg base L p) (D2 : n ≠ 0 → DTm P w K mg base L p n) : FnOk P w K mg base CX0 (5 + (n + 1)) f fd ["state", "part"] (spD (lawVol L p) K 2 (preTm L (n + 1)) (postTm L)) := by
  have sc : FnScope nmTm ["state", "part"] (defScope sTm) := ⟨rfl, rfl, rfl, by decide +kernel, rfl, by decide +kernel, by decide +kernel⟩
  rw [show 5 + (n + 1) = (5 + n) + 1 by omega]
  refine fn_body F sc rfl fun cdv A outer s H E b as hr hl hp => ?_
  obtain ⟨x, hel, hgb, hdep, hb, rfl⟩ := hp
  have b0 := T.blt (cxOf CX0 P w K mg base nmTm "_law_tame" (defScope sTm) f cdv A outer s H E).nox rfl
  obtain ⟨a, l, de, at_, cs, rfl⟩ := el_of hel
  have ge := gb_el.mp hgb
  have hcn : cnt (Nd.el a l de at_ cs) = 1 + cnts cs := by rw [cnt]
  rw [hcn] at hb
  have hdd : ndsDep cs ≤ n := by rw [Nd.dep] at hdep; omega
  have hd : (Nd.el a l de at_ cs).d = .tup [.str "element", nmD a l, .pt (de.map dclD), .tup (at_.map atrD), .tup (ndsD cs)] := by rw [Nd.d]
  have hdv := congrArg Res.va hd
  obtain ⟨u1, u2, u3, u4, u5, u6⟩ := cut_to (.str "element") (nmD a l) (.pt (de.map dclD)) (.tup (at_.map atrD)) (.tup (ndsD cs))
  refine sv_set 2 (ev_lst (eva_nil ⟨[], rfl, by decide, _, rfl, ?_⟩)) sc.nd
  refine sv_forT dclD dclD_inj (.tp [.nm 3, .nm 4]) rfl PassesOwn.never (pg_tup rfl (pgs_cons (pg_name (i := 3) sc.nd rfl (Or.inl rfl)) (pgs_cons (pg_name (i := 4) sc.nd rfl (Or.inl rfl)) pgs_nil)))
    (ei_tupU (ev_ix (ev_var 1 rfl (ev_int ⟨_, _, _, .inl hdv, rfl, atN (j := 2) rfl, de.map dclD, rfl, de, rfl, fun pre b2 δ2 => (b ≤ b2 ∧ b2 ≤ b + pre.length) ∧ ∃ es s3 s4 s5, δ2 = [.va L.sD, .va (Nd.el a l de at_ cs).d, .ow (es.map dclD), s3, s4, s5, .un, .un, .un] ∧ es.map (·.1) = pre.map (·.1) ∧ ∀ q ∈ es, gP q.1 = true ∧ gA q.2 = true, ⟨⟨by omega, by simp⟩, [], _, _, _, rfl, rfl, fun q hq => nomatch hq⟩, ?_, ?_⟩))))
  · rintro pre q post b2 δ2 e ⟨⟨hb1, hb2⟩, es, s3, s4, s5, rfl, hk, hg⟩
    have hpl : pre.length + 1 ≤ de.length := by rw [e, List.length_append, List.length_cons]; omega
    have hnd := ge.nd
    have hq := ge.hd q (by rw [e]; simp)
    have hel2 : es.length = pre.length := by have := congrArg List.length hk; simpa using this
    refine ⟨_, rfl, ?_⟩
    refine sv_set 5 (EV.imp (P := fun b' r => ∃ k : Bool, r = .va (.bl k) ∧ b2 ≤ b' ∧ b' ≤ b2 + 1) (ev_and (ev_eq (ev_var 4 rfl (ev_str ⟨_, _, _, rfl, rfl, str_sc _ _, _, rfl, ?_⟩)))) fun b3 r3 hh => ?_) sc.nd
    · cases decide (q.2 = ("" : Str)) with
      | false => exact ⟨false, rfl, by omega, by omega⟩
      | true =>
        refine ev_and (ev_ne (ev_var 3 rfl (ev_str ⟨_, _, _, rfl, rfl, str_sc _ _, _, rfl, ?_⟩)))
        cases decide (q.1 = ("" : Str)) with
        | true => exact ⟨false, rfl, by omega, by omega⟩
        | false => exact ev_one (ev_ord op_gt (nomark _) (ev_draw D1 (hr.mono (by omega)) (ev_var 0 rfl (ev_int ⟨9, rfl, rfl, by decide, by decide, by omega, fun x hx => ev_int ⟨_, _, rfl, rfl, _, rfl, by omega, by omega⟩⟩))))
    · obtain ⟨k, rfl, hb3, hb4⟩ := hh
      refine ⟨_, rfl, ?_⟩
      refine sv_append 2 rfl (ev_tup (eva_cons (ev_var 3 rfl (eva_cons (EV.imp (P := fun b' r => b' = b3 ∧ ∃ v, gA v = true ∧ r = .va (.str v)) (ev_if (et_val (ev_var 5 rfl ⟨_, rfl, ?_⟩))) fun b4 r4 hh => ?_)))))
      · cases k with
        | true => exact ev_str ⟨rfl, _, gA_v, rfl⟩
        | false => exact ev_var 4 rfl ⟨rfl, _, hq.2, rfl⟩
      · obtain ⟨rfl, v, hv, rfl⟩ := hh
        refine eva_nil ⟨[.str q.1, .str v], rfl, by simp, _, _, rfl, rfl, by rw [List.length_map]; omega, sv_nil ⟨⟨by omega, by rw [List.length_append, List.length_singleton]; omega⟩, es ++ [(q.1, v)], .va (.str q.1), .va (.str q.2), .va (.bl k), ?_, by rw [List.map_append, List.map_append, hk]; rfl, fun r hr => ?_⟩⟩
        · rw [List.map_append]
          rfl
        · rcases List.mem_append.mp hr with hr | hr
          · exact hg r hr
          · rw [List.mem_singleton.mp hr]; exact ⟨hq.1, hv⟩
  · rintro b2 δ2 ⟨⟨hb1, hb2⟩, es, s3, s4, s5, rfl, hk, hg⟩
    have hnd := ge.nd
    have hel2 : es.length = de.length := by have := congrArg List.length hk; simpa using this
    refine sv_set 6 (ev_lst (eva_nil ⟨[], rfl, by decide, _, rfl, ?_⟩)) sc.nd
    refine sv_forT Nd.d nd_inj (.nm 7) rfl PassesOwn.never (pg_name (i := 7) sc.nd rfl (Or.inl rfl)) (ei_tup (ev_ix (ev_var 1 rfl (ev_int ⟨_, _, _, .inl hdv, rfl, atN (j := 4) rfl, ndsD cs, rfl, cs, ndsD_map cs, fun pre b3 δ3 => (b2 ≤ b3 ∧ b3 ≤ b2 + 60 * cnts pre) ∧ ∃ ds s7 s8, δ3 = [.va L.sD, .va (Nd.el a l de at_ cs).d, .ow (es.map dclD), s3, s4, s5, .ow (ndsD ds), s7, s8] ∧ TmK pre ds ∧ ds.length = pre.length, ⟨⟨by omega, by rw [cnts]; omega⟩, [], _, _, by rw [ndsD]; rfl, ⟨rfl, (fun c hc => nomatch hc), rfl, rfl, rfl⟩, rfl⟩, ?_, ?_⟩))))
    · rintro pre c post b3 δ3 e ⟨⟨hb3, hb4⟩, ds, s7, s8, rfl, hk2, hl2⟩
      have hcm : c ∈ cs := by rw [e]; simp
      have hpl : pre.length + 1 ≤ cs.length := by rw [e, List.length_append, List.length_cons]; omega
      have hcc : cnts pre + cnt c ≤ cnts cs := by rw [e, cnts_app, cnts]; omega
      have hnc := ge.nc
      have hcg := ge.hc c hcm
      have hcd := dep_mem hcm
      refine ⟨_, rfl, ?_⟩
      refine sv_set 8 (EV.imp (P := fun b' r => b' = b3 ∧ r = .va (.bl c.isEl)) (ev_and (ev_isi (t := "tuple") b0 b0.tuple (by decide +kernel) (ev_var 7 rfl ⟨_, isi_t _, _, rfl, ?_⟩))) fun b4 r4 hh => ?_) sc.nd
      · rw [isT_nd]
        cases c with
        | s t => exact ⟨rfl, rfl⟩
        | h t =>
          have hzd : (Nd.h t).d = .tup [.str "hole", .str t] := by rw [Nd.d]
          refine ev_one (ev_eq (ev_ix (ev_var 7 rfl (ev_int ⟨_, _, _, .inl (congrArg Res.va hzd), rfl, at0, ev_str ⟨_, _, _, rfl, rfl, str_sc _ _, rfl, ?_⟩⟩))))
          rw [show decide (("hole" : Str) = "element") = false by decide +kernel]
          rfl
        | el a2 l2 de2 at2 cs2 =>
          have hzd : (Nd.el a2 l2 de2 at2 cs2).d = .tup [.str "element", nmD a2 l2, .pt (de2.map dclD), .tup (at2.map atrD), .tup (ndsD cs2)] := by rw [Nd.d]
          refine ev_one (ev_eq (ev_ix (ev_var 7 rfl (ev_int ⟨_, _, _, .inl (congrArg Res.va hzd), rfl, at0, ev_str ⟨_, _, _, rfl, rfl, str_sc _ _, rfl, ?_⟩⟩))))
          rw [decide_eq_true rfl]
          rfl
      · obtain ⟨rfl, rfl⟩ := hh
        refine ⟨_, rfl, ?_⟩
        have nxt : ∀ (b5 : Nat) (d : Nd) (s7' s8' : Sl), b4 ≤ b5 → b5 ≤ b4 + 60 * cnt c → d.isT = c.isT → GB d = true → d.dep = c.dep → cnt d = cnt c → hlW d = hlW c →
            (b2 ≤ b5 ∧ b5 ≤ b2 + 60 * cnts (pre ++ [c])) ∧ ∃ ds' s7 s8, [Sl.va L.sD, .va (Nd.el a l de at_ cs).d, .ow (es.map dclD), s3, s4, s5, .ow (ndsD ds ++ [d.d]), s7', s8'] = [.va L.sD, .va (Nd.el a l de at_ cs).d, .ow (es.map dclD), s3, s4, s5, .ow (ndsD ds'), s7, s8] ∧ TmK (pre ++ [c]) ds' ∧ ds'.length = (pre ++ [c]).length := fun b5 d s7' s8' h1 h2 h3 h4 h5 h6 h7 => by
          refine ⟨⟨by omega, by rw [cnts_snoc]; omega⟩, ds ++ [d], s7', s8', by rw [ndsD_map, ndsD_map, List.map_append]; rfl, hk2.snoc h3 h4 h5 h6 h7, by rw [List.length_append, List.length_append, hl2]; rfl⟩
        refine sv_append 6 rfl (ev_if (et_val (ev_var 8 rfl ⟨_, rfl, ?_⟩)))
        have hdl : (ndsD ds).length < 16000000 := by rw [ndsD_map, List.length_map]; omega
        cases hce : c.isEl with
        | true =>
          have hn : n ≠ 0 := fun z => by
            obtain ⟨_, _, _, _, _, e2⟩ := el_of hce
            rw [e2, Nd.dep] at hcd
            omega
          refine ev_call (D2 hn) hr (eva_cons (ev_var 0 rfl (eva_cons (ev_var 7 rfl (eva_nil ⟨rfl, ⟨c, hce, hcg, by omega, by omega, rfl⟩, fun b5 r5 _ po => ?_⟩)))))
          obtain ⟨x', y, ex, hy, rfl, h1, h2⟩ := po
          obtain rfl : c = x' := nd_inj _ _ (by injection ex with _ ex; injection ex with ex _; injection ex)
          exact ⟨_, _, rfl, rfl, hdl, sv_nil (nxt b5 y _ _ h1 h2 (by rw [isT_el hy.el, isT_el hce]) hy.g hy.dep hy.cnt hy.hl)⟩
        | false => exact ev_var 7 rfl ⟨_, _, rfl, rfl, hdl, sv_nil (nxt b4 c _ _ (Nat.le_refl _) (by omega) rfl hcg rfl rfl rfl)⟩
    · rintro b3 δ3 ⟨⟨hb3, hb4⟩, ds, s7, s8, rfl, hk2, hl2⟩
      have hnc := ge.nc
      refine sv_ret (ev_cat (ev_slTh (ev_var 1 rfl (ev_int ⟨_, 2, hdv, rfl, ev_tup (eva_cons (ev_tupleP b0 (ev_varO 2 rfl ⟨_, .inl rfl, eva_cons (ev_ix (ev_var 1 rfl (ev_int ⟨_, _, _, .inl hdv, rfl, atN (j := 3) rfl, eva_cons (ev_tuple b0 (ev_varO 6 rfl ⟨_, rfl, eva_nil ⟨_, rfl, by simp, _, _, rfl, rfl, by rw [u2]; simp, rfl, Nd.el a l de at_ cs, .el a l es at_ ds, rfl, ⟨rfl, gb_el.mpr ⟨ge.p, ge.l, ?_, hg, by omega, ge.an, ge.ha, ge.na, by omega, ?_, hk2.g⟩, ?_, ?_, ?_⟩, ?_, by omega, by rw [hcn]; omega⟩⟩))⟩)))⟩)))⟩))))
      · rw [hk]; exact ge.dn
      · rw [noAdj_map _ _ hk2.t]; exact ge.adj
      · rw [Nd.dep, Nd.dep, hk2.dep]
      · rw [cnt, cnt, hk2.cnt]
      · rw [hlW, hlW, hk2.hl]
      · rw [u2, Nd.d]
        rfl
end
end G
set_option Elab.async false
set_option linter.all false
set_option maxRecDepth 100000
set_option maxHeartbeats 4000000
/-! _law_world, of all prefixes or of some. -/
namespace G
open PySem PySem.Spec PyProof.Rows L2 PD
section
variable {P : Program} {w : World} {K : PySem.W.Frag} {mg : Str → Option Value} {base : Heap} {Z : Vol} {f : Addr} {fd : FuncData}
def wpf : List Str := ["", "p", "q", "r", "pp"]
def wad : List Str := ["u", "v", "n", "w.x", "u:1", "m"]
structure Wd7 (W : Bd) : Prop where
  su : SuOk W
  g : ∀ q ∈ W, gP q.1 = true ∧ gA q.2 = true
  few : W.length ≤ 5
theorem Wd7.oks {W : Bd} (h : Wd7 W) (p : Str) : okS (getB W p) = true := by
  unfold getB valB
  cases e : W.find? (fun q => decide (q.1 = p)) with
  | none => exact (by decide +kernel : okS "" = true)
  | some q => exact gA_ok (h.g q (List.mem_of_find?_eq_some e)).2
theorem g_wpf {q : Str} (h : q ∈ wpf) : gP q = true := by
  have : wpf.all gP = true := by decide +kernel
  exact List.all_eq_true.mp this q h
theorem g_wad {q : Str} (h : q ∈ wad) : isAddr (.str q) = true ∧ gA q = true := by
  have : (wad.all fun x => isAddr (.str x) && gA x) = true := by decide +kernel
  exact Bool.and_eq_true_iff.mp (List.all_eq_true.mp this q h)
abbrev preW7 (L : LC) (b : Nat) (as : List Ar) : Prop := b ≤ 999999000000 ∧ ∃ m : Nat, 1 ≤ m ∧ m ≤ 1000 ∧ as = [.va L.sD, .va (.int (m : Int))]
abbrev postW7 (b b' : Nat) (r : Res) : Prop := ∃ W, Wd7 W ∧ r = .od (.k (suK W)) ∧ b' ≤ b + 10
abbrev DW7 (P : Program) (w : World) (K : PySem.W.Frag) (mg : Str → Option Value) (base : Heap) (L : LC) := Df P w K mg base "_law_world" 3 ["state", "many"] (spD (lawVol L none) K 2 (preW7 L) fun b _ b' r => postW7 b b' r)
abbrev sWd7 : Stmt := st__law_world
abbrev nmW7 : List Str := ["state", "many", "found", "prefix"]
theorem ok_w7 {L : LC} (F : Fun K "_law_world" "_law_world" sWd7 f fd) (T : Cst mg) (kc : KC K) (D1 : DDraw P w K mg base L none) : FnOk P w K mg base CX0 3 f fd ["state", "many"] (spD (lawVol L none) K 2 (preW7 L) fun b _ b' r => postW7 b b' r) := by
  have sc : FnScope nmW7 ["state", "many"] (defScope sWd7) := ⟨rfl, rfl, rfl, by decide +kernel, rfl, by decide +kernel, by decide +kernel⟩
  refine fn_body F sc rfl fun cdv A outer s H E b as hr hl hp => ?_
  obtain ⟨hb, m, hm1, hm2, rfl⟩ := hp
  have b0 := T.blt (cxOf CX0 P w K mg base nmW7 "_law_world" (defScope sWd7) f cdv A outer s H E).nox rfl
  refine sv_set 2 (ev_dnewK ⟨_, rfl, ?_⟩) sc.nd
  refine sv_forT D.str str_inj (.nm 3) rfl PassesOwn.never (pg_name (i := 3) sc.nd rfl (Or.inl rfl))
    (ei_list (ev_lst (eva_cons (ev_str (eva_cons (ev_str (eva_cons (ev_str (eva_cons (ev_str (eva_cons (ev_str (eva_nil ⟨wpf.map D.str, rfl, by decide, wpf.map D.str, .inl rfl, wpf, rfl, ?_⟩)))))))))))))
  refine ⟨fun pre b2 δ2 => b2 ≤ b + 2 * pre.length ∧ ∃ W s3, δ2 = [.va L.sD, .va (.int (m : Int)), .od (.k (suK W)), s3] ∧ (W.map (·.1)).Nodup ∧ (∀ q ∈ W, q.1 ∈ pre ∧ q.1 ∈ wpf ∧ q.2 ∈ wad) ∧ W.length ≤ pre.length, ⟨Nat.le_refl _, [], _, rfl, List.nodup_nil, fun p hp => (nomatch hp), Nat.le_refl _⟩, ?_, ?_⟩
  · rintro pre q post b2 δ2 e ⟨hb2, W, s3, rfl, nd, hW, hlen⟩
    have hpl : pre.length + 1 ≤ 5 := by
      have := congrArg List.length e
      rw [List.length_append, List.length_cons] at this
      have : wpf.length = 5 := rfl
      omega
    have hq : q ∉ pre := fun z => by
      have n5 : wpf.Nodup := by decide +kernel
      rw [e, List.nodup_append] at n5
      exact n5.2.2 q z q List.mem_cons_self rfl
    have hq2 : q ∈ wpf := by rw [e]; simp
    refine ⟨_, rfl, ?_⟩
    refine sv_if (et_ord op_gt (nomark _) (ev_draw D1 (hr.mono (by decide)) (ev_var 0 rfl (ev_var 1 rfl ⟨m, rfl, rfl, hm1, hm2, by omega, fun y hy => ev_int ⟨_, _, rfl, rfl, ?_⟩⟩))))
    by_cases h0 : 0 < y
    · rw [decide_eq_true (by omega)]
      refine sv_dput kc (hu_of hr) 2 (ev_ix (ev_lst (eva_cons (ev_str (eva_cons (ev_str (eva_cons (ev_str (eva_cons (ev_str (eva_cons (ev_str (eva_cons (ev_str (eva_nil ⟨wad.map D.str, rfl, by decide, ?_⟩)))))))))))))))
      refine ev_draw D1 (hr.mono (by decide)) (ev_var 0 rfl (ev_int ⟨6, rfl, rfl, by decide, by decide, by omega, fun x hx => ⟨wad.map D.str, _, _, .inr rfl, rfl, at_texts (xs := wad) hx, ?_⟩⟩))
      obtain ⟨ga, gb⟩ := g_wad (List.getElem_mem (l := wad) hx)
      refine ev_var 3 rfl ⟨_, _, rfl, rfl, .inl ⟨_, kS q, rfl, rfl, by unfold suK; rw [List.length_map]; omega, sv_nil (sv_nil ⟨by rw [List.length_append, List.length_cons, List.length_nil]; omega, putB W q wad[x], .va (.str q), by rw [← suK_put]; rfl, ?_, ?_, ?_⟩)⟩⟩
      all_goals
        have ep : putB W q wad[x] = W ++ [(q, wad[x])] := by
          unfold putB
          rw [if_neg]
          intro z
          obtain ⟨r, hr1, hr2⟩ := List.any_eq_true.mp z
          exact hq (by rw [← of_decide_eq_true hr2]; exact (hW r hr1).1)
        rw [ep]
      · rw [List.map_append, List.nodup_append]
        refine ⟨nd, by simp, fun a ha c hc e => ?_⟩
        obtain ⟨r, hr1, hr2⟩ := List.mem_map.mp ha
        have hc : c = q := List.mem_singleton.mp hc
        exact hq (by rw [← hc, ← e, ← hr2]; exact (hW r hr1).1)
      · intro r hr1
        rcases List.mem_append.mp hr1 with hr1 | hr1
        · obtain ⟨a1, a2⟩ := hW r hr1
          exact ⟨List.mem_append_left _ a1, a2⟩
        · rw [List.mem_singleton.mp hr1]
          exact ⟨by simp, hq2, List.getElem_mem hx⟩
      · rw [List.length_append, List.length_append]
        simp only [List.length_cons, List.length_nil]
        omega
    · rw [decide_eq_false (by omega)]
      refine sv_nil (sv_nil ⟨by rw [List.length_append, List.length_cons, List.length_nil]; omega, W, .va (.str q), rfl, nd, fun r hr1 => ?_, by rw [List.length_append]; omega⟩)
      obtain ⟨a1, a2⟩ := hW r hr1
      exact ⟨List.mem_append_left _ a1, a2⟩
  · rintro b2 δ2 ⟨hb2, W, s3, rfl, nd, hW, hlen⟩
    have h5 : wpf.length = 5 := rfl
    refine sv_retD 2 rfl ⟨rfl, W, ⟨⟨fun q hq => ?_, nd, by omega⟩, fun q hq => ?_, by omega⟩, rfl, by omega⟩
    · obtain ⟨_, a1, a2⟩ := hW q hq
      exact ⟨(Bool.and_eq_true_iff.mp (g_wpf a1)).1, (g_wad a2).1⟩
    · obtain ⟨_, a1, a2⟩ := hW q hq
      exact ⟨g_wpf a1, (g_wad a2).2⟩
end
end G
set_option Elab.async false
set_option linter.all false
set_option maxRecDepth 100000
set_option maxHeartbeats 4000000
/-! repr of a list of things, dicts among them. -/
namespace PD
open PySem PySem.Spec PyProof.Rows L2
def kP : Key → PyData
  | .inl i => .int i
  | .inr x => .str x
/-- as the library's data, a dict too -/
def D.rd : D → PyData
  | .dk kvs => .dict (kvs.map fun q => (kP q.1, q.2.pd))
  | d => d.pd
mutual
/-- nothing in it that can be changed -/
def D.nl : D → Bool
  | .tup ds => nls ds
  | .pt ds => nls ds
  | .non => true
  | .bl _ => true
  | .int _ => true
  | .str _ => true
  | .lst _ => false
  | .obj _ _ => false
  | .dk _ => false
  | .dt _ => false
def nls : List D → Bool
  | [] => true
  | d :: ds => d.nl && nls ds
end
def D.rk : D → Bool
  | .dk kvs => nls (kvs.map (·.2))
  | d => d.nl
section
variable {X : Cx} {pins : List (Addr × Obj)} {σ : L2.St} {H : Hp} {s : Shared}
mutual
theorem rd_nl (I : Inv X pins σ H s) : ∀ (d : D) (v : V) (u : Value), Rp X.K H v d → d.nl = true → RelV v u → Reads s.heap u d.pd []
  | .non, _, _, h, _, r => by cases h; cases r; rw [D.pd]; exact .none
  | .bl b, _, _, h, _, r => by cases h; cases r; rw [D.pd]; exact .bool b
  | .int i, _, _, h, _, r => by cases h; obtain ⟨t, rfl⟩ := r; rw [D.pd]; exact .int i t
  | .str x, _, _, h, _, r => by cases h; obtain ⟨t, rfl⟩ := r; rw [D.pd]; exact .str x t
  | .tup ds, _, _, h, p, r => by
    rw [D.nl] at p
    cases h with
    | tup h ra =>
      cases r
      obtain ⟨its, rv, ⟨o, ho, hc, n, hd⟩, _⟩ := I.tuple h.sq
      rw [D.pd]
      exact .tuple ho hc hd (rd_nls I ds _ its ra p rv)
  | .pt ds, _, _, h, p, r => by
    rw [D.nl] at p
    cases h with
    | ptup h _ ra =>
      cases r
      obtain ⟨its, rv, ⟨o, ho, hc, n, hd⟩, _⟩ := I.tuple (xs := _) (.inl (.inr ⟨_, h⟩))
      rw [D.pd]
      exact .tuple ho hc hd (rd_nls I ds _ its ra p rv)
  | .lst _, _, _, _, p, _ => by rw [D.nl] at p; cases p
  | .obj _ _, _, _, _, p, _ => by rw [D.nl] at p; cases p
  | .dk _, _, _, _, p, _ => by rw [D.nl] at p; cases p
  | .dt _, _, _, _, p, _ => by rw [D.nl] at p; cases p
theorem rd_nls (I : Inv X pins σ H s) : ∀ (ds : List D) (vs : List V) (us : List Value), RpA X.K H vs ds → nls ds = true → Vals vs us → ReadsAll s.heap us (pds ds) []
  | [], _, _, h, _, r => by cases h; cases r; rw [pds]; exact .nil
  | d :: ds, _, _, h, p, r => by
    rw [nls, Bool.and_eq_true] at p
    cases h with
    | cons a ra =>
      cases r with
      | cons r1 r2 =>
        rw [pds]
        exact ReadsAll.cons (as := []) (bs := []) (rd_nl I d _ _ a p.1 r1) (rd_nls I ds _ _ ra p.2 r2)
end
theorem rd_keys {h : Heap} {knd : KeyKind X.prog X.w Key} (hk : ∀ k v, knd.is k v = true → Reads h v (kP k) []) : ∀ {es : List DictEntry} {kvs : List (Key × Value)}, Pairs knd es kvs → ReadsAll h (es.map (·.key)) (kvs.map fun q => kP q.1) [] ∧ es.map (·.val) = kvs.map (·.2)
  | _, _, .nil => ⟨.nil, rfl⟩
  | _, _, .cons h1 h2 r => by
    obtain ⟨r1, r2⟩ := rd_keys hk r
    exact ⟨ReadsAll.cons (as := []) (bs := []) (hk _ _ h1) r1, by rw [List.map_cons, List.map_cons, h2, r2]⟩
theorem kv_vals : ∀ {kv : List (Key × V)} {va : List (Key × Value)}, KV kv va → Vals (kv.map (·.2)) (va.map (·.2))
  | _, _, .nil => .nil
  | _, _, .cons hd t => .cons hd.2 (kv_vals t)
theorem kv_keys : ∀ {kv : List (Key × V)} {va : List (Key × Value)}, KV kv va → va.map (·.1) = kv.map (·.1)
  | _, _, .nil => rfl
  | _, _, .cons hd t => by rw [List.map_cons, List.map_cons, hd.1, kv_keys t]
theorem rd_dk (I : Inv X pins σ H s) {kvs : List (Key × D)} {v : V} {u : Value} (h : Rp X.K H v (.dk kvs)) (p : nls (kvs.map (·.2)) = true) (r : RelV v u) : ∃ a, (a == sysModules) = false ∧ Reads s.heap u (D.rd (.dk kvs)) [a] := by
  cases h with | @dicK a o kv _ e l ra => ?_
  cases r
  obtain ⟨_, ya, va, rka, ob, es, ep, ho, hx, hdt, _, hp, _⟩ := dk_rd (P := X.prog) (w := X.w) I.hok (.inr ⟨o, e⟩)
  refine ⟨a, ya, ?_⟩
  obtain ⟨r1, r2⟩ := rd_keys (X := X) (h := s.heap) (fun k v hk => by
    rcases keyIs_shape hk with ⟨i, t, rfl, rfl⟩ | ⟨x, t, rfl, rfl⟩
    · exact .int i t
    · exact .str x t) hp
  have hv : Vals (kv.map (·.2)) (va.map (·.2)) := kv_vals rka
  have hk : va.map (·.1) = kv.map (·.1) := kv_keys rka
  have q2 := rd_nls I (kvs.map (·.2)) _ _ ra p hv
  have ek : (va.map fun q => kP q.1) = ((kvs.map fun q => (kP q.1, q.2.pd)).map (·.1)) := by
    rw [List.map_map, show (va.map fun q => kP q.1) = (va.map (·.1)).map kP by rw [List.map_map]; rfl, hk, l, List.map_map]
    rfl
  have ev : pds (kvs.map (·.2)) = ((kvs.map fun q => (kP q.1, q.2.pd)).map (·.2)) := by
    clear q2 ra p l e ek
    induction kvs with
    | nil => rfl
    | cons q kvs ih => rw [List.map_cons, pds, ih]; rfl
  rw [ek] at r1
  rw [ev] at q2
  rw [← r2] at q2
  exact Reads.dict (as := []) (bs := []) ho hx.1 hdt r1 q2
theorem rd_any (I : Inv X pins σ H s) {d : D} {v : V} {u : Value} (h : Rp X.K H v d) (p : d.rk = true) (r : RelV v u) : ∃ as, sysModules ∉ as ∧ Reads s.heap u d.rd as := by
  cases d with
  | dk kvs =>
    obtain ⟨a, h1, h2⟩ := rd_dk I h p r
    exact ⟨[a], fun z => by rw [List.mem_singleton.mp z] at h1; simp at h1, h2⟩
  | _ => exact ⟨[], (fun z => nomatch z), rd_nl I _ _ _ h p r⟩
theorem rd_alls (I : Inv X pins σ H s) : ∀ {ds : List D} {vs : List V} {us : List Value}, RpA X.K H vs ds → ds.all D.rk = true → Vals vs us → ∃ as, sysModules ∉ as ∧ ReadsAll s.heap us (ds.map D.rd) as
  | [], _, _, h, _, r => by cases h; cases r; exact ⟨[], (fun z => nomatch z), .nil⟩
  | d :: ds, _, _, h, p, r => by
    rw [List.all_cons, Bool.and_eq_true] at p
    cases h with
    | cons a ra =>
      cases r with
      | cons r1 r2 =>
        obtain ⟨as, n1, q1⟩ := rd_any I a p.1 r1
        obtain ⟨bs, n2, q2⟩ := rd_alls I ra p.2 r2
        exact ⟨as ++ bs, fun z => (List.mem_append.mp z).elim n1 n2, .cons q1 q2⟩
end
/-- the repr of such a list -/
def repL (ds : List D) : Str := (PyData.list (ds.map D.rd)).shown
/-- it can be shown -/
def shwL (ds : List D) : Bool := ds.all D.rk && (PyData.list (ds.map D.rd)).showable && decide ((PyData.list (ds.map D.rd)).depth ≤ 64) && decide ((PyData.list (ds.map D.rd)).shown.length ≤ sizeLine)
theorem call_reprL {X : Cx} (hg : X.A.guards = some []) (hu : X.A.units + 66 < cLine) : CallR X (.builtin "repr") (fun xs H Q => ∃ (a : Addr) (vs : List V) (ds : List D), xs = [.ref a] ∧ (a == sysModules) = false ∧ H a = some (.lst vs) ∧ RpA X.K H vs ds ∧ shwL ds = true ∧ Q (.str (repL ds)) H) := by
  intro pins s σ H xs us Q I r h
  obtain ⟨a, vs, ds, rfl, na, ha, ra, hs, q⟩ := h
  unfold shwL at hs
  simp only [Bool.and_eq_true, decide_eq_true_eq] at hs
  obtain ⟨⟨⟨h1, h2⟩, h3⟩, h4⟩ := hs
  obtain ⟨u, rfl, rx⟩ := vals1 r
  cases (show u = Value.ref a from rx)
  obtain ⟨its, rv, ⟨o, n, ho, hc, _, hd⟩, _⟩ := I.list (.inl (.inl ha))
  obtain ⟨as, n1, q1⟩ := rd_alls I ra h1 rv
  have rd : Reads s.heap (.ref a) (.list (ds.map D.rd)) (a :: as) := .list ho hc hd q1
  refine repr_of_reads' rd h2 (fun _ z => ?_) hg (by omega) (fun _ _ e => e) (fun h' u tk hk => ?_) h4
  · rcases List.mem_cons.mp z with z | z
    · rw [← z] at na
      simp at na
    · exact n1 z
  · exact ⟨.str (repL ds), H, I.kept hk, ⟨u, rfl⟩, q⟩
/-- a new list is none of the machine's own -/
def tLstS (t : TA) : TE := fun σ H Q => t σ H fun xs H1 => xs.length ≤ sizeLine ∧ ∀ p, H1 p = none → (p == sysModules) = false → Q (.ref p) (upd H1 p (.lst xs))
theorem pe_lstS {X : Cx} {es : List Expr} {t : TA} {pos : Pos} (h : PA X es t) : PE X (.List es pos) (tLstS t) := by
  refine ⟨fun pins s σ H Q I hq => ?_⟩
  refine wpAny_List_spliced (thn (h.run pos pins s σ H _ I hq) fun us s1 ⟨xs, H1, I1, r, z, q⟩ => ⟨by rw [← r.length]; exact z, ?_⟩)
  have hf : H1 s1.heap.objs.size = none := I1.hok.fresh (Nat.le_refl _)
  refine ⟨.ref s1.heap.objs.size, upd H1 s1.heap.objs.size (.lst xs), I1.laid (t' := s1.toks) (fun b u e => Heap.get?_push_of_some _ e) (Nat.le_refl _) ?_, rfl, q _ hf (beq_eq_false_iff_ne.mpr (Nat.ne_of_gt I1.big))⟩
  exact ⟨z, us, 0, r, Heap.get?_push_size _ rfl⟩
section
variable {C : Cn} {b : Nat} {δ : List Sl} {P : Nat → Res → Prop} {pos p0 p1 : Pos} {es : List Expr}
/-- repr([..]), dicts within -/
theorem ev_reprL (hgd : C.X.A.guards = some []) (hu : C.X.A.units + 66 < cLine) (B : Blt C.X) (h : EVA C b δ es (fun b1 rs => ∃ ds, vas rs = some ds ∧ ds.length ≤ 16000000 ∧ shwL ds = true ∧ P b1 (.va (.str (repL ds))))) (hg : Gl C.X "repr" := by rfl)
    (hsx : starEach [(.List es p1 : Expr)] C.X.env = (false, eval (.List es p1) C.X.env) :: starEach [] C.X.env := by rfl) (hpl : (backTo pos (starEach [] C.X.env)).any (·.1) = false := by rfl) : EV C b δ (.Call (.Name "repr" p0) [.List es p1] [] pos) P := by
  intro os σ H st Q q
  refine WE.of (pe_callB (call_reprL hgd hu) hg B.repr (by rfl) (pa_cons (pe_lstS paW) pa_nil hsx) (by decide) (by decide) hsx hpl) ?_
  refine h os σ H st _ fun vs H1 b1 rs f1 j1 rv hh => ?_
  obtain ⟨ds, e, hl, hw, hq⟩ := hh
  have ra := rvs_vas rv e
  refine ⟨by rw [ra.len]; exact sz1 hl, fun p hp hp2 => ?_⟩
  have fn : Fr C.Z.S H1 (upd H1 p (.lst vs)) := Fr.new hp
  exact ⟨p, vs, ds, rfl, hp2, upd_same, ra.fr fn, hw, q _ _ b1 _ (f1.trans fn) (jnew j1 hp) (.va (.str (repL ds))) hq⟩
end
end PD
set_option Elab.async false
set_option linter.all false
set_option maxRecDepth 100000
set_option maxHeartbeats 4000000
namespace PD
open PySem PySem.Spec PyProof.Rows L2
/-! ### repr of data or None; a, b = new dict, new dict -/
theorem call_reprO {X : Cx} (hg : X.A.guards = some []) (hu : X.A.units + 66 < cLine) : CallR X (.builtin "repr") (fun xs H Q => ∃ (v : V) (d : D), xs = [v] ∧ Rp X.K H v d ∧ (d = .non ∨ d.box = true) ∧ d.shw = true ∧ Q (.str d.rep) H) := by
  intro pins s σ H xs us Q I r h
  obtain ⟨v, d, rfl, rv, ht, hw, q⟩ := h
  rcases ht with rfl | hb
  · cases rv
    obtain ⟨u, rfl, rx⟩ := vals1 r
    cases (show u = Value.none from rx)
    exact PySem.P.repr_of_none ⟨.str _, H, I.tok _, ⟨_, rfl⟩, q⟩
  · obtain ⟨hw1, hz⟩ := Bool.and_eq_true_iff.mp hw
    obtain ⟨hsh, hs⟩ := Bool.and_eq_true_iff.mp hw1
    have isr : ∃ a, v = .ref a := by
      cases rv with
      | tup _ _ => exact ⟨_, rfl⟩
      | lst _ _ => exact ⟨_, rfl⟩
      | _ => cases hb
    obtain ⟨a, rfl⟩ := isr
    exact call_reprD hg hu pins s σ H _ us Q I r ⟨a, d.pd, rfl, rp_dp _ _ rv (sh_ok hsh).1, hs, (sh_ok hsh).2, of_decide_eq_true hz, q⟩
section
variable {C : Cn} {b : Nat} {δ : List Sl} {P : Nat → Res → Prop} {F : Fin} {pos p0 px py pt pt2 : Pos} {e e1 e2 : Expr} {rest : List Stmt} {kt k2 : Nat}
theorem ev_reprO (hgd : C.X.A.guards = some []) (hu : C.X.A.units + 66 < cLine) (B : Blt C.X) (h : EV C b δ e (fun b1 r => ∃ d, r = .va d ∧ (d = .non ∨ d.box = true) ∧ d.shw = true ∧ P b1 (.va (.str d.rep)))) (hg : Gl C.X "repr" := by rfl)
    (hsx : starEach [e] C.X.env = (false, eval e C.X.env) :: starEach [] C.X.env := by rfl) (hpl : (backTo pos (starEach [] C.X.env)).any (·.1) = false := by rfl) : EV C b δ (.Call (.Name "repr" p0) [e] [] pos) P := by
  intro os σ H st Q q
  refine WE.of (pe_callB (call_reprO hgd hu) hg B.repr (by rfl) (pa_cons peW pa_nil hsx) (by decide) (by decide) hsx hpl) ?_
  refine h os σ H st _ fun v H1 b1 r f1 j1 rv hh => ?_
  obtain ⟨d, rfl, hb, hw, hq⟩ := hh
  cases rv with | va rv => ?_
  exact ⟨v, d, rfl, rv, hb, hw, q _ H1 b1 _ f1 j1 (.va (.str d.rep)) hq⟩
/-- a, b = new dict, new dict -/
theorem sv_set2D (i j : Nat) {x y : Str} (hc : C.X.calm = true) (hN : C.X.N.Nodup) (hij : i ≠ j) (h : EV C b δ e1 (fun b1 r1 => ∃ d1, r1 = .od d1 ∧ EV C b1 δ e2 (fun b2 r2 => ∃ d2, r2 = .od d2 ∧ SV C b2 ((δ.set i (.od d1)).set j (.od d2)) rest F))) (hi : C.X.N[i]? = some x := by rfl) (hj : C.X.N[j]? = some y := by rfl)
    (hx : C.X.env.scope.names.lookup x = some .local := by rfl) (hy : C.X.env.scope.names.lookup y = some .local := by rfl)
    (hw : swappedStores [.Tuple [.Name x px, .Name y py] kt pt] (.Tuple [e1, e2] k2 pt2) C.X.env = pure (some [x, y]) := by rfl)
    (hs : swapsWithSole [.Tuple [.Name x px, .Name y py] kt pt] (.Tuple [e1, e2] k2 pt2) pos.line C.X.env = pure false := by rfl)
    (hs1 : starEach [e1, e2] C.X.env = (false, eval e1 C.X.env) :: starEach [e2] C.X.env := by rfl) (hs2 : starEach [e2] C.X.env = (false, eval e2 C.X.env) :: starEach [] C.X.env := by rfl) : SV C b δ (.Assign [.Tuple [.Name x px, .Name y py] kt pt] (.Tuple [e1, e2] k2 pt2) pos :: rest) F := by
  intro os σ H st D ed
  refine WSs.of (pss_cons (ps_par hc hN hi hj hij hx hy (pa_cons peW (pa_cons peW pa_nil hs2) hs1) hw hs) pssW) ?_
  refine h os σ H st _ fun v1 H1 b1 r1 f1 j1 rv1 hr => ?_
  obtain ⟨d1, rfl, h2⟩ := hr
  refine h2 os σ H1 (st.on f1 j1) _ fun v2 H2 b2 r2 f2 j2 rv2 hr2 => ?_
  obtain ⟨d2, rfl, q⟩ := hr2
  cases rv1 with | @od p1 _ n1 s1 e1' => ?_
  cases rv2 with | @od p2 _ n2 s2 e2' => ?_
  refine ⟨_, _, rfl, ?_⟩
  have ne : p1 ≠ p2 := fun z => by
    obtain ⟨o, z2⟩ := e1'.some
    rw [← z, z2] at n2
    cases n2
  have a1' := e1'.fr f2 s1
  obtain ⟨os2, st2, g2⟩ := st.putTwo (i := i) (j := j) (t1 := .od d1) (t2 := .od d2) (f1.trans f2) j2 n1 a1'.some s1 (fun _ => .od a1') (f1.back n2) e2'.some s2 (fun _ => .od e2') ne
  exact q os2 _ H2 st2 D (ed.on g2)
/-- x = what is written out -/
theorem sv_cv {i : Nat} {x : Str} {e : Expr} {d : D} (h : CV C b δ e d) (hw : d.wide ≤ 16000000) (q : SV C b (δ.set i (.va d)) rest F) (hN : C.X.N.Nodup) (hi : C.X.N[i]? = some x) (hx : Loc C.X.env.scope x) (hs : swapsWith e (some (.Name x p0)) pos.line C.X.env = pure false) (hf : C.X.fn x = true ∨ C.X.env.scope.names.lookup x = some .local) : SV C b δ (.Assign [.Name x p0] e pos :: rest) F :=
  sv_set _ ((cv_ev h hw).imp fun b1 r hh => by
    obtain ⟨rfl, rfl⟩ := hh
    exact ⟨_, rfl, q⟩) hN hi hx hs hf
/-- a, b, c = what is written out -/
theorem sv_cvU (p : Pat) {tg e : Expr} {d : D} {δ' : List Sl} (h : CV C b δ e d) (hw : d.wide ≤ 16000000) (hg : PG C.X tg (gPat C.X.K p)) (hb : bindP p d δ = some δ') (q : SV C b δ' rest F) (hs : swapsWithSole [tg] e pos.line C.X.env = pure false) (hw2 : swappedStores [tg] e C.X.env = pure none) (h1 : (assignEach [tg] C.X.env).map (·.2) = [assign tg C.X.env]) : SV C b δ (.Assign [tg] e pos :: rest) F :=
  sv_unpack p hg ((cv_ev h hw).imp fun b1 r hh => by
    obtain ⟨rfl, rfl⟩ := hh
    exact ⟨_, _, rfl, hb, q⟩) hs hw2 h1
/-- a, b = [what is written out][an index] -/
theorem sv_cvPick (p : Pat) {tg e2 : Expr} {es : List Expr} {ds : List D} {pl ps : Pos} (h : CVs C b δ es ds) (hw : (D.tup ds).wide ≤ 16000000) (hg : PG C.X tg (gPat C.X.K p)) (q : EV C b δ e2 (fun b2 r2 => ∃ (i : Int) (d : D) (δ' : List Sl), r2 = .va (.int i) ∧ atI ds i = some d ∧ bindP p d δ = some δ' ∧ SV C b2 δ' rest F)) (hs : swapsWithSole [tg] (.Subscript (.List es pl) e2 ps) pos.line C.X.env = pure false) (hw2 : swappedStores [tg] (.Subscript (.List es pl) e2 ps) C.X.env = pure none) (h1 : (assignEach [tg] C.X.env).map (·.2) = [assign tg C.X.env]) (hix : PlainIx e2) : SV C b δ (.Assign [tg] (.Subscript (.List es pl) e2 ps) pos :: rest) F := by
  refine sv_unpack p hg (ev_ix ((cvl_ev h hw).imp fun b1 r hh => ?_) hix) hs hw2 h1
  obtain ⟨rfl, rfl⟩ := hh
  refine q.imp fun b2 r2 hh => ?_
  obtain ⟨i, d, δ', rfl, h1, h2, h3⟩ := hh
  exact ⟨ds, i, d, .inr rfl, rfl, h1, _, _, rfl, h2, h3⟩
/-- x = (what is written out)[an index] -/
theorem sv_cvIx {i : Nat} {x : Str} {e1 e2 : Expr} {ds : List D} {ps : Pos} (h : CV C b δ e1 (.tup ds)) (hw : (D.tup ds).wide ≤ 16000000) (q : EV C b δ e2 (fun b2 r2 => ∃ (j : Int) (d : D), r2 = .va (.int j) ∧ atI ds j = some d ∧ SV C b2 (δ.set i (.va d)) rest F)) (hN : C.X.N.Nodup) (hi : C.X.N[i]? = some x) (hx : Loc C.X.env.scope x) (hs : swapsWith (.Subscript e1 e2 ps) (some (.Name x p0)) pos.line C.X.env = pure false) (hf : C.X.fn x = true ∨ C.X.env.scope.names.lookup x = some .local) (hix : PlainIx e2) : SV C b δ (.Assign [.Name x p0] (.Subscript e1 e2 ps) pos :: rest) F := by
  refine sv_set _ (ev_ix ((cv_ev h hw).imp fun b1 r hh => ?_) hix) hN hi hx hs hf
  obtain ⟨rfl, rfl⟩ := hh
  refine q.imp fun b2 r2 hh => ?_
  obtain ⟨j, d, rfl, h1, h2⟩ := hh
  exact ⟨ds, j, d, .inl rfl, rfl, h1, _, rfl, h2⟩
theorem range_at {n x : Nat} {pre post : List Nat} (e : List.range n = pre ++ x :: post) : x = pre.length ∧ pre.length < n := by
  have hl : pre.length < n := by
    have := congrArg List.length e
    rw [List.length_range, List.length_append, List.length_cons] at this
    omega
  have h1 : (pre ++ x :: post)[pre.length]? = some x := by simp
  rw [← e, List.getElem?_range hl] at h1
  exact ⟨(Option.some.inj h1).symm, hl⟩
theorem intN_inj (x y : Nat) (h : D.int (x : Int) = .int (y : Int)) : x = y := by
  injection h with h
  exact Int.ofNat.inj h
end
end PD
set_option Elab.async false
set_option linter.all false
set_option maxRecDepth 100000
set_option maxHeartbeats 4000000
/-! _law_part, _law_filling. -/
namespace G
open PySem PySem.Spec PyProof.Rows L2 PD
def six : List (Nat × Nat) := [(1, 0), (2, 2), (3, 2), (2, 3), (4, 2), (3, 3)]
def nnD (q : Nat × Nat) : D := .tup [.int (q.1 : Int), .int (q.2 : Int)]
theorem six_ok {q : Nat × Nat} (h : q ∈ six) : q.1 ≤ 4 ∧ mst q.2 q.1 ≤ 15 := by
  have : six.all (fun q => decide (q.1 ≤ 4) && decide (mst q.2 q.1 ≤ 15)) = true := by decide +kernel
  have := List.all_eq_true.mp this q h
  simpa using this
/-- a drawn part: its holes are those that were taken -/
structure Pt7 (ts : List Str) (x : Nd) : Prop where
  el : x.isEl = true
  g : GB x = true
  dep : x.dep ≤ 4
  cnt : G.cnt x ≤ 15
  hl : (hlW x).Perm ts
section
variable {P : Program} {w : World} {K : PySem.W.Frag} {mg : Str → Option Value} {base : Heap} {Z : Vol} {f : Addr} {fd : FuncData}
abbrev prePt (L : LC) (p : Addr) (b : Nat) (as : List Ar) : Prop := b % (10000000000000 : Nat) ≤ 999998000000 ∧ b / (10000000000000 : Nat) ≤ L.sp.length ∧ as = [.va L.sD, .va (spD' p)]
abbrev postPt (L : LC) (b : Nat) (_ : List Ar) (b' : Nat) (r : Res) : Prop := ∃ x, Pt7 (tkn L.sp (b / (10000000000000 : Nat)) (b' / (10000000000000 : Nat))) x ∧ r = .va x.d ∧ b' % (10000000000000 : Nat) ≤ b % (10000000000000 : Nat) + 3000 ∧ b' / (10000000000000 : Nat) ≤ b / (10000000000000 : Nat)
abbrev sPt : Stmt := st__law_part
abbrev nmPt : List Str := ["state", "spare", "deep", "most"]
theorem ok_pt {L : LC} {p : Addr} (F : Fun K "_law_part" "_law_part" sPt f fd) (T : Cst mg) (D1 : DDraw P w K mg base L (some p)) (DE : ∀ q ∈ six, ∃ c, c ≤ 1200 ∧ DG P w K mg base L p q.1 q.2 c) (D3 : DTm P w K mg base L (some p) 4) : FnOk P w K mg base CX0 10 f fd ["state", "spare"] (spD (lawVol L (some p)) K 2 (prePt L p) (postPt L)) := by
  have sc : FnScope nmPt ["state", "spare"] (defScope sPt) := ⟨rfl, rfl, rfl, by decide +kernel, rfl, by decide +kernel, by decide +kernel⟩
  refine fn_body F sc rfl fun cdv A outer s H E b as hr hl hp => ?_
  obtain ⟨hb, hsp, rfl⟩ := hp
  show SV _ _ _ (Stmt.Assign _ _ _ :: _) _
  with_reducible refine sv_cvPick (.tp [.nm 2, .nm 3]) (ds := six.map nnD) ?_ ?_ ?_ ?_ ?_ ?_ ?_ ?_
  rotate_left 4
  · rfl
  · rfl
  · rfl
  · exact fun _ _ => rfl
  · exact .cons (.tup (.cons .int (.cons .int .nil))) (.cons (.tup (.cons .int (.cons .int .nil))) (.cons (.tup (.cons .int (.cons .int .nil))) (.cons (.tup (.cons .int (.cons .int .nil))) (.cons (.tup (.cons .int (.cons .int .nil))) (.cons (.tup (.cons .int (.cons .int .nil))) .nil)))))
  · decide +kernel
  · exact pg_tup rfl (pgs_cons (pg_name (i := 2) sc.nd rfl (Or.inl rfl)) (pgs_cons (pg_name (i := 3) sc.nd rfl (Or.inl rfl)) pgs_nil))
  refine ev_draw D1 (hr.mono (by decide)) (ev_var 0 rfl (ev_int ⟨6, rfl, rfl, by decide, by decide, by omega, fun x hx => ⟨_, nnD six[x], _, rfl, atI_nat (by rw [List.getElem?_map, List.getElem?_eq_getElem hx]; rfl), rfl, ?_⟩⟩))
  have hq := List.getElem_mem (l := six) hx
  generalize six[x] = q at hq ⊢
  obtain ⟨h1, h2⟩ := six_ok hq
  obtain ⟨c, hc, D2⟩ := DE q hq
  have hq5 : 100000 * q.1 ≤ 400000 := by omega
  refine sv_ret (ev_call D3 (hr.mono (by omega)) (eva_cons (ev_var 0 rfl (eva_cons (ev_call D2 (hr.mono (by omega)) (eva_cons (ev_var 0 rfl (eva_cons (ev_var 2 rfl (eva_cons (ev_var 3 rfl (eva_cons (ev_var 1 rfl (eva_nil ⟨rfl, ⟨by omega, by omega, rfl⟩, fun b2 r2 _ po => ?_⟩))))))))))))) )
  obtain ⟨y, hy, rfl, e1, e2, e3⟩ := po
  have hyc := hy.cnt
  have hyd := hy.dep
  refine eva_nil ⟨rfl, ⟨y, hy.el, hy.g, by omega, by omega, rfl⟩, fun b3 r3 _ po => ?_⟩
  obtain ⟨y', z, ey, hz, rfl, g1, g2⟩ := po
  obtain rfl : y = y' := nd_inj _ _ (by injection ey with _ ey; injection ey with ey _; injection ey)
  have k1 : b3 % (10000000000000 : Nat) ≤ b % (10000000000000 : Nat) + 3000 := by omega
  have k2 : b3 / (10000000000000 : Nat) = b2 / (10000000000000 : Nat) := by omega
  have k3 : (b + 1) / (10000000000000 : Nat) = b / (10000000000000 : Nat) := by omega
  refine ⟨rfl, z, ⟨hz.el, hz.g, by rw [hz.dep]; omega, by rw [hz.cnt]; omega, ?_⟩, rfl, k1, by omega⟩
  rw [hz.hl, k2, ← k3]
  exact e3
/-! ### _law_element, of three levels at most, a new empty list -/
abbrev preE7 (L : LC) (p : Addr) (b : Nat) (as : List Ar) : Prop := ∃ n : Nat, 1 ≤ n ∧ n ≤ 3 ∧ b % (10000000000000 : Nat) ≤ 999999000000 ∧ b / (10000000000000 : Nat) = 0 ∧ as = [.va L.sD, .va (.int (n : Int)), .va (.int 2), .va (spD' p)]
abbrev postE7 (b b' : Nat) (r : Res) : Prop := ∃ x, WB 3 2 x ∧ hlW x = [] ∧ r = .va x.d ∧ b' % (10000000000000 : Nat) ≤ b % (10000000000000 : Nat) + 390 ∧ b' / (10000000000000 : Nat) = 0
abbrev DE7 (P : Program) (w : World) (K : PySem.W.Frag) (mg : Str → Option Value) (base : Heap) (L : LC) := DfA P w K mg base "_law_element" 8 ["state", "deep", "most", "spare"] (fun p => L.Ok (some p)) (fun p => spD (lawVol L (some p)) K 4 (preE7 L p) fun b _ b' r => postE7 b b' r)
theorem wb_up {n M m : Nat} {x : Nd} (h : WB n M x) (hnm : n ≤ m) (hm : mst M n ≤ mst M m) : WB m M x := ⟨h.el, h.g, Nat.le_trans h.dep hnm, Nat.le_trans h.cnt hm⟩
theorem els7_ok {L : LC} (hgw : ∀ z ∈ L.sp, gW z = true) (F : Fun K "_law_element" "_law_element" sEl f fd) (hm : mg "_law_element" = some (.ref f)) (hb : Binds K fd ["state", "deep", "most", "spare"] []) (T : Cst mg) (D1 : ∀ p, L.Ok (some p) → DDraw P w K mg base L (some p)) (D2 : ∀ p, L.Ok (some p) → DDc P w K mg base L (some p)) (D3 : ∀ p, L.Ok (some p) → DAs P w K mg base L (some p))
    (D4 : ∀ p, L.Ok (some p) → DNam P w K mg base L (some p)) : DE7 P w K mg base L := by
  refine ⟨f, fd, fun p ok => ?_, hm, F.kp, hb⟩
  have f1 := ok_elG (n := 0) (M := 2) (c := 0) (by decide) (by decide) (by decide) hgw F T ok (D1 p ok) (D2 p ok) (D3 p ok) (D4 p ok) fun z => absurd rfl z
  have e1 : DG P w K mg base L p 1 2 30 := Df.of F f1 hm hb
  have f2 := ok_elG (n := 1) (M := 2) (c := 30) (by decide) (by decide) (by decide) hgw F T ok (D1 p ok) (D2 p ok) (D3 p ok) (D4 p ok) fun _ => e1
  have e2 : DG P w K mg base L p 2 2 120 := Df.of F f2 hm hb
  have f3 := ok_elG (n := 2) (M := 2) (c := 120) (by decide) (by decide) (by decide) hgw F T ok (D1 p ok) (D2 p ok) (D3 p ok) (D4 p ok) fun _ => e2
  have g1 := fnOk_up (show 5 + (0 + 1) ≤ 8 by decide) f1
  have g2 := fnOk_up (show 5 + (1 + 1) ≤ 8 by decide) f2
  have g3 := fnOk_up (show 5 + (2 + 1) ≤ 8 by decide) f3
  have none_ : ∀ {b b' : Nat} {x : Nd}, b / (10000000000000 : Nat) = 0 → b' / (10000000000000 : Nat) ≤ b / (10000000000000 : Nat) → (hlW x).Perm (tkn L.sp (b / (10000000000000 : Nat)) (b' / (10000000000000 : Nat))) → hlW x = [] ∧ b' / (10000000000000 : Nat) = 0 := fun {b b' x} h1 h2 h3 => by
    have h4 : b' / (10000000000000 : Nat) = 0 := by omega
    rw [h1, h4, tkn_none] at h3
    exact ⟨List.Perm.eq_nil h3, h4⟩
  have way : ∀ vs H Q E, spD (lawVol L (some p)) K 4 (preE7 L p) (fun b _ b' r => postE7 b b' r) vs H Q E → spD (lawVol L (some p)) K 4 (preG L (0 + 1) 2 p) (postG L (0 + 1) 2 (3 * 0 + 30) p) vs H Q E ∨ spD (lawVol L (some p)) K 4 (preG L (1 + 1) 2 p) (postG L (1 + 1) 2 (3 * 30 + 30) p) vs H Q E ∨ spD (lawVol L (some p)) K 4 (preG L (2 + 1) 2 p) (postG L (2 + 1) 2 (3 * 120 + 30) p) vs H Q E := by
    rintro vs H Q E ⟨b, as, hl, hv, hj, ⟨n, n1, n3, hb1, hb2, rfl⟩, hq⟩
    have e : n = 1 ∨ n = 2 ∨ n = 3 := by omega
    rcases e with rfl | rfl | rfl
    · exact .inl ⟨b, _, hl, hv, hj, ⟨by omega, by omega, rfl⟩, fun v H' b' r fr j rv ho ⟨x, hx, e1, e2, e3, e4⟩ => hq v H' b' r fr j rv ho ⟨x, wb_up hx (by decide) (by decide), (none_ hb2 e3 e4).1, e1, by omega, (none_ hb2 e3 e4).2⟩⟩
    · exact .inr (.inl ⟨b, _, hl, hv, hj, ⟨by omega, by omega, rfl⟩, fun v H' b' r fr j rv ho ⟨x, hx, e1, e2, e3, e4⟩ => hq v H' b' r fr j rv ho ⟨x, wb_up hx (by decide) (by decide), (none_ hb2 e3 e4).1, e1, by omega, (none_ hb2 e3 e4).2⟩⟩)
    · exact .inr (.inr ⟨b, _, hl, hv, hj, ⟨by omega, by omega, rfl⟩, fun v H' b' r fr j rv ho ⟨x, hx, e1, e2, e3, e4⟩ => hq v H' b' r fr j rv ho ⟨x, hx, (none_ hb2 e3 e4).1, e1, by omega, (none_ hb2 e3 e4).2⟩⟩)
  refine ⟨fun vs H Q E h => ?_, fun A outer s H args us vs Q E hr e0 hb r h => ?_⟩
  · rcases way vs H Q E h with h | h | h
    · exact g1.len vs H Q E h
    · exact g2.len vs H Q E h
    · exact g3.len vs H Q E h
  · rcases way vs H Q E h with h | h | h
    · exact g1.run A outer s H args us vs Q E hr e0 hb r h
    · exact g2.run A outer s H args us vs Q E hr e0 hb r h
    · exact g3.run A outer s H args us vs Q E hr e0 hb r h
/-! ### _law_filling -/
def extra : List Str := ["far", "xmlnsx"]
/-- a drawn filling, of these holes -/
structure Fl7 (ks : List Str) (fl : Fl) : Prop where
  ks : fl.map (·.1) = ks
  el : ∀ q ∈ fl, q.2.isEl = true
  g : ∀ q ∈ fl, GB q.2 = true
  dep : ∀ q ∈ fl, q.2.dep ≤ 3
  cnt : ∀ q ∈ fl, G.cnt q.2 ≤ 7
  no : ∀ q ∈ fl, hlW q.2 = []
theorem Fl7.snoc {ks : List Str} {fl : Fl} (h : Fl7 ks fl) {k : Str} {x : Nd} (el : x.isEl = true) (g : GB x = true) (dep : x.dep ≤ 3) (cn : G.cnt x ≤ 7) (no : hlW x = []) : Fl7 (ks ++ [k]) (fl ++ [(k, x)]) := by
  have m : ∀ q ∈ fl ++ [(k, x)], q ∈ fl ∨ q = (k, x) := fun q hq => (List.mem_append.mp hq).imp id List.mem_singleton.mp
  exact ⟨by rw [List.map_append, h.ks]; rfl, fun q hq => (m q hq).elim (h.el q) fun e => by rw [e]; exact el, fun q hq => (m q hq).elim (h.g q) fun e => by rw [e]; exact g, fun q hq => (m q hq).elim (h.dep q) fun e => by rw [e]; exact dep, fun q hq => (m q hq).elim (h.cnt q) fun e => by rw [e]; exact cn, fun q hq => (m q hq).elim (h.no q) fun e => by rw [e]; exact no⟩
theorem putD_new {kvs : List (Key × D)} {k : Key} {d : D} (h : k ∉ kvs.map (·.1)) : putD kvs k d = kvs ++ [(k, d)] := by
  unfold putD
  rw [if_neg]
  intro z
  obtain ⟨q, h1, h2⟩ := List.any_eq_true.mp z
  exact h (List.mem_map.mpr ⟨q, h1, of_decide_eq_true h2⟩)
abbrev preFi (L : LC) (b : Nat) (as : List Ar) : Prop := b ≤ 999998000000 ∧ ∃ (ts : List Str) (x : Nd), Pt7 ts x ∧ ts.Nodup ∧ ts.length ≤ 5 ∧ (∀ z ∈ ts, z ∉ extra) ∧ as = [.va L.sD, .va x.d]
abbrev postFi (L : LC) (b : Nat) (as : List Ar) (b' : Nat) (r : Res) : Prop := ∃ x fl ks n, as = [.va L.sD, .va x.d] ∧ n ≤ 2 ∧ ks.Perm (hlW x) ∧ Fl7 (ks ++ extra.take n) fl ∧ r = .od (.k (flK fl)) ∧ b' ≤ b + 10000
abbrev DFi (P : Program) (w : World) (K : PySem.W.Frag) (mg : Str → Option Value) (base : Heap) (L : LC) := Df P w K mg base "_law_filling" 10 ["state", "part"] (spD (lawVol L none) K 2 (preFi L) (postFi L))
abbrev sFi : Stmt := st__law_filling
abbrev nmFi : List Str := ["state", "part", "found", "hole"]
theorem ok_fi {L : LC} (F : Fun K "_law_filling" "_law_filling" sFi f fd) (T : Cst mg) (kc : KC K) (ok : L.Ok none) (D1 : DDraw P w K mg base L none) (D2 : DLho P w K mg base (lawVol L none)) (D3 : DE7 P w K mg base L) (D4 : DTm P w K mg base L none 3) : FnOk P w K mg base CX0 10 f fd ["state", "part"] (spD (lawVol L none) K 2 (preFi L) (postFi L)) := by
  have sc : FnScope nmFi ["state", "part"] (defScope sFi) := ⟨rfl, rfl, rfl, by decide +kernel, rfl, by decide +kernel, by decide +kernel⟩
  refine fn_body F sc rfl fun cdv A outer s H E b as hr hl hp => ?_
  obtain ⟨hb, ts, x, hx, tnd, tl, tex, rfl⟩ := hp
  obtain ⟨ks, ek, pk0⟩ := srtD_strs (hlL x)
  have pk : ks.Perm (hlW x) := pk0.trans (hl_perm x hx.el)
  have pts : ks.Perm ts := pk.trans hx.hl
  have kl : ks.length ≤ 5 := by rw [pts.length_eq]; exact tl
  have hwl := gb_wlk hx.el hx.g (by have := hx.dep; omega) (by have := hx.cnt; omega)
  refine sv_set 2 (ev_dnewK ⟨_, rfl, ?_⟩) sc.nd
  refine sv_forT D.str str_inj (.nm 3) rfl PassesOwn.never (pg_name (i := 3) sc.nd rfl (Or.inl rfl)) (ei_list (ev_catL (ev_callP D2 (hr.mono (by decide)) (eva_cons (ev_var 1 rfl (eva_nil ⟨[x.d], _, rfl, rfl, gLho_of hwl, ?_⟩))))))
  rw [ek]
  refine ev_take (ev_lst (eva_cons (ev_str (eva_cons (ev_str (eva_nil ⟨extra.map D.str, rfl, by decide, ?_⟩))))))
  refine ev_draw D1 (hr.mono (by decide)) (ev_var 0 rfl (ev_int ⟨3, rfl, rfl, by decide, by decide, by omega, fun n hn => ⟨_, n, rfl, rfl, _, _, rfl, rfl, by rw [List.length_map, List.length_take, List.length_map]; omega, (ks ++ extra.take n).map D.str, .inl ?_, ks ++ extra.take n, rfl, ?_⟩⟩))
  · rw [List.map_append, List.map_take]
  have el2 : extra.length = 2 := rfl
  have ndk : (ks ++ extra.take n).Nodup := by
    rw [List.nodup_append]
    refine ⟨pts.nodup_iff.mpr tnd, List.Sublist.nodup (List.take_sublist _ _) (by decide +kernel), fun a ha c hc e => ?_⟩
    exact tex a (pts.mem_iff.mp ha) (by rw [e]; exact List.mem_of_mem_take hc)
  have len7 : (ks ++ extra.take n).length ≤ 7 := by rw [List.length_append, List.length_take]; omega
  refine ⟨fun pre b2 δ2 => b2 ≤ b + 1 + 1000 * pre.length ∧ ∃ fl s3, δ2 = [.va L.sD, .va x.d, .od (.k (flK fl)), s3] ∧ Fl7 pre fl, ⟨by simp, [], _, rfl, ⟨rfl, (fun q hq => nomatch hq), (fun q hq => nomatch hq), (fun q hq => nomatch hq), (fun q hq => nomatch hq), (fun q hq => nomatch hq)⟩⟩, ?_, ?_⟩
  · rintro pre k post b2 δ2 e ⟨hb2, fl, s3, rfl, hf⟩
    have hpl : pre.length + 1 ≤ 7 := by
      have := congrArg List.length e
      rw [List.length_append (as := pre), List.length_cons] at this
      omega
    have hk : k ∉ pre := fun z => by
      rw [e, List.nodup_append] at ndk
      exact ndk.2.2 k z k List.mem_cons_self rfl
    have fll : fl.length = pre.length := by have := congrArg List.length hf.ks; simpa using this
    refine ⟨_, rfl, ?_⟩
    refine sv_dput kc (hu_of hr) 2 (ev_call D4 (hr.mono (by decide)) (eva_cons (ev_var 0 rfl (eva_cons (ev_callNew0 ok D3 (hr.mono (by decide)) (eva_cons (ev_var 0 rfl (eva_cons (ev_add (ev_int (ev_draw D1 (hr.mono (by decide)) (ev_var 0 rfl (ev_int ⟨3, rfl, rfl, by decide, by decide, by omega, fun d hd => ⟨_, _, rfl, rfl, ?_⟩⟩)))))))))))))
    refine eva_cons (ev_int (eva_cons (ev_lst (eva_nil ⟨[], rfl, by decide, eva_nil ⟨_, _, _, rfl, by omega, fun p => ⟨⟨d + 1, by omega, by omega, by omega, by omega, ?_⟩, fun b3 r3 po => ?_⟩⟩⟩))))
    · exact congrArg (fun z : Int => [Ar.va L.sD, .va (.int z), .va (.int 2), .va (spD' p)]) (by omega : (1 + (d : Int)) = ((d + 1 : Nat) : Int))
    · obtain ⟨y, hy, hyn, rfl, h1, h2⟩ := po
      refine ⟨_, rfl, ?_⟩
      have hyc : cnt y ≤ 7 := hy.cnt
      have hyd := hy.dep
      refine eva_nil ⟨rfl, ⟨y, hy.el, hy.g, by omega, by omega, rfl⟩, fun b4 r4 _ po => ?_⟩
      obtain ⟨y', z, ey, hz, rfl, g1, g2⟩ := po
      obtain rfl : y = y' := nd_inj _ _ (by injection ey with _ ey; injection ey with ey _; injection ey)
      refine ev_var 3 rfl ⟨_, _, rfl, rfl, .inl ⟨_, kS k, rfl, rfl, by unfold flK; rw [List.length_map]; omega, sv_nil ⟨by rw [List.length_append, List.length_cons, List.length_nil]; omega, fl ++ [(k, z)], .va (.str k), ?_, hf.snoc hz.el hz.g (by rw [hz.dep]; omega) (by rw [hz.cnt]; omega) (by rw [hz.hl]; exact hyn)⟩⟩⟩
      rw [putD_new]
      · unfold flK
        rw [List.map_append]
        rfl
      · unfold flK
        rw [List.map_map]
        intro y
        obtain ⟨q, h3, h4⟩ := List.mem_map.mp y
        exact hk (by rw [← hf.ks, ← kS_inj _ _ h4]; exact List.mem_map.mpr ⟨q, h3, rfl⟩)
  · rintro b2 δ2 ⟨hb2, fl, s3, rfl, hf⟩
    exact sv_retD 2 rfl ⟨rfl, x, fl, ks, n, rfl, by omega, pk, hf, rfl, by omega⟩
end
end G
set_option Elab.async false
set_option linter.all false
set_option maxRecDepth 100000
set_option maxHeartbeats 4000000
namespace PD
open PySem PySem.Spec PyProof.Rows L2
/-! ### a list of one's own, with a name, is handed to a def that takes from it: x = f(.., spare) -/
theorem Sls.toVol {K : PySem.W.Frag} {Z Z' : Vol} {os os' : List Addr} {H : Hp} {δ : List Sl} {σ : L2.St} {o : List Addr} (h : Sls K Z os H δ σ o) (hz : ∀ a, ¬ Z.S a → a ∉ os → ¬ Z'.S a ∧ a ∉ os') : Sls K Z' os' H δ σ o := by
  induction h with
  | nil => exact .nil
  | cons a _ ih =>
    refine .cons ?_ ih
    cases a with
    | un => exact .un
    | va r => exact .va r
    | ow e r => exact .ow e r
    | li e ns no r => exact .li e (hz _ ns no).1 (hz _ ns no).2 r
    | od e => exact .od e
    | dl e d => exact .dl e d
    | dm e d => exact .dm e d
    | gh h => exact .gh h
section
variable {X : Cx} {L : LC} {H0 : Hp} {b : Nat} {δ : List Sl} {F : Fin} {e : Expr} {pos p0 : Pos} {rest : List Stmt}
theorem sv_setGive (i j : Nat) {x : Str} {zs : List Str} (hi : δ[i]? = some (.ow (zs.map D.str))) (ok : L.Ok none) (okz : ∀ z ∈ zs, PyData.strOk z = true) (hb : b < (10000000000000 : Nat))
    (h : ∀ p, (L.w zs).Ok (some p) → EV ((L.w zs).C X (some p) H0) (b + (10000000000000 : Nat) * zs.length) (δ.set i (.va (spD' p))) e (fun b1 r => ∃ d, r = .va d ∧ SV (L.C X none H0) (b1 % (10000000000000 : Nat)) ((δ.set i .un).set j (.va d)) rest F)) (hN : X.N.Nodup) (hj : X.N[j]? = some x := by rfl) (hx : Loc X.env.scope x := by first | exact Or.inl rfl | exact Or.inr rfl)
    (hs : swapsWith e (some (.Name x p0)) pos.line X.env = pure false := by rfl) (hf : X.fn x = true ∨ X.env.scope.names.lookup x = some .local := by first | exact .inl rfl | exact .inr rfl) : SV (L.C X none H0) b δ (.Assign [.Name x p0] e pos :: rest) F := by
  intro os σ H st D ed
  refine WSs.of (pss_cons (ps_set hN hj hx peW hs hf) pssW) ?_
  obtain ⟨o, nd, sub, sl⟩ := id st.sl
  obtain ⟨w, oi, o', e1, a, nn, hoi, nd', sub', dis, sl'⟩ := sl.take nd hi
  cases a with | @ow p xs _ e2 ra => ?_
  obtain rfl := rpa_strsN ra
  have hp : p ∈ os := sub p (hoi p (by simp))
  have hpo : p ∉ o' := dis p (by simp)
  obtain ⟨n0, ns, _⟩ := st.new p hp
  have ns' : p ≠ L.s ∧ p ≠ L.l ∧ p ≠ L.c ∧ p ≠ L.T ∧ ∀ t ∈ L.ts, p ≠ t.1 := ⟨fun z => ns (.inl z), fun z => ns (.inr (.inl z)), fun z => ns (.inr (.inr (.inl z))), fun z => ns (.inr (.inr (.inr (.inl z)))), fun t ht z => ns (.inr (.inr (.inr (.inr (.inr ⟨t, ht, z⟩)))))⟩
  have okp : (L.w zs).Ok (some p) := ⟨ok.sl, ok.sc, ok.sT, ok.lc, ok.lT, ok.cT, fun a ha => by cases ha; exact ns', ok.tt, ok.tn, ok.few, ok.one, okz⟩
  have up : ∀ a, (lawVol L none).S a → (lawVol (L.w zs) (some p)).S a := fun a m => by
    rcases m with m | m | m | m | m | m
    · exact .inl m
    · exact .inr (.inl m)
    · exact .inr (.inr (.inl m))
    · exact .inr (.inr (.inr (.inl m)))
    · cases m
    · exact .inr (.inr (.inr (.inr (.inr m))))
  have dn : ∀ a, (lawVol (L.w zs) (some p)).S a → (lawVol L none).S a ∨ a = p := fun a m => by
    rcases m with m | m | m | m | m | m
    · exact .inl (.inl m)
    · exact .inl (.inr (.inl m))
    · exact .inl (.inr (.inr (.inl m)))
    · exact .inl (.inr (.inr (.inr (.inl m))))
    · exact .inr (Option.some.inj m)
    · exact .inl (.inr (.inr (.inr (.inr (.inr m)))))
  have j2 : (lawVol (L.w zs) (some p)).J (b + (10000000000000 : Nat) * zs.length) H := by
    have m1 : (b + (10000000000000 : Nat) * zs.length) % (10000000000000 : Nat) = b % (10000000000000 : Nat) := Nat.add_mul_mod_self_left _ _ _
    have m2 : (b + (10000000000000 : Nat) * zs.length) / (10000000000000 : Nat) = zs.length := by rw [Nat.add_mul_div_left _ _ (by decide), Nat.div_eq_of_lt hb, Nat.zero_add]
    obtain ⟨lefts, s8⟩ := st.j
    refine ⟨lefts, ?_⟩
    rw [m1, m2]
    exact ⟨s8.s, s8.c, s8.l, s8.len, s8.pos, ⟨zs, e2, rfl, (List.take_length).symm⟩, s8.tab, s8.tabs⟩
  have mf : ∀ q, q ∈ os.filter (fun q => decide (q ≠ p)) → q ∈ os ∧ q ≠ p := fun q hq => by
    obtain ⟨h1, h2⟩ := List.mem_filter.mp hq
    exact ⟨h1, of_decide_eq_true h2⟩
  have slV : Sls X.K (lawVol (L.w zs) (some p)) (os.filter fun q => decide (q ≠ p)) H (δ.set i .un) σ o' := sl'.toVol fun a n1 n2 => ⟨fun z => (dn a z).elim n1 fun y => n2 (y ▸ hp), fun z => n2 (mf a z).1⟩
  obtain ⟨o2, nd2, sub2, sl2⟩ := slV.put (i := i) (s := .va (spD' p)) (w := some (.ref p)) (q := []) nd' List.nodup_nil (fun a z => nomatch z) (.va (.obj (.l (.inl e2))))
  rw [List.set_set] at sl2
  have eσ : σ.set i (some (.ref p)) = σ := by
    obtain ⟨hl, he⟩ := List.getElem?_eq_some_iff.mp e1
    rw [← he, List.set_getElem_self]
  rw [eσ] at sl2
  have st2 : Sts ((L.w zs).C X (some p) H0) (os.filter fun q => decide (q ≠ p)) (b + (10000000000000 : Nat) * zs.length) (δ.set i (.va (spD' p))) σ H := by
    refine ⟨st.fr.wide up, j2, fun q hq => ?_, o2, nd2, fun q hq => ?_, sl2⟩
    · obtain ⟨h1, h2⟩ := mf q hq
      obtain ⟨g1, g2, g3⟩ := st.new q h1
      exact ⟨g1, fun z => (dn q z).elim g2 h2, g3⟩
    · have hq' : q ∈ o' := (sub2 q hq).elim (fun z => nomatch z) id
      exact List.mem_filter.mpr ⟨sub q (sub' q hq'), decide_eq_true fun z => hpo (z ▸ hq')⟩
  refine h p okp _ σ H st2 _ fun v H1 b1 r f1 j1 rv hr => ?_
  obtain ⟨d, rfl, q⟩ := hr
  cases rv with | va rv => ?_
  obtain ⟨lefts', s9⟩ := j1
  have j4 : (lawVol L none).J (b1 % (10000000000000 : Nat)) H1 := by
    have m1 : (b1 % (10000000000000 : Nat)) % (10000000000000 : Nat) = b1 % (10000000000000 : Nat) := by omega
    have m2 : (b1 % (10000000000000 : Nat)) / (10000000000000 : Nat) = 0 := by omega
    refine ⟨lefts', ?_⟩
    rw [m1, m2]
    exact ⟨s9.s, s9.c, s9.l, s9.len, s9.pos, rfl, s9.tab, s9.tabs⟩
  have fr3 : Fr (lawVol L none).S H0 H1 := fun a o ha => by
    have ne : a ≠ p := fun z => by rw [z] at ha; rw [show H0 p = none from n0] at ha; cases ha
    rcases st.fr a o ha with z | ⟨m, u, e3, l⟩
    · rcases f1 a o z with z2 | ⟨m, l⟩
      · exact .inl z2
      · exact .inr ⟨(dn a m).elim id fun y => absurd y ne, l⟩
    · rcases f1 a u e3 with z2 | ⟨_, v, z2, l2⟩
      · exact .inr ⟨m, u, z2, l⟩
      · exact .inr ⟨m, v, z2, l.trans l2⟩
  have no' : ∀ q ∈ o', ¬ (lawVol (L.w zs) (some p)).S q := fun q hq z => (dn q z).elim (st.new q (sub q (sub' q hq))).2.1 fun y => hpo (y ▸ hq)
  have sl3 : Sls X.K (lawVol L none) (os.filter fun q => decide (q ≠ p)) H1 (δ.set i .un) σ o' := by
    have z : Sls X.K (lawVol (L.w zs) (some p)) (os.filter fun q => decide (q ≠ p)) H1 (δ.set i .un) σ o' := slV.fr f1 no'
    exact z.toVol fun a n1 n2 => ⟨fun z => n1 (up a z), n2⟩
  have st3 : Sts (L.C X none H0) (os.filter fun q => decide (q ≠ p)) (b1 % (10000000000000 : Nat)) (δ.set i .un) σ H1 := by
    refine ⟨fr3, j4, fun q hq => ?_, o', nd', fun q hq => List.mem_filter.mpr ⟨sub q (sub' q hq), decide_eq_true fun z => hpo (z ▸ hq)⟩, sl3⟩
    obtain ⟨h1, h2⟩ := mf q hq
    obtain ⟨g1, g2, u, g3⟩ := st.new q h1
    refine ⟨g1, g2, ?_⟩
    rcases f1 q u g3 with z | ⟨_, y, z, _⟩
    · exact ⟨u, z⟩
    · exact ⟨y, z⟩
  obtain ⟨os', st', g⟩ := st3.put (i := j) (r := .va d) Fr.refl j4 (.va rv) rfl
  have g0 : Gr (lawVol L none) os H (os.filter fun q => decide (q ≠ p)) H1 := ⟨f1.wide fun a m => (dn a m).elim .inl fun y => .inr (y ▸ hp), fun q hq => .inl (mf q hq).1⟩
  exact q os' _ H1 st' D (ed.on (g0.trans g))
end
end PD
set_option Elab.async false
set_option linter.all false
set_option maxRecDepth 100000
set_option maxHeartbeats 4000000
/-! How long a repr is. -/
namespace G
open PySem PySem.Spec PyProof.Rows L2 PD
/-- it can be shown, is no deeper than n, weighs no more than W -/
structure Sh (n W : Nat) (d : D) : Prop where
  nl : d.nl = true
  sw : d.pd.showable = true
  lv : d.pd.leavesShort 13 = true
  dp : d.pd.depth ≤ n
  wt : d.pd.weight ≤ W
structure ShL (n W : Nat) (ds : List D) : Prop where
  nl : nls ds = true
  sw : PyData.showableAll (pds ds) = true
  lv : PyData.leavesShortAll 13 (pds ds) = true
  dp : PyData.depthAll (pds ds) ≤ n
  wt : PyData.weightAll (pds ds) ≤ W
theorem Sh.mono {n m W V : Nat} {d : D} (h : Sh n W d) (h1 : n ≤ m) (h2 : W ≤ V) : Sh m V d := ⟨h.nl, h.sw, h.lv, Nat.le_trans h.dp h1, Nat.le_trans h.wt h2⟩
theorem ShL.mono {n m W V : Nat} {d : List D} (h : ShL n W d) (h1 : n ≤ m) (h2 : W ≤ V) : ShL m V d := ⟨h.nl, h.sw, h.lv, Nat.le_trans h.dp h1, Nat.le_trans h.wt h2⟩
theorem shl_nil {n : Nat} : ShL n 0 [] := ⟨rfl, rfl, rfl, Nat.zero_le _, Nat.le_refl _⟩
theorem Sh.cons {n W V : Nat} {d : D} {ds : List D} (h : Sh n W d) (t : ShL n V ds) : ShL n (W + 1 + V) (d :: ds) :=
  ⟨by rw [nls, h.nl, t.nl]; rfl, by rw [pds, PyData.showableAll, h.sw, t.sw]; rfl, by rw [pds, PyData.leavesShortAll, h.lv, t.lv]; rfl, by rw [pds, PyData.depthAll]; exact Nat.max_le.mpr ⟨h.dp, t.dp⟩, by rw [pds, PyData.weightAll]; have := h.wt; have := t.wt; omega⟩
theorem sh_tup {n W : Nat} {ds : List D} (h : ShL n W ds) : Sh (n + 1) W (.tup ds) :=
  ⟨by rw [D.nl]; exact h.nl, by rw [D.pd, PyData.showable]; exact h.sw, by rw [D.pd, PyData.leavesShort]; exact h.lv, by rw [D.pd, PyData.depth]; exact Nat.succ_le_succ h.dp, by rw [D.pd, PyData.weight]; exact h.wt⟩
theorem sh_pt {n W : Nat} {ds : List D} (h : ShL n W ds) : Sh (n + 1) W (.pt ds) :=
  ⟨by rw [D.nl]; exact h.nl, by rw [D.pd, PyData.showable]; exact h.sw, by rw [D.pd, PyData.leavesShort]; exact h.lv, by rw [D.pd, PyData.depth]; exact Nat.succ_le_succ h.dp, by rw [D.pd, PyData.weight]; exact h.wt⟩
theorem sh_str {x : Str} {k : Nat} (h : okS x = true) (l : x.length ≤ k) : Sh 0 k (.str x) := by
  refine ⟨rfl, rfl, ?_, Nat.le_refl _, l⟩
  refine PyData.leavesShort_of_canLay0 13 (.str x) ?_ rfl
  exact okS_1 h
theorem shl_all {n w : Nat} : ∀ {ds : List D}, (∀ d ∈ ds, Sh n w d) → ShL n ((w + 1) * ds.length) ds
  | [], _ => shl_nil
  | d :: ds, h => (Sh.cons (h d List.mem_cons_self) (shl_all fun e he => h e (List.mem_cons_of_mem _ he))).mono (Nat.le_refl _) (by rw [List.length_cons, Nat.mul_succ]; omega)
/-! ### how long the names are -/
theorem mdo_len {s : Str} {lo : Int} {hi : Nat} {x : Str} (h : mdo s lo (hi : Int) (.str x) = true) : x.length ≤ hi := by
  unfold mdo at h
  simp only [Bool.and_eq_true, decide_eq_true_eq] at h
  exact Int.ofNat_le.mp h.1.2
theorem gP_len {x : Str} (h : gP x = true) : x.length ≤ 8 := mdo_len (s := letters) (lo := 0) (Bool.and_eq_true_iff.mp (Bool.and_eq_true_iff.mp h).1).1
theorem gL_len {x : Str} (h : gL x = true) : x.length ≤ 8 := mdo_len (s := letters) (lo := 1) (Bool.and_eq_true_iff.mp (Bool.and_eq_true_iff.mp h).1).1
theorem empty_len {x : Str} (h : isEmptyS (.str x) = true) : x.length = 0 := by
  unfold isEmptyS at h
  have h : decide ((x.length : Int) = 0) = true := h
  have := of_decide_eq_true h
  omega
theorem gA_len {x : Str} (h : gA x = true) : x.length ≤ 20 := by
  rcases Bool.or_eq_true_iff.mp (Bool.and_eq_true_iff.mp h).1 with h | h
  · exact mdo_len (s := addrS) (lo := 1) h
  · have := empty_len h; omega
theorem gW_len {x : Str} (h : gW x = true) : x.length ≤ 8 := by
  have := (Bool.and_eq_true_iff.mp h).1
  unfold isHole at this
  exact mdo_len (s := letters) (lo := 1) (Bool.and_eq_true_iff.mp this).2
theorem gTx_len {x : Str} (h : gTx x = true) : x.length ≤ 20 := mdo_len (s := plainS) (lo := 0) (Bool.and_eq_true_iff.mp (Bool.and_eq_true_iff.mp h).1).2
theorem sh_nm {p l : Str} (h1 : okS p = true) (h2 : okS l = true) (l1 : p.length ≤ 20) (l2 : l.length ≤ 8) : Sh 1 30 (nmD p l) := (sh_tup ((sh_str h1 l1).cons ((sh_str h2 l2).cons shl_nil))).mono (Nat.le_refl _) (by omega)
theorem sh_val {v : Vl} (h : gV v = true) : Sh 1 30 v.d := by
  cases v with
  | s x =>
    have h1 := Bool.and_eq_true_iff.mp h
    exact (sh_str (k := 20) h1.2 (mdo_len (s := plainS) (lo := 0) h1.1)).mono (by omega) (by omega)
  | q p l =>
    have h1 := Bool.and_eq_true_iff.mp h
    exact sh_nm (gP_ok h1.1) (gL_ok h1.2) (by have := gP_len h1.1; omega) (gL_len h1.2)
theorem okS_el7 : Sh 0 7 (.str "element") := sh_str (by decide +kernel) (by decide +kernel)
theorem okS_ho4 : Sh 0 4 (.str "hole") := sh_str (by decide +kernel) (by decide +kernel)
theorem sh_atr {q : (Str × Str) × Vl} (h : gP q.1.1 = true ∧ gL q.1.2 = true ∧ gV q.2 = true) : Sh 2 62 (atrD q) :=
  (sh_tup (((sh_nm (gP_ok h.1) (gL_ok h.2.1) (by have := gP_len h.1; omega) (gL_len h.2.1)).cons ((sh_val h.2.2).cons shl_nil)))).mono (Nat.le_refl _) (by omega)
theorem sh_dcl {q : Str × Str} (h : gP q.1 = true ∧ gA q.2 = true) : Sh 1 30 (dclD q) :=
  (sh_tup (((sh_str (gP_ok h.1) (gP_len h.1)).cons ((sh_str (gA_ok h.2) (gA_len h.2)).cons shl_nil)))).mono (Nat.le_refl _) (by omega)
/-! ### parts -/
mutual
theorem nd_sh : ∀ x : Nd, GB x = true → Sh (2 * x.dep + 3) (3500 * cnt x + 20) x.d
  | .s t, h => by
    rw [GB] at h
    rw [Nd.d]
    exact (sh_str (gTx_ok h) (gTx_len h)).mono (by omega) (by omega)
  | .h t, h => by
    rw [GB] at h
    rw [Nd.d]
    exact (sh_tup (okS_ho4.cons ((sh_str (gW_ok h) (gW_len h)).cons shl_nil))).mono (by omega) (by omega)
  | .el p l ds as cs, h => by
    have g := gb_el.mp h
    have k := nds_sh cs g.hc
    have h1 : Sh 1 30 (nmD p l) := sh_nm (gP_ok g.p) (gL_ok g.l) (by have := gP_len g.p; omega) (gL_len g.l)
    have h2 : Sh 2 (31 * (ds.map dclD).length) (.pt (ds.map dclD)) := sh_pt (shl_all fun d hd => by
      obtain ⟨q, hq, rfl⟩ := List.mem_map.mp hd
      exact sh_dcl (g.hd q hq))
    have h3 : Sh 3 (63 * (as.map atrD).length) (.tup (as.map atrD)) := sh_tup (shl_all fun d hd => by
      obtain ⟨q, hq, rfl⟩ := List.mem_map.mp hd
      exact sh_atr (g.ha q hq))
    rw [List.length_map] at h2 h3
    have n1 := g.nd
    have n2 := g.na
    have n3 := g.nc
    rw [Nd.d, cnt, Nd.dep]
    refine (sh_tup ((okS_el7.mono (Nat.zero_le (2 * ndsDep cs + 4)) (Nat.le_refl _)).cons ((h1.mono (by omega) (Nat.le_refl _)).cons ((h2.mono (by omega) (Nat.le_refl _)).cons ((h3.mono (by omega) (Nat.le_refl _)).cons ((sh_tup k).cons shl_nil)))))).mono (by omega) (by omega)
theorem nds_sh : ∀ cs : List Nd, (∀ c ∈ cs, GB c = true) → ShL (2 * ndsDep cs + 3) (21 * cs.length + 3500 * cnts cs) (ndsD cs)
  | [], _ => by rw [ndsD]; exact shl_nil.mono (Nat.zero_le _) (Nat.zero_le _)
  | c :: cs, h => by
    have h1 := nd_sh c (h c List.mem_cons_self)
    have h2 := nds_sh cs fun e he => h e (List.mem_cons_of_mem _ he)
    rw [ndsD, ndsDep, cnts, List.length_cons]
    exact ((h1.mono (by omega) (Nat.le_refl _)).cons (h2.mono (by omega) (Nat.le_refl _))).mono (Nat.le_refl _) (by omega)
end
/-! ### what they mean -/
/-- good addresses -/
def AdrOk (A : Af) : Prop := ∀ p, okS (A p) = true ∧ (A p).length ≤ 20
theorem bnd_adr {ds : List (Str × Str)} {A : Af} (hd : ∀ q ∈ ds, gA q.2 = true) (hA : AdrOk A) : AdrOk (bndA ds A) := by
  induction ds generalizing A with
  | nil => exact hA
  | cons q ds ih =>
    refine ih (fun r hr => hd r (List.mem_cons_of_mem _ hr)) fun p => ?_
    by_cases h : p = q.1
    · simp only [h, if_pos]
      exact ⟨gA_ok (hd q List.mem_cons_self), gA_len (hd q List.mem_cons_self)⟩
    · simp only [h, if_neg]
      exact hA p
theorem adr_of {A : Af} (hA : AdrOk A) (p : Str) : okS (addrOf A p) = true ∧ (addrOf A p).length ≤ 20 := by
  unfold addrOf
  split
  · exact ⟨by decide +kernel, by decide +kernel⟩
  · exact hA p
theorem sh_row {A : Af} (hA : AdrOk A) {q : (Str × Str) × Vl} (h : gP q.1.1 = true ∧ gL q.1.2 = true ∧ gV q.2 = true) : Sh 2 62 (rowQ A q) := by
  have h1 := adr_of hA q.1.1
  have hv : Sh 1 30 (valQ A q.2) := by
    cases q with
    | mk a v =>
      cases v with
      | s x =>
        have := sh_val h.2.2
        exact this
      | q p l =>
        have h2 := Bool.and_eq_true_iff.mp h.2.2
        exact sh_nm (hA p).1 (gL_ok h2.2) (hA p).2 (gL_len h2.2)
  exact (sh_tup ((sh_nm h1.1 (gL_ok h.2.1) h1.2 (gL_len h.2.1)).cons (hv.cons shl_nil))).mono (Nat.le_refl _) (by omega)
mutual
theorem meanF_sh {Φ : Str → Nd} {m V : Nat} : ∀ (x : Nd) (A : Af) (d : D), GB x = true → AdrOk A → (∀ z ∈ hlW x, ∀ B e, AdrOk B → meanQ B (Φ z) = some e → Sh m V e) → meanF A Φ x = some d → Sh (2 * x.dep + 3 + m) (3500 * cnt x + 20 + (V + 1) * (hlW x).length) d
  | .s t, A, d, h, _, _, e => by
    rw [GB] at h
    rw [meanF] at e
    rw [← Option.some.inj e]
    exact (sh_str (gTx_ok h) (gTx_len h)).mono (by omega) (by omega)
  | .h t, A, d, _, hA, hf, e => by
    rw [meanF] at e
    rw [hlW] at hf ⊢
    exact (hf t (List.mem_singleton.mpr rfl) A d hA e).mono (by omega) (by simp; omega)
  | .el p lo ds as cs, A, d, h, hA, hf, e => by
    have g := gb_el.mp h
    have hB := bnd_adr (fun q hq => (g.hd q hq).2) hA
    rw [meanF] at e
    split at e
    · cases e
    · cases ea : attQ (bndA ds A) [] as with
      | none => rw [ea] at e; cases e
      | some rows =>
        rw [ea] at e
        cases em : meansF (bndA ds A) Φ cs with
        | none => rw [em] at e; cases e
        | some ins =>
          rw [em] at e
          have k := meansF_sh cs (bndA ds A) ins g.hc hB (fun z hz => hf z (by rw [hlW]; exact hz)) em
          have h1 : Sh 1 30 (.tup [.str (bndA ds A p), .str lo]) := sh_nm (hB p).1 (gL_ok g.l) (hB p).2 (gL_len g.l)
          have h3 : Sh 3 (63 * (srtBy fstOf rows).length) (.tup (srtBy fstOf rows)) := sh_tup (shl_all fun d hd => by
            have hd := srt_mem.mp hd
            rw [attQ_mem as [] rows ea] at hd
            obtain ⟨q, hq, rfl⟩ := List.mem_map.mp hd
            exact sh_row hB (g.ha q hq))
          have hl : (srtBy fstOf rows).length = as.length := by
            rw [show (srtBy fstOf rows).length = rows.length from (List.mergeSort_perm _ _).length_eq, attQ_mem as [] rows ea, List.length_map]
          rw [hl] at h3
          have n2 := g.na
          have n3 := g.nc
          rw [← Option.some.inj e, cnt, Nd.dep, hlW]
          refine (sh_tup ((okS_el7.mono (Nat.zero_le (2 * ndsDep cs + 4 + m)) (Nat.le_refl _)).cons ((h1.mono (by omega) (Nat.le_refl _)).cons ((h3.mono (by omega) (Nat.le_refl _)).cons (((sh_tup k).mono (by omega) (Nat.le_refl _)).cons shl_nil))))).mono (by omega) (by omega)
theorem meansF_sh {Φ : Str → Nd} {m V : Nat} : ∀ (cs : List Nd) (A : Af) (ins : List D), (∀ c ∈ cs, GB c = true) → AdrOk A → (∀ z ∈ hlWs cs, ∀ B e, AdrOk B → meanQ B (Φ z) = some e → Sh m V e) → meansF A Φ cs = some ins → ShL (2 * ndsDep cs + 3 + m) (21 * cs.length + 3500 * cnts cs + (V + 1) * (hlWs cs).length) ins
  | [], A, ins, _, _, _, e => by
    rw [meansF] at e
    rw [← Option.some.inj e]
    exact shl_nil.mono (Nat.zero_le _) (Nat.zero_le _)
  | c :: cs, A, ins, h, hA, hf, e => by
    rw [meansF] at e
    cases ec : meanF A Φ c with
    | none => rw [ec] at e; cases e
    | some d =>
      rw [ec] at e
      obtain ⟨es, e1, e2⟩ := Option.map_eq_some_iff.mp e
      have h1 := meanF_sh c A d (h c List.mem_cons_self) hA (fun z hz => hf z (by rw [hlWs]; exact List.mem_append_left _ hz)) ec
      have h2 := meansF_sh cs A es (fun x hx => h x (List.mem_cons_of_mem _ hx)) hA (fun z hz => hf z (by rw [hlWs]; exact List.mem_append_right _ hz)) e1
      rw [← e2, ndsDep, cnts, hlWs, List.length_cons, List.length_append, Nat.mul_add (V + 1)]
      exact ((h1.mono (by omega) (Nat.le_refl _)).cons (h2.mono (by omega) (Nat.le_refl _))).mono (Nat.le_refl _) (by omega)
end
theorem meanQ_sh {x : Nd} {B : Af} {e : D} (g : GB x = true) (no : hlW x = []) (hB : AdrOk B) (h : meanQ B x = some e) : Sh (2 * x.dep + 3) (3500 * cnt x + 20) e := by
  rw [← meanF_no (fun _ => x) x B ((hlW_no x).mp no)] at h
  have := meanF_sh (m := 0) (V := 0) x B e g hB (fun z hz => by rw [no] at hz; cases hz) h
  rw [no] at this
  exact this
/-- the repr of what is told -/
theorem shw_mean {n : Nat} {d : D} {W k : Nat} (c : Cm n d) (hn : n ≤ 64) (s : Sh k W d) (hw : W ≤ 1048576) : d.shw = true := by
  unfold D.shw
  rw [c.sh hn, s.sw, decide_eq_true (PyData.shown_fits (B := 13) (by decide) (by decide) s.lv (Nat.le_trans s.wt hw))]
  rfl
/-! ### dicts -/
theorem kv_sh {n w k : Nat} : ∀ {kvs : List (Key × D)}, (∀ q ∈ kvs, ∃ x, q.1 = .inr x ∧ okS x = true ∧ x.length ≤ k) → (∀ q ∈ kvs, Sh n w q.2) →
    nls (kvs.map (·.2)) = true ∧ PyData.showableKv (kvs.map fun q => (kP q.1, q.2.pd)) = true ∧ PyData.leavesShortKv 13 (kvs.map fun q => (kP q.1, q.2.pd)) = true ∧ PyData.depthKv (kvs.map fun q => (kP q.1, q.2.pd)) ≤ n ∧ PyData.weightKv (kvs.map fun q => (kP q.1, q.2.pd)) ≤ (k + w + 2) * kvs.length
  | [], _, _ => ⟨rfl, rfl, rfl, Nat.zero_le _, Nat.zero_le _⟩
  | q :: kvs, hk, hd => by
    obtain ⟨x, e, h1, h2⟩ := hk q List.mem_cons_self
    have s1 := hd q List.mem_cons_self
    have s0 := sh_str h1 h2
    obtain ⟨i1, i2, i3, i4, i5⟩ := kv_sh (kvs := kvs) (fun r hr => hk r (List.mem_cons_of_mem _ hr)) fun r hr => hd r (List.mem_cons_of_mem _ hr)
    have ek : kP q.1 = (D.str x).pd := by rw [e]; rfl
    have d0 : (kP q.1).depth = 0 := by rw [e]; rfl
    refine ⟨by rw [List.map_cons, nls, s1.nl, i1]; rfl, ?_, ?_, ?_, ?_⟩
    · rw [List.map_cons, PyData.showableKv, ek, s0.sw, s1.sw, i2]; rfl
    · rw [List.map_cons, PyData.leavesShortKv, ek, s0.lv, s1.lv, i3]; rfl
    · rw [List.map_cons, PyData.depthKv, d0]
      have := s1.dp
      omega
    · rw [List.map_cons, PyData.weightKv, ek, List.length_cons, Nat.mul_succ]
      have := s0.wt
      have := s1.wt
      omega
/-- repr([a part, a surrounding, a filling]) -/
theorem shwL_of {x : Nd} {W : Bd} {fl : Fl} (hx : GB x = true) (dx : x.dep ≤ 8) (cx : cnt x ≤ 60) (hW : ∀ q ∈ W, gP q.1 = true ∧ gA q.2 = true) (lW : W.length ≤ 50) (hk : ∀ q ∈ fl, gW q.1 = true) (hf : ∀ q ∈ fl, GB q.2 = true) (df : ∀ q ∈ fl, q.2.dep ≤ 8) (cf : ∀ q ∈ fl, cnt q.2 ≤ 12) (lf : fl.length ≤ 10) : shwL [x.d, suD W, flD fl] = true := by
  have s1 := nd_sh x hx
  obtain ⟨a1, a2, a3, a4, a5⟩ := kv_sh (n := 0) (w := 20) (k := 8) (kvs := suK W) (fun q hq => by
    unfold suK at hq
    obtain ⟨r, hr, rfl⟩ := List.mem_map.mp hq
    exact ⟨r.1, rfl, gP_ok (hW r hr).1, gP_len (hW r hr).1⟩) fun q hq => by
    unfold suK at hq
    obtain ⟨r, hr, rfl⟩ := List.mem_map.mp hq
    exact sh_str (gA_ok (hW r hr).2) (gA_len (hW r hr).2)
  obtain ⟨b1, b2, b3, b4, b5⟩ := kv_sh (n := 19) (w := 42020) (k := 8) (kvs := flK fl) (fun q hq => by
    unfold flK at hq
    obtain ⟨r, hr, rfl⟩ := List.mem_map.mp hq
    exact ⟨r.1, rfl, gW_ok (hk r hr), gW_len (hk r hr)⟩) fun q hq => by
    unfold flK at hq
    obtain ⟨r, hr, rfl⟩ := List.mem_map.mp hq
    exact (nd_sh r.2 (hf r hr)).mono (by have := df r hr; omega) (by have := cf r hr; omega)
  have la : (suK W).length ≤ 50 := by unfold suK; rw [List.length_map]; exact lW
  have lb : (flK fl).length ≤ 10 := by unfold flK; rw [List.length_map]; exact lf
  have e1 : (x.d).rd = x.d.pd := by cases x <;> (rw [Nd.d]; rfl)
  have e2 : (suD W).rd = .dict ((suK W).map fun q => (kP q.1, q.2.pd)) := rfl
  have e3 : (flD fl).rd = .dict ((flK fl).map fun q => (kP q.1, q.2.pd)) := rfl
  have k1 : x.d.rk = true := by cases x <;> (rw [Nd.d]; rw [Nd.d] at s1; exact s1.nl)
  have p1 := s1.dp
  have p2 := s1.wt
  have w1 : (8 + 20 + 2) * (suK W).length ≤ 30 * 50 := Nat.mul_le_mul (by decide) la
  have w2 : (8 + 42020 + 2) * (flK fl).length ≤ 42030 * 10 := Nat.mul_le_mul (by decide) lb
  unfold shwL
  have em : [x.d, suD W, flD fl].map D.rd = [x.d.pd, .dict ((suK W).map fun q => (kP q.1, q.2.pd)), .dict ((flK fl).map fun q => (kP q.1, q.2.pd))] := by
    rw [List.map_cons, List.map_cons, List.map_cons, List.map_nil, e1, e2, e3]
  rw [em]
  have g1 : [x.d, suD W, flD fl].all D.rk = true := by
    rw [List.all_cons, List.all_cons, List.all_cons, List.all_nil, k1, show (suD W).rk = true from a1, show (flD fl).rk = true from b1]
    rfl
  have g2 : (PyData.list [x.d.pd, .dict ((suK W).map fun q => (kP q.1, q.2.pd)), .dict ((flK fl).map fun q => (kP q.1, q.2.pd))]).showable = true := by
    rw [PyData.showable, PyData.showableAll, PyData.showableAll, PyData.showableAll, PyData.showableAll, PyData.showable, PyData.showable, s1.sw, a2, b2]
    rfl
  have g3 : (PyData.list [x.d.pd, .dict ((suK W).map fun q => (kP q.1, q.2.pd)), .dict ((flK fl).map fun q => (kP q.1, q.2.pd))]).depth ≤ 64 := by
    rw [PyData.depth, PyData.depthAll, PyData.depthAll, PyData.depthAll, PyData.depthAll, PyData.depth, PyData.depth]
    omega
  have g4 : (PyData.list [x.d.pd, .dict ((suK W).map fun q => (kP q.1, q.2.pd)), .dict ((flK fl).map fun q => (kP q.1, q.2.pd))]).leavesShort 13 = true := by
    rw [PyData.leavesShort, PyData.leavesShortAll, PyData.leavesShortAll, PyData.leavesShortAll, PyData.leavesShortAll, PyData.leavesShort, PyData.leavesShort, s1.lv, a3, b3]
    rfl
  have g5 : (PyData.list [x.d.pd, .dict ((suK W).map fun q => (kP q.1, q.2.pd)), .dict ((flK fl).map fun q => (kP q.1, q.2.pd))]).weight ≤ 2 ^ 20 := by
    rw [PyData.weight, PyData.weightAll, PyData.weightAll, PyData.weightAll, PyData.weightAll, PyData.weight, PyData.weight]
    have : (2 : Nat) ^ 20 = 1048576 := by decide
    omega
  rw [g1, g2, decide_eq_true g3, decide_eq_true (PyData.shown_fits (B := 13) (by decide) (by decide) g4 g5)]
  rfl
end G
set_option Elab.async false
set_option linter.all false
set_option maxRecDepth 100000
set_option maxHeartbeats 4000000
/-! _law_right. -/
namespace G
open PySem PySem.Spec PyProof.Rows L2 PD
mutual
theorem nl_nfz : ∀ d : D, d.nl = true → d.nfz = true
  | .non, _ => rfl
  | .bl _, _ => rfl
  | .int _, _ => rfl
  | .str _, _ => rfl
  | .tup ds, h => by rw [D.nl] at h; rw [D.nfz]; exact nls_nfzs ds h
  | .pt ds, h => by rw [D.nl] at h; rw [D.nfz]; exact nls_nfzs ds h
  | .lst _, h => by rw [D.nl] at h; cases h
  | .obj _ _, h => by rw [D.nl] at h; cases h
  | .dk _, h => by rw [D.nl] at h; cases h
  | .dt _, h => by rw [D.nl] at h; cases h
theorem nls_nfzs : ∀ ds : List D, nls ds = true → nfzs ds = true
  | [], _ => rfl
  | d :: ds, h => by
    rw [nls, Bool.and_eq_true] at h
    rw [nfzs, nl_nfz d h.1, nls_nfzs ds h.2]
    rfl
end
def sp5 : List Str := ["k", "h", "xmlns", "hole", "z"]
theorem sp5_sub {ts : List Str} (h : ts.Sublist sp5) : ts.Nodup ∧ ts.length ≤ 5 ∧ ∀ z ∈ ts, gW z = true ∧ z ∉ extra := by
  have h1 : sp5.Nodup := by decide +kernel
  have h2 : (sp5.all fun z => gW z && !decide (z ∈ extra)) = true := by decide +kernel
  refine ⟨h.nodup h1, h.length_le, fun z hz => ?_⟩
  have := List.all_eq_true.mp h2 z (h.subset hz)
  simpa using this
theorem tkn_sub (sp : List Str) (k j : Nat) : (tkn sp k j).Sublist sp := (List.drop_sublist _ _).trans (List.take_sublist _ _)
theorem Wd7.adr {W : Bd} (h : Wd7 W) : AdrOk (getB W) := fun p => by
  unfold getB valB
  cases e : W.find? (fun q => decide (q.1 = p)) with
  | none => exact ⟨by decide +kernel, by decide +kernel⟩
  | some q => exact ⟨gA_ok (h.g q (List.mem_of_find?_eq_some e)).2, gA_len (h.g q (List.mem_of_find?_eq_some e)).2⟩
theorem mean_box {A : Af} {Φ : Str → Nd} {x : Nd} (hel : x.isEl = true) : mnD (meanF A Φ x) = .non ∨ (mnD (meanF A Φ x)).box = true := by
  obtain ⟨p, l, ds, as, cs, rfl⟩ := el_of hel
  cases h : meanF A Φ (.el p l ds as cs) with
  | none => exact .inl rfl
  | some d =>
    refine .inr ?_
    rw [meanF] at h
    split at h
    · cases h
    · split at h
      · cases h
      · split at h
        · cases h
        · rw [← Option.some.inj h]; rfl
/-- what there is to know of a drawn part, a drawn surrounding, a drawn filling -/
structure F7 (x : Nd) (W : Bd) (fl : Fl) : Prop where
  gp : GP x
  wl : Wlk x
  mg : MgOk 7 15 ((x, W), fl)
  rd : RdOk 7 15 ((x, W), fl)
  box : mnD (meanF (getB W) (flF fl) x) = .non ∨ (mnD (meanF (getB W) (flF fl) x)).box = true
  shw : (mnD (meanF (getB W) (flF fl) x)).shw = true
  nfz : (mnD (meanF (getB W) (flF fl) x)).nfz = true
  shl : shwL [x.d, suD W, flD fl] = true
  zero : hlW x = [] → M0Ok 15 (x, W) ∧ meanF (getB W) (flF []) x = meanF (getB W) (flF fl) x
theorem mean_all {x : Nd} {W : Bd} {fl : Fl} {H N : Nat} (hx : GP x) (hd : x.dep + H ≤ 15) (hN : x.dep + H ≤ N) (hH : H ≤ 8) (cx : cnt x ≤ 60) (hA : AdrOk (getB W)) (hWl : W.length ≤ 100) (hg : ∀ q ∈ fl, GB q.2 = true) (hel : ∀ q ∈ fl, q.2.isEl = true) (hno : ∀ q ∈ fl, hlW q.2 = []) (hdq : ∀ q ∈ fl, q.2.dep ≤ H) (hc : ∀ q ∈ fl, cnt q.2 ≤ 12) (hh : (hlW x).length ≤ 5) (hin : ∀ z ∈ hlW x, z ∈ fl.map (·.1)) :
    RdOk H N ((x, W), fl) ∧ (mnD (meanF (getB W) (flF fl) x)).shw = true ∧ (mnD (meanF (getB W) (flF fl) x)).nfz = true ∧ Cm 40 (mnD (meanF (getB W) (flF fl) x)) := by
  have hdx : hdp H x ≤ x.dep + H := by unfold G.hdp; split <;> omega
  have hok := gb_ok x hx.g
  have ho : ∀ q ∈ fl, q.2.ok = true := fun q hq => gb_ok q.2 (hg q hq)
  have rd : RdOk H N ((x, W), fl) := ⟨hok, Nat.le_trans hdx hN, by show W.length + 50 * G.hdp H x ≤ 100000; omega, fun p => (hA p).1, ⟨hel, ho, fun q hq => (hlW_no q.2).mp (hno q hq), hdq⟩, hin⟩
  refine ⟨rd, ?_⟩
  cases e : meanF (getB W) (flF fl) x with
  | none => exact ⟨by decide +kernel, rfl, cm_non.mono (by decide)⟩
  | some d =>
    have cm : Cm 40 d := (meanF_cm (H := H) x _ d hok (fun p => (hA p).1) (fun z hz => by
      obtain ⟨q, hq, eq⟩ := flF_mem (hin z hz)
      rw [eq]
      exact ⟨ho q hq, hdq q hq⟩) e).mono (by omega)
    have sh := meanF_sh (m := 2 * H + 3) (V := 42020) x (getB W) d hx.g hA (fun z hz B r hB hr => by
      obtain ⟨q, hq, eq⟩ := flF_mem (hin z hz)
      rw [eq] at hr
      exact (meanQ_sh (hg q hq) (hno q hq) hB hr).mono (by have := hdq q hq; omega) (by have := hc q hq; omega)) e
    have w1 : (42020 + 1) * (hlW x).length ≤ 42021 * 5 := Nat.mul_le_mul_left _ hh
    exact ⟨shw_mean cm (by decide) sh (by omega), nl_nfz d sh.nl, cm⟩
theorem f7_of {ts ks : List Str} {n : Nat} {x : Nd} {W : Bd} {fl : Fl} (hts : ts.Sublist sp5) (hx : Pt7 ts x) (hW : Wd7 W) (pk : ks.Perm (hlW x)) (hf : Fl7 (ks ++ extra.take n) fl) : F7 x W fl := by
  obtain ⟨t1, t2, t3⟩ := sp5_sub hts
  have hlp := hl_perm x hx.el
  have hc := hx.cnt
  have hd := hx.dep
  have hlen : (hlW x).length ≤ 5 := by rw [hx.hl.length_eq]; exact t2
  have gp : GP x := ⟨hx.el, hx.g, by omega, by omega, hlp.nodup_iff.mpr (hx.hl.nodup_iff.mpr t1), by rw [hlp.length_eq]; omega⟩
  have hin : ∀ z ∈ hlW x, z ∈ fl.map (·.1) := fun z hz => by
    rw [hf.ks]
    exact List.mem_append_left _ (pk.mem_iff.mpr hz)
  have hkw : ∀ q ∈ fl, gW q.1 = true := fun q hq => by
    have : q.1 ∈ fl.map (·.1) := List.mem_map.mpr ⟨q, hq, rfl⟩
    rw [hf.ks] at this
    rcases List.mem_append.mp this with h | h
    · exact (t3 _ (hx.hl.mem_iff.mp (pk.mem_iff.mp h))).1
    · have h2 : extra.all gW = true := by decide +kernel
      exact List.all_eq_true.mp h2 _ (List.mem_of_mem_take h)
  have hgp : ∀ q ∈ fl, GP q.2 := fun q hq => by
    have e0 : hlL q.2 = [] := List.Perm.eq_nil ((hf.no q hq) ▸ hl_perm q.2 (hf.el q hq))
    have h1 := hf.dep q hq
    have h2 := hf.cnt q hq
    exact ⟨hf.el q hq, hf.g q hq, by omega, by omega, by rw [e0]; exact List.nodup_nil, by rw [e0]; exact Nat.zero_le _⟩
  have hWl := hW.few
  obtain ⟨rd, s1, s2, s3⟩ := mean_all (H := 7) (N := 15) (W := W) gp (by omega) (by omega) (by decide) (by omega) hW.adr (by omega) hf.g hf.el hf.no (fun q hq => by have := hf.dep q hq; omega) (fun q hq => by have := hf.cnt q hq; omega) hlen hin
  have fln : fl.length ≤ 10 := by
    have := congrArg List.length hf.ks
    rw [List.length_map, List.length_append, List.length_take, pk.length_eq] at this
    have : extra.length = 2 := rfl
    omega
  refine ⟨gp, gb_wlk hx.el hx.g (by omega) (by omega), ⟨gp_prt gp, hW.su, hW.oks, ⟨hkw, hgp, hf.no⟩, fun q hq => by have := hf.dep q hq; omega, rd.dep, hin⟩, rd, mean_box hx.el, s1, s2, ?_, fun h0 => ⟨⟨gp_prt gp, hW.su, hW.oks, by show x.dep ≤ 15; omega, h0⟩, ?_⟩⟩
  · exact shwL_of hx.g (by omega) (by omega) hW.g (by omega) hkw hf.g (fun q hq => by have := hf.dep q hq; omega) (fun q hq => by have := hf.cnt q hq; omega) fln
  · rw [meanF_no _ x _ ((hlW_no x).mp h0), meanF_no _ x _ ((hlW_no x).mp h0)]
section
variable {P : Program} {w : World} {K : PySem.W.Frag} {mg : Str → Option Value} {base : Heap} {Z : Vol} {f : Addr} {fd : FuncData}
abbrev DMg3 (P : Program) (w : World) (K : PySem.W.Frag) (mg : Str → Option Value) (base : Heap) (Z : Vol) := Df P w K mg base "meaning" 37 ["part", "surrounding", "filling"] (spP Z K 3 (gMx 7 15))
structure DsR7 (P : Program) (w : World) (K : PySem.W.Frag) (mg : Str → Option Value) (base : Heap) (L : LC) : Prop where
  draw : DDraw P w K mg base L none
  part : ∀ n p, (L.w (sp5.take n)).Ok (some p) → Df P w K mg base "_law_part" 10 ["state", "spare"] (spD (lawVol (L.w (sp5.take n)) (some p)) K 2 (prePt (L.w (sp5.take n)) p) (postPt (L.w (sp5.take n))))
  wld : DW7 P w K mg base L
  fil : DFi P w K mg base L
  lho : DLho P w K mg base (lawVol L none)
  mf : DMf P w K mg base (lawVol L none) 7 15
  mg3 : DMg3 P w K mg base (lawVol L none)
  mgN : DfN P w K mg base "meaning" 37 ["part", "surrounding", "filling"] (spP (lawVol L none) K 3 (gMx 7 15)) 2 "filling"
  mgD : DfD P w K mg base "meaning" 37 ["part", "surrounding", "filling"] (spP (lawVol L none) K 3 (gM0 15)) [.non]
abbrev preR7 (L : LC) (b : Nat) (as : List Ar) : Prop := b ≤ 100000000 ∧ ∃ m : Nat, 1 ≤ m ∧ m ≤ 1000 ∧ as = [.va L.sD, .va (.int (m : Int))]
abbrev postR7 (b b' : Nat) (r : Res) : Prop := r = .va (.bl true) ∧ b' ≤ b + 20000
abbrev DR7 (P : Program) (w : World) (K : PySem.W.Frag) (mg : Str → Option Value) (base : Heap) (L : LC) := DfG P w K mg base "_law_right" 38 ["state", "many"] (spD (lawVol L none) K 2 (preR7 L) fun b _ b' r => postR7 b b' r)
abbrev sR7 : Stmt := st__law_right
abbrev nmR7 : List Str := ["state", "many", "spare", "part", "world", "fill", "kept", "due", "told", "one"]
theorem filt_none {d : D} {n : Nat} : ((List.replicate n d).filter fun _ => false) = [] := by
  rw [List.filter_eq_nil_iff]
  exact fun _ _ z => nomatch z
theorem ok_r7 {L : LC} (F : Fun K "_law_right" "_law_right" sR7 f fd) (T : Cst mg) (kc : KC K) (ok : L.Ok none) (G0 : DsR7 P w K mg base L) : FnG P w K mg base 38 f fd ["state", "many"] (spD (lawVol L none) K 2 (preR7 L) fun b _ b' r => postR7 b b' r) := by
  have sc : FnScope nmR7 ["state", "many"] (defScope sR7) := ⟨rfl, rfl, rfl, by decide +kernel, rfl, by decide +kernel, by decide +kernel⟩
  refine fn_bodyG F sc rfl fun cdv A outer s H E b as gd hr hl hp => ?_
  obtain ⟨hb, m, hm1, hm2, rfl⟩ := hp
  have b0 := T.blt (cxOf CX0 P w K mg base nmR7 "_law_right" (defScope sR7) f cdv A outer s H E).nox rfl
  have hu66 : (A.deeper (envOfC "_law_right" (defScope sR7) s.heap.objs.size f cdv)).units + 66 < cLine := by have := hr.un; omega
  have hu := hu_of hr
  have hZ := thaw_law L
  refine sv_set 2 (ev_take (ev_lst (eva_cons (ev_str (eva_cons (ev_str (eva_cons (ev_str (eva_cons (ev_str (eva_cons (ev_str (eva_nil ⟨sp5.map D.str, rfl, by decide, ?_⟩))))))))))))) sc.nd
  refine ev_draw G0.draw (hr.mono (by decide)) (ev_var 0 rfl (ev_int ⟨6, rfl, rfl, by decide, by decide, by omega, fun n hn => ⟨_, n, rfl, rfl, _, rfl, ?_⟩⟩))
  rw [← List.map_take]
  have sub5 : (sp5.take n).Sublist sp5 := List.take_sublist _ _
  obtain ⟨z1, z2, z3⟩ := sp5_sub sub5
  refine sv_setGive 2 3 (zs := sp5.take n) rfl ok (fun z hz => okS_1 (gW_ok (z3 z hz).1)) (by omega) (fun p okp => ?_) sc.nd
  have mm : (b + 1 + 10000000000000 * (sp5.take n).length) % 10000000000000 = b + 1 := by omega
  have mq : (b + 1 + 10000000000000 * (sp5.take n).length) / 10000000000000 = (sp5.take n).length := by omega
  refine ev_call (G0.part n p okp) (hr.mono (by decide)) (eva_cons (ev_var 0 rfl (eva_cons (ev_var 2 rfl (eva_nil ⟨rfl, ⟨by omega, by show _ ≤ (sp5.take n).length; omega, rfl⟩, fun b1 r1 _ po => ?_⟩)))))
  obtain ⟨x, hx, rfl, h1, h2⟩ := po
  refine ⟨_, rfl, ?_⟩
  have hts : (tkn (L.w (sp5.take n)).sp ((b + 1 + 10000000000000 * (sp5.take n).length) / 10000000000000) (b1 / 10000000000000)).Sublist sp5 := (tkn_sub _ _ _).trans sub5
  generalize tkn (L.w (sp5.take n)).sp ((b + 1 + 10000000000000 * (sp5.take n).length) / 10000000000000) (b1 / 10000000000000) = ts at hx hts
  obtain ⟨t1, t2, t3⟩ := sp5_sub hts
  rw [mm] at h1
  generalize b1 % 10000000000000 = c at h1
  show SV (L.C _ none H) c [.va L.sD, .va (.int (m : Int)), .un, .va x.d, .un, .un, .un, .un, .un, .un] _ _
  refine sv_set2D 4 5 rfl sc.nd (by decide) (ev_call G0.wld (hr.mono (by decide)) (eva_cons (ev_var 0 rfl (eva_cons (ev_var 1 rfl (eva_nil ⟨rfl, ⟨by omega, m, hm1, hm2, rfl⟩, fun b2 r2 _ po => ?_⟩))))))
  obtain ⟨W, hW, rfl, h3⟩ := po
  refine ⟨_, rfl, ev_call G0.fil (hr.mono (by decide)) (eva_cons (ev_var 0 rfl (eva_cons (ev_var 3 rfl (eva_nil ⟨rfl, ⟨by omega, ts, x, hx, t1, t2, fun z hz => (t3 z hz).2, rfl⟩, fun b3 r3 _ po => ?_⟩)))))⟩
  obtain ⟨x', fl, ks, k, ex, hk, pk, hf, rfl, h4⟩ := po
  obtain rfl : x = x' := nd_inj _ _ (by injection ex with _ ex; injection ex with ex _; injection ex)
  refine ⟨_, rfl, ?_⟩
  have f7 := f7_of hts hx hW pk hf
  show SV (L.C _ none H) b3 [.va L.sD, .va (.int (m : Int)), .un, .va x.d, .od (.k (suK W)), .od (.k (flK fl)), .un, .un, .un, .un] _ _
  refine sv_unpack (.tp [.nm 6, .nm 7]) (pg_tup rfl (pgs_cons (pg_name (i := 6) sc.nd rfl (Or.inl rfl)) (pgs_cons (pg_name (i := 7) sc.nd rfl (Or.inr rfl)) pgs_nil))) (ev_tup (eva_cons (ev_lend 4 rfl rfl hZ (ev_lend 5 rfl rfl hZ (ev_reprL gd hu66 b0 (eva_cons (ev_var 3 rfl (eva_cons (ev_var 4 rfl (eva_cons (ev_var 5 rfl (eva_nil ⟨[x.d, suD W, flD fl], rfl, by simp, f7.shl, _, rfl, rfl, _, rfl, rfl, ?_⟩))))))))))))
  refine eva_cons (ev_lend 4 rfl rfl hZ (ev_lend 5 rfl rfl hZ (ev_reprO gd hu66 b0 (ev_callP G0.mf (hr.mono (by decide)) (eva_cons (ev_var 3 rfl (eva_cons (ev_var 4 rfl (eva_cons (ev_var 5 rfl (eva_nil ⟨[x.d, suD W, flD fl], _, rfl, rfl, gRd_of f7.gp.el f7.rd, _, rfl, f7.box, f7.shw, _, rfl, rfl, _, rfl, rfl, eva_nil ⟨_, rfl, by simp, _, _, rfl, rfl, ?_⟩⟩)))))))))))
  have hbox := f7.box
  have hshw := f7.shw
  have hnfz := f7.nfz
  have hmg := gMx_of f7.mg
  have hz0 := fun h => (f7.zero h).2
  generalize hM : mnD (meanF (getB W) (flF fl) x) = M at hbox hshw hnfz hmg
  show SV (L.C _ none H) b3 [.va L.sD, .va (.int (m : Int)), .un, .va x.d, .od (.k (suK W)), .od (.k (flK fl)), .va (.str (repL [x.d, suD W, flD fl])), .va (.str M.rep), .un, .un] _ _
  refine sv_set 8 (ev_lst (eva_cons (ev_lend 4 rfl rfl hZ (ev_lend 5 rfl rfl hZ (ev_callP G0.mg3 hr (eva_cons (ev_var 3 rfl (eva_cons (ev_var 4 rfl (eva_cons (ev_var 5 rfl (eva_nil ⟨[x.d, suD W, flD fl], _, rfl, rfl, hmg, _, rfl, hnfz, _, rfl, hnfz, ?_⟩)))))))))))) sc.nd
  refine eva_cons (ev_lend 4 rfl rfl hZ (ev_lend 5 rfl rfl hZ (ev_callN G0.mgN hr (eva_cons (ev_var 3 rfl (eva_cons (ev_var 4 rfl (eva_nil (ev_var 5 rfl ⟨[x.d, suD W], flD fl, _, rfl, rfl, rfl, rfl, hmg, _, rfl, hnfz, _, rfl, hnfz, eva_nil ⟨[M, M], rfl, by simp, _, rfl, ?_⟩⟩)))))))))
  refine sv_if (et_lend 4 rfl rfl hZ (et_lend 5 rfl rfl hZ (et_ne (ev_reprL gd hu66 b0 (eva_cons (ev_var 3 rfl (eva_cons (ev_var 4 rfl (eva_cons (ev_var 5 rfl (eva_nil ⟨[x.d, suD W, flD fl], rfl, by simp, f7.shl, ev_var 6 rfl ⟨_, _, true, rfl, rfl, ?_, ?_⟩⟩)))))))))))
  · show some (decide _) = some true
    rw [decide_eq_true rfl]
  refine sv_nil ?_
  obtain ⟨ys, ey, pm0⟩ := srtD_strs (hlL x)
  have pm : ys.Perm (hlW x) := pm0.trans (hl_perm x hx.el)
  have okys : ∀ z ∈ ys, okS z = true := fun z hz => gW_ok (t3 z (hx.hl.mem_iff.mp (pm.mem_iff.mp hz))).1
  -- the rest, with two or three told
  have fin : ∀ n : Nat, n ≤ 3 → SV (L.C (cxOf CX0 P w K mg base nmR7 "_law_right" (defScope sR7) f cdv A outer s H E).nox none H) b3 [.va L.sD, .va (.int (m : Int)), .un, .va x.d, .od (.k (suK W)), .od (.k (flK fl)), .va (.str (repL [x.d, suD W, flD fl])), .va (.str M.rep), .ow (List.replicate n M), .un] ((defBody sR7).drop 7) (retF fun b' r => postR7 b b' r) := fun n hn => by
    refine sv_dclear 4 rfl ?_ rfl
    refine sv_dclear 5 rfl ?_ rfl
    refine sv_ret (ev_eqD hr.units (ev_filtT (fun d : D => d) (fun _ _ h => h) (.nm 9) [("one", 9)] (fun _ => false) (fun d => d) rfl sc.nd (blkOk_by (N := nmR7) (sc := defScope sR7) (by decide +kernel)) (fun _ _ _ _ _ => pg_name (i := 9) sc.nd rfl (Or.inl rfl)) (by simp [Pat.slots])
      (eic_list (ev_varO 8 rfl ⟨List.replicate n M, rfl, List.replicate n M, by rw [List.map_id'], by rw [List.length_replicate]; omega, fun d hd => ⟨_, rfl, fun s H Cc cl fp => ?_, fun z => nomatch z⟩, ?_⟩))))
    · obtain rfl := (List.mem_replicate.mp hd).2
      refine et_ne (ev_reprO gd hu66 (T.blt _ rfl) (ev_var 9 rfl ⟨_, rfl, hbox, hshw, ev_var 7 rfl ⟨_, _, true, rfl, rfl, ?_, rfl, rfl⟩⟩))
      show some (decide _) = some true
      rw [decide_eq_true rfl]
    · rw [filt_none, List.map_nil]
      refine ev_lst (eva_nil ⟨[], rfl, by decide, .lst [], .lst [], rfl, rfl, by decide +kernel, by decide +kernel, rfl, ?_, by omega⟩)
      rw [eqv_nil]
      rfl
  refine sv_if (et_eqD hr.units (ev_callP G0.lho (hr.mono (by decide)) (eva_cons (ev_var 3 rfl (eva_nil ⟨[x.d], _, rfl, rfl, gLho_of f7.wl, ev_lst (eva_nil ⟨[], rfl, by decide, .lst (ys.map D.str), .lst [], by rw [ey]; rfl, rfl, lst_sh (fun d hd => by obtain ⟨z, hz, rfl⟩ := List.mem_map.mp hd; exact (cm_str (okys z hz)).mono (by decide)), by decide +kernel, ?_⟩)⟩)))))
  rw [eqv_nil]
  cases hys : ys with
  | cons y ys' => exact sv_nil (fin 2 (by decide))
  | nil =>
    have h0 : hlW x = [] := List.Perm.eq_nil ((hys ▸ pm).symm)
    have hm0 := gM0_of (f7.zero h0).1
    rw [hz0 h0, hM] at hm0
    refine sv_append 8 rfl (ev_lend 4 rfl rfl hZ (ev_callD G0.mgD hr (fun _ => .cons .non .nil) (eva_cons (ev_var 3 rfl (eva_cons (ev_var 4 rfl (eva_nil ⟨[x.d, suD W], _, rfl, rfl, hm0, _, rfl, hnfz, _, _, rfl, rfl, by simp, sv_nil (fin 3 (by decide))⟩)))))))
end
end G
set_option Elab.async false
set_option linter.all false
set_option maxRecDepth 100000
set_option maxHeartbeats 4000000
/-! t * n of a tuple of one, n from 0 on. -/
namespace PD
open PySem PySem.Spec PyProof.Rows L2
theorem tuple_mul0 (l : Addr) (items : Array Value) (n : Nat) (dd : Option Addr) (sl : Array (Option Value)) (u : Tok) (c1 : (items.isEmpty || (0 : Int) == 1) = false) :
    Meets (Builtin.«tuple.__mul__» ⟨[.ref l, .int 0 u], []⟩) (fun _ R s => s.heap.get? l = some { cls := .type "tuple", dict := dd, data := .seq items n, slots := sl } ∧
      R (.ok (.ret (Value.ref s.heap.objs.size))) { s with heap := s.heap.push { cls := Value.type "tuple", data := Data.seq #[] }, toks := s.toks }) :=
  .of_wp fun prog w A R s h => by
    obtain ⟨hp, g, d, tk, os⟩ := s
    obtain ⟨hl, h⟩ := h
    have f1 := AutoSeq1.idx_int
    wp_walk using wpAny_loadPart' hl
    repeat (first
      | (refine wpAny_ite_false (decide_eq_false (by rw [c1]; exact Bool.false_ne_true)) ?_; wp_walk using wpAny_loadPart' hl))
    exact ⟨_, rfl, h⟩
theorem tuple_mul1 (l : Addr) (items : Array Value) (n : Nat) (dd : Option Addr) (sl : Array (Option Value)) (u : Tok) (c1 : (items.isEmpty || (1 : Int) == 1) = true) :
    Meets (Builtin.«tuple.__mul__» ⟨[.ref l, .int 1 u], []⟩) (fun _ R s => s.heap.get? l = some { cls := .type "tuple", dict := dd, data := .seq items n, slots := sl } ∧ R (.ok (.ret (Value.ref l))) s) :=
  .of_wp fun prog w A R s h => by
    obtain ⟨hp, g, d, tk, os⟩ := s
    obtain ⟨hl, h⟩ := h
    have f1 := AutoSeq1.idx_int
    wp_walk using wpAny_loadPart' hl
    repeat (first
      | (refine wpAny_ite_true (decide_eq_true c1) ?_; wp_walk using wpAny_loadPart' hl))
    exact ⟨_, rfl, h⟩
def rRep01 (K : PySem.W.Frag) : R2 := fun x y H Q => ∃ l xs, x = .ref l ∧ SqT K H l xs ∧ xs ≠ [] ∧ ((y = .int 0 ∧ ∀ p, H p = none → Q (.ref p) (upd H p (.tup []))) ∨ (y = .int 1 ∧ Q (.ref l) H))
theorem op_rep01 {X : Cx} : OpR X (binaryOp .Mult) (rRep01 X.K) := by
  intro pins s σ H x y v u Q I rx ry h
  obtain ⟨l, xs, rfl, hT, hne, h⟩ := h
  cases rx
  obtain ⟨its, r, ⟨⟨cls, dd, data, sl⟩, ho, hc, n, hd⟩, hs⟩ := I.tuple hT
  simp only at hc hd
  subst hc hd
  have hn : its ≠ [] := fun e => hne (by
    have hle : its.length = xs.length := r.length.symm
    rw [e] at hle
    exact List.eq_nil_of_length_eq_zero hle.symm)
  have hi : its.toArray.isEmpty = false := by
    cases its with
    | nil => exact absurd rfl hn
    | cons a b => rfl
  rcases h with ⟨rfl, q⟩ | ⟨rfl, q⟩
  · obtain ⟨t, rfl⟩ := ry
    refine wpAny_binaryOp_repeat_ref (T := "tuple") (U := "int") (by decide) ⟨_, ho, rfl⟩ (fun s' => typeIs_int s' 0 t) noFill_tuple_mul F.fills_int_mul F.slot_int_rmul repeat_tuple F.slot_int_index.lookup
      (call_meets F.slot_int_rmul (typeIs_int s 0 t) F.entry_int_rmul (F.args_int_rmul_2 _ _) (int_rmul_tuple 0 t l its.toArray n dd sl)
        ⟨ho, rfl, ⟨_, ho, rfl⟩, call_meets F.slot_tuple_mul ⟨_, ho, rfl⟩ F.entry_tuple_mul (F.args_tuple_mul_2 _ _) (tuple_mul0 l its.toArray n dd sl t (by rw [hi]; rfl)) ⟨ho, ?_⟩⟩)
    refine ⟨.ref s.heap.objs.size, _, I.laid (t' := s.toks) (o := .tup []) (fun b ob q => Heap.get?_push_of_some _ q) (Nat.le_refl _) ?_, rfl, q _ (I.hok.fresh (Nat.le_refl _))⟩
    exact ⟨Nat.zero_le _, _, .nil, IsTup.new _ _⟩
  · obtain ⟨t, rfl⟩ := ry
    refine wpAny_binaryOp_repeat_ref (T := "tuple") (U := "int") (by decide) ⟨_, ho, rfl⟩ (fun s' => typeIs_int s' 1 t) noFill_tuple_mul F.fills_int_mul F.slot_int_rmul repeat_tuple F.slot_int_index.lookup
      (call_meets F.slot_int_rmul (typeIs_int s 1 t) F.entry_int_rmul (F.args_int_rmul_2 _ _) (int_rmul_tuple 1 t l its.toArray n dd sl)
        ⟨ho, rfl, ⟨_, ho, rfl⟩, call_meets F.slot_tuple_mul ⟨_, ho, rfl⟩ F.entry_tuple_mul (F.args_tuple_mul_2 _ _) (tuple_mul1 l its.toArray n dd sl t (by rw [hi]; rfl)) ⟨ho, ?_⟩⟩)
    exact ⟨.ref l, H, I, rfl, q⟩
theorem opR_or {X : Cx} {o : Value → Value → Sem Value} {r1 r2 : R2} (h1 : OpR X o r1) (h2 : OpR X o r2) : OpR X o (fun x y H Q => r1 x y H Q ∨ r2 x y H Q) := by
  intro pins s σ H x y v u Q I rx ry h
  rcases h with h | h
  · exact h1 pins s σ H x y v u Q I rx ry h
  · exact h2 pins s σ H x y v u Q I rx ry h
section
variable {C : Cn} {b : Nat} {δ : List Sl} {P : Nat → Res → Prop} {e1 e2 : Expr} {pos : Pos}
/-- (d,) * n -/
theorem ev_repT1 (h : EV C b δ e1 (fun b1 r1 => EV C b1 δ e2 fun b2 r2 => ∃ (d : D) (n : Nat), r1 = .va (.tup [d]) ∧ r2 = .va (.int (n : Int)) ∧ n ≤ 1000 ∧ P b2 (.va (.tup (List.replicate n d))))) : EV C b δ (.BinOp e1 .Mult e2 pos) P := by
  refine ev_bin (opR_or op_rep01 op_repT) (h.imp fun b1 r1 h2 => h2.imp fun b2 r2 ⟨d, n, c1, c2, hn, hq⟩ => ?_)
  subst c1 c2
  intro os H H' u v jj rx ry Q q
  cases rx with | va rx => ?_
  cases ry with | va ry => ?_
  cases ry
  cases rx with | @tup a xs _ hh ra => ?_
  have hxs : xs ≠ [] := by
    intro z
    have := ra.len
    rw [z] at this
    cases this
  match n, hn, hq with
  | 0, _, hq =>
    refine .inl ⟨a, xs, rfl, hh.sq, hxs, .inl ⟨rfl, fun p hp => ?_⟩⟩
    have fn : Fr C.Z.S H' (upd H' p (.tup [])) := Fr.new hp
    exact q _ _ _ fn (jnew jj hp) (.va (.tup (.h upd_same) .nil)) hq
  | 1, _, hq =>
    exact .inl ⟨a, xs, rfl, hh.sq, hxs, .inr ⟨rfl, q _ H' _ Fr.refl jj (.va (.tup hh ra)) hq⟩⟩
  | n + 2, hn, hq =>
    have hl := ra.len
    refine .inr ⟨a, ((n + 2 : Nat) : Int), xs, rfl, rfl, hh.sq, hxs, by omega, by omega, by rw [hl, List.length_singleton]; omega, fun p hp => ?_⟩
    rw [Int.toNat_natCast]
    have fn : Fr C.Z.S H' (upd H' p (.tup (List.replicate (n + 2) xs).flatten)) := Fr.new hp
    have e : (List.replicate (n + 2) [d]).flatten = List.replicate (n + 2) d := by
      induction (n + 2) with
      | zero => rfl
      | succ k ih => rw [List.replicate_succ, List.flatten_cons, ih]; rfl
    exact q _ _ _ fn (jnew jj hp) (.va (.tup (.h upd_same) (e ▸ (rpa_rep ra (n + 2)).fr fn))) hq
end
end PD
set_option Elab.async false
set_option linter.all false
set_option maxRecDepth 100000
set_option maxHeartbeats 4000000
/-! _law_great_right. -/
namespace G
open PySem PySem.Spec PyProof.Rows L2 PD
def leafN : Nd := .el "p" "a" [] [] []
def twoN (m : Nat) : Nd := .el "p" "a" [] [] (List.replicate (1 + m) leafN)
def lowN : Nat → Nd
  | 0 => .el "" "b" [] [] [.h "h"]
  | k + 1 => .el "" "b" [("p", repS "u" (k + 1))] [] [lowN k]
def wideN : Nd := .el "p" "a" [] [] (List.replicate 59 leafN ++ [.h "h"])
def innN (m : Nat) : Nat → Nd
  | 0 => twoN m
  | k + 1 => .el "p" "a" [] [] [innN m k]
def W1 : Bd := [("p", "w")]
/-- what is to be known of them -/
def grB (x y : Nd) : Bool := x.isEl && GB x && decide (x.dep ≤ 8) && decide (cnt x ≤ 60) && decide ((hlL x).Nodup) && decide (hlW x = [("h" : Str)]) && y.isEl && GB y && decide (y.dep ≤ 7) && decide (cnt y ≤ 12) && decide (hlW y = []) && (meanF (getB W1) (flF [("h", y)]) x).isSome
theorem gr_all : ((List.range 6).all fun m => grB (lowN 7) (innN m m) && grB wideN (twoN m)) = true := by decide +kernel
structure Gr7 (q : Nd × Fl) : Prop where
  gp : GP q.1
  mg : MgOk 7 15 ((q.1, W1), q.2)
  rd : RdOk 7 15 ((q.1, W1), q.2)
  box : (mnD (meanF (getB W1) (flF q.2) q.1)).box = true
  shw : (mnD (meanF (getB W1) (flF q.2) q.1)).shw = true
theorem W1_adr : AdrOk (getB W1) := fun p => by
  unfold getB valB
  cases e : W1.find? (fun q => decide (q.1 = p)) with
  | none => exact ⟨by decide +kernel, by decide +kernel⟩
  | some q =>
    have := List.mem_of_find?_eq_some e
    rw [W1, List.mem_singleton] at this
    rw [this]
    exact ⟨by decide +kernel, by decide +kernel⟩
theorem gr7_of {x y : Nd} (h : grB x y = true) : Gr7 (x, [("h", y)]) := by
  unfold grB at h
  simp only [Bool.and_eq_true, decide_eq_true_eq] at h
  obtain ⟨⟨⟨⟨⟨⟨⟨⟨⟨⟨⟨h1, h2⟩, h3⟩, h4⟩, h5⟩, h6⟩, h7⟩, h8⟩, h9⟩, h10⟩, h11⟩, h12⟩ := h
  have m1 : ∀ q ∈ [(("h" : Str), y)], q = (("h" : Str), y) := fun q hq => List.mem_singleton.mp hq
  have hlp := hl_perm x h1
  have gp : GP x := ⟨h1, h2, h3, h4, h5, by rw [hlp.length_eq, h6]; decide⟩
  have e0 : hlL y = [] := List.Perm.eq_nil (h11 ▸ hl_perm y h7)
  have gpy : GP y := ⟨h7, h8, by omega, by omega, by rw [e0]; exact List.nodup_nil, by rw [e0]; exact Nat.zero_le _⟩
  have hin : ∀ z ∈ hlW x, z ∈ [(("h" : Str), y)].map (·.1) := fun z hz => by rw [h6] at hz; exact hz
  obtain ⟨rd, s1, s2, s3⟩ := mean_all (H := 7) (N := 15) (W := W1) (fl := [("h", y)]) gp (by omega) (by omega) (by decide) h4 W1_adr (by decide) (fun q hq => by rw [m1 q hq]; exact h8) (fun q hq => by rw [m1 q hq]; exact h7) (fun q hq => by rw [m1 q hq]; exact h11) (fun q hq => by rw [m1 q hq]; exact h9) (fun q hq => by rw [m1 q hq]; exact h10) (by rw [h6]; decide) hin
  refine ⟨gp, ⟨gp_prt gp, ⟨?_, (by decide +kernel : (W1.map (·.1)).Nodup), (by decide : W1.length ≤ 100)⟩, fun p => (W1_adr p).1, ⟨fun q hq => by rw [m1 q hq]; exact (by decide +kernel : gW "h" = true), fun q hq => by rw [m1 q hq]; exact gpy, fun q hq => by rw [m1 q hq]; exact h11⟩, fun q hq => by rw [m1 q hq]; exact h9, rd.dep, hin⟩, rd, ?_, s1⟩
  · intro q hq
    rw [W1, List.mem_singleton] at hq
    rw [hq]
    exact ⟨by decide +kernel, by decide +kernel⟩
  · rcases mean_box (A := getB W1) (Φ := flF [("h", y)]) h1 with z | z
    · exfalso
      cases e : meanF (getB W1) (flF [("h", y)]) x with
      | none => rw [e] at h12; cases h12
      | some d =>
        have := meanF_el_ne h1 e
        rw [e] at z
        have z : d = .non := z
        rw [z] at this
        cases this
    · exact z
def qE (q : Nd × Fl) : D := .tup [q.1.d, flD q.2]
theorem qE_inj (x y : Nd × Fl) (h : qE x = qE y) : x = y := by
  unfold qE at h
  injection h with h
  injection h with h1 h
  injection h with h2 _
  exact Prod.ext (nd_inj _ _ h1) (fl_inj _ _ h2)
theorem low_d (k : Nat) : (lowN (k + 1)).d = .tup [.str "element", .tup [.str "", .str "b"], .pt [.tup [.str "p", .str (repS "u" (k + 1))]], .tup [], .tup [(lowN k).d]] := by rw [lowN, Nd.d, ndsD, ndsD]; rfl
theorem lowW (k : Nat) (h : k < 8) : (lowN k).d.wide ≤ 16000000 := by
  have : ∀ k < 8, (lowN k).d.wide ≤ 16000000 := by decide +kernel
  exact this k h
theorem wide_d : wideN.d = .tup ([.str "element", .tup [.str "p", .str "a"], .pt [], .tup []] ++ [.tup (List.replicate 59 leafN.d ++ [.tup [.str "hole", .str "h"]])]) := by
  unfold wideN
  rw [Nd.d, ndsD_map, List.map_append, List.map_replicate, List.map_cons, List.map_nil, show (Nd.h "h").d = .tup [.str "hole", .str "h"] by rw [Nd.d]]
  rfl
theorem wideW : wideN.d.wide ≤ 16000000 := by decide +kernel
theorem inn_d (m k : Nat) : (innN m (k + 1)).d = .tup ([.str "element", .tup [.str "p", .str "a"], .pt [], .tup []] ++ [.tup [(innN m k).d]]) := by rw [innN, Nd.d, ndsD, ndsD]; rfl
theorem innW (m k : Nat) (hm : m < 6) (hk : k < 7) : (innN m k).d.wide ≤ 16000000 := by
  have : ∀ m < 6, ∀ k < 7, (innN m k).d.wide ≤ 16000000 := by decide +kernel
  exact this m hm k hk
theorem qWide (m : Nat) (hm : m < 6) : (D.tup [qE (lowN 7, [("h", innN m m)]), qE (wideN, [("h", twoN m)])]).wide ≤ 16000000 := by
  have : ∀ m < 6, (D.tup [qE (lowN 7, [("h", innN m m)]), qE (wideN, [("h", twoN m)])]).wide ≤ 16000000 := by decide +kernel
  exact this m hm
theorem repS_len (n : Nat) (h : n < 8) : (repS "u" n).length ≤ 1000000 := by
  have : ∀ n < 8, (repS "u" n).length ≤ 1000000 := by decide +kernel
  exact this n h
theorem u_len : ("u" : Str).length = 1 := by decide +kernel
theorem leaf_d : leafN.d = .tup [.str "element", .tup [.str "p", .str "a"], .pt [], .tup [], .tup []] := by unfold leafN; rw [Nd.d]; rfl
section
variable {P : Program} {w : World} {K : PySem.W.Frag} {mg : Str → Option Value} {base : Heap} {Z : Vol} {f : Addr} {fd : FuncData}
abbrev preGr (b : Nat) (as : List Ar) : Prop := ∃ m : Nat, m < 6 ∧ as = [.va (.int (m : Int))]
abbrev postT (b b' : Nat) (r : Res) : Prop := r = .va (.bl true) ∧ b' = b
abbrev DGr (P : Program) (w : World) (K : PySem.W.Frag) (mg : Str → Option Value) (base : Heap) (Z : Vol) := DfG P w K mg base "_law_great_right" 38 ["many"] (spD Z K 1 preGr fun b _ b' r => postT b b' r)
abbrev sGr : Stmt := st__law_great_right
abbrev nmGr : List Str := ["many", "leaf", "two", "low", "k", "wide", "inner", "part", "fill", "told"]
theorem ok_gr (F : Fun K "_law_great_right" "_law_great_right" sGr f fd) (T : Cst mg) (D1 : DMg3 P w K mg base Z) (D2 : DMf P w K mg base Z 7 15) : FnG P w K mg base 38 f fd ["many"] (spD Z K 1 preGr fun b _ b' r => postT b b' r) := by
  have sc : FnScope nmGr ["many"] (defScope sGr) := ⟨rfl, rfl, rfl, by decide +kernel, rfl, by decide +kernel, by decide +kernel⟩
  refine fn_bodyG F sc rfl fun cdv A outer s H E b as gd hr hl hp => ?_
  obtain ⟨m, hm, rfl⟩ := hp
  have b0 := T.blt (cxOf CX0 P w K mg base nmGr "_law_great_right" (defScope sGr) f cdv A outer s H E).nox rfl
  have hu66 : (A.deeper (envOfC "_law_great_right" (defScope sGr) s.heap.objs.size f cdv)).units + 66 < cLine := by have := hr.un; omega
  have hd := leaf_d
  have hdv := congrArg Res.va hd
  obtain ⟨u1, u2, u3, u4, u5, u6⟩ := cut_to (.str "element") (.tup [.str "p", .str "a"]) (.pt []) (.tup []) (.tup [])
  have u7 : PD.cutD [.str "element", .tup [.str "p", .str "a"], .pt [], .tup [], .tup []] none (some 4) = [.str "element", .tup [.str "p", .str "a"], .pt [], .tup []] := rfl
  -- with other children
  have kid : ∀ cs : List Nd, (.tup ([.str "element", .tup [.str "p", .str "a"], .pt [], .tup []] ++ [.tup (cs.map Nd.d)]) : D) = (Nd.el "p" "a" [] [] cs).d := fun cs => by rw [Nd.d, ndsD_map]; rfl
  show SV _ _ _ (Stmt.Assign _ _ _ :: _) _
  with_reducible refine sv_cv (i := 1) (d := leafN.d) ?_ ?_ ?_ ?_ ?_ ?_ ?_ ?_
  rotate_left 3
  · exact sc.nd
  · rfl
  · first | exact Or.inl rfl | exact Or.inr rfl
  · rfl
  · first | exact .inl rfl | exact .inr rfl
  · rw [hd]; exact .tup (.cons .str (.cons (.tup (.cons .str (.cons .str .nil))) (.cons (.pt .nil) (.cons (.tup .nil) (.cons (.tup .nil) .nil)))))
  · rw [hd]; decide +kernel
  refine sv_set 2 (ev_cat (ev_slTh (ev_var 1 rfl (ev_int ⟨_, 4, hdv, rfl, ev_tup (eva_cons (ev_repT1 (ev_tup (eva_cons (ev_var 1 rfl (eva_nil ⟨[leafN.d], rfl, by decide, ev_add (ev_int (ev_var 0 rfl ⟨_, _, rfl, rfl, ?_⟩))⟩))))))⟩)))) sc.nd
  refine ⟨leafN.d, 1 + m, rfl, by rw [show ((1 : Int) + (m : Int)) = ((1 + m : Nat) : Int) by omega], by omega, eva_nil ⟨_, rfl, by simp, _, _, rfl, rfl, by rw [u7]; simp, _, rfl, ?_⟩⟩
  rw [u7, ← List.map_replicate (f := Nd.d), kid]
  show SV _ _ [.va (.int (m : Int)), .va leafN.d, .va (twoN m).d, .un, .un, .un, .un, .un, .un, .un] _ _
  have low0 : (lowN 0).d = .tup [.str "element", .tup [.str "", .str "b"], .pt [], .tup [], .tup [.tup [.str "hole", .str "h"]]] := by rw [lowN, Nd.d, ndsD, ndsD, Nd.d]; rfl
  show SV _ _ _ (Stmt.Assign _ _ _ :: _) _
  with_reducible refine sv_cv (i := 3) (d := (lowN 0).d) ?_ ?_ ?_ ?_ ?_ ?_ ?_ ?_
  rotate_left 3
  · exact sc.nd
  · rfl
  · first | exact Or.inl rfl | exact Or.inr rfl
  · rfl
  · first | exact .inl rfl | exact .inr rfl
  · rw [low0]; exact .tup (.cons .str (.cons (.tup (.cons .str (.cons .str .nil))) (.cons (.pt .nil) (.cons (.tup .nil) (.cons (.tup (.cons (.tup (.cons .str (.cons .str .nil))) .nil)) .nil)))))
  · rw [low0]; decide +kernel
  refine sv_forT (fun i : Nat => D.int (i : Int)) intN_inj (.nm 4) rfl PassesOwn.never (pg_name (i := 4) sc.nd rfl (Or.inl rfl)) (ei_range b0 (ev_int ⟨7, rfl, by decide, List.range 7, rfl, fun pre b2 δ2 => b2 = b ∧ ∃ s4, δ2 = [.va (.int (m : Int)), .va leafN.d, .va (twoN m).d, .va (lowN pre.length).d, s4, .un, .un, .un, .un, .un], ⟨rfl, _, rfl⟩, ?_, ?_⟩))
  · rintro pre k post b2 δ2 e ⟨rfl, s4, rfl⟩
    obtain ⟨rfl, hk⟩ := range_at e
    refine ⟨_, rfl, ?_⟩
    have hrep : ∀ (pa pb pc pd pe : Pos) (j1 j2 : Nat), EV ⟨(cxOf CX0 P w K mg base nmGr "_law_great_right" (defScope sGr) f cdv A outer s H E).nox, Z, H⟩ b2 [.va (.int (m : Int)), .va leafN.d, .va (twoN m).d, .va (lowN pre.length).d, .va (.int (pre.length : Int)), .un, .un, .un, .un, .un] (.BinOp (.Constant (.str "u") j1 pa) .Mult (.BinOp (.Name "k" pb) .Add (.Constant (.int 1) j2 pc) pd) pe) (fun b' r => b' = b2 ∧ r = .va (.str (repS "u" (pre.length + 1)))) := fun pa pb pc pd pe j1 j2 => by
      have hl := repS_len (pre.length + 1) (by omega)
      have h1 := u_len
      refine ev_repS (ev_str (ev_add (ev_var 4 rfl (ev_int ⟨_, _, rfl, rfl, "u", pre.length + 1, rfl, rfl, by omega, by rw [h1]; omega, by omega, hl, rfl, rfl⟩))))
    show SV _ _ _ (Stmt.Assign _ _ _ :: _) _
    with_reducible refine sv_cv (i := 3) (d := (lowN (pre.length + 1)).d) ?_ ?_ ?_ ?_ ?_ ?_ ?_ ?_
    rotate_left 3
    · exact sc.nd
    · rfl
    · first | exact Or.inl rfl | exact Or.inr rfl
    · rfl
    · first | exact .inl rfl | exact .inr rfl
    · rw [low_d]
      exact .tup (.cons .str (.cons (.tup (.cons .str (.cons .str .nil))) (.cons (.pt (.cons (.tup (.cons .str (.cons (.ev (hrep _ _ _ _ _ _ _) fun _ _ => rfl) .nil))) .nil)) (.cons (.tup .nil) (.cons (.tup (.cons (.var (ev_var 3 rfl ⟨rfl, rfl⟩)) .nil)) .nil)))))
    · exact lowW (pre.length + 1) (by omega)
    refine sv_nil ⟨rfl, .va (.int (pre.length : Int)), ?_⟩
    rw [List.length_append, List.length_singleton]
    rfl
  · rintro b2 δ2 ⟨rfl, s4, rfl⟩
    rw [List.length_range]
    show SV _ _ _ (Stmt.Assign _ _ _ :: _) _
    with_reducible refine sv_cv (i := 5) (d := wideN.d) ?_ ?_ ?_ ?_ ?_ ?_ ?_ ?_
    rotate_left 3
    · exact sc.nd
    · rfl
    · first | exact Or.inl rfl | exact Or.inr rfl
    · rfl
    · first | exact .inl rfl | exact .inr rfl
    · rw [wide_d]
      exact .cat (.ev (ev_slTh (ev_var 1 rfl (ev_int ⟨_, 4, hdv, rfl, rfl, rfl⟩))) fun _ _ => rfl) (.tup (.cons (.cat (.ev (ev_repT1 (ev_tup (eva_cons (ev_var 1 rfl (eva_nil ⟨[leafN.d], rfl, by simp, ev_int ⟨leafN.d, 59, rfl, rfl, by decide, rfl, rfl⟩⟩))))) fun _ _ => rfl) (.tup (.cons (.tup (.cons .str (.cons .str .nil))) .nil))) .nil))
    · exact wideW
    refine sv_set 6 (ev_var 2 rfl ⟨_, rfl, ?_⟩) sc.nd
    show SV _ _ [.va (.int (m : Int)), .va leafN.d, .va (twoN m).d, .va (lowN 7).d, s4, .va wideN.d, .va (innN m 0).d, .un, .un, .un] _ _
    refine sv_forT (fun i : Nat => D.int (i : Int)) intN_inj (.nm 4) rfl PassesOwn.never (pg_name (i := 4) sc.nd rfl (Or.inl rfl)) (ei_range b0 (ev_var 0 rfl ⟨m, rfl, by omega, List.range m, rfl, fun pre b3 δ3 => b3 = b2 ∧ ∃ s4, δ3 = [.va (.int (m : Int)), .va leafN.d, .va (twoN m).d, .va (lowN 7).d, s4, .va wideN.d, .va (innN m pre.length).d, .un, .un, .un], ⟨rfl, _, rfl⟩, ?_, ?_⟩))
    · rintro pre k post b3 δ3 e ⟨rfl, s4, rfl⟩
      refine ⟨_, rfl, ?_⟩
      show SV _ _ _ (Stmt.Assign _ _ _ :: _) _
      with_reducible refine sv_cv (i := 6) (d := (innN m (pre.length + 1)).d) ?_ ?_ ?_ ?_ ?_ ?_ ?_ ?_
      rotate_left 3
      · exact sc.nd
      · rfl
      · first | exact Or.inl rfl | exact Or.inr rfl
      · rfl
      · first | exact .inl rfl | exact .inr rfl
      · rw [inn_d]
        exact .cat (.ev (ev_slTh (ev_var 1 rfl (ev_int ⟨_, 4, hdv, rfl, rfl, rfl⟩))) fun _ _ => rfl) (.tup (.cons (.tup (.cons (.var (ev_var 6 rfl ⟨rfl, rfl⟩)) .nil)) .nil))
      · have hk : pre.length < m := by
          have := congrArg List.length e
          rw [List.length_range, List.length_append, List.length_cons] at this
          omega
        exact innW m (pre.length + 1) hm (by omega)
      refine sv_nil ⟨rfl, .va (.int (k : Int)), ?_⟩
      rw [List.length_append, List.length_singleton]
      rfl
    · rintro b3 δ3 ⟨rfl, s4, rfl⟩
      rw [List.length_range]
      have g6 := List.all_eq_true.mp gr_all m (List.mem_range.mpr hm)
      rw [Bool.and_eq_true] at g6
      have q1 := gr7_of g6.1
      have q2 := gr7_of g6.2
      refine sv_forT qE qE_inj (.tp [.nm 7, .nm 8]) rfl PassesOwn.never (pg_tup rfl (pgs_cons (pg_name (i := 7) sc.nd rfl (Or.inl rfl)) (pgs_cons (pg_name (i := 8) sc.nd rfl (Or.inl rfl)) pgs_nil)))
        (ei_tup ((cv_ev (d := .tup [qE (lowN 7, [("h", innN m m)]), qE (wideN, [("h", twoN m)])]) (.tup (.cons (.tup (.cons (.var (ev_var 3 rfl ⟨rfl, rfl⟩)) (.cons (.ev (ev_frzD (ev_disp1 (ev_str (ev_var 6 rfl ⟨kS "h", _, rfl, rfl, _, rfl, rfl, rfl⟩)))) fun _ _ => rfl) .nil))) (.cons (.tup (.cons (.var (ev_var 5 rfl ⟨rfl, rfl⟩)) (.cons (.ev (ev_frzD (ev_disp1 (ev_str (ev_var 2 rfl ⟨kS "h", _, rfl, rfl, _, rfl, rfl, rfl⟩)))) fun _ _ => rfl) .nil))) .nil))) (qWide m hm)).imp fun b4 r4 hh => ?_))
      obtain ⟨rfl, rfl⟩ := hh
      refine ⟨_, rfl, [(lowN 7, [("h", innN m m)]), (wideN, [("h", twoN m)])], rfl, fun _ b5 δ4 => b5 = b4 ∧ ∃ s7 s8 s9, δ4 = [.va (.int (m : Int)), .va leafN.d, .va (twoN m).d, .va (lowN 7).d, s4, .va wideN.d, .va (innN m m).d, s7, s8, s9], ⟨rfl, _, _, _, rfl⟩, ?_, ?_⟩
      · rintro pre q post b4 δ4 e ⟨rfl, s7, s8, s9, rfl⟩
        have hq : Gr7 q := by
          have hm : q ∈ [(lowN 7, [(("h" : Str), innN m m)]), (wideN, [("h", twoN m)])] := by rw [e]; simp
          rcases List.mem_cons.mp hm with z | z
          · rw [z]; exact q1
          · rw [List.mem_singleton.mp z]; exact q2
        obtain ⟨x, fl⟩ := q
        have hmg := gMx_of hq.mg
        have hrd := gRd_of hq.gp.el hq.rd
        have hbox := hq.box
        have hshw := hq.shw
        generalize mnD (meanF (getB W1) (flF fl) x) = M at hmg hrd hbox hshw
        refine ⟨_, rfl, ?_⟩
        refine sv_set 9 (ev_callP D1 hr (eva_cons (ev_var 7 rfl (eva_cons (ev_frzD (ev_disp1 (ev_str (ev_str ⟨kS "p", .str "w", rfl, rfl, _, rfl, eva_cons (ev_var 8 rfl (eva_nil ⟨[x.d, suD W1, flD fl], _, rfl, rfl, hmg, _, rfl, ?_⟩))⟩)))))))) sc.nd
        refine sv_if (et_pw (ew_or (et_isN (ev_var 9 rfl ⟨M, rfl, ?_⟩))))
        rw [show M.isN = false by cases M <;> first | rfl | cases hbox]
        refine ew_or1 (et_ne (ev_reprO gd hu66 b0 (ev_var 9 rfl ⟨M, rfl, .inr hbox, hshw, ?_⟩)))
        refine ev_reprO gd hu66 b0 (ev_callP D2 (hr.mono (by decide)) (eva_cons (ev_var 7 rfl (eva_cons (ev_frzD (ev_disp1 (ev_str (ev_str ⟨kS "p", .str "w", rfl, rfl, _, rfl, eva_cons (ev_var 8 rfl (eva_nil ⟨[x.d, suD W1, flD fl], _, rfl, rfl, hrd, M, rfl, .inr hbox, hshw, _, _, true, rfl, rfl, ?_, ?_⟩))⟩))))))))
        · show some (decide _) = some true
          rw [decide_eq_true rfl]
        · exact sv_nil (sv_nil ⟨rfl, _, _, _, rfl⟩)
      · rintro b4 δ4 ⟨rfl, s7, s8, s9, rfl⟩
        exact sv_ret (ev_bl ⟨rfl, rfl, rfl⟩)
end
end G
set_option Elab.async false
set_option linter.all false
set_option maxRecDepth 100000
set_option maxHeartbeats 4000000
/-! _law_three_right; the law's last line. -/
namespace G
open PySem PySem.Spec PyProof.Rows L2 PD
def tA1 : (Str × Str) × Vl := (("p", "b"), .s "1")
def tA2 : (Str × Str) × Vl := (("", "c"), .q "" "d")
def tA3 : (Str × Str) × Vl := (("q", "b"), .s "2")
def rowsN : Nat → List ((Str × Str) × Vl)
  | 0 => [tA1, tA2, tA3]
  | 1 => [tA3, tA2, tA1]
  | 2 => [tA2, tA1, tA3]
  | _ => [tA1, tA3, tA2]
def trN (t : Nat) : Nd := .el "" "a" [("p", "u"), ("r", "w")] (rowsN t) []
def trX (t : Nat) : Nd := .el "" "a" [("p", "u"), ("q", "u"), ("", "")] (rowsN t) []
def tR1 : D := .tup [.tup [.str "u", .str "b"], .str "1"]
def tR2 : D := .tup [.tup [.str "", .str "c"], .tup [.str "", .str "d"]]
def tR3 : D := .tup [.tup [.str "v", .str "b"], .str "2"]
def dueT : D := .tup [.str "element", .tup [.str "", .str "a"], .tup [tR2, tR1, tR3], .tup []]
def Wu : Bd := [("q", "u")]
def Wv : Bd := [("q", "v")]
theorem srt_is {rs ss : List D} (p : rs.Perm ss) (hs : ss.Pairwise fun a b => leD (fstOf a) (fstOf b) = true) (hn : ∀ a ∈ ss, ∀ b ∈ ss, leD (fstOf a) (fstOf b) = true → leD (fstOf b) (fstOf a) = true → a = b) : srtBy fstOf rs = ss := by
  have pm : (srtBy fstOf rs).Perm ss := (List.mergeSort_perm _ _).trans p
  have hp : (srtBy fstOf rs).Pairwise fun a b => leD (fstOf a) (fstOf b) = true := @List.pairwise_mergeSort D (fun a b => leD (fstOf a) (fstOf b)) (fun a b c h1 h2 => leD_total.trans _ _ _ h1 h2) (fun a b => by rw [Bool.or_eq_true]; exact leD_total.total _ _) rs
  exact pm.eq_of_pairwise (fun a b ha hb h1 h2 => hn a (pm.mem_iff.mp ha) b hb h1 h2) hp hs
theorem srt_three {rs : List D} (p : rs.Perm [tR2, tR1, tR3]) : srtBy fstOf rs = [tR2, tR1, tR3] := by
  have a12 : leD (fstOf tR2) (fstOf tR1) = true := by decide +kernel
  have a13 : leD (fstOf tR2) (fstOf tR3) = true := by decide +kernel
  have a23 : leD (fstOf tR1) (fstOf tR3) = true := by decide +kernel
  have b12 : leD (fstOf tR1) (fstOf tR2) = false := by decide +kernel
  have b13 : leD (fstOf tR3) (fstOf tR2) = false := by decide +kernel
  have b23 : leD (fstOf tR3) (fstOf tR1) = false := by decide +kernel
  refine srt_is p (.cons (fun c hc => ?_) (.cons (fun c hc => ?_) (.cons (fun c hc => nomatch hc) .nil))) fun a ha b hb h1 h2 => ?_
  · simp only [List.mem_cons, List.not_mem_nil, or_false] at hc
    rcases hc with rfl | rfl
    · exact a12
    · exact a13
  · simp only [List.mem_cons, List.not_mem_nil, or_false] at hc
    subst hc
    exact a23
  · simp only [List.mem_cons, List.not_mem_nil, or_false] at ha hb
    rcases ha with rfl | rfl | rfl <;> rcases hb with rfl | rfl | rfl <;> first | rfl | (rw [b12] at h1; cases h1) | (rw [b12] at h2; cases h2) | (rw [b13] at h1; cases h1) | (rw [b13] at h2; cases h2) | (rw [b23] at h1; cases h1) | (rw [b23] at h2; cases h2)
theorem lt4 {t : Nat} (h : t < 4) : t = 0 ∨ t = 1 ∨ t = 2 ∨ t = 3 := by omega
theorem rows_perm {t : Nat} (h : t < 4) : ((rowsN t).map (rowQ (bndA [("p", "u"), ("r", "w")] (getB Wv)))).Perm [tR2, tR1, tR3] := by
  have e1 : rowQ (bndA [("p", "u"), ("r", "w")] (getB Wv)) tA1 = tR1 := by
    show D.tup [.tup [.str (addrOf (bndA [("p", "u"), ("r", "w")] (getB Wv)) "p"), .str "b"], .str "1"] = _
    rw [show addrOf (bndA [("p", "u"), ("r", "w")] (getB Wv)) "p" = "u" by decide +kernel]
    rfl
  have e2 : rowQ (bndA [("p", "u"), ("r", "w")] (getB Wv)) tA2 = tR2 := by
    show D.tup [.tup [.str (addrOf (bndA [("p", "u"), ("r", "w")] (getB Wv)) ""), .str "c"], .tup [.str (bndA [("p", "u"), ("r", "w")] (getB Wv) ""), .str "d"]] = _
    rw [show addrOf (bndA [("p", "u"), ("r", "w")] (getB Wv)) "" = "" by decide +kernel, show bndA [("p", "u"), ("r", "w")] (getB Wv) "" = "" by decide +kernel]
    rfl
  have e3 : rowQ (bndA [("p", "u"), ("r", "w")] (getB Wv)) tA3 = tR3 := by
    show D.tup [.tup [.str (addrOf (bndA [("p", "u"), ("r", "w")] (getB Wv)) "q"), .str "b"], .str "2"] = _
    rw [show addrOf (bndA [("p", "u"), ("r", "w")] (getB Wv)) "q" = "v" by decide +kernel]
    rfl
  rcases lt4 h with rfl | rfl | rfl | rfl
  · show ([rowQ (bndA [("p", "u"), ("r", "w")] (getB Wv)) tA1, rowQ (bndA [("p", "u"), ("r", "w")] (getB Wv)) tA2, rowQ (bndA [("p", "u"), ("r", "w")] (getB Wv)) tA3] : List D).Perm _
    rw [e1, e2, e3]
    exact .swap _ _ _
  · show ([rowQ (bndA [("p", "u"), ("r", "w")] (getB Wv)) tA3, rowQ (bndA [("p", "u"), ("r", "w")] (getB Wv)) tA2, rowQ (bndA [("p", "u"), ("r", "w")] (getB Wv)) tA1] : List D).Perm _
    rw [e1, e2, e3]
    exact (List.Perm.swap tR2 tR3 [tR1]).trans (.cons _ (.swap _ _ _))
  · show ([rowQ (bndA [("p", "u"), ("r", "w")] (getB Wv)) tA2, rowQ (bndA [("p", "u"), ("r", "w")] (getB Wv)) tA1, rowQ (bndA [("p", "u"), ("r", "w")] (getB Wv)) tA3] : List D).Perm _
    rw [e1, e2, e3]
  · show ([rowQ (bndA [("p", "u"), ("r", "w")] (getB Wv)) tA1, rowQ (bndA [("p", "u"), ("r", "w")] (getB Wv)) tA3, rowQ (bndA [("p", "u"), ("r", "w")] (getB Wv)) tA2] : List D).Perm _
    rw [e1, e2, e3]
    exact (List.Perm.cons tR1 (.swap tR2 tR3 [])).trans (.swap _ _ _)
theorem tr_due {t : Nat} (h : t < 4) : mnD (meanF (getB Wv) (flF []) (trN t)) = dueT := by
  have hs : ((List.range 4).all fun t => (attQ (bndA [("p", "u"), ("r", "w")] (getB Wv)) [] (rowsN t)).isSome) = true := by decide +kernel
  have h1 := List.all_eq_true.mp hs t (List.mem_range.mpr h)
  unfold trN
  rw [meanF, if_neg (fun z => z.1 rfl)]
  cases e : attQ (bndA [("p", "u"), ("r", "w")] (getB Wv)) [] (rowsN t) with
  | none => rw [e] at h1; cases h1
  | some rs =>
    have er := attQ_mem _ _ _ e
    show mnD (match meansF (bndA [("p", "u"), ("r", "w")] (getB Wv)) (flF []) [] with | none => none | some ins => some (.tup [.str "element", .tup [.str (bndA [("p", "u"), ("r", "w")] (getB Wv) ""), .str "a"], .tup (srtBy fstOf rs), .tup ins])) = _
    rw [meansF, er, srt_three (rows_perm h), show bndA [("p", "u"), ("r", "w")] (getB Wv) "" = "" by decide +kernel]
    rfl
theorem tr_non {t : Nat} (h : t < 4) : mnD (meanF (getB Wu) (flF []) (trN t)) = .non := by
  have hs : ((List.range 4).all fun t => (meanF (getB Wu) (flF []) (trN t)).isNone) = true := by decide +kernel
  have h1 := List.all_eq_true.mp hs t (List.mem_range.mpr h)
  cases e : meanF (getB Wu) (flF []) (trN t) with
  | none => rfl
  | some d => rw [e] at h1; cases h1
theorem trX_non {t : Nat} (h : t < 4) : mnD (meanF (getB Wv) (flF []) (trX t)) = .non := by
  have hs : ((List.range 4).all fun t => (meanF (getB Wv) (flF []) (trX t)).isNone) = true := by decide +kernel
  have h1 := List.all_eq_true.mp hs t (List.mem_range.mpr h)
  cases e : meanF (getB Wv) (flF []) (trX t) with
  | none => rfl
  | some d => rw [e] at h1; cases h1
/-- a part without holes -/
def noB (x : Nd) : Bool := x.isEl && GB x && decide (x.dep ≤ 8) && decide (cnt x ≤ 60) && decide ((hlL x).Nodup) && decide (hlW x = [])
theorem no_gp {x : Nd} (h : noB x = true) : GP x ∧ hlW x = [] := by
  unfold noB at h
  simp only [Bool.and_eq_true, decide_eq_true_eq] at h
  obtain ⟨⟨⟨⟨⟨h1, h2⟩, h3⟩, h4⟩, h5⟩, h6⟩ := h
  exact ⟨⟨h1, h2, h3, h4, h5, by rw [(hl_perm x h1).length_eq, h6]; decide⟩, h6⟩
theorem tr_no : ((List.range 4).all fun t => noB (trN t) && noB (trX t)) = true := by decide +kernel
def suB (W : Bd) : Bool := W.all (fun q => isPrefix (.str q.1) && isAddr (.str q.2)) && decide ((W.map (·.1)).Nodup) && decide (W.length ≤ 100) && W.all fun q => gA q.2
theorem su_of {W : Bd} (h : suB W = true) : SuOk W ∧ AdrOk (getB W) := by
  unfold suB at h
  simp only [Bool.and_eq_true, decide_eq_true_eq] at h
  obtain ⟨⟨⟨h1, h2⟩, h3⟩, h4⟩ := h
  refine ⟨⟨fun q hq => Bool.and_eq_true_iff.mp (List.all_eq_true.mp h1 q hq), h2, h3⟩, fun p => ?_⟩
  unfold getB valB
  cases e : W.find? (fun q => decide (q.1 = p)) with
  | none => exact ⟨by decide +kernel, by decide +kernel⟩
  | some q =>
    have := List.all_eq_true.mp h4 q (List.mem_of_find?_eq_some e)
    exact ⟨gA_ok this, gA_len this⟩
theorem m0_of {x : Nd} {W : Bd} (h : GP x ∧ hlW x = []) (s : suB W = true) : M0Ok 15 (x, W) := by
  obtain ⟨s1, s2⟩ := su_of s
  exact ⟨gp_prt h.1, s1, fun p => (s2 p).1, by have := h.1.dep; show x.dep ≤ 15; omega, h.2⟩
theorem tr_d (t : Nat) : (trN t).d = .tup [.str "element", .tup [.str "", .str "a"], .pt [.tup [.str "p", .str "u"], .tup [.str "r", .str "w"]], .tup ((rowsN t).map atrD), .tup []] := by unfold trN; rw [Nd.d, ndsD]; rfl
theorem trX_d (t : Nat) : (trX t).d = .tup [.str "element", .tup [.str "", .str "a"], .pt [.tup [.str "p", .str "u"], .tup [.str "q", .str "u"], .tup [.str "", .str ""]], .tup ((rowsN t).map atrD), .tup []] := by unfold trX; rw [Nd.d, ndsD]; rfl
theorem dueT_ok : dueT.sh = true ∧ dueT.eqv dueT = true := ⟨by decide +kernel, (eqv_iff _ _ (by decide +kernel) (by decide +kernel)).mpr rfl⟩
section
variable {P : Program} {w : World} {K : PySem.W.Frag} {mg : Str → Option Value} {base : Heap} {Z : Vol} {f : Addr} {fd : FuncData}
noncomputable def gTh : List D → Option Res := gT (fun t : Nat => [.int (t : Int)]) (fun t => t < 4) fun _ => .va (.bl true)
theorem int1_inj (x y : Nat) (h : ([.int (x : Int)] : List D) = [.int (y : Int)]) : x = y := intN_inj x y (by injection h)
theorem gTh_of {t : Nat} (h : t < 4) : gTh [.int (t : Int)] = some (.va (.bl true)) := gT_of (enc := fun t : Nat => [.int (t : Int)]) int1_inj h
abbrev DTh (P : Program) (w : World) (K : PySem.W.Frag) (mg : Str → Option Value) (base : Heap) (Z : Vol) := Df P w K mg base "_law_three_right" 38 ["turn"] (spP Z K 1 gTh)
abbrev DMg0 (P : Program) (w : World) (K : PySem.W.Frag) (mg : Str → Option Value) (base : Heap) (Z : Vol) := DfD P w K mg base "meaning" 37 ["part", "surrounding", "filling"] (spP Z K 3 (gM0 15)) [.non]
abbrev sTh : Stmt := st__law_three_right
abbrev nmTh : List Str := ["turn", "one", "two", "three", "rows", "part", "due"]
theorem ok_th (F : Fun K "_law_three_right" "_law_three_right" sTh f fd) (T : Cst mg) (D1 : DMg0 P w K mg base Z) : FnOk P w K mg base CX0 38 f fd ["turn"] (spP Z K 1 gTh) := by
  have sc : FnScope nmTh ["turn"] (defScope sTh) := ⟨rfl, rfl, rfl, by decide +kernel, rfl, by decide +kernel, by decide +kernel⟩
  refine fn_pure F sc rfl (gT_out fun x hx => rfl) fun cdv A outer s H E b ds r hr hl hg => ?_
  obtain ⟨t, rfl, ht, rfl⟩ := gT_one hg
  have ht : t < 4 := ht
  have hno := List.all_eq_true.mp tr_no t (List.mem_range.mpr ht)
  rw [Bool.and_eq_true] at hno
  show SV _ _ _ (Stmt.Assign _ _ _ :: _) _
  with_reducible refine sv_cvU (.tp [.nm 1, .nm 2, .nm 3]) (d := .tup [atrD tA1, atrD tA2, atrD tA3]) (δ' := [.va (.int (t : Int)), .va (atrD tA1), .va (atrD tA2), .va (atrD tA3), .un, .un, .un]) ?_ ?_ ?_ ?_ ?_ ?_ ?_ ?_
  · exact .tup (.cons (.tup (.cons (.tup (.cons .str (.cons .str .nil))) (.cons .str .nil))) (.cons (.tup (.cons (.tup (.cons .str (.cons .str .nil))) (.cons (.tup (.cons .str (.cons .str .nil))) .nil))) (.cons (.tup (.cons (.tup (.cons .str (.cons .str .nil))) (.cons .str .nil))) .nil)))
  · decide +kernel
  · exact pg_tup rfl (pgs_cons (pg_name (i := 1) sc.nd rfl (Or.inl rfl)) (pgs_cons (pg_name (i := 2) sc.nd rfl (Or.inl rfl)) (pgs_cons (pg_name (i := 3) sc.nd rfl (Or.inl rfl)) pgs_nil)))
  · rfl
  rotate_left 1
  · rfl
  · rfl
  · rfl
  show SV _ _ _ (Stmt.Assign _ _ _ :: _) _
  with_reducible refine sv_cvIx (i := 4) (ds := [.tup ((rowsN 0).map atrD), .tup ((rowsN 1).map atrD), .tup ((rowsN 2).map atrD), .tup ((rowsN 3).map atrD)]) ?_ ?_ ?_ ?_ ?_ ?_ ?_ ?_ ?_
  rotate_left 3
  · exact sc.nd
  · rfl
  · exact Or.inl rfl
  · rfl
  · exact .inr rfl
  · exact fun _ _ => rfl
  · exact .tup (.cons (.tup (.cons (.var (ev_var 1 rfl ⟨rfl, rfl⟩)) (.cons (.var (ev_var 2 rfl ⟨rfl, rfl⟩)) (.cons (.var (ev_var 3 rfl ⟨rfl, rfl⟩)) .nil)))) (.cons (.tup (.cons (.var (ev_var 3 rfl ⟨rfl, rfl⟩)) (.cons (.var (ev_var 2 rfl ⟨rfl, rfl⟩)) (.cons (.var (ev_var 1 rfl ⟨rfl, rfl⟩)) .nil)))) (.cons (.tup (.cons (.var (ev_var 2 rfl ⟨rfl, rfl⟩)) (.cons (.var (ev_var 1 rfl ⟨rfl, rfl⟩)) (.cons (.var (ev_var 3 rfl ⟨rfl, rfl⟩)) .nil)))) (.cons (.tup (.cons (.var (ev_var 1 rfl ⟨rfl, rfl⟩)) (.cons (.var (ev_var 3 rfl ⟨rfl, rfl⟩)) (.cons (.var (ev_var 2 rfl ⟨rfl, rfl⟩)) .nil)))) .nil))))
  · decide +kernel
  refine ev_var 0 rfl ⟨_, .tup ((rowsN t).map atrD), rfl, ?_, ?_⟩
  · rcases lt4 ht with rfl | rfl | rfl | rfl <;> rfl
  show SV _ _ [.va (.int (t : Int)), .va (atrD tA1), .va (atrD tA2), .va (atrD tA3), .va (.tup ((rowsN t).map atrD)), .un, .un] _ _
  show SV _ _ _ (Stmt.Assign _ _ _ :: _) _
  with_reducible refine sv_cv (i := 5) (d := (trN t).d) ?_ ?_ ?_ ?_ ?_ ?_ ?_ ?_
  rotate_left 3
  · exact sc.nd
  · rfl
  · first | exact Or.inl rfl | exact Or.inr rfl
  · rfl
  · first | exact .inl rfl | exact .inr rfl
  · rw [tr_d]; exact .tup (.cons .str (.cons (.tup (.cons .str (.cons .str .nil))) (.cons (.pt (.cons (.tup (.cons .str (.cons .str .nil))) (.cons (.tup (.cons .str (.cons .str .nil))) .nil))) (.cons (.var (ev_var 4 rfl ⟨rfl, rfl⟩)) (.cons (.tup .nil) .nil)))))
  · rcases lt4 ht with rfl | rfl | rfl | rfl <;> (rw [tr_d]; decide +kernel)
  show SV _ _ _ (Stmt.Assign _ _ _ :: _) _
  with_reducible refine sv_cv (i := 6) (d := dueT) ?_ ?_ ?_ ?_ ?_ ?_ ?_ ?_
  rotate_left 3
  · exact sc.nd
  · rfl
  · first | exact Or.inl rfl | exact Or.inr rfl
  · rfl
  · first | exact .inl rfl | exact .inr rfl
  · exact .tup (.cons .str (.cons (.tup (.cons .str (.cons .str .nil))) (.cons (.tup (.cons (.tup (.cons (.tup (.cons .str (.cons .str .nil))) (.cons (.tup (.cons .str (.cons .str .nil))) .nil))) (.cons (.tup (.cons (.tup (.cons .str (.cons .str .nil))) (.cons .str .nil))) (.cons (.tup (.cons (.tup (.cons .str (.cons .str .nil))) (.cons .str .nil))) .nil)))) (.cons (.tup .nil) .nil))))
  · decide +kernel
  show SV _ _ [.va (.int (t : Int)), .va (atrD tA1), .va (atrD tA2), .va (atrD tA3), .va (.tup ((rowsN t).map atrD)), .va (trN t).d, .va dueT] _ _
  have k1 := gM0_of (m0_of (W := Wu) (no_gp hno.1) (by decide +kernel))
  have k2 := gM0_of (m0_of (W := Wv) (no_gp hno.1) (by decide +kernel))
  have k3 := gM0_of (m0_of (W := Wv) (no_gp hno.2) (by decide +kernel))
  rw [tr_non ht] at k1
  rw [tr_due ht] at k2
  rw [trX_non ht] at k3
  refine sv_if (et_pw (ew_or (et_notN (ev_callD D1 hr (fun _ => .cons .non .nil) (eva_cons (ev_var 5 rfl (eva_cons (ev_frzD (ev_disp1 (ev_str (ev_str ⟨kS "q", .str "u", rfl, rfl, _, rfl, eva_nil ⟨[(trN t).d, suD Wu], _, rfl, rfl, k1, _, rfl, ?_⟩⟩)))))))))))
  refine ew_or1 (et_neD hr.units (ev_callD D1 hr (fun _ => .cons .non .nil) (eva_cons (ev_var 5 rfl (eva_cons (ev_frzD (ev_disp1 (ev_str (ev_str ⟨kS "q", .str "v", rfl, rfl, _, rfl, eva_nil ⟨[(trN t).d, suD Wv], _, rfl, rfl, k2, ev_var 6 rfl ⟨_, _, rfl, rfl, dueT_ok.1, dueT_ok.1, ?_⟩⟩⟩)))))))))
  rw [dueT_ok.2]
  refine sv_nil ?_
  have hdv := congrArg Res.va (tr_d t)
  have hcv : ∀ {e : Expr}, CV ⟨(cxOf CX0 P w K mg base nmTh "_law_three_right" (defScope sTh) f cdv A outer s H E).nox, Z, H⟩ b [.va (.int (t : Int)), .va (atrD tA1), .va (atrD tA2), .va (atrD tA3), .va (.tup ((rowsN t).map atrD)), .va (trN t).d, .va dueT] e (trX t).d → EV ⟨(cxOf CX0 P w K mg base nmTh "_law_three_right" (defScope sTh) f cdv A outer s H E).nox, Z, H⟩ b [.va (.int (t : Int)), .va (atrD tA1), .va (atrD tA2), .va (atrD tA3), .va (.tup ((rowsN t).map atrD)), .va (trN t).d, .va dueT] e (fun b' r => b' = b ∧ r = .va (trX t).d) := fun h => cv_ev h (by rcases lt4 ht with rfl | rfl | rfl | rfl <;> (rw [trX_d]; decide +kernel))
  refine sv_ret (ev_isN (ev_callD D1 hr (fun _ => .cons .non .nil) (eva_cons ((hcv ?_).imp fun b2 r2 hh => ?_))))
  · rw [trX_d]
    exact .cat (.cat (.ev (ev_slTh (ev_var 5 rfl (ev_int ⟨_, 2, hdv, rfl, rfl, rfl⟩))) fun _ _ => rfl) (.tup (.cons (.pt (.cons (.tup (.cons .str (.cons .str .nil))) (.cons (.tup (.cons .str (.cons .str .nil))) (.cons (.tup (.cons .str (.cons .str .nil))) .nil)))) .nil))) (.ev (ev_slTl (ev_var 5 rfl (ev_int ⟨_, 3, hdv, rfl, rfl, rfl⟩))) fun _ _ => rfl)
  · obtain ⟨rfl, rfl⟩ := hh
    exact eva_cons (ev_frzD (ev_disp1 (ev_str (ev_str ⟨kS "q", .str "v", rfl, rfl, _, rfl, eva_nil ⟨[(trX t).d, suD Wv], _, rfl, rfl, k3, _, rfl, rfl, rfl, rfl⟩⟩))))
end
end G
set_option Elab.async false
set_option linter.all false
set_option maxRecDepth 100000
set_option maxHeartbeats 8000000
namespace G
open PySem PySem.Spec PyProof.Rows L2 PD
/-! ### _law_begin -/
def cellsOf (ns : List Int) : List Int := if ns = [] then [0] else ns
def leftOf (z : Int) : Int := if decide (z ≥ 1000000000000000000) = true then z else 0
theorem leftOf_pos (z : Int) : 0 ≤ leftOf z := by
  unfold leftOf
  split
  · rename_i h
    have := of_decide_eq_true h
    omega
  · exact Int.le_refl 0
theorem cellsOf_len {ns : List Int} (h : ns.length ≤ 63) : (cellsOf ns).length ≤ 63 ∧ cellsOf ns ≠ [] := by
  unfold cellsOf
  split
  · exact ⟨by decide, by simp⟩
  · exact ⟨h, by assumption⟩
theorem sqL_fr {K : PySem.W.Frag} {M : Addr → Prop} {H H' : Hp} {a : Addr} {xs : List V} (h : SqL K H a xs) (f : Fr M H H') (m : ¬ M a) : SqL K H' a xs := by
  rcases h with (e | ⟨o, e⟩) | h
  · exact .inl (.inl (f.keep m e))
  · exact .inl (.inr ⟨o, f.keep m e⟩)
  · exact .inr h
theorem dp_ints {K : PySem.W.Frag} {H : Hp} : ∀ ns : List Int, DpAll K H (ns.map V.int) (ns.map PyData.int)
  | [] => .nil
  | n :: ns => .cons (.int n) (dp_ints ns)
theorem ints_shaped (ns : List Int) : SeqAt.shaped (.list (ns.map PyData.int)) = true := by
  have h : PyData.canLayAll0 (ns.map PyData.int) = true ∧ PyData.depthAll (ns.map PyData.int) = 0 := by
    induction ns with
    | nil => exact ⟨rfl, rfl⟩
    | cons n ns ih => rw [List.map_cons]; simp [PyData.canLayAll0, PyData.canLay0, PyData.depthAll, PyData.depth, ih.1, ih.2]
  simp [SeqAt.shaped, PyData.canLay0, PyData.depth, h.1, h.2]
/-- what it makes: the dict s, the lists c, l in it -/
def spBeg (K : PySem.W.Frag) : Sp := fun vs H Q _ => ∃ (a : Addr) (ns : List Int), vs = [.ref a] ∧ SqL K H a (ns.map V.int) ∧ ns.length ≤ 63 ∧ ∀ (L : LC) (H' : Hp), L.cells = cellsOf ns → H L.s = none → H L.l = none → H L.c = none → L.s ≠ L.l → L.s ≠ L.c → L.l ≠ L.c →
  H' L.s = some (.dK (stKV L 0)) → H' L.c = some (.lst (L.cells.map V.int)) → H' L.l = some (.lst ((L.cells.map leftOf).map V.int)) → Fr (fun _ => False) H H' → Q (.ref L.s) H'
abbrev nBeg : List Str := ["script", "cells", "cell"]
abbrev sBeg : Stmt := st__law_begin
section
variable {P : Program} {w : World} {K : PySem.W.Frag} {mg : Str → Option Value} {base : Heap} {f : Addr} {fd : FuncData}
theorem op_geI {X : Cx} : OpR X (compareOp .GtE) (rI0 fun i j => .bl (decide (i ≥ j))) := op_ge
theorem ok_beg (F : Fun K "_law_begin" "_law_begin" sBeg f fd) (T : Cst mg) : FnOk P w K mg base CX0 1 f fd ["script"] (spBeg K) := by
  have sc : FnScope nBeg ["script"] (defScope sBeg) := ⟨rfl, rfl, rfl, by decide +kernel, rfl, by decide +kernel, by decide +kernel⟩
  have nd := sc.nd
  refine F.ok sc (fun vs H Q E h => ?_) (fun cdv A outer s H vs Q E hr h => ⟨_, pssW, ?_⟩)
  · obtain ⟨a, ns, rfl, _⟩ := h
    rfl
  obtain ⟨a, ns, rfl, hS, hl, hq⟩ := h
  have b0 := T.blt (cxOf CX0 P w K mg base nBeg "_law_begin" (defScope sBeg) f cdv A outer s H E).nox rfl
  have hu : (cxOf CX0 P w K mg base nBeg "_law_begin" (defScope sBeg) f cdv A outer s H E).nox.A.units + 64 < cLine := hr.units
  -- the cells
  have vr : ∀ {σ : L2.St} {H1 : Hp} {Q1 : VK} {p : Pos}, σ[0]? = some (some (.ref a)) → Q1 (.ref a) H1 → WE (cxOf CX0 P w K mg base nBeg "_law_begin" (defScope sBeg) f cdv A outer s H E).nox (.Name "script" p) σ H1 Q1 := fun h1 h2 => WE.of (pe_var (i := 0) (x := "script") rfl (by first | exact Or.inl rfl | exact Or.inr (Or.inl rfl) | exact Or.inr (Or.inr rfl)) (by decide) (by decide)) ⟨_, h1, h2⟩
  refine WSs.of (pss_cons (ps_set (i := 1) nd rfl (by first | exact Or.inl rfl | exact Or.inr rfl) (pe_ifExp ptW peW peW) rfl (.inl rfl)) pssW) ?_
  refine WT.of (pt_cmpR (op_neD hu) peW (pe_lst pa_nil) (nomark _)) ?_
  refine vr rfl ⟨by decide, fun p hp => ?_⟩
  have fp : Fr (fun _ => False) H (upd H p (.lst [])) := Fr.new hp
  have d1 : Dp K (upd H p (.lst [])) (.ref a) (.list (ns.map PyData.int)) := .lst (sqL_fr hS fp (fun z => z)) (dp_ints ns)
  have d2 : Dp K (upd H p (.lst [])) (.ref p) (.list []) := .lst (SqL.of upd_same) .nil
  refine ⟨_, _, d1, d2, ints_shaped ns, by decide, _, rfl, ?_⟩
  have eb : (!PyData.eqv (.list (ns.map PyData.int)) (.list [])) = decide (ns ≠ []) := by
    cases ns with
    | nil => rfl
    | cons n ns => simp [PyData.eqv, PyData.eqvAll]
  rw [eb]
  -- what follows once the cells stand
  have rest : ∀ (l : Addr) (H1 : Hp), Fr (fun _ => False) H H1 → H1 l = none → ∀ H2, H2 = upd H1 l (.lst ((cellsOf ns).map V.int)) → WSs (cxOf CX0 P w K mg base nBeg "_law_begin" (defScope sBeg) f cdv A outer s H E).nox (defBody sBeg).tail { nx := fun _ H' => Q .non H', rt := Q } ((L2.start nBeg [V.ref a]).set 1 (some (.ref l))) H2 := by
    rintro l H1 f1 hl1 H2 rfl
    have ra : ∀ (Hx : Hp) (zs : List Int), RpA K Hx (zs.map V.int) (zs.map D.int) := fun Hx zs => by
      induction zs with
      | nil => exact .nil
      | cons z zs ih => exact .cons (.int z) ih
    have st0 : Sts ⟨(cxOf CX0 P w K mg base nBeg "_law_begin" (defScope sBeg) f cdv A outer s H E).nox, noVol, H⟩ [] 0 ([Ar.no].map Ar.sl ++ List.replicate 2 .un) (L2.start nBeg [V.ref a]) H :=
      ⟨Fr.refl, trivial, fun p z => (nomatch z), [], List.nodup_nil, fun p z => (nomatch z), sls_start (.cons .no .nil) 2⟩
    have f2 : Fr (fun _ => False) H (upd H1 l (.lst ((cellsOf ns).map V.int))) := f1.trans (Fr.new hl1)
    obtain ⟨os1, st1, _⟩ := st0.put (i := 1) (b1 := 0) (H1 := upd H1 l (.lst ((cellsOf ns).map V.int))) (r := .ow ((cellsOf ns).map D.int)) (v := .ref l) f2 trivial (.ow (f1.back hl1) upd_same (fun z => z) (ra _ _)) rfl
    refine WSs.of (pss_cons (ps_ret (pe_disp (pps_cons pe_str peW (pps_cons pe_str peW (pps_cons pe_str pe_int (pps_cons pe_str pe_int pps_nil)))) rfl rfl (fun z => nomatch z) (by decide))) pssW) ?_
    intro p hp2
    refine WE.of (pe_var (i := 1) (x := "cells") rfl (by first | exact Or.inl rfl | exact Or.inr (Or.inl rfl) | exact Or.inr (Or.inr rfl)) (by decide) (by decide)) ⟨_, rfl, ?_⟩
    have f3 : Fr (fun _ => False) (upd H1 l (.lst ((cellsOf ns).map V.int))) (upd (upd H1 l (.lst ((cellsOf ns).map V.int))) p (.dK [])) := Fr.new hp2
    have st2 := st1.on (b' := 0) f3 trivial
    have cl := cellsOf_len hl
    have ev : EV ⟨(cxOf CX0 P w K mg base nBeg "_law_begin" (defScope sBeg) f cdv A outer s H E).nox, noVol, H⟩ 0 [.un, .ow ((cellsOf ns).map D.int), .un] (match (defBody sBeg).tail with | [.Return (some (.Dict _ [_, e, _, _] _)) _] => e | _ => .Constant .none 0 ⟨0, 0, 0, 0⟩) (fun _ r => r = .ow (((cellsOf ns).map leftOf).map D.int)) := by
      refine ev_mapT D.int (fun x y h => by injection h) (.nm 2) [("cell", 2)] (fun z => D.int (leftOf z)) rfl nd (blkOk_by (N := nBeg) (sc := defScope sBeg) (by decide +kernel)) (fun _ _ _ _ _ => pg_name (i := 2) nd rfl (by first | exact Or.inl rfl | exact Or.inr rfl)) (by simp [Pat.slots])
        (eic_list (ev_varO 1 rfl ⟨_, rfl, cellsOf ns, rfl, by omega, fun z hz => ⟨_, rfl, fun s H Cc cl fp => ?_⟩, by rw [List.map_map]; rfl⟩))
      refine ev_if (et_ord op_geI (nomark _) (ev_var 2 rfl (ev_bin op_pow (ev_int (ev_int fun os H H' x y jj rx ry Q q => ?_)))))
      cases rx with | va rx => ?_
      cases ry with | va ry => ?_
      cases rx
      cases ry
      refine ⟨10, 18, rfl, rfl, ⟨by decide, by decide, by decide⟩, q _ H' (.va (.int (10 ^ 18))) Fr.refl jj (.va (.int _)) ⟨z, 10 ^ 18, rfl, rfl, ?_⟩⟩
      unfold leftOf
      rw [show (10 ^ 18 : Int) = 1000000000000000000 by decide]
      cases decide (z ≥ 1000000000000000000) with
      | true => exact ev_var 2 rfl ⟨rfl, rfl⟩
      | false => exact ev_int ⟨rfl, rfl⟩
    refine ev os1 _ _ st2 _ fun v H4 b4 r f4 j4 rv hP => ?_
    subst hP
    cases rv with
    | @ow q xs _ nq eq _ rq =>
      have exs : ∀ (zs : List Int) (xs : List V), RpA K H4 xs (zs.map D.int) → xs = zs.map V.int := by
        intro zs
        induction zs with
        | nil => intro xs h; cases h; rfl
        | cons z zs ih =>
          intro xs h
          cases h with
          | cons h1 h2 => cases h1; rw [ih _ h2]; rfl
      rw [exs _ _ rq] at eq
      have e4 : H4 p = some (.dK []) := f4.keep (fun z => z) upd_same
      refine ⟨e4, [(.inr "cells", .ref l), (.inr "lefts", .ref q), (.inr "at", .int 0), (.inr "room", .int 0)], rfl, (by show 4 ≤ 15; decide), ?_⟩
      have hp1 : H1 p = none := (Fr.new (M := fun _ => False) hl1).back hp2
      have hlp : p ≠ l := fun z => by rw [z] at hp2; rw [upd_same] at hp2; cases hp2
      have hq2 : upd H1 l (.lst ((cellsOf ns).map V.int)) q = none := f3.back nq
      have hqp : p ≠ q := fun z => by rw [← z, upd_same] at nq; cases nq
      have hql : q ≠ l := fun z => by rw [z, upd_same] at hq2; cases hq2
      have hq1 : H1 q = none := (Fr.new (M := fun _ => False) hl1).back hq2
      have el : H4 l = some (.lst ((cellsOf ns).map V.int)) := f4.keep (fun z => z) (by rw [upd_ne (Ne.symm hlp)]; exact upd_same)
      refine hq ⟨p, q, l, 0, "", cellsOf ns, [], []⟩ _ rfl (f1.back hp1) (f1.back hq1) (f1.back hl1) hqp hlp hql upd_same (by rw [upd_ne (Ne.symm hlp)]; exact el) (by rw [upd_ne (Ne.symm hqp)]; exact eq) ?_
      intro x o hx
      have h5 := ((f2.trans f3).trans f4) x o hx
      rcases h5 with h5 | ⟨z, _⟩
      · refine .inl ?_
        rw [upd_ne (fun z => ?_)]
        · exact h5
        · rw [z, f1.back hp1] at hx; cases hx
      · exact z.elim
  cases e0 : decide (ns ≠ []) with
  | true =>
    have hne := of_decide_eq_true e0
    refine WE.of (pe_callTy call_list_of rfl b0.list (by decide +kernel) (pa_cons peW pa_nil rfl) (by decide) (by decide) rfl rfl) ?_
    refine vr rfl ⟨a, ns.map V.int, rfl, .inl (sqL_fr hS fp fun z => z), fun l hl1 => ?_⟩
    refine rest l _ fp hl1 _ ?_
    unfold cellsOf
    rw [if_neg hne]
  | false =>
    have hne : ns = [] := Decidable.not_not.mp (of_decide_eq_false e0)
    refine WE.of (pe_lst (pa_cons pe_int pa_nil)) ?_
    refine ⟨by decide, fun l hl1 => ?_⟩
    refine rest l _ fp hl1 _ ?_
    unfold cellsOf
    rw [if_pos hne]
    rfl
end
end G
set_option Elab.async false
set_option linter.all false
set_option maxRecDepth 100000
set_option maxHeartbeats 4000000
/-! The law: its turns, its end. -/
namespace G
open PySem PySem.Spec PyProof.Rows L2 PD
def ptN : Nd := .el "p" "a" [("p", "u")] [(("p", "b"), .q "" "c"), (("", "b"), .s "")] [.s "x", .h "h"]
def eeN : Nd := .el "" "e" [] [] []
def inN : Nd := .el "p" "d" [("", "")] [] [eeN]
def Wl : Bd := [("", "v"), ("p", "w")]
def lastD7 : D := .tup [.str "element", .tup [.str "u", .str "d"], .tup [], .tup [.tup [.str "element", .tup [.str "", .str "e"], .tup [], .tup []]]]
def lR1 : D := .tup [.tup [.str "u", .str "b"], .tup [.str "v", .str "c"]]
def lR2 : D := .tup [.tup [.str "", .str "b"], .str ""]
def dueL : D := .tup [.str "element", .tup [.str "u", .str "a"], .tup [lR2, lR1], .tup [.str "x", lastD7]]
theorem dueL_ok : dueL.sh = true ∧ dueL.eqv dueL = true := ⟨by decide +kernel, (eqv_iff _ _ (by decide +kernel) (by decide +kernel)).mpr rfl⟩
theorem srt_two : srtBy fstOf [lR1, lR2] = [lR2, lR1] := by
  have a : leD (fstOf lR2) (fstOf lR1) = true := by decide +kernel
  have c : leD (fstOf lR1) (fstOf lR2) = false := by decide +kernel
  refine srt_is (.swap _ _ _) (.cons (fun d hd => ?_) (.cons (fun d hd => nomatch hd) .nil)) fun x hx y hy h1 h2 => ?_
  · rw [List.mem_singleton.mp hd]; exact a
  · simp only [List.mem_cons, List.not_mem_nil, or_false] at hx hy
    rcases hx with rfl | rfl <;> rcases hy with rfl | rfl <;> first | rfl | (rw [c] at h1; cases h1) | (rw [c] at h2; cases h2)
theorem srt_nil0 : srtBy fstOf [] = [] := List.Perm.eq_nil (List.mergeSort_perm _ _)
/-- what prefixes are bound to in the part; within what fills its hole -/
def bA : Af := bndA [("p", "u")] (getB Wl)
def bB : Af := bndA [("", "")] bA
theorem ee_mean : meanQ bB eeN = some (.tup [.str "element", .tup [.str "", .str "e"], .tup [], .tup []]) := by
  unfold eeN
  rw [meanQ, if_neg (fun z => z.1 rfl)]
  show (match meansQ (bndA [] bB) [] with | none => none | some ins => some (D.tup [.str "element", .tup [.str (bndA [] bB ""), .str "e"], .tup (srtBy fstOf []), .tup ins])) = _
  rw [meansQ, srt_nil0, show bndA [] bB "" = "" by decide +kernel]
theorem in_mean : meanQ bA inN = some lastD7 := by
  unfold inN
  rw [meanQ, if_neg (fun z => absurd z.2 (by decide +kernel))]
  show (match meansQ bB [eeN] with | none => none | some ins => some (D.tup [.str "element", .tup [.str (bB "p"), .str "d"], .tup (srtBy fstOf []), .tup ins])) = _
  rw [meansQ, ee_mean, meansQ, srt_nil0, show bB "p" = "u" by decide +kernel]
  rfl
theorem pt_rows : attQ bA [] [(("p", "b"), .q "" "c"), (("", "b"), .s "")] = some [lR1, lR2] := by
  have hs : (attQ bA [] [(("p", "b"), .q "" "c"), (("", "b"), .s "")]).isSome = true := by decide +kernel
  cases e : attQ bA [] [(("p", "b"), .q "" "c"), (("", "b"), .s "")] with
  | none => rw [e] at hs; cases hs
  | some rs =>
    rw [attQ_mem _ _ _ e]
    show some [D.tup [.tup [.str (addrOf bA "p"), .str "b"], .tup [.str (bA ""), .str "c"]], .tup [.tup [.str (addrOf bA ""), .str "b"], .str ""]] = _
    rw [show addrOf bA "p" = "u" by decide +kernel, show bA "" = "v" by decide +kernel, show addrOf bA "" = "" by decide +kernel]
    rfl
theorem pt_due : mnD (meanF (getB Wl) (flF [("h", inN)]) ptN) = dueL := by
  unfold ptN
  rw [meanF, if_neg (fun z => absurd z.2 (by decide +kernel))]
  show mnD (match attQ bA [] [(("p", "b"), .q "" "c"), (("", "b"), .s "")] with | none => none | some rows => match meansF bA (flF [("h", inN)]) [.s "x", .h "h"] with | none => none | some ins => some (D.tup [.str "element", .tup [.str (bA "p"), .str "a"], .tup (srtBy fstOf rows), .tup ins])) = _
  have hf : flF [("h", inN)] "h" = inN := by
    unfold flF
    rw [List.find?_cons, decide_eq_true rfl]
    rfl
  have hm : meansF bA (flF [("h", inN)]) [.s "x", .h "h"] = some [.str "x", lastD7] := by
    rw [meansF, meanF, meansF, meanF, hf, in_mean, meansF]
    rfl
  rw [pt_rows, hm]
  show D.tup [.str "element", .tup [.str (bA "p"), .str "a"], .tup (srtBy fstOf [lR1, lR2]), .tup [.str "x", lastD7]] = _
  rw [srt_two, show bA "p" = "u" by decide +kernel]
  rfl
theorem pt_gp : GP ptN := ⟨rfl, by decide +kernel, by decide +kernel, by decide +kernel, by decide +kernel, by decide +kernel⟩
theorem in_gp : GP inN := ⟨rfl, by decide +kernel, by decide +kernel, by decide +kernel, by decide +kernel, by decide +kernel⟩
theorem pt_mg : MgOk 7 15 ((ptN, Wl), [("h", inN)]) := by
  have m1 : ∀ q ∈ [(("h" : Str), inN)], q = (("h" : Str), inN) := fun q hq => List.mem_singleton.mp hq
  obtain ⟨s1, s2⟩ := su_of (W := Wl) (by decide +kernel)
  have hh : hlW ptN = [("h" : Str)] := by decide +kernel
  refine ⟨gp_prt pt_gp, s1, fun p => (s2 p).1, ⟨fun q hq => by rw [m1 q hq]; exact (by decide +kernel : gW "h" = true), fun q hq => by rw [m1 q hq]; exact in_gp, fun q hq => by rw [m1 q hq]; exact (by decide +kernel : hlW inN = [])⟩, fun q hq => by rw [m1 q hq]; exact (by decide +kernel : inN.dep ≤ 7), by show G.hdp 7 ptN ≤ 15; unfold G.hdp; have : ptN.dep ≤ 2 := (by decide +kernel); split <;> omega, fun z hz => ?_⟩
  have hz : z ∈ hlW ptN := hz
  rw [hh] at hz
  exact hz
theorem pt_d : ptN.d = .tup [.str "element", .tup [.str "p", .str "a"], .pt [.tup [.str "p", .str "u"]], .tup [.tup [.tup [.str "p", .str "b"], .tup [.str "", .str "c"]], .tup [.tup [.str "", .str "b"], .str ""]], .tup [.str "x", .tup [.str "hole", .str "h"]]] := by unfold ptN; rw [Nd.d, ndsD, ndsD, ndsD, Nd.d, Nd.d]; rfl
theorem in_d : inN.d = .tup [.str "element", .tup [.str "p", .str "d"], .pt [.tup [.str "", .str ""]], .tup [], .tup [.tup [.str "element", .tup [.str "", .str "e"], .pt [], .tup [], .tup []]]] := by unfold inN eeN; rw [Nd.d, ndsD, ndsD, Nd.d, ndsD]; rfl
section
variable {P : Program} {w : World} {K : PySem.W.Frag} {mg : Str → Option Value} {base : Heap} {f : Addr} {fd : FuncData}
/-- what the law calls -/
structure Law7 (P : Program) (w : World) (K : PySem.W.Frag) (mg : Str → Option Value) (base : Heap) (L : LC) : Prop where
  draw : DDraw P w K mg base L none
  th : DTh P w K mg base (lawVol L none)
  gr : DGr P w K mg base (lawVol L none)
  rt : DR7 P w K mg base L
  mg3 : DMg3 P w K mg base (lawVol L none)
abbrev sLaw7 : Stmt := st_law
abbrev nLaw7 : List Str := ["script", "state", "turn", "part", "inner", "last", "due"]
theorem sc_law7 : FnScope nLaw7 ["script"] (defScope sLaw7) := ⟨rfl, rfl, rfl, by decide +kernel, rfl, by decide +kernel, by decide +kernel⟩
abbrev forBody : List Stmt → List Stmt
  | .For _ _ ss _ _ :: _ => ss
  | _ => []
def m340 : List Nat := [3, 40]
/-- one turn -/
theorem turn7 {L : LC} (T : Cst mg) (G0 : Law7 P w K mg base L) {cdv : Value} {A : Around} {outer : List Env} {s : Shared} {H H0 : Hp} {E : XK} (gd : (A.deeper (envOfC "law" (defScope sLaw7) s.heap.objs.size f cdv)).guards = some []) (hr : Room 38 (A.deeper (envOfC "law" (defScope sLaw7) s.heap.objs.size f cdv))) {b : Nat} (hb : b ≤ 90000000) {s2 : Sl} {ss : List Stmt} {F : PD.Fin}
    (hss : forBody ((defBody sLaw7).drop 3) = ss) (hF : ∀ b', b' ≤ b + 20001 → F.N b' [.un, .va L.sD, s2, .un, .un, .un, .un]) :
    SV (L.C (cxOf CX0 P w K mg base nLaw7 "law" (defScope sLaw7) f cdv A outer s H E).nox none H0) b [.un, .va L.sD, s2, .un, .un, .un, .un] ss F := by
  subst hss
  have nd := sc_law7.nd
  refine sv_if (et_not (et_val (ev_callG G0.rt gd hr (eva_cons (ev_var 1 rfl (eva_cons (ev_ix (ev_lst (eva_cons (ev_int (eva_cons (ev_int (eva_nil ⟨m340.map fun m : Nat => D.int (m : Int), rfl, by decide, ?_⟩)))))))))))))
  refine ev_draw G0.draw (hr.mono (by decide)) (ev_var 1 rfl (ev_int ⟨2, rfl, rfl, by decide, by decide, by omega, fun x hx => ⟨m340.map fun m : Nat => D.int (m : Int), _, D.int (m340[x] : Int), .inr rfl, rfl, atI_nat (by rw [List.getElem?_map, List.getElem?_eq_getElem hx]; rfl), ?_⟩⟩))
  have hm : 1 ≤ m340[x] ∧ m340[x] ≤ 1000 := by
    have : ∀ m ∈ m340, 1 ≤ m ∧ m ≤ 1000 := by decide
    exact this _ (List.getElem_mem hx)
  refine eva_nil ⟨rfl, ⟨by omega, m340[x], hm.1, hm.2, rfl⟩, fun b5 r5 _ po => ?_⟩
  obtain ⟨rfl, hb5⟩ := po
  exact ⟨true, rfl, sv_nil (sv_nil (hF _ (by omega)))⟩
/-- the last rows -/
theorem tail7 {L : LC} (G0 : Law7 P w K mg base L) {cdv : Value} {A : Around} {outer : List Env} {s : Shared} {H H0 : Hp} {E : XK} (hr : Room 38 (A.deeper (envOfC "law" (defScope sLaw7) s.heap.objs.size f cdv))) {b : Nat} {s2 : Sl} {ss : List Stmt} (hss : (defBody sLaw7).drop 4 = ss) :
    SV (L.C (cxOf CX0 P w K mg base nLaw7 "law" (defScope sLaw7) f cdv A outer s H E).nox none H0) b [.un, .va L.sD, s2, .un, .un, .un, .un] ss (retF fun _ r => r = .va (.bl true)) := by
  subst hss
  have nd := sc_law7.nd
  show SV _ _ _ (Stmt.Assign _ _ _ :: _) _
  with_reducible refine sv_cv (i := 3) (d := ptN.d) ?_ ?_ ?_ ?_ ?_ ?_ ?_ ?_
  rotate_left 3
  · exact nd
  · rfl
  · first | exact Or.inl rfl | exact Or.inr rfl
  · rfl
  · first | exact .inl rfl | exact .inr rfl
  · rw [pt_d]
    exact .tup (.cons .str (.cons (.tup (.cons .str (.cons .str .nil))) (.cons (.pt (.cons (.tup (.cons .str (.cons .str .nil))) .nil)) (.cons (.tup (.cons (.tup (.cons (.tup (.cons .str (.cons .str .nil))) (.cons (.tup (.cons .str (.cons .str .nil))) .nil))) (.cons (.tup (.cons (.tup (.cons .str (.cons .str .nil))) (.cons .str .nil))) .nil))) (.cons (.tup (.cons .str (.cons (.tup (.cons .str (.cons .str .nil))) .nil))) .nil)))))
  · rw [pt_d]; decide +kernel
  show SV _ _ _ (Stmt.Assign _ _ _ :: _) _
  with_reducible refine sv_cv (i := 4) (d := inN.d) ?_ ?_ ?_ ?_ ?_ ?_ ?_ ?_
  rotate_left 3
  · exact nd
  · rfl
  · first | exact Or.inl rfl | exact Or.inr rfl
  · rfl
  · first | exact .inl rfl | exact .inr rfl
  · rw [in_d]
    exact .tup (.cons .str (.cons (.tup (.cons .str (.cons .str .nil))) (.cons (.pt (.cons (.tup (.cons .str (.cons .str .nil))) .nil)) (.cons (.tup .nil) (.cons (.tup (.cons (.tup (.cons .str (.cons (.tup (.cons .str (.cons .str .nil))) (.cons (.pt .nil) (.cons (.tup .nil) (.cons (.tup .nil) .nil)))))) .nil)) .nil)))))
  · rw [in_d]; decide +kernel
  show SV _ _ _ (Stmt.Assign _ _ _ :: _) _
  with_reducible refine sv_cv (i := 5) (d := lastD7) ?_ ?_ ?_ ?_ ?_ ?_ ?_ ?_
  rotate_left 3
  · exact nd
  · rfl
  · first | exact Or.inl rfl | exact Or.inr rfl
  · rfl
  · first | exact .inl rfl | exact .inr rfl
  · exact .tup (.cons .str (.cons (.tup (.cons .str (.cons .str .nil))) (.cons (.tup .nil) (.cons (.tup (.cons (.tup (.cons .str (.cons (.tup (.cons .str (.cons .str .nil))) (.cons (.tup .nil) (.cons (.tup .nil) .nil))))) .nil)) .nil))))
  · decide +kernel
  show SV _ _ _ (Stmt.Assign _ _ _ :: _) _
  with_reducible refine sv_cv (i := 6) (d := dueL) ?_ ?_ ?_ ?_ ?_ ?_ ?_ ?_
  rotate_left 3
  · exact nd
  · rfl
  · first | exact Or.inl rfl | exact Or.inr rfl
  · rfl
  · first | exact .inl rfl | exact .inr rfl
  · exact .tup (.cons .str (.cons (.tup (.cons .str (.cons .str .nil))) (.cons (.tup (.cons (.tup (.cons (.tup (.cons .str (.cons .str .nil))) (.cons .str .nil))) (.cons (.tup (.cons (.tup (.cons .str (.cons .str .nil))) (.cons (.tup (.cons .str (.cons .str .nil))) .nil))) .nil))) (.cons (.tup (.cons .str (.cons (.var (ev_var 5 rfl ⟨rfl, rfl⟩)) .nil))) .nil))))
  · decide +kernel
  have k := gMx_of pt_mg
  rw [pt_due] at k
  show SV _ _ [.un, .va L.sD, s2, .va ptN.d, .va inN.d, .va lastD7, .va dueL] _ _
  refine sv_ret (ev_eqD hr.units (ev_callP G0.mg3 (hr.mono (by decide)) (eva_cons (ev_var 3 rfl (eva_cons (ev_frzD (ev_disp2 (ev_str (ev_str (ev_str (ev_str ⟨"", .str "v", "p", .str "w", rfl, rfl, rfl, rfl, by decide +kernel, _, rfl, ?_⟩)))))))))))
  refine eva_cons (ev_frzD (ev_disp1 (ev_str (ev_var 4 rfl ⟨kS "h", _, rfl, rfl, _, rfl, eva_nil ⟨[ptN.d, suD Wl, flD [("h", inN)]], _, rfl, rfl, k, ev_var 6 rfl ⟨_, _, rfl, rfl, dueL_ok.1, dueL_ok.1, ?_⟩⟩⟩))))
  rw [dueL_ok.2]
  exact ⟨rfl, rfl⟩
end
end G
set_option Elab.async false
set_option linter.all false
set_option maxRecDepth 100000
set_option maxHeartbeats 8000000
namespace G
open PySem PySem.Spec PyProof.Rows L2 PD
/-- a def of the row, its name, how its arguments bind -/
def HasF (K : PySem.W.Frag) (mg : Str → Option Value) (x : Str) (st : Stmt) (ps : List Str) : Prop := ∃ f fd, Fun K x x st f fd ∧ mg x = some (.ref f) ∧ Binds K fd ps []
/-- .. with a default, last -/
def HasN (K : PySem.W.Frag) (mg : Str → Option Value) (x : Str) (st : Stmt) : Prop := ∃ f fd, FunX K x st .non f fd ∧ mg x = some (.ref f)
structure Top07 (K : PySem.W.Frag) (mg : Str → Option Value) : Prop where
  prefix_ : HasF K mg "is_prefix" sPrefix ["thing"]
  local_ : HasF K mg "is_local" sLocal ["thing"]
  address : HasF K mg "is_address" sAddress ["thing"]
  name : HasF K mg "is_name" sName ["thing"]
  word : HasF K mg "is_word" sWord ["thing"]
  pair : HasF K mg "is_pair" sPair ["thing"]
  elem : HasF K mg "is_element" sElem ["thing"]
  isp : HasF K mg "is_part" sIsP ["thing"]
  need : HasF K mg "need_part" sNeed ["thing"]
  hol : HasF K mg "holes" sHol ["part"]
  walk : HasF K mg "walk" sWalk ["part"]
  holes : HasF K mg "holes_among" sHoles ["children"]
  made : HasF K mg "_is_made_of" sMade ["thing", "signs", "least", "most"]
  plain : HasF K mg "_is_plain" sPlain ["thing"]
  begins : HasF K mg "_begins" sBegins ["thing", "word"]
  hole : HasF K mg "_is_hole" sHole ["thing"]
  below : HasF K mg "_below" sBelow ["path", "element"]
  fault : HasF K mg "_fault" sFault ["thing"]
  fw : HasF K mg "_first_wrong" sFW ["thing"]
  wrong : HasF K mg "_wrong_item" sWrong ["thing"]
  decls : HasF K mg "_are_declarations" sDecls ["thing"]
  decl : HasF K mg "_is_declaration" sDecl ["thing"]
  empty : HasF K mg "_is_empty" sEmpty ["thing"]
  attrs : HasF K mg "_are_attributes" sAttrs ["thing"]
  attr : HasF K mg "_is_attribute" sAttr ["thing"]
  kids : HasF K mg "_are_children" sKids ["thing"]
  fh : HasF K mg "_first_hole_again" sFH ["part"]
  sur : HasF K mg "need_surrounding" sSur ["thing"]
  fil : HasF K mg "need_filling" sFil ["thing"]
  rd : HasF K mg "_read" sRd ["element", "around", "filling"]
  rc : HasF K mg "_read_child" sRc ["child", "bound", "filling"]
  rn : HasF K mg "_read_name" sRn ["name", "bound"]
  ras : HasF K mg "_read_attributes" sRas ["attributes", "bound"]
  ran : HasF K mg "_read_attribute_name" sRan ["name", "bound"]
  rv : HasF K mg "_read_value" sRv ["value", "bound"]
  mix : HasF K mg "_law_mixed" sMix ["cell", "k"]
  beg : HasF K mg "_law_begin" sBeg ["script"]
  draw : HasF K mg "_law_draw" sDraw ["state", "many"]
  lb : HasF K mg "_law_bound" sLB ["declarations", "outside"]
  pfx : HasF K mg "_law_prefix" sPfx ["state"]
  lnm : HasF K mg "_law_name" sNam ["state"]
  dc : HasF K mg "_law_declarations" sDc ["state", "most"]
  as : HasF K mg "_law_attributes" sAs ["state", "most"]
  el : HasF K mg "_law_element" sEl ["state", "deep", "most", "spare"]
  elems : HasF K mg "_law_elements" sElems ["part"]
  lho : HasF K mg "_law_holes" sLho ["part"]
  mng : HasN K mg "meaning" sMng
  bndR : HasF K mg "_bound_in" sBndR ["declarations", "around"]
  mf : HasF K mg "_law_meaning" sMn ["part", "outside", "fill"]
  tm : HasF K mg "_law_tame" sTm ["state", "part"]
  wd : HasF K mg "_law_world" sWd7 ["state", "many"]
  pt : HasF K mg "_law_part" sPt ["state", "spare"]
  fi : HasF K mg "_law_filling" sFi ["state", "part"]
  rt : HasF K mg "_law_right" sR7 ["state", "many"]
  gr : HasF K mg "_law_great_right" sGr ["many"]
  th : HasF K mg "_law_three_right" sTh ["turn"]
section
variable {P : Program} {w : World} {K : PySem.W.Frag} {mg : Str → Option Value} {base : Heap} {Z : Vol}
theorem df {x : Str} {st : Stmt} {ps : List Str} {k : Nat} {sp : Sp} (h : HasF K mg x st ps) (ok : ∀ f fd, Fun K x x st f fd → FnOk P w K mg base CX0 k f fd ps sp) : Df P w K mg base x k ps sp := by
  obtain ⟨f, fd, F, hm, hb⟩ := h
  exact Df.of F (ok f fd F) hm hb
theorem dfG {x : Str} {st : Stmt} {ps : List Str} {k : Nat} {sp : Sp} (h : HasF K mg x st ps) (ok : ∀ f fd, Fun K x x st f fd → FnG P w K mg base k f fd ps sp) : DfG P w K mg base x k ps sp := by
  obtain ⟨f, fd, F, hm, hb⟩ := h
  exact DfG.of F (ok f fd F) hm hb
abbrev lamM : Str := "_law_meaning.<locals>.<lambda>"
/-- a lambda's def, its code, its table -/
structure Lam (K : PySem.W.Frag) (mg : Str → Option Value) (base : Heap) (x : Str) (st : Stmt) (c T : Addr) : Prop where
  fc : ∀ f fd, Fun K x x st f fd → mg x = some (.ref f) → FunC K x x st f fd c
  tb : LamX.TabB base mg c T
/-- the program's defs that the law reaches -/
structure Prog07 (P : Program) (w : World) (K : PySem.W.Frag) (mg : Str → Option Value) (base : Heap) (Z : Vol) : Prop where
  mg3 : DMg3 P w K mg base Z
  mgN : DfN P w K mg base "meaning" 37 ["part", "surrounding", "filling"] (spP Z K 3 (gMx 7 15)) 2 "filling"
  mg0 : DMg0 P w K mg base Z
theorem prog07 (t : Top07 K mg) (T : Cst mg) (kc : KC K) {c2 T2 : Addr} (l2 : Lam K mg base "_read_attributes" sRas c2 T2) (z2 : LamZ Z T2 lamR) : Prog07 P w K mg base Z := by
  have made : DMade P w K mg base Z := df t.made fun _ _ F => ok_made F T
  have pfx : DB P w K mg base Z "is_prefix" 2 isPrefix := df t.prefix_ fun _ _ F => ok_prefix F T made
  have lcl : DB P w K mg base Z "is_local" 2 isLocal := df t.local_ fun _ _ F => ok_local F T made
  have adr : DB P w K mg base Z "is_address" 2 isAddr := df t.address fun _ _ F => ok_address F T made
  have word : DB P w K mg base Z "is_word" 2 isWord := df t.word fun _ _ F => ok_word F T made
  have plain : DB P w K mg base Z "_is_plain" 2 isPlain := df t.plain fun _ _ F => ok_plain F T made
  have pair : DB P w K mg base Z "is_pair" 1 isPair := df t.pair fun _ _ F => ok_pair F T
  have name : DB P w K mg base Z "is_name" 3 isName := df t.name fun _ _ F => ok_name F T pair pfx lcl
  have beg : DBegins P w K mg base Z := df t.begins fun _ _ F => ok_begins F T
  have hole : DB P w K mg base Z "_is_hole" 3 isHole := df t.hole fun _ _ F => ok_hole F T beg word
  have empty : DB P w K mg base Z "_is_empty" 1 isEmptyS := df t.empty fun _ _ F => ok_empty F T
  have decl : DB P w K mg base Z "_is_declaration" 3 isDecl := df t.decl fun _ _ F => ok_decl F T pair pfx adr empty
  have attr : DB P w K mg base Z "_is_attribute" 4 isAttr := df t.attr fun _ _ F => ok_attr F T pair name plain
  have elem : DElem P w K mg base Z := df t.elem fun _ _ F => ok_elem F beg
  have kids := df (P := P) (w := w) (base := base) t.kids fun _ _ F => ok_kids (Z := Z) F T empty plain elem hole
  have holes := df (P := P) (w := w) (base := base) t.holes fun _ _ F => ok_holes (Z := Z) F T beg
  have decls := df (P := P) (w := w) (base := base) t.decls fun _ _ F => ok_decls (Z := Z) F T decl
  have attrs := df (P := P) (w := w) (base := base) t.attrs fun _ _ F => ok_attrs (Z := Z) F T attr
  have wrong := df (P := P) (w := w) (base := base) t.wrong fun _ _ F => ok_wrong (Z := Z) F T elem name decls attrs kids
  have below : DBelow P w K mg base Z := df t.below fun _ _ F => ok_below F T elem
  have walk : DWalk P w K mg base Z := df t.walk fun _ _ F => ok_walk F T below
  have fw := df (P := P) (w := w) (base := base) t.fw fun _ _ F => ok_fw (Z := Z) F T below wrong
  have fh := df (P := P) (w := w) (base := base) t.fh fun _ _ F => ok_fh (Z := Z) F T walk holes
  have fault := df (P := P) (w := w) (base := base) t.fault fun _ _ F => ok_fault (Z := Z) F T fw fh
  have need : DNeed P w K mg base Z := df t.need fun _ _ F => ok_need F T fault
  have isp : DIsP P w K mg base Z := df t.isp fun _ _ F => ok_isp F T fault
  have hol : DHolG P w K mg base Z := df t.hol fun _ _ F => ok_holG F T need walk holes
  have sur : DSur P w K mg base Z := df t.sur fun _ _ F => ok_sur F T pfx adr
  have fil : DFil P w K mg base Z := df t.fil fun _ _ F => ok_fil F T word isp hol
  have bndR : DBndR P w K mg base Z := df t.bndR fun _ _ F => ok_bndR F T kc
  have rn : DRn P w K mg base Z := df t.rn fun _ _ F => ok_rn F T kc
  have ran : DRan P w K mg base Z := df t.ran fun _ _ F => ok_ran F T rn
  have rv : DRv P w K mg base Z := df t.rv fun _ _ F => ok_rv F T rn
  have ras : DRas P w K mg base Z := by
    obtain ⟨f, fd, F, hm, hb⟩ := t.ras
    exact Df.of F (ok_ras (l2.fc _ _ F hm) T l2.tb z2 ran rv) hm hb
  have rds : ∀ n, n ≤ 15 → (n ≠ 0 → DRd P w K mg base Z 7 n) := by
    intro n
    induction n with
    | zero => intro _ z; exact absurd rfl z
    | succ n ih =>
      intro hn _
      have rc : DRc P w K mg base Z 7 n := df t.rc fun _ _ F => ok_rc F T kc (ih (by omega))
      exact df t.rd fun _ _ F => ok_rd (by omega) F T kc bndR rn ras rc
  obtain ⟨f, fd, F, hm⟩ := t.mng
  have o3 : FnOk P w K mg base CX0 37 f fd ["part", "surrounding", "filling"] (spP Z K 3 (gMx 7 15)) := ok_mgx (H := 7) (N := 15) (by decide) F T kc need sur fil hol (rds 15 (by decide) (by decide))
  have o0 : FnOk P w K mg base CX0 37 f fd ["part", "surrounding", "filling"] (spP Z K 3 (gM0 15)) := ok_mg0 (H := 7) (N := 15) (by decide) F T kc need sur hol (rds 15 (by decide) (by decide))
  refine ⟨DfX.of F o3 hm fun T kV doc pm an cdv ct us its l1 l2 => match us, its, l1, l2 with | [_, _, _], [_], _, _ => ⟨_, rfl, rfl⟩, DfN.of F o3 hm fun T kV doc pm an cdv ct us its ws l1 l2 l3 => match us, its, ws, l1, l2, l3 with | [_, _], [_], [_], _, _, _ => ⟨_, rfl, rfl⟩, DfD.of F o0 hm (by simp) 2 rfl fun T kV doc pm an cdv ct us its l1 l2 => match us, its, l1, l2 with | [_, _], [_], _, _ => ⟨_, rfl, rfl⟩⟩
/-- what the law draws by -/
structure Drw07 (P : Program) (w : World) (K : PySem.W.Frag) (mg : Str → Option Value) (base : Heap) (L : LC) (p : Option Addr) : Prop where
  draw : DDraw P w K mg base L p
  nam : DNam P w K mg base L p
  dc : DDc P w K mg base L p
  as : DAs P w K mg base L p
theorem drw07 (t : Top07 K mg) (T : Cst mg) (kc : KC K) {L : LC} {p : Option Addr} (ok : L.Ok p) : Drw07 P w K mg base L p := by
  have mix : DMix P w K mg base (lawVol L p) := df t.mix fun _ _ F => ok_mix F T
  have draw : DDraw P w K mg base L p := df t.draw fun _ _ F => ok_draw F T ok mix
  have pfx : DPfx P w K mg base L p := df t.pfx fun _ _ F => ok_pfx F T draw
  have nam : DNam P w K mg base L p := df t.lnm fun _ _ F => ok_nam F T draw pfx
  have dc : DDc P w K mg base L p := df t.dc fun _ _ F => ok_dc F T kc draw pfx
  have as : DAs P w K mg base L p := df t.as fun _ _ F => ok_as F T kc draw nam
  exact ⟨draw, nam, dc, as⟩
theorem tms07 (t : Top07 K mg) (T : Cst mg) {L : LC} {p : Option Addr} (D1 : DDraw P w K mg base L p) : ∀ n, n ≠ 0 → DTm P w K mg base L p n := by
  intro n
  induction n with
  | zero => intro z; exact absurd rfl z
  | succ n ih => intro _; exact df t.tm fun _ _ F => ok_tm F T D1 ih
theorem dgs07 (t : Top07 K mg) (T : Cst mg) (kc : KC K) {L : LC} {p : Addr} (hgw : ∀ z ∈ L.sp, gW z = true) (ok : L.Ok (some p)) {q : Nat × Nat} (hq : q ∈ six) : ∃ c, c ≤ 1200 ∧ DG P w K mg base L p q.1 q.2 c := by
  have d := drw07 (P := P) (w := w) (base := base) t T kc ok
  have step : ∀ {n M c : Nat}, n ≤ 5 → M ≤ 3 → c ≤ 20000 → (n ≠ 0 → DG P w K mg base L p n M c) → DG P w K mg base L p (n + 1) M (3 * c + 30) := fun {n M c} h1 h2 h3 h4 => df t.el fun _ _ F => ok_elG h1 h2 h3 hgw F T ok d.draw d.dc d.as d.nam h4
  have one : ∀ {M : Nat}, M ≤ 3 → DG P w K mg base L p 1 M 30 := fun {M} h => step (n := 0) (c := 0) (by decide) h (by decide) fun z => absurd rfl z
  have two : ∀ {M : Nat}, M ≤ 3 → DG P w K mg base L p 2 M 120 := fun {M} h => step (n := 1) (c := 30) (by decide) h (by decide) fun _ => one h
  have three : ∀ {M : Nat}, M ≤ 3 → DG P w K mg base L p 3 M 390 := fun {M} h => step (n := 2) (c := 120) (by decide) h (by decide) fun _ => two h
  have four : ∀ {M : Nat}, M ≤ 3 → DG P w K mg base L p 4 M 1200 := fun {M} h => step (n := 3) (c := 390) (by decide) h (by decide) fun _ => three h
  unfold six at hq
  simp only [List.mem_cons, List.not_mem_nil, or_false] at hq
  rcases hq with rfl | rfl | rfl | rfl | rfl | rfl
  · exact ⟨30, by decide, one (by decide)⟩
  · exact ⟨120, by decide, two (by decide)⟩
  · exact ⟨390, by decide, three (by decide)⟩
  · exact ⟨120, by decide, two (by decide)⟩
  · exact ⟨1200, by decide, four (by decide)⟩
  · exact ⟨390, by decide, three (by decide)⟩
theorem cl07 (t : Top07 K mg) (T : Cst mg) (kc : KC K) {L : LC} (ok : L.Ok none) (hsp : L.sp = []) {c2 T2 c3 T3 : Addr} (l2 : Lam K mg base "_read_attributes" sRas c2 T2) (l3 : Lam K mg base "_law_meaning" sMn c3 T3) (z2 : LamZ (lawVol L none) T2 lamR) (z3 : LamZ (lawVol L none) T3 lamM) : Law7 P w K mg base L := by
  have pg : Prog07 P w K mg base (lawVol L none) := prog07 t T kc l2 z2
  have d0 : Drw07 P w K mg base L none := drw07 t T kc ok
  have elems : DElems P w K mg base (lawVol L none) := df t.elems fun _ _ F => ok_elems F T
  have lho : DLho P w K mg base (lawVol L none) := df t.lho fun _ _ F => ok_lho F T elems
  have lb : DLB P w K mg base (lawVol L none) := df t.lb fun _ _ F => ok_lb F T kc
  have mfs : ∀ n, n ≤ 15 → (n ≠ 0 → DMf P w K mg base (lawVol L none) 7 n) := by
    obtain ⟨f, fd, F, hm, hb⟩ := t.mf
    intro n
    induction n with
    | zero => intro _ z; exact absurd rfl z
    | succ n ih =>
      intro hn _
      exact Df.of F (mf_step (by omega) (l3.fc _ _ F hm) T kc l3.tb z3 lb (ih (by omega))) hm hb
  have mf15 := mfs 15 (by decide) (by decide)
  have wld : DW7 P w K mg base L := df t.wd fun _ _ F => ok_w7 F T kc d0.draw
  have de7 : DE7 P w K mg base L := by
    obtain ⟨f, fd, F, hm, hb⟩ := t.el
    exact els7_ok (by rw [hsp]; exact fun z hz => nomatch hz) F hm hb T (fun p h => (drw07 t T kc h).draw) (fun p h => (drw07 t T kc h).dc) (fun p h => (drw07 t T kc h).as) fun p h => (drw07 t T kc h).nam
  have fil : DFi P w K mg base L := df t.fi fun _ _ F => ok_fi F T kc ok d0.draw lho de7 (tms07 t T d0.draw 3 (by decide))
  have part : ∀ n p, (L.w (sp5.take n)).Ok (some p) → Df P w K mg base "_law_part" 10 ["state", "spare"] (spD (lawVol (L.w (sp5.take n)) (some p)) K 2 (prePt (L.w (sp5.take n)) p) (postPt (L.w (sp5.take n)))) := fun n p okp => by
    have d := drw07 (P := P) (w := w) (base := base) t T kc okp
    exact df t.pt fun _ _ F => ok_pt F T d.draw (fun q hq => dgs07 t T kc (fun z hz => ((sp5_sub (List.take_sublist n sp5)).2.2 z hz).1) okp hq) (tms07 t T d.draw 4 (by decide))
  have rt : DR7 P w K mg base L := dfG t.rt fun _ _ F => ok_r7 F T kc ok ⟨d0.draw, part, wld, fil, lho, mf15, pg.mg3, pg.mgN, pg.mg0⟩
  have gr : DGr P w K mg base (lawVol L none) := dfG t.gr fun _ _ F => ok_gr F T pg.mg3 mf15
  have th : DTh P w K mg base (lawVol L none) := df t.th fun _ _ F => ok_th F T pg.mg0
  exact ⟨d0.draw, th, gr, rt, pg.mg3⟩
/-! ### the law -/
section
variable {C : Cn} {b : Nat} {δ : List Sl} {F : PD.Fin} {c : Expr} {ss rest : List Stmt} {pos : Pos}
/-- .. what the names hold is known -/
def SVs (C : Cn) (b : Nat) (δ : List Sl) (σ : L2.St) (ss : List Stmt) (F : PD.Fin) : Prop :=
  ∀ os H, Sts C os b δ σ H → ∀ D : Ends, EndsOk C F os H D → WSs C.X ss D σ H
theorem svs_if {σ : L2.St} (h : ET C b δ c (fun b1 k => k = false ∧ SVs C b1 δ σ rest F)) : SVs C b δ σ (.If c ss [] pos :: rest) F := by
  intro os H st D ed
  refine WSs.of (pss_cons (ps_if ptW pssW pssW) pssW) ?_
  refine h os σ H st _ fun k H1 b1 f1 j1 hk => ?_
  obtain ⟨rfl, hk⟩ := hk
  have st1 := st.on f1 j1
  have ed1 := ed.on (Gr.of (os := os) f1)
  refine WSs.of pss_nil ?_
  exact hk os H1 st1 D ed1
end
def spLaw (K : PySem.W.Frag) (T2 T3 : Addr) : Sp := fun vs H Q _ => ∃ (a : Addr) (ns : List Int), vs = [.ref a] ∧ SqL K H a (ns.map V.int) ∧ ns.length ≤ 63 ∧ H T2 = some (.tbl #[]) ∧ H T3 = some (.tbl #[]) ∧ ∀ H', Q (.bl true) H'
theorem nil_sh : (D.lst []).sh = true := by decide +kernel
theorem ok_law07 {f : Addr} {fd : FuncData} (F : Fun K "law" "law" sLaw7 f fd) (t : Top07 K mg) (T : Cst mg) (hmin : mg "min" = none) (kc : KC K) {c2 T2 c3 T3 : Addr} (l2 : Lam K mg base "_read_attributes" sRas c2 T2) (l3 : Lam K mg base "_law_meaning" sMn c3 T3) (n23 : T2 ≠ T3) :
    FnG P w K mg base 39 f fd ["script"] (spLaw K T2 T3) := by
  have nd := sc_law7.nd
  refine fun_okG F sc_law7 (fun vs H Q E h => ?_) (fun cdv A outer s H vs Q E gd hr h => ⟨_, pssW, ?_⟩)
  · obtain ⟨a, ns, rfl, _⟩ := h
    rfl
  obtain ⟨a, ns, rfl, hS, hl, hT2, hT3, hq⟩ := h
  have gd2 : (A.deeper (envOfC "law" (defScope sLaw7) s.heap.objs.size f cdv)).guards = some [] := gd
  obtain ⟨fb, fdb, Fb, hmb, hbb⟩ := t.beg
  have okb : FnOk P w K mg base CX0 1 fb fdb ["script"] (spBeg K) := ok_beg Fb T
  have b0 := T.blt (cxOf CX0 P w K mg base nLaw7 "law" (defScope sLaw7) f cdv A outer s H E).nox rfl
  refine WSs.of (pss_cons (ps_set (i := 1) nd rfl (by first | exact Or.inl rfl | exact Or.inr rfl) (pe_call okb (hr.mono (by decide)) rfl hmb Fb.kp hbb .nil pass0 (pa_cons (pe_var (i := 0) (x := "script") rfl (by first | exact Or.inl rfl | exact Or.inr (Or.inl rfl) | exact Or.inr (Or.inr rfl)) (by decide) (by decide)) pa_nil) (by decide) rfl rfl) rfl (by first | exact .inl rfl | exact .inr rfl)) pssW) ?_
  refine ⟨_, rfl, a, ns, rfl, hS, hl, fun L0 H' hc n1 n2 n3 s1 s2 s3 e1 e2 e3 fr => ?_⟩
  have hTn : ∀ {Tb x : Addr}, H Tb = some (.tbl #[]) → H x = none → x ≠ Tb := fun e n z => by rw [z, e] at n; cases n
  have cl := cellsOf_len hl
  generalize hLL : (⟨L0.s, L0.l, L0.c, T2, lamR, L0.cells, [(T3, lamM)], []⟩ : LC) = L
  have hs : L.s = L0.s := by rw [← hLL]
  have hll : L.l = L0.l := by rw [← hLL]
  have hcc : L.c = L0.c := by rw [← hLL]
  have hTT : L.T = T2 := by rw [← hLL]
  have hqq : L.q = lamR := by rw [← hLL]
  have hce : L.cells = L0.cells := by rw [← hLL]
  have hts : L.ts = [(T3, lamM)] := by rw [← hLL]
  have hsp : L.sp = [] := by rw [← hLL]
  have one : ∀ t ∈ L.ts, t = (T3, lamM) := fun t ht => by
    rw [hts] at ht
    exact List.mem_singleton.mp ht
  have ok : L.Ok none := ⟨by rw [hs, hll]; exact s1, by rw [hs, hcc]; exact s2, by rw [hs, hTT]; exact hTn hT2 n1, by rw [hll, hcc]; exact s3, by rw [hll, hTT]; exact hTn hT2 n2, by rw [hcc, hTT]; exact hTn hT2 n3, (fun _ z => nomatch z), fun t ht => by
      rw [hs, hll, hcc, hTT]
      rcases one t ht with rfl
      exact ⟨hTn hT3 n1, hTn hT3 n2, hTn hT3 n3, n23⟩, fun t ht r hr e => by
      rcases one t ht with rfl
      rcases one r hr with rfl
      rfl, by rw [hce, hc]; omega, by rw [hce, hc]; exact cl.2, by rw [hsp]; exact fun x hx => nomatch hx⟩
  have tabs : ∀ {Tb : Addr} {q : Str}, H Tb = some (.tbl #[]) → LamX.TabS H' Tb q := fun e => ⟨#[], fr.keep (fun z => z) e, by first | exact PySem.W.TriplesOk.nil | trivial | simp [TriplesOk] | decide, fun pos cv hc => nomatch (show (none : Option Value) = some cv from hc)⟩
  have tab : LamX.TabS H' L.T L.q := by
    rw [hTT, hqq]
    exact tabs hT2
  have j : (lawVol L none).J 0 H' := ⟨L0.cells.map leftOf, by
    show H' L.s = some (.dK (stKV L 0))
    rw [hs, e1]
    unfold stKV
    rw [hcc, hll], by rw [hcc, hce]; exact e2, by rw [hll]; exact e3, by rw [List.length_map, hce], fun x hx => by
    obtain ⟨z, _, rfl⟩ := List.mem_map.mp hx
    exact leftOf_pos z, rfl, tab, fun t ht => by
      rcases one t ht with rfl
      exact tabs hT3⟩
  have st0 : Sts (L.C (cxOf CX0 P w K mg base nLaw7 "law" (defScope sLaw7) f cdv A outer s H E).nox none H') [] 0 ([Ar.no].map Ar.sl ++ List.replicate 6 .un) (L2.start nLaw7 [V.ref a]) H' :=
    ⟨Fr.refl, j, fun p z => (nomatch z), [], List.nodup_nil, fun p z => (nomatch z), sls_start (.cons .no .nil) 6⟩
  obtain ⟨os1, st1, _⟩ := st0.put (i := 1) (b1 := 0) (H1 := H') (r := .va L.sD) (v := .ref L0.s) Fr.refl j (.va (by
    rw [← hs]
    exact .obj (.d (.inl (by rw [hs]; exact e1))))) rfl
  have z2 : LamZ (lawVol L none) T2 lamR := by
    have := lawVol_lam ok
    rw [hTT, hqq] at this
    exact this
  have z3 : LamZ (lawVol L none) T3 lamM := lawVol_lam2 ok (t := (T3, lamM)) (by rw [hts]; exact List.mem_cons_self)
  have G0 : Law7 P w K mg base L := cl07 t T kc ok hsp l2 l3 z2 z3
  have hS' : SqL K H' a (ns.map V.int) := sqL_fr hS fr fun z => z
  -- the script stands where nothing changes
  have hSn : ∀ H2, Fr (lawVol L none).S H' H2 → SqL K H2 a (ns.map V.int) := fun H2 f2 => by
    rcases hS with (e | ⟨o, e⟩) | h
    · refine sqL_fr hS' f2 fun z => ?_
      have ne : ∀ {x : Addr}, H x = none → a ≠ x := fun n z => by rw [z, n] at e; cases e
      have nt : ∀ {Tb : Addr}, H Tb = some (.tbl #[]) → a ≠ Tb := fun n z => by rw [z, n] at e; cases e
      rcases z with z | z | z | z | z | ⟨t, ht, z⟩
      · exact ne n1 (by rw [z, hs])
      · exact ne n2 (by rw [z, hll])
      · exact ne n3 (by rw [z, hcc])
      · exact nt hT2 (by rw [z, hTT])
      · cases z
      · rcases one t ht with rfl
        exact nt hT3 z
    · have e9 := fr.frz e
      exact .inl (.inr ⟨o, f2.frz e9⟩)
    · exact .inr h
  have key : SVs (L.C (cxOf CX0 P w K mg base nLaw7 "law" (defScope sLaw7) f cdv A outer s H E).nox none H') 0 [.un, .va L.sD, .un, .un, .un, .un, .un] ((L2.start nLaw7 [V.ref a]).set 1 (some (.ref L0.s))) ((defBody sLaw7).drop 1) (retF fun _ r => r = .va (.bl true)) := by
    refine svs_if (et_neD hr.units (ev_filtT (fun i : Nat => D.int (i : Int)) intN_inj (.nm 2) [("turn", 2)] (fun _ => false) (fun i : Nat => D.int (i : Int)) rfl nd (blkOk_by (N := nLaw7) (sc := defScope sLaw7) (by decide +kernel)) (fun _ _ _ _ _ => pg_name (i := 2) nd rfl (Or.inl rfl)) (by simp [Pat.slots])
      (EI.c (ei_range b0 (ev_int ⟨4, rfl, by decide, List.range 4, rfl, by simp, fun tt htt => ⟨_, rfl, fun s H Cc cl fp => ?_, fun z => nomatch z⟩, ?_⟩)))))
    · exact et_not (et_val (ev_callP G0.th hr (eva_cons (ev_var 2 rfl (eva_nil ⟨[.int (tt : Int)], _, rfl, rfl, gTh_of (List.mem_range.mp htt), true, rfl, rfl, rfl⟩)))))
    · rw [show ((List.range 4).filter fun _ => false) = [] from rfl, List.map_nil]
      refine ev_lst (eva_nil ⟨[], rfl, by decide, .lst [], .lst [], rfl, rfl, nil_sh, nil_sh, ?_, ?_⟩)
      · rw [eqv_nil]; rfl
      refine svs_if (et_not (et_val (ev_callG G0.gr gd2 hr (eva_cons (ev_draw G0.draw (hr.mono (by decide)) (ev_var 1 rfl (ev_int ⟨6, rfl, rfl, by decide, by decide, by omega, fun x hx => eva_nil ⟨rfl, ⟨x, hx, rfl⟩, fun b5 r5 _ po => ?_⟩⟩)))))))
      obtain ⟨rfl, rfl⟩ := po
      refine ⟨true, rfl, rfl, fun os2 H2 st2 D2 ed2 => ?_⟩
      have hS2 := hSn H2 st2.fr
      refine for_at (.nm 2) rfl PassesOwn.never (pg_name (i := 2) nd rfl (by first | exact Or.inl rfl | exact Or.inr rfl)) st2 (Pd := fun b1 ds => b1 = 1 ∧ ds.length ≤ 12) (F := retF fun _ r => r = .va (.bl true)) (fun R k => ?_) (fun b1 ds hpd => ?_) (by intro _; rfl) _ ed2
      · refine WI.of (pi_range1 rfl b0.range (pa_cons (pe_op op_add pe_int (pe_callB (call_min2 rfl) rfl hmin (by decide +kernel) (pa_cons (pe_callB call_len rfl b0.len PySem.boot_len (pa_cons (pe_var (i := 0) (x := "script") rfl (by first | exact Or.inl rfl | exact Or.inr (Or.inl rfl) | exact Or.inr (Or.inr rfl)) (by decide) (by decide)) pa_nil) (by decide) (by decide) rfl rfl) (pa_cons pe_int pa_nil)) (by decide) (by decide) rfl rfl)) pa_nil) rfl) ?_
        refine ⟨_, rfl, _, ns.length, rfl, .inl ⟨_, hS2, by rw [List.length_map]⟩, _, 8, rfl, 4, _, rfl, rfl, ?_⟩
        have hN : ∃ N : Nat, N ≤ 12 ∧ (4 : Int) + (if (8 : Int) < (ns.length : Int) then 8 else (ns.length : Int)) = (N : Int) := by
          split
          · exact ⟨12, by omega, by omega⟩
          · exact ⟨4 + ns.length, by omega, by omega⟩
        obtain ⟨N, hN, eN⟩ := hN
        refine ⟨(N : Int), congrArg (fun z : Int => [V.int z]) eN, by omega, by omega, ?_⟩
        refine k _ H2 1 ((List.range N).map fun i => D.int (i : Nat)) Fr.refl st2.j ⟨fun os' H3 g i hi => ⟨show i < N by simpa using hi, fun x H4 y => ?_⟩, fun os' H3 g i hi => show N ≤ i by simpa using hi⟩ ⟨rfl, by rw [List.length_map, List.length_range]; exact hN⟩
        obtain ⟨rfl, rfl⟩ := y
        have hi' : i < N := by simpa using hi
        refine ⟨Fr.refl, .int i, by simp [hi'], ?_⟩
        have e : (0 : Int) + (i : Nat) = (i : Nat) := by omega
        rw [e]
        exact .int _
      · obtain ⟨rfl, hds⟩ := hpd
        refine ⟨fun pre b2 δ2 => b2 ≤ 1 + 20001 * pre.length ∧ ∃ s2 : Sl, δ2 = [.un, .va L.sD, s2, .un, .un, .un, .un], ⟨by simp, _, rfl⟩, ?_, ?_⟩
        · rintro pre d post b2 δ2 e ⟨hb2, s2, rfl⟩
          have hlen : pre.length + 1 ≤ 12 := by
            have := congrArg List.length e
            rw [List.length_append, List.length_cons] at this
            omega
          refine ⟨_, rfl, ?_⟩
          show SV _ _ [.un, .va L.sD, .va d, .un, .un, .un, .un] _ _
          with_reducible refine turn7 T G0 gd2 hr ?_ ?_ ?_
          · omega
          · rfl
          refine fun b' hb' => ⟨?_, _, rfl⟩
          rw [List.length_append, List.length_cons, List.length_nil]
          omega
        · rintro b2 δ2 ⟨hb2, s2, rfl⟩
          with_reducible refine tail7 G0 hr ?_
          rfl
  exact key os1 H' st1 _ ⟨(fun b' δ' os' σ' H2 z s g => nomatch z), fun _ _ _ _ _ z _ _ => z.elim, fun _ _ _ _ _ z _ _ => z.elim, fun v H2 b' r z rv f j => by
    obtain ⟨_, rfl⟩ := z
    cases rv with
    | va rv =>
      cases rv
      exact hq H2⟩
end
end G
set_option Elab.async false
set_option linter.all false
set_option maxRecDepth 100000
set_option maxHeartbeats 4000000
namespace PD
open PySem PySem.Spec PyProof.Rows L2
/-! ### the law's call, where no repr is under way -/
/-- what is tracked when the law begins: the tables of code, the script (if it is none of the module's objects) -/
def startH (K : PySem.W.Frag) (T : List Addr) (a : Addr) (o : Obj) (ns : List Int) : Hp := fun b =>
  if b ∈ T then some (.tbl #[]) else if b = a ∧ (K.lookup a).isNone = true then some (.frz o (.lst (ns.map V.int))) else none
section
variable {K : PySem.W.Frag} {T : List Addr} {a : Addr} {o : Obj} {ns : List Int}
theorem startH_tab {b : Addr} (hb : b ∈ T) : startH K T a o ns b = some (.tbl #[]) := if_pos hb
theorem startH_some {b : Addr} {u : HO} (e : startH K T a o ns b = some u) : (b ∈ T ∧ u = .tbl #[]) ∨ (b ∉ T ∧ b = a ∧ K.lookup a = none ∧ u = .frz o (.lst (ns.map V.int))) := by
  unfold startH at e
  by_cases h1 : b ∈ T
  · rw [if_pos h1] at e
    exact .inl ⟨h1, (Option.some.inj e).symm⟩
  · rw [if_neg h1] at e
    by_cases h2 : b = a ∧ (K.lookup a).isNone = true
    · rw [if_pos h2] at e
      exact .inr ⟨h1, h2.1, Option.isNone_iff_eq_none.mp h2.2, (Option.some.inj e).symm⟩
    · rw [if_neg h2] at e
      cases e
theorem startH_a (hT : a ∉ T) (hk : K.lookup a = none) : startH K T a o ns a = some (.frz o (.lst (ns.map V.int))) := by
  unfold startH
  rw [if_neg hT, if_pos ⟨rfl, by rw [hk]; rfl⟩]
end
abbrev emptyTab : Obj := { cls := .none, data := .fields #[] }
section
variable {P : Program} {w : World} {K : PySem.W.Frag} {mg mb : Str → Option Value} {k : Nat} {fa a : Addr} {cs : List (Addr × Addr)} {fd : FuncData} {x : Str} {sp : Sp} {z : Shared} {vs : List Value} {ns : List Int}
theorem call_lawG (kin : K.In z.heap) (glob : z.heap.Ns mainGlobals mg) (blt : z.heap.Ns builtinsNs mb) (boot : ∀ y : Str, y ≠ "__name__" → mb y = bootBuiltins y) (nolim : z.heap.NoLimit) (gens : z.gens = #[])
    (tabs : ∀ p ∈ cs, z.heap.get? p.2 = some emptyTab) (apart : ∀ p ∈ cs, K.lookup p.2 = none) (codes : ∀ p ∈ cs, PySem.W.CodeHd z.heap p.1 p.2)
    (bmod : ∃ (m : Addr) (u : Obj), mg "__builtins__" = some (.ref m) ∧ m ≠ builtinsNs ∧ z.heap.get? m = some u ∧ u.cls = .type "module" ∧ u.dict = some builtinsNs ∧ u.data = .plain)
    (lst : z.heap.get? a = some { cls := .type "list", data := .seq vs.toArray }) (isI : IntsAre vs ns) (len : ns.length ≤ sizeLine) (room : Room k callerA)
    (F : ∀ base : Heap, K.In base → base.Ns mainGlobals mg → (∀ p ∈ cs, LamX.TabB base mg p.1 p.2) → FnG P w K mg base k fa fd [x] sp) (bind : ∀ (s : Shared) (u : Value), BindsTo s fd ⟨[u], []⟩ [(x, u)])
    (pre : ∀ H : Hp, (∀ p ∈ cs, H p.2 = some (.tbl #[])) → SqL K H a (ns.map V.int) → sp [.ref a] H (fun v _ => v = .bl true) E0) :
    codeAny (model P w) callerA (.call (.ref fa) ⟨[.ref a], []⟩) (fun r t => r = .ok (.ret (.bool true)) ∧ OldK z.heap t.heap ∧ t.os = z.os ∧ AllBare t.gens) z := by
  have vals := vals_ints isI
  generalize hTb : cs.map (·.2) = T
  generalize hob : ({ cls := .type "list", data := .seq vs.toArray } : Obj) = ob at lst
  have tabT : ∀ b ∈ T, z.heap.get? b = some emptyTab := by
    intro b hb
    rw [← hTb] at hb
    obtain ⟨p, hp, rfl⟩ := List.mem_map.mp hb
    exact tabs p hp
  have apartT : ∀ b ∈ T, K.lookup b = none := by
    intro b hb
    rw [← hTb] at hb
    obtain ⟨p, hp, rfl⟩ := List.mem_map.mp hb
    exact apart p hp
  have inT : ∀ p ∈ cs, p.2 ∈ T := fun p hp => by rw [← hTb]; exact List.mem_map.mpr ⟨p, hp, rfl⟩
  have aT : a ∉ T := fun h => by
    have e := (tabT a h).symm.trans lst
    rw [← hob] at e
    cases congrArg Obj.data (Option.some.inj e)
  generalize hH : startH K T a ob ns = H
  have some_ : ∀ {b : Addr} {u : HO}, H b = some u → (b ∈ T ∧ u = .tbl #[]) ∨ (b ∉ T ∧ b = a ∧ K.lookup a = none ∧ u = .frz ob (.lst (ns.map V.int))) := fun {b u} e => startH_some (by rw [hH]; exact e)
  -- an object that is neither a list nor an empty table is not tracked
  have untracked : ∀ {b : Addr} {u : Obj}, z.heap.get? b = some u → u.data ≠ ob.data → u.data ≠ .fields #[] → H b = none := by
    intro b u e n1 n2
    cases q : H b with
    | none => rfl
    | some y =>
      rcases some_ q with ⟨hb, _⟩ | ⟨_, hb, _, _⟩
      · rw [tabT b hb] at e
        cases e
        exact absurd rfl n2
      · rw [hb, lst] at e
        cases e
        exact absurd rfl n1
  have dictD : ∀ {u : Obj} {es : Array DictEntry} {ep : Nat}, u.data = .dict es ep → u.data ≠ ob.data ∧ u.data ≠ .fields #[] := by
    intro u es ep e
    rw [e, ← hob]
    exact ⟨(fun h => nomatch h), (fun h => nomatch h)⟩
  have under : ∀ {b : Addr} {m : Str → Option Value}, z.heap.Ns b m → (hidT z.heap H).Ns b m := by
    rintro b m ⟨u, es, ep, e, d, r⟩
    exact ⟨u, es, ep, hidT_get e (untracked e (dictD d).1 (dictD d).2), d, r⟩
  have kinB : K.In (hidT z.heap H) := by
    intro b u e
    refine hidT_get (kin b u e) ?_
    cases q : H b with
    | none => rfl
    | some y =>
      rcases some_ q with ⟨hb, _⟩ | ⟨_, hb, hk, _⟩
      · rw [apartT b hb] at e; cases e
      · rw [hb, hk] at e; cases e
  have tb : ∀ p ∈ cs, LamX.TabB (hidT z.heap H) mg p.1 p.2 := by
    intro p hp
    have ep := tabs p hp
    refine ⟨?_, ?_, ?_⟩
    · obtain ⟨u, fs, file, tf, flags, tg, inF, text, tt, e, r1, r2, r3, rest⟩ := codes p hp
      refine ⟨u, fs, file, tf, flags, tg, inF, text, tt, hidT_get e (untracked e ?_ ?_), r1, r2, r3, rest⟩
      · rw [r2, ← hob]; exact fun h => nomatch h
      · rw [r2]
        intro h
        injection h with h
        rw [h] at r3
        simp at r3
    · obtain ⟨m, u, e1, e2, e3, e4, e5, e6⟩ := bmod
      have d1 : u.data ≠ ob.data := by rw [e6, ← hob]; exact fun h => nomatch h
      have d2 : u.data ≠ .fields #[] := by rw [e6]; exact fun h => nomatch h
      refine ⟨m, u, e1, e2, ?_, ?_, hidT_get e3 (untracked e3 d1 d2), e4, e5, e6⟩
      · intro h
        obtain ⟨v, es, pp, g1, g2, _⟩ := glob
        rw [← h, e3] at g1
        cases g1
        rw [e6] at g2
        cases g2
      · intro h
        rw [h, ep] at e3
        cases e3
        exact d2 rfl
    · intro h
      obtain ⟨v, es, pp, g1, g2, _⟩ := glob
      rw [h, ep] at g1
      cases g1
      cases g2
  have sq : SqL K H a (ns.map V.int) := by
    cases hk : K.lookup a with
    | none => exact .inl (.inr ⟨ob, by rw [← hH]; exact startH_a aT hk⟩)
    | some u =>
      have e := (kin a u hk).symm.trans lst
      cases e
      refine .inr ⟨_, vs.toArray, _, hk, by rw [← hob], by rw [← hob], by rw [← hob], by rw [List.size_toArray, isI.length]; exact len, by simpa using vals⟩
  have hok : HOk P w H z.heap := by
    intro b u e
    rcases some_ e with ⟨hb, rfl⟩ | ⟨_, rfl, _, rfl⟩
    · exact tabT b hb
    · have l2 : z.heap.get? b = some { cls := .type "list", data := .seq vs.toArray } := by rw [hob]; exact lst
      exact ⟨lst, by rw [List.length_map]; exact len, vs, _, vals, l2⟩
  have en : Env0 P w K mg (hidT z.heap H) callerA [] z H :=
    ⟨rfl, ⟨kinB, under glob, ⟨mb, under blt, boot⟩, by obtain ⟨m, g1, g2⟩ := nolim; exact ⟨m, under g1, g2⟩⟩, fun b u e => of_hidT e, Nat.le_of_eq (hidT_size _ _), trivial, (fun b hb => by cases hb), hok, .of_eq gens⟩
  have hTab : ∀ p ∈ cs, H p.2 = some (.tbl #[]) := fun p hp => by rw [← hH]; exact startH_tab (inT p hp)
  refine codeAny_mono ((F _ kinB (under glob) tb).run callerA [] z H ⟨[.ref a], []⟩ [.ref a] [.ref a] _ _ rfl room en (bind z (.ref a)) (.cons rfl .nil) (pre H hTab sq)) fun r t done => ?_
  cases r with
  | error e => exact done.elim
  | ok fl =>
    cases fl with
    | next => exact done.elim
    | brk => exact done.elim
    | cont => exact done.elim
    | ret u =>
      obtain ⟨v, H2, os, bare, un, hok2, rv, rfl⟩ := done
      obtain rfl : u = Value.bool true := rv
      -- what is no table stays as it is
      have stays : ∀ b u, b ∉ T → z.heap.get? b = some u → t.heap.get? b = some u := by
        intro b u nb e
        cases q : H b with
        | none => exact un.keep b u e q (fun h => by cases h) (by simp)
        | some y =>
          rcases some_ q with ⟨hb, _⟩ | ⟨_, rfl, _, rfl⟩
          · exact absurd hb nb
          · have h1 := hok2 b _ (un.frzs b ob _ q)
            rw [lst] at e
            cases e
            exact h1.1
      have grows : ∀ b ∈ T, ∃ more : Array Value, t.heap.get? b = some { cls := .none, data := .fields more } := by
        intro b hb
        obtain ⟨more, e⟩ := un.tbls b #[] (by rw [← hH]; exact startH_tab hb)
        exact ⟨_, hok2 b _ e⟩
      refine ⟨rfl, ⟨fun b u e => ?_, fun b u e => ?_⟩, os, bare⟩
      · by_cases hb : b ∈ T
        · obtain ⟨more, em⟩ := grows b hb
          rw [← hTb] at hb
          obtain ⟨p, hp, rfl⟩ := List.mem_map.mp hb
          rw [tabs p hp] at e
          cases e
          exact .inr (.inl ⟨((codes p hp).tab (tabs p hp)).isCodeTable, rfl, #[], more, rfl, by rw [em, Array.empty_append]⟩)
        · exact .inl (stays b u hb e)
      · by_cases hb : b ∈ T
        · obtain ⟨more, em⟩ := grows b hb
          exact ⟨_, em⟩
        · exact ⟨u, stays b u hb e⟩
end
/-- what is known of the law's promise at the head's heap -/
def LawG (l : PySem.W.OpenLaw) (w : World) (K : PySem.W.Frag) (k n : Nat) (x : Str) (mg : Str → Option Value) (fa : Addr) (h : Heap) : Prop :=
  ∃ (fd : FuncData) (cs : List (Addr × Addr)) (sp : Sp), (∀ p ∈ cs, h.get? p.2 = some emptyTab ∧ K.lookup p.2 = none ∧ PySem.W.CodeHd h p.1 p.2) ∧ (∀ (s : Shared) (u : Value), BindsTo s fd ⟨[u], []⟩ [(x, u)]) ∧
    (∀ (H : Hp) (a : Addr) (ns : List Int), ns.length ≤ n → (∀ i ∈ ns, Builtin.Int.intBits i ≤ 1048576) → (∀ p ∈ cs, H p.2 = some (.tbl #[])) → SqL K H a (ns.map V.int) → sp [.ref a] H (fun v _ => v = .bl true) E0) ∧
    ∀ base : Heap, K.In base → base.Ns mainGlobals mg → (∀ p ∈ cs, LamX.TabB base mg p.1 p.2) → FnG l.prog w K mg base k fa fd [x] sp
theorem walk_G {l : PySem.W.OpenLaw} {n k : Nat} {q : Program} {loose : List Str} {XP : (Str → Option Value) → Heap → Prop} {YP : World → Heap → Prop} {d : DefRec} {x : Str}
    (hn : l.most = some n) (hn2 : n ≤ sizeLine) (hdf : d.params.defaults = []) (room : Room k callerA)
    (F : ∀ (w : World) (mg : Str → Option Value) (fa : Addr) (h : Heap), YP w h → h.Ns mainGlobals mg → mg d.name = some (.ref fa) → ∃ K : PySem.W.Frag, K.In h ∧ LawG l w K k n x mg fa h) :
    PySem.W.WalkO q loose XP YP l.row.toRowW d [] (fun f vs => PySem.call f vs) := by
  refine Att.attach_callB hn hdf fun w s0 s1 mg mb fa o pm cd doc a vs ns G Y _ _ _ hm obj isI hl bits gens => ?_
  obtain ⟨K, kin, fd, cs, sp, tabs, bind, pre, ok⟩ := F w mg fa _ Y G.T.g hm
  exact call_lawG kin G.T.g G.T.b G.T.builtins G.T.nolimit gens (fun p hp => (tabs p hp).1) (fun p hp => (tabs p hp).2.1) (fun p hp => (tabs p hp).2.2) G.T.bmain obj isI (Nat.le_trans hl hn2) room ok bind fun H hH hS => pre H a ns hl bits hH hS
end PD
set_option Elab.async false
set_option linter.all false
set_option maxRecDepth 100000
set_option maxHeartbeats 4000000
namespace G
open PySem PySem.Spec PyProof.Rows L2 PD
section
variable {K : PySem.W.Frag} {mg : Str → Option Value} {w : World} {h : Heap}
theorem hasF (X : K.In h) (N : h.Ns mainGlobals mg) (c : He.SaysX Hd07.fa Hd07.fn [] Hd07.tf Hd07.ex w h K) (i : Nat) (x : Str) (n : Nat) (ps : List Str) (h1 : Hd07.fn[i]? = some (Hd07.dd x n)) (h2 : Hd07.fa[i]? = some (.glo x))
    (hb : ∀ (kV doc pm : Value) (an : Option Addr) (cdv ct : Value) (us : List Value), us.length = ps.length → bindArgs (PySem.W.fnOf x x (defArgs (top n)) (defBody (top n)) (defScope (top n)) .none kV doc pm an cdv ct) ⟨us, []⟩ = pure (ps.zip us)) : HasF K mg x (top n) ps := by
  obtain ⟨fd, F⟩ := c.t.d.def_ i (d := Hd07.dd x n) h1
  have F1 : FunD K x x (defArgs (top n)) (defBody (top n)) (defScope (top n)) [] [] (He.ga K x) fd := F
  exact ⟨He.ga K x, fd, He5.fun_of F1, He.glo_ok X N (c.t.d.fact i (f := .glo x) h2), F1.bindsN hb⟩
theorem hasN (X : K.In h) (N : h.Ns mainGlobals mg) (c : He.SaysX Hd07.fa Hd07.fn [] Hd07.tf Hd07.ex w h K) (i : Nat) (x : Str) (n : Nat) (h1 : Hd07.fn[i]? = some (Hd07.dn x n)) (h2 : Hd07.fa[i]? = some (.glo x)) : HasN K mg x (top n) := by
  obtain ⟨fd, F⟩ := c.t.d.def_ i (d := Hd07.dn x n) h1
  have F1 : FunX K x (top n) .non (He.ga K x) fd := F
  exact ⟨He.ga K x, fd, F1, He.glo_ok X N (c.t.d.fact i (f := .glo x) h2)⟩
theorem top07 (X : K.In h) (N : h.Ns mainGlobals mg) (c : He.SaysX Hd07.fa Hd07.fn [] Hd07.tf Hd07.ex w h K) : Top07 K mg where
  prefix_ := hasF X N c 0 "is_prefix" 14 ["thing"] rfl rfl fun _ _ _ _ _ _ us hl => match us, hl with | [_], _ => rfl
  local_ := hasF X N c 1 "is_local" 15 ["thing"] rfl rfl fun _ _ _ _ _ _ us hl => match us, hl with | [_], _ => rfl
  address := hasF X N c 2 "is_address" 16 ["thing"] rfl rfl fun _ _ _ _ _ _ us hl => match us, hl with | [_], _ => rfl
  name := hasF X N c 3 "is_name" 17 ["thing"] rfl rfl fun _ _ _ _ _ _ us hl => match us, hl with | [_], _ => rfl
  word := hasF X N c 4 "is_word" 18 ["thing"] rfl rfl fun _ _ _ _ _ _ us hl => match us, hl with | [_], _ => rfl
  pair := hasF X N c 5 "is_pair" 19 ["thing"] rfl rfl fun _ _ _ _ _ _ us hl => match us, hl with | [_], _ => rfl
  elem := hasF X N c 6 "is_element" 20 ["thing"] rfl rfl fun _ _ _ _ _ _ us hl => match us, hl with | [_], _ => rfl
  isp := hasF X N c 7 "is_part" 21 ["thing"] rfl rfl fun _ _ _ _ _ _ us hl => match us, hl with | [_], _ => rfl
  need := hasF X N c 8 "need_part" 22 ["thing"] rfl rfl fun _ _ _ _ _ _ us hl => match us, hl with | [_], _ => rfl
  hol := hasF X N c 9 "holes" 23 ["part"] rfl rfl fun _ _ _ _ _ _ us hl => match us, hl with | [_], _ => rfl
  walk := hasF X N c 10 "walk" 24 ["part"] rfl rfl fun _ _ _ _ _ _ us hl => match us, hl with | [_], _ => rfl
  holes := hasF X N c 11 "holes_among" 25 ["children"] rfl rfl fun _ _ _ _ _ _ us hl => match us, hl with | [_], _ => rfl
  made := hasF X N c 12 "_is_made_of" 26 ["thing", "signs", "least", "most"] rfl rfl fun _ _ _ _ _ _ us hl => match us, hl with | [_, _, _, _], _ => rfl
  plain := hasF X N c 13 "_is_plain" 27 ["thing"] rfl rfl fun _ _ _ _ _ _ us hl => match us, hl with | [_], _ => rfl
  begins := hasF X N c 14 "_begins" 28 ["thing", "word"] rfl rfl fun _ _ _ _ _ _ us hl => match us, hl with | [_, _], _ => rfl
  hole := hasF X N c 15 "_is_hole" 29 ["thing"] rfl rfl fun _ _ _ _ _ _ us hl => match us, hl with | [_], _ => rfl
  below := hasF X N c 16 "_below" 30 ["path", "element"] rfl rfl fun _ _ _ _ _ _ us hl => match us, hl with | [_, _], _ => rfl
  fault := hasF X N c 17 "_fault" 31 ["thing"] rfl rfl fun _ _ _ _ _ _ us hl => match us, hl with | [_], _ => rfl
  fw := hasF X N c 18 "_first_wrong" 32 ["thing"] rfl rfl fun _ _ _ _ _ _ us hl => match us, hl with | [_], _ => rfl
  wrong := hasF X N c 19 "_wrong_item" 33 ["thing"] rfl rfl fun _ _ _ _ _ _ us hl => match us, hl with | [_], _ => rfl
  decls := hasF X N c 20 "_are_declarations" 34 ["thing"] rfl rfl fun _ _ _ _ _ _ us hl => match us, hl with | [_], _ => rfl
  decl := hasF X N c 21 "_is_declaration" 35 ["thing"] rfl rfl fun _ _ _ _ _ _ us hl => match us, hl with | [_], _ => rfl
  empty := hasF X N c 22 "_is_empty" 36 ["thing"] rfl rfl fun _ _ _ _ _ _ us hl => match us, hl with | [_], _ => rfl
  attrs := hasF X N c 23 "_are_attributes" 37 ["thing"] rfl rfl fun _ _ _ _ _ _ us hl => match us, hl with | [_], _ => rfl
  attr := hasF X N c 24 "_is_attribute" 38 ["thing"] rfl rfl fun _ _ _ _ _ _ us hl => match us, hl with | [_], _ => rfl
  kids := hasF X N c 25 "_are_children" 39 ["thing"] rfl rfl fun _ _ _ _ _ _ us hl => match us, hl with | [_], _ => rfl
  fh := hasF X N c 26 "_first_hole_again" 40 ["part"] rfl rfl fun _ _ _ _ _ _ us hl => match us, hl with | [_], _ => rfl
  sur := hasF X N c 27 "need_surrounding" 42 ["thing"] rfl rfl fun _ _ _ _ _ _ us hl => match us, hl with | [_], _ => rfl
  fil := hasF X N c 28 "need_filling" 43 ["thing"] rfl rfl fun _ _ _ _ _ _ us hl => match us, hl with | [_], _ => rfl
  rd := hasF X N c 30 "_read" 45 ["element", "around", "filling"] rfl rfl fun _ _ _ _ _ _ us hl => match us, hl with | [_, _, _], _ => rfl
  rc := hasF X N c 32 "_read_child" 47 ["child", "bound", "filling"] rfl rfl fun _ _ _ _ _ _ us hl => match us, hl with | [_, _, _], _ => rfl
  rn := hasF X N c 33 "_read_name" 48 ["name", "bound"] rfl rfl fun _ _ _ _ _ _ us hl => match us, hl with | [_, _], _ => rfl
  ras := hasF X N c 34 "_read_attributes" 49 ["attributes", "bound"] rfl rfl fun _ _ _ _ _ _ us hl => match us, hl with | [_, _], _ => rfl
  ran := hasF X N c 35 "_read_attribute_name" 50 ["name", "bound"] rfl rfl fun _ _ _ _ _ _ us hl => match us, hl with | [_, _], _ => rfl
  rv := hasF X N c 36 "_read_value" 51 ["value", "bound"] rfl rfl fun _ _ _ _ _ _ us hl => match us, hl with | [_, _], _ => rfl
  mix := hasF X N c 37 "_law_mixed" 53 ["cell", "k"] rfl rfl fun _ _ _ _ _ _ us hl => match us, hl with | [_, _], _ => rfl
  beg := hasF X N c 38 "_law_begin" 54 ["script"] rfl rfl fun _ _ _ _ _ _ us hl => match us, hl with | [_], _ => rfl
  draw := hasF X N c 39 "_law_draw" 55 ["state", "many"] rfl rfl fun _ _ _ _ _ _ us hl => match us, hl with | [_, _], _ => rfl
  lb := hasF X N c 40 "_law_bound" 56 ["declarations", "outside"] rfl rfl fun _ _ _ _ _ _ us hl => match us, hl with | [_, _], _ => rfl
  pfx := hasF X N c 42 "_law_prefix" 58 ["state"] rfl rfl fun _ _ _ _ _ _ us hl => match us, hl with | [_], _ => rfl
  lnm := hasF X N c 43 "_law_name" 59 ["state"] rfl rfl fun _ _ _ _ _ _ us hl => match us, hl with | [_], _ => rfl
  dc := hasF X N c 44 "_law_declarations" 60 ["state", "most"] rfl rfl fun _ _ _ _ _ _ us hl => match us, hl with | [_, _], _ => rfl
  as := hasF X N c 45 "_law_attributes" 61 ["state", "most"] rfl rfl fun _ _ _ _ _ _ us hl => match us, hl with | [_, _], _ => rfl
  el := hasF X N c 46 "_law_element" 62 ["state", "deep", "most", "spare"] rfl rfl fun _ _ _ _ _ _ us hl => match us, hl with | [_, _, _, _], _ => rfl
  elems := hasF X N c 47 "_law_elements" 63 ["part"] rfl rfl fun _ _ _ _ _ _ us hl => match us, hl with | [_], _ => rfl
  lho := hasF X N c 48 "_law_holes" 64 ["part"] rfl rfl fun _ _ _ _ _ _ us hl => match us, hl with | [_], _ => rfl
  bndR := hasF X N c 31 "_bound_in" 46 ["declarations", "around"] rfl rfl fun _ _ _ _ _ _ us hl => match us, hl with | [_, _], _ => rfl
  mf := hasF X N c 41 "_law_meaning" 57 ["part", "outside", "fill"] rfl rfl fun _ _ _ _ _ _ us hl => match us, hl with | [_, _, _], _ => rfl
  tm := hasF X N c 49 "_law_tame" 65 ["state", "part"] rfl rfl fun _ _ _ _ _ _ us hl => match us, hl with | [_, _], _ => rfl
  wd := hasF X N c 50 "_law_world" 66 ["state", "many"] rfl rfl fun _ _ _ _ _ _ us hl => match us, hl with | [_, _], _ => rfl
  pt := hasF X N c 51 "_law_part" 67 ["state", "spare"] rfl rfl fun _ _ _ _ _ _ us hl => match us, hl with | [_, _], _ => rfl
  fi := hasF X N c 52 "_law_filling" 68 ["state", "part"] rfl rfl fun _ _ _ _ _ _ us hl => match us, hl with | [_, _], _ => rfl
  rt := hasF X N c 53 "_law_right" 69 ["state", "many"] rfl rfl fun _ _ _ _ _ _ us hl => match us, hl with | [_, _], _ => rfl
  gr := hasF X N c 54 "_law_great_right" 70 ["many"] rfl rfl fun _ _ _ _ _ _ us hl => match us, hl with | [_], _ => rfl
  th := hasF X N c 55 "_law_three_right" 71 ["turn"] rfl rfl fun _ _ _ _ _ _ us hl => match us, hl with | [_], _ => rfl
  mng := hasN X N c 29 "meaning" 44 rfl rfl
theorem cst07 (X : K.In h) (N : h.Ns mainGlobals mg) (c : He.SaysX Hd07.fa Hd07.fn [] Hd07.tf Hd07.ex w h K) : Cst mg where
  letters := He.str_ok X N (c.t.d.fact 81 (f := .str "LETTERS" letters) rfl)
  addr := He.str_ok X N (c.t.d.fact 82 (f := .str "ADDRESS_SIGNS" addrS) rfl)
  plain := He.str_ok X N (c.t.d.fact 83 (f := .str "PLAIN_SIGNS" plainS) rfl)
  reserved := He.str_ok X N (c.t.d.fact 84 (f := .str "RESERVED" "xmlns") rfl)
  mostLetters := He.int_ok X N (c.t.d.fact 80 (f := .int "MOST_LETTERS" 8) rfl)
  mostSigns := He.int_ok X N (c.t.d.fact 85 (f := .int "_MOST_SIGNS" 20) rfl)
  mostElements := He.int_ok X N (c.t.d.fact 78 (f := .int "MOST_ELEMENTS" 60) rfl)
  mostLevels := He.int_ok X N (c.t.d.fact 79 (f := .int "MOST_LEVELS" 8) rfl)
  blt := fun Y e => by
    have fr : ∀ (i : Nat) (x : Str), Hd07.fa[i]? = some (.free x) → Y.mg x = none := fun i x h2 => by
      rw [e]
      exact He.free_ok X N (c.t.d.fact i (f := .free x) h2)
    exact ⟨fr 57 "isinstance" rfl, fr 58 "len" rfl, fr 59 "all" rfl, fr 60 "any" rfl, fr 61 "tuple" rfl, fr 62 "list" rfl, fr 63 "str" rfl, fr 64 "int" rfl, fr 65 "bool" rfl, fr 66 "dict" rfl, fr 67 "set" rfl, fr 68 "range" rfl, fr 69 "enumerate" rfl, fr 70 "reversed" rfl, fr 71 "sorted" rfl, fr 72 "repr" rfl⟩
theorem kc07 (c : He.SaysX Hd07.fa Hd07.fn [] Hd07.tf Hd07.ex w h K) : KC K := by
  have h := (Bool.and_eq_true_iff.mp c.more).1
  rw [Bool.and_eq_true] at h
  refine ⟨fun o its n e hc hd xs hv => ?_⟩
  rw [of_decide_eq_true h.1] at e
  have h2 := h.2
  unfold Hd07.notTup at h2
  rw [e] at h2
  obtain ⟨cls, dd, data, sl⟩ := o
  cases (show cls = .type "tuple" from hc)
  simp at h2
theorem fcG (X : K.In h) (N : h.Ns mainGlobals mg) (c : He.SaysX Hd07.fa Hd07.fn [] Hd07.tf Hd07.ex w h K) (i : Nat) (x : Str) (st : Stmt) (h2 : Hd07.fa[i]? = some (.glo x)) : ∀ f fd, Fun K x x st f fd → mg x = some (.ref f) → FunC K x x st f fd (He.cT K (x, none)).1 := by
  intro f fd F hm
  have e := hm.symm.trans (He.glo_ok X N (c.t.d.fact i (f := .glo x) h2))
  cases e
  obtain ⟨oc, od, kV, doc, pm, an, cdv, ct, osl, rfl, lk, hcd⟩ := F.ex
  obtain ⟨c0, rfl⟩ := He.codeIn_ref hcd
  have e2 : (He.cT K (x, none)).1 = c0 := He.codeOf_eq (p := (x, none)) lk rfl
  rw [e2]
  exact ⟨oc, od, kV, doc, pm, an, ct, osl, rfl, lk, hcd⟩
theorem facts07 {f : Addr} (X : K.In h) (N : h.Ns mainGlobals mg) (hfa : mg ("law" : Str) = some (.ref f)) (c : He.SaysX Hd07.fa Hd07.fn [] Hd07.tf Hd07.ex w h K) : LawG PySem.Challenge.rw_prefixgraft_k07_whole_meanings w K 39 63 "script" mg f h := by
  obtain ⟨fd, F⟩ := c.t.d.def_ 56 (d := Hd07.dd "law" 72) rfl
  have F1 : FunD K "law" "law" (defArgs (top 72)) (defBody (top 72)) (defScope (top 72)) [] [] (He.ga K "law") fd := F
  have e := hfa.symm.trans (He.glo_ok X N (c.t.d.fact 56 (f := .glo "law") rfl))
  cases e
  have b := FunD.bindsA (ps := ["script"]) F1 fun _ _ _ _ _ _ us hl => match us, hl with | [_], _ => rfl
  have hB : Hd07.tabsB K = true := (Bool.and_eq_true_iff.mp c.more).2
  unfold Hd07.tabsB at hB
  have three : ∀ {p : Addr × Addr}, p ∈ [He.cT K ("_read_attributes", none), He.cT K ("_law_meaning", none)] → p = He.cT K ("_read_attributes", none) ∨ p = He.cT K ("_law_meaning", none) := fun hp => by simpa only [List.mem_cons, List.not_mem_nil, or_false] using hp
  refine ⟨fd, [He.cT K ("_read_attributes", none), He.cT K ("_law_meaning", none)], spLaw K (He.cT K ("_read_attributes", none)).2 (He.cT K ("_law_meaning", none)).2, fun p hp => ⟨?_, ?_, ?_⟩, fun s v => b s [v] rfl, fun H a ns hl _ hT hS => ⟨a, ns, rfl, hS, hl, hT _ (List.mem_cons_self), hT _ (List.mem_cons_of_mem _ (List.mem_cons_self)), fun _ => rfl⟩, fun base _ _ TB => ?_⟩
  · rcases three hp with rfl | rfl
    · exact c.empty ("_read_attributes", none) (List.mem_cons_self)
    · exact c.empty ("_law_meaning", none) (List.mem_cons_of_mem _ (List.mem_cons_self))
  · rcases three hp with rfl | rfl
    · exact c.out ("_read_attributes", none) (List.mem_cons_self)
    · exact c.out ("_law_meaning", none) (List.mem_cons_of_mem _ (List.mem_cons_self))
  · rcases three hp with rfl | rfl
    · exact PySem.W.codeHd_of_K X (c.hd ("_read_attributes", none) (List.mem_cons_self))
    · exact PySem.W.codeHd_of_K X (c.hd ("_law_meaning", none) (List.mem_cons_of_mem _ (List.mem_cons_self)))
  · exact ok_law07 (He5.fun_of F1) (top07 X N c) (cst07 X N c) (He.free_ok X N (c.t.d.fact 73 (f := .free "min") rfl)) (kc07 c)  ⟨fcG X N c 34 "_read_attributes" _ rfl, TB _ (List.mem_cons_self)⟩ ⟨fcG X N c 41 "_law_meaning" _ rfl, TB _ (List.mem_cons_of_mem _ (List.mem_cons_self))⟩ (by simpa using hB)
end
end G
open PySem PySem.W PySem.Calls PyProof.Rows
theorem PySem.Challenge.cw_prefixgraft_k07_whole_meanings_holds : PySem.Challenge.rw_prefixgraft_k07_whole_meanings.Holds := by
  w_on; o_law
  refine HandSHeadRun.head_any (r := OpenLaw.row PySem.Challenge.rw_prefixgraft_k07_whole_meanings) (q := Hd07.qv) (H := Hd07.hk) (ob := Hd07.ob) (M := 6000) (loose := Hd07.names) (d := HandSHeadRun.topDef (OpenLaw.row PySem.Challenge.rw_prefixgraft_k07_whole_meanings).prog 72) (kwd := []) Hd07.ob_eq
    (by kernel_rfl) (fun s => by kernel_rfl) Hd07.run (by kernel_rfl) (by kernel_rfl) (by kernel_rfl) (by rfl) (by first | assumption | decide +kernel) (by decide +kernel) ⟨rfl, rfl, rfl, rfl, rfl, by decide +kernel⟩ ?hw ?hc
  case hw => w_witness2
  case hc =>
    refine PD.walk_G (l := PySem.Challenge.rw_prefixgraft_k07_whole_meanings) (n := 63) (k := 39) (x := "script") rfl (by decide) (by kernel_rfl) ⟨rfl, by decide, by decide⟩ ?F

    intro w mg fa h Y N hmg0
    obtain ⟨K, KX, c⟩ := Y
    have hmg : mg ("law" : PySem.Str) = some (.ref fa) := by
      have e : (HandSHeadRun.topDef (OpenLaw.row PySem.Challenge.rw_prefixgraft_k07_whole_meanings).prog 72).name = ("law" : PySem.Str) := by kernel_rfl
      rw [← e]
      exact hmg0
    exact ⟨K, KX, G.facts07 KX N hmg c⟩
