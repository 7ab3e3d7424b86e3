import PyProof.Rows.All
import Wide.All
import OpenK.AllK
import Wide.FinOn
import KE.KStateDown
import Lean
import HandS.Head0
import HandS.Head1
import HandS.Head2
import HandS.HeadHook4
import HandS.HeadWalk
import HandS.Words
import HandS.ForMost
import HandS.ForExc
import HandS.IsInst
import HandS.Flow
import HandS.Evl
import HandS.Lambda
import HandS.HeadHook1
import HandS.TupAny
import HandS.TupSets
import HandS.SetKeys
import KE.KeyNested
import HandS.SetBool
import KE.GoesEnum
import PyProof.CollectWalk
import PyProof.ListRange
import HandS.Rev
import HandS.Style
import HandS.Dict
import HandS.More
import HandS.Deep
import KE.SortKeyed
import HandS.DictTup
import HandS.Set
import KE.SortData
import HandS.HeadHook2
import PyProof.WalksMore
import HandS.MakeKw
import HandS.DictComp
import HandS.HeadNt
import PySem.Challenge.RW_prefixgraft_k33_whole_sealed_forms
set_option Elab.async false
set_option linter.all false
set_option maxRecDepth 100000
namespace G
open PySem
def top (i : Nat) : Stmt := PySem.Challenge.pw_prefixgraft_k33_whole_sealed_forms.main.body.getD i (.Pass ⟨0, 0, 0, 0⟩)
abbrev st_is_prefix : Stmt := top 15
abbrev st_is_local : Stmt := top 16
abbrev st_is_address : Stmt := top 17
abbrev st_is_name : Stmt := top 18
abbrev st_is_word : Stmt := top 19
abbrev st_is_pair : Stmt := top 20
abbrev st_is_number_below : Stmt := top 21
abbrev st_is_element : Stmt := top 22
abbrev st_need_part : Stmt := top 23
abbrev st_holes : Stmt := top 24
abbrev st_element_at : Stmt := top 25
abbrev st_walk : Stmt := top 26
abbrev st_seen_in : Stmt := top 27
abbrev st_holes_among : Stmt := top 28
abbrev st__is_made_of : Stmt := top 29
abbrev st__is_plain : Stmt := top 30
abbrev st__begins : Stmt := top 31
abbrev st__is_hole : Stmt := top 32
abbrev st__below : Stmt := top 33
abbrev st__fault : Stmt := top 34
abbrev st__first_wrong : Stmt := top 35
abbrev st__wrong_item : Stmt := top 36
abbrev st__are_declarations : Stmt := top 37
abbrev st__is_declaration : Stmt := top 38
abbrev st__is_empty : Stmt := top 39
abbrev st__are_attributes : Stmt := top 40
abbrev st__is_attribute : Stmt := top 41
abbrev st__are_children : Stmt := top 42
abbrev st__first_hole_again : Stmt := top 43
abbrev st_need_surrounding : Stmt := top 45
abbrev st_bound_by_path : Stmt := top 47
abbrev st_state_in : Stmt := top 48
abbrev st_address_in : Stmt := top 49
abbrev st__bound_in : Stmt := top 50
abbrev st_redeclared : Stmt := top 52
abbrev st_visible : Stmt := top 54
abbrev st_sealed : Stmt := top 55
abbrev st__need_sealable : Stmt := top 56
abbrev st__is_list : Stmt := top 57
abbrev st__visible_in : Stmt := top 58
abbrev st__law_mixed : Stmt := top 60
abbrev st__law_begin : Stmt := top 61
abbrev st__law_draw : Stmt := top 62
abbrev st__law_bound : Stmt := top 64
abbrev st__law_meaning : Stmt := top 65
abbrev st__law_prefix : Stmt := top 66
abbrev st__law_name : Stmt := top 67
abbrev st__law_declarations : Stmt := top 68
abbrev st__law_attributes : Stmt := top 69
abbrev st__law_element : Stmt := top 70
abbrev st__law_elements : Stmt := top 71
abbrev st__law_seen : Stmt := top 74
abbrev st__law_seal : Stmt := top 75
abbrev st__law_whole : Stmt := top 76
abbrev st__law_row : Stmt := top 77
abbrev st__law_world : Stmt := top 78
abbrev st__law_plainer : Stmt := top 82
abbrev st__law_right : Stmt := top 83
abbrev st_law : Stmt := top 84
end G
set_option Elab.async false
set_option linter.all false
set_option maxRecDepth 100000
set_option maxHeartbeats 0
namespace Hd33
open PySem PySem.Spec PyProof.Rows L2
abbrev top (i : Nat) : Stmt := G.top i
def dd (x : Str) (i : Nat) : He.DefD := ⟨(x, none), x, x, defArgs (top i), defBody (top i), defScope (top i), [], []⟩
def dx (x : Str) (i : Nat) : He.DefD := ⟨(x, none), x, x, defArgs (top i), defBody (top i), defScope (top i), [.adr (He.dflAt (x, none) 0)], []⟩
/-- an empty tuple stands there -/
def unitB (K : PySem.W.Frag) (a : Addr) : Bool := match K.lookup a with
  | some ⟨.type c, _, .seq its _, _⟩ => decide (c = "tuple") && its.toList.isEmpty
  | _ => false
/-- the module has no such tuple -/
def kcB (K : PySem.W.Frag) : Bool := match K.lookup (He.ga K "_TAKEN_BACK") with
  | some ⟨.type c, _, .seq _ _, _⟩ => !decide (c = "tuple")
  | _ => true

def fn : List He.DefD := [dd "is_prefix" 15, dd "is_local" 16, dd "is_address" 17, dd "is_name" 18, dd "is_word" 19, dd "is_pair" 20, dd "is_number_below" 21, dd "is_element" 22, dd "need_part" 23, dd "holes" 24, dd "element_at" 25, dd "walk" 26, dd "seen_in" 27, dd "holes_among" 28, dd "_is_made_of" 29, dd "_is_plain" 30, dd "_begins" 31, dd "_is_hole" 32, dd "_below" 33, dd "_fault" 34, dd "_first_wrong" 35, dd "_wrong_item" 36, dd "_are_declarations" 37, dd "_is_declaration" 38, dd "_is_empty" 39, dd "_are_attributes" 40, dd "_is_attribute" 41, dd "_are_children" 42, dd "_first_hole_again" 43, dd "need_surrounding" 45, dd "bound_by_path" 47, dd "state_in" 48, dd "address_in" 49, dd "_bound_in" 50, dx "redeclared" 52, dx "visible" 54, dx "sealed" 55, dd "_need_sealable" 56, dd "_is_list" 57, dd "_visible_in" 58, dd "_law_mixed" 60, dd "_law_begin" 61, dd "_law_draw" 62, dd "_law_of" 63, dd "_law_bound" 64, dd "_law_meaning" 65, dd "_law_prefix" 66, dd "_law_name" 67, dd "_law_declarations" 68, dd "_law_attributes" 69, dd "_law_element" 70, dd "_law_elements" 71, dd "_law_changed" 72, dd "_law_near" 73, dd "_law_seen" 74, dd "_law_seal" 75, dd "_law_whole" 76, dd "_law_row" 77, dd "_law_world" 78, dd "_law_far" 79, dd "_law_is_never" 80, dd "_law_readable" 81, dd "_law_plainer" 82, dd "_law_right" 83, dd "law" 84]
def fa : List He.Fa := [.glo "is_prefix", .glo "is_local", .glo "is_address", .glo "is_name", .glo "is_word", .glo "is_pair", .glo "is_number_below", .glo "is_element", .glo "need_part", .glo "holes", .glo "element_at", .glo "walk", .glo "seen_in", .glo "holes_among", .glo "_is_made_of", .glo "_is_plain", .glo "_begins", .glo "_is_hole", .glo "_below", .glo "_fault", .glo "_first_wrong", .glo "_wrong_item", .glo "_are_declarations", .glo "_is_declaration", .glo "_is_empty", .glo "_are_attributes", .glo "_is_attribute", .glo "_are_children", .glo "_first_hole_again", .glo "need_surrounding", .glo "bound_by_path", .glo "state_in", .glo "address_in", .glo "_bound_in", .glo "redeclared", .glo "visible", .glo "sealed", .glo "_need_sealable", .glo "_is_list", .glo "_visible_in", .glo "_law_mixed", .glo "_law_begin", .glo "_law_draw", .glo "_law_of", .glo "_law_bound", .glo "_law_meaning", .glo "_law_prefix", .glo "_law_name", .glo "_law_declarations", .glo "_law_attributes", .glo "_law_element", .glo "_law_elements", .glo "_law_changed", .glo "_law_near", .glo "_law_seen", .glo "_law_seal", .glo "_law_whole", .glo "_law_row", .glo "_law_world", .glo "_law_far", .glo "_law_is_never", .glo "_law_readable", .glo "_law_plainer", .glo "_law_right", .glo "law", .free "isinstance", .free "len", .free "all", .free "any", .free "tuple", .free "list", .free "str", .free "int", .free "bool", .free "dict", .free "set", .free "range", .free "enumerate", .free "reversed", .free "sorted", .free "repr", .free "min", .free "max", .free "sum", .free "zip", .free "divmod", .int "MOST_ELEMENTS" 60, .int "MOST_LEVELS" 8, .int "MOST_LETTERS" 8, .str "LETTERS" "abcdefghijklmnopqrstuvwxyz", .str "ADDRESS_SIGNS" "abcdefghijklmnopqrstuvwxyz0123456789./:-", .str "PLAIN_SIGNS" "abcdefghijklmnopqrstuvwxyz0123456789 ./-", .str "RESERVED" "xmlns", .int "_MOST_SIGNS" 20]
def ex (K : PySem.W.Frag) : Bool := kcB K && unitB K (He.dflAt ("redeclared", none) 0 K) && unitB K (He.dflAt ("visible", none) 0 K) && unitB K (He.dflAt ("sealed", none) 0 K)
def names0 : List PySem.Str := ["GraftError", "BadPart", "BadSurrounding", "BadPath", "BadQuestion", "MOST_ELEMENTS", "MOST_LEVELS", "MOST_LETTERS", "LETTERS", "ADDRESS_SIGNS", "PLAIN_SIGNS", "RESERVED", "_MOST_SIGNS", "is_prefix", "is_local", "is_address", "is_name", "is_word", "is_pair", "is_number_below", "is_element", "need_part", "holes", "element_at", "walk", "seen_in", "holes_among", "_is_made_of", "_is_plain", "_begins"]
def names1 : List PySem.Str := ["_is_hole", "_below", "_fault", "_first_wrong", "_wrong_item", "_are_declarations", "_is_declaration", "_is_empty", "_are_attributes", "_is_attribute", "_are_children", "_first_hole_again", "need_surrounding", "bound_by_path", "state_in", "address_in", "_bound_in", "redeclared", "visible", "sealed", "_need_sealable", "_is_list", "_visible_in", "_law_mixed", "_law_begin", "_law_draw", "_law_of", "_law_bound", "_law_meaning", "_law_prefix"]
def names2 : List PySem.Str := ["_law_name", "_law_declarations", "_law_attributes", "_law_element", "_law_elements", "_law_changed", "_law_near", "_law_seen", "_law_seal", "_law_whole", "_law_row", "_law_world", "_law_far", "_law_is_never", "_law_readable", "_law_plainer", "_law_right"]
def names : List PySem.Str := names0 ++ names1 ++ names2
def tf : List He.Defn := [("_law_meaning", none)]
abbrev R : PySem.W.OpenRow := PySem.W.OpenLaw.row PySem.Challenge.rw_prefixgraft_k33_whole_sealed_forms
abbrev hk : PySem.W.Hook := He.hookX 4 fa fn [] tf ex
def ob (s : PySem.W.SharedT) : He.AlX := He.obsX 4 fa fn [] tf ex (HandSHeadRun.getT s)
theorem ob_eq (s : PySem.W.SharedT) : ob s = hk.obs s.abs := He.obsX_eq (HandSHeadRun.getT_eq s)
abbrev qv : Program := PySem.W.view R.prog [84]
theorem run (w : World) : HandSHeadRun.RunEq R qv hk ob 6000 names w := by
  intro os
  kernel_rfl
end Hd33
set_option Elab.async false
set_option linter.all false
set_option maxRecDepth 100000
set_option maxHeartbeats 4000000
namespace PD
open PySem PySem.Spec PyProof.Rows L2

/-! ### data: what a value says, all the way down -/
inductive Kd where
  | list | dict
  /-- an empty tuple of the module's own (a default) -/
  | unit
  deriving DecidableEq
def Kd.name : Kd → String
  | .list => "list" | .dict => "dict" | .unit => "tuple"
inductive D where
  | non | bl (b : Bool) | int (i : Int) | str (x : Str) | tup (ds : List D)
  /-- another object, of the built-in type t, known by its address alone -/
  | obj (t : Kd) (a : Addr)
  /-- a list, a dict (its keys ints and texts; tuples of these) that nobody changes any more -/
  | lst (ds : List D) | dk (kvs : List (Key × D)) | dt (kvs : List (List Key × D))
/-- a dict's data -/
inductive Dc where
  | k (kvs : List (Key × D)) | t (kvs : List (List Key × D))
def Dc.d : Dc → D
  | .k kvs => .dk kvs
  | .t kvs => .dt kvs
/-- a key, as data -/
def kD : Key → D
  | .inl i => .int i
  | .inr x => .str x
/-- a list, a dict of the built-in kind stands at a -/
inductive ObT (K : PySem.W.Frag) (H : Hp) : Kd → Addr → Prop
  | l {a : Addr} {xs : List V} : Rd H a (.lst xs) → ObT K H .list a
  | d {a : Addr} {kvs : List (Key × V)} : Rd H a (.dK kvs) → ObT K H .dict a
  | u {a : Addr} {o : Obj} {its : Array Value} {n : Nat} : K.lookup a = some o → o.cls = .type "tuple" → o.data = .seq its n → its.toList = [] → ObT K H .unit a
theorem ObT.sq {K : PySem.W.Frag} {H : Hp} {a : Addr} (h : ObT K H .unit a) : SqT K H a [] := by
  cases h with
  | u e1 e2 e3 e4 => exact .inr ⟨_, _, _, e1, e2, e3, by rw [← Array.length_toList, e4]; exact Nat.zero_le _, by rw [e4]; exact .nil⟩

/-- the module's own tuples that the program hands on -/
def CA (K : PySem.W.Frag) (a : Addr) : Prop := a = He.ga K "_TAKEN_BACK"
/-- a tuple that was made while the law ran, or one of the module's own -/
inductive TpH (K : PySem.W.Frag) (H : Hp) (a : Addr) (xs : List V) : Prop
  | h : H a = some (.tup xs) → TpH K H a xs
  | c {o : Obj} {its : Array Value} {n : Nat} : CA K a → K.lookup a = some o → o.cls = .type "tuple" → o.data = .seq its n → its.size ≤ sizeLine → Vals xs its.toList → TpH K H a xs
theorem TpH.sq {K : PySem.W.Frag} {H : Hp} {a : Addr} {xs : List V} (h : TpH K H a xs) : SqT K H a xs := by
  cases h with
  | h e => exact .inl (.inl e)
  | c _ e1 e2 e3 e4 e5 => exact .inr ⟨_, _, _, e1, e2, e3, e4, e5⟩
mutual
inductive Rp (K : PySem.W.Frag) (H : Hp) : V → D → Prop
  | non : Rp K H .non .non
  | bl (b : Bool) : Rp K H (.bl b) (.bl b)
  | int (i : Int) : Rp K H (.int i) (.int i)
  | str (x : Str) : Rp K H (.str x) (.str x)
  | tup {a : Addr} {xs : List V} {ds : List D} : TpH K H a xs → RpA K H xs ds → Rp K H (.ref a) (.tup ds)
  | obj {t : Kd} {a : Addr} : ObT K H t a → Rp K H (.ref a) (.obj t a)
  | lst {a : Addr} {o : Obj} {xs : List V} {ds : List D} : H a = some (.frz o (.lst xs)) → RpA K H xs ds → Rp K H (.ref a) (.lst ds)
  | dicK {a : Addr} {o : Obj} {kv : List (Key × V)} {ds : List (Key × D)} : H a = some (.frz o (.dK kv)) → kv.map (·.1) = ds.map (·.1) → RpA K H (kv.map (·.2)) (ds.map (·.2)) → Rp K H (.ref a) (.dk ds)
  | dicT {a : Addr} {o : Obj} {kv : List (List Key × V)} {ds : List (List Key × D)} : H a = some (.frz o (.dT kv)) → kv.map (·.1) = ds.map (·.1) → RpA K H (kv.map (·.2)) (ds.map (·.2)) → Rp K H (.ref a) (.dt ds)
inductive RpA (K : PySem.W.Frag) (H : Hp) : List V → List D → Prop
  | nil : RpA K H [] []
  | cons {v : V} {vs : List V} {d : D} {ds : List D} : Rp K H v d → RpA K H vs ds → RpA K H (v :: vs) (d :: ds)
end

/-! ### frames -/
/-- it tells of no code object -/
def NC (φ : Heap → Prop) : Prop := ∀ c q, HO.ext φ ≠ LamX.CodeO c q
theorem nc_of {φ : Heap → Prop} {a : Addr} (h : ∀ hp : Heap, φ hp → ∃ o, hp.get? a = some o ∧ ∀ vs, o.data ≠ .fields vs) : NC φ := by
  intro c q e
  unfold LamX.CodeO at e
  injection e with e
  have at_ : ∀ i, i < a + c + 1 → (Heap.get? ⟨Array.replicate (a + c + 1) ⟨.none, none, .fields #[.none, .str q 0], #[]⟩, {}⟩ i) = some ⟨.none, none, .fields #[.none, .str q 0], #[]⟩ := fun i hi => by
    unfold Heap.get?
    simp [hi]
  have hw : φ ⟨Array.replicate (a + c + 1) ⟨.none, none, .fields #[.none, .str q 0], #[]⟩, {}⟩ := by
    rw [e]
    exact ⟨_, _, 0, at_ c (Nat.lt_succ_of_le (Nat.le_add_left c a)), rfl, rfl⟩
  obtain ⟨o, e1, e2⟩ := h _ hw
  rw [at_ a (Nat.lt_succ_of_le (Nat.le_add_right a c))] at e1
  cases e1
  exact e2 _ rfl
/-- a list stays a list, a dict a dict (or is frozen); a table grows -/
inductive Lk : HO → HO → Prop
  | l {xs ys : List V} : Lk (.lst xs) (.lst ys)
  | lf {xs ys : List V} {o : Obj} : Lk (.lst xs) (.frz o (.lst ys))
  | k {a b : List (Key × V)} : Lk (.dK a) (.dK b)
  | kf {a b : List (Key × V)} {o : Obj} : Lk (.dK a) (.frz o (.dK b))
  | t {a b : List (List Key × V)} : Lk (.dT a) (.dT b)
  | tf {a b : List (List Key × V)} {o : Obj} : Lk (.dT a) (.frz o (.dT b))
  | tb {a b : Array Value} : Lk (.tbl a) (.tbl b)
  | e {φ ψ : Heap → Prop} : NC φ → Lk (.ext φ) (.ext ψ)
theorem Lk.trans {o p q : HO} (h : Lk o p) (h2 : Lk p q) : Lk o q := by
  cases h <;> cases h2 <;> constructor
  assumption
/-- all stays but what stands where M says: that stays of its kind -/
def Fr (M : Addr → Prop) (H H' : Hp) : Prop := ∀ a o, H a = some o → H' a = some o ∨ (M a ∧ ∃ p, H' a = some p ∧ Lk o p)
theorem Fr.refl {M : Addr → Prop} {H : Hp} : Fr M H H := fun _ _ e => .inl e
theorem Fr.trans {M : Addr → Prop} {H H1 H2 : Hp} (h : Fr M H H1) (h2 : Fr M H1 H2) : Fr M H H2 := fun a o e => by
  rcases h a o e with e1 | ⟨m, p, e1, l⟩
  · exact h2 a o e1
  · rcases h2 a p e1 with e2 | ⟨_, q, e2, l2⟩
    · exact .inr ⟨m, p, e2, l⟩
    · exact .inr ⟨m, q, e2, l.trans l2⟩
theorem Fr.wide {M N : Addr → Prop} {H H' : Hp} (h : Fr M H H') (w : ∀ a, M a → N a) : Fr N H H' := fun a o e => by
  rcases h a o e with z | ⟨m, l⟩
  · exact .inl z
  · exact .inr ⟨w a m, l⟩
theorem Fr.of {M : Addr → Prop} {H H' : Hp} (h : ∀ a o, H a = some o → H' a = some o) : Fr M H H' := fun a o e => .inl (h a o e)
theorem Fr.new {M : Addr → Prop} {H : Hp} {p : Addr} {o : HO} (h : H p = none) : Fr M H (upd H p o) := fun a u e => .inl (by rw [upd_ne (ne_of_none e h)]; exact e)
theorem Fr.put {M : Addr → Prop} {H : Hp} {p : Addr} {xs ys : List V} (m : M p) (h : H p = some (.lst xs)) : Fr M H (upd H p (.lst ys)) := fun a u e => by
  by_cases z : a = p
  · subst z
    rw [h] at e
    cases e
    exact .inr ⟨m, _, upd_same, .l⟩
  · exact .inl (by rw [upd_ne z]; exact e)
/-- something of its kind is put where M says -/
theorem Fr.putL {M : Addr → Prop} {H : Hp} {p : Addr} {x y : HO} (m : M p) (h : H p = some x) (l : Lk x y) : Fr M H (upd H p y) := fun a u e => by
  by_cases z : a = p
  · subst z
    rw [h] at e
    cases e
    exact .inr ⟨m, _, upd_same, l⟩
  · exact .inl (by rw [upd_ne z]; exact e)
theorem Fr.back {M : Addr → Prop} {H H' : Hp} {p : Addr} (h : Fr M H H') (n : H' p = none) : H p = none := by
  cases e : H p with
  | none => rfl
  | some o =>
    rcases h p o e with z | ⟨_, _, z, _⟩ <;> (rw [n] at z; cases z)
theorem Fr.tup {M : Addr → Prop} {H H' : Hp} {p : Addr} {xs : List V} (h : Fr M H H') (e : H p = some (.tup xs)) : H' p = some (.tup xs) := by
  rcases h p _ e with z | ⟨_, _, _, z⟩
  · exact z
  · cases z
theorem Fr.frz {M : Addr → Prop} {H H' : Hp} {p : Addr} {o : Obj} {u : HO} (h : Fr M H H') (e : H p = some (.frz o u)) : H' p = some (.frz o u) := by
  rcases h p _ e with z | ⟨_, _, _, z⟩
  · exact z
  · cases z
theorem Fr.code {M : Addr → Prop} {H H' : Hp} {p c : Addr} {q : Str} (h : Fr M H H') (e : H p = some (LamX.CodeO c q)) : H' p = some (LamX.CodeO c q) := by
  rcases h p _ e with z | ⟨_, _, _, z⟩
  · exact z
  · unfold LamX.CodeO at z
    cases z with
    | e n => exact absurd rfl (n c q)
theorem Fr.keep {M : Addr → Prop} {H H' : Hp} {p : Addr} {o : HO} (h : Fr M H H') (m : ¬ M p) (e : H p = some o) : H' p = some o := by
  rcases h p o e with z | ⟨z, _⟩
  · exact z
  · exact absurd z m

section
variable {K : PySem.W.Frag} {M : Addr → Prop} {H H' : Hp}
theorem sqT_fr {a : Addr} {xs : List V} (f : Fr M H H') (h : SqT K H a xs) : SqT K H' a xs := by
  rcases h with (h | ⟨o, h⟩) | h
  · exact .inl (.inl (f.tup h))
  · exact .inl (.inr ⟨o, f.frz h⟩)
  · exact .inr h
theorem TpH.fr {a : Addr} {xs : List V} (h : TpH K H a xs) (f : Fr M H H') : TpH K H' a xs := by
  cases h with
  | h e => exact .h (f.tup e)
  | c e0 e1 e2 e3 e4 e5 => exact .c e0 e1 e2 e3 e4 e5
theorem obT_fr {a : Addr} {t : Kd} (f : Fr M H H') (h : ObT K H t a) : ObT K H' t a := by
  cases h with
  | u e1 e2 e3 e4 => exact .u e1 e2 e3 e4
  | l e =>
    rcases e with e | ⟨o, e⟩
    · rcases f _ _ e with z | ⟨_, _, z, l⟩
      · exact .l (.inl z)
      · cases l with
        | l => exact .l (.inl z)
        | lf => exact .l (.inr ⟨_, z⟩)
    · exact .l (.inr ⟨o, f.frz e⟩)
  | d e =>
    rcases e with e | ⟨o, e⟩
    · rcases f _ _ e with z | ⟨_, _, z, l⟩
      · exact .d (.inl z)
      · cases l with
        | k => exact .d (.inl z)
        | kf => exact .d (.inr ⟨_, z⟩)
    · exact .d (.inr ⟨o, f.frz e⟩)
mutual
theorem Rp.fr (f : Fr M H H') : ∀ {v : V} {d : D}, Rp K H v d → Rp K H' v d
  | _, _, .non => .non
  | _, _, .bl b => .bl b
  | _, _, .int i => .int i
  | _, _, .str x => .str x
  | _, _, .tup h r => .tup (h.fr f) (RpA.fr f r)
  | _, _, .obj h => .obj (obT_fr f h)
  | _, _, .lst h r => .lst (f.frz h) (RpA.fr f r)
  | _, _, .dicK h l r => .dicK (f.frz h) l (RpA.fr f r)
  | _, _, .dicT h l r => .dicT (f.frz h) l (RpA.fr f r)
theorem RpA.fr (f : Fr M H H') : ∀ {vs : List V} {ds : List D}, RpA K H vs ds → RpA K H' vs ds
  | _, _, .nil => .nil
  | _, _, .cons h r => .cons (Rp.fr f h) (RpA.fr f r)
end
theorem RpA.len {vs : List V} {ds : List D} (h : RpA K H vs ds) : vs.length = ds.length := by
  induction ds generalizing vs with
  | nil => cases h; rfl
  | cons d ds ih => cases h with | cons a b => simp [ih b]
theorem RpA.get {vs : List V} {ds : List D} (h : RpA K H vs ds) {i : Nat} {d : D} (e : ds[i]? = some d) : ∃ v, vs[i]? = some v ∧ Rp K H v d := by
  induction ds generalizing vs i with
  | nil => simp at e
  | cons x ds ih =>
    cases h with
    | cons a b =>
      cases i with
      | zero => simp at e; subst e; exact ⟨_, rfl, a⟩
      | succ i => exact ih b (by simpa using e)
theorem RpA.getV {vs : List V} {ds : List D} (h : RpA K H vs ds) {i : Nat} {v : V} (e : vs[i]? = some v) : ∃ d, ds[i]? = some d ∧ Rp K H v d := by
  induction vs generalizing ds i with
  | nil => simp at e
  | cons x vs ih =>
    cases h with
    | cons a b =>
      cases i with
      | zero => simp at e; subst e; exact ⟨_, rfl, a⟩
      | succ i => exact ih b (by simpa using e)
theorem RpA.append {vs vs' : List V} {ds ds' : List D} (h : RpA K H vs ds) (h' : RpA K H vs' ds') : RpA K H (vs ++ vs') (ds ++ ds') := by
  induction ds generalizing vs with
  | nil => cases h; exact h'
  | cons d ds ih => cases h with | cons a b => exact .cons a (ih b)
theorem RpA.reverse {vs : List V} {ds : List D} (h : RpA K H vs ds) : RpA K H vs.reverse ds.reverse := by
  induction ds generalizing vs with
  | nil => cases h; exact .nil
  | cons d ds ih =>
    cases h with
    | cons a b =>
      rw [List.reverse_cons, List.reverse_cons]
      exact (ih b).append (.cons a .nil)
theorem RpA.take {vs : List V} {ds : List D} (h : RpA K H vs ds) : ∀ n : Nat, RpA K H (vs.take n) (ds.take n) := by
  induction ds generalizing vs with
  | nil => cases h; intro n; simp; exact .nil
  | cons d ds ih =>
    cases h with
    | cons a b =>
      intro n
      cases n with
      | zero => exact .nil
      | succ n => exact .cons a (ih b n)
theorem RpA.drop {vs : List V} {ds : List D} (h : RpA K H vs ds) : ∀ n : Nat, RpA K H (vs.drop n) (ds.drop n) := by
  induction ds generalizing vs with
  | nil => cases h; intro n; simp; exact .nil
  | cons d ds ih =>
    cases h with
    | cons a b =>
      intro n
      cases n with
      | zero => exact .cons a b
      | succ n => exact ih b n
end

/-! ### what a slot holds, what an expression gives -/
inductive Sl where
  | un
  | va (d : D)
  /-- a list of this def's own: nobody else has it -/
  | ow (ds : List D)
  /-- a list that is only read -/
  | li (ds : List D)
  /-- a dict of this def's own -/
  | od (c : Dc)
  /-- a dict of this def's own, of lists of its own; its keys tuples, ints and texts -/
  | dl (kvs : List (List Key × List D)) | dm (kvs : List (Key × List D))
inductive Res where
  | va (d : D)
  /-- a new list -/
  | ow (ds : List D)
  /-- a list that stands still -/
  | li (ds : List D)
  /-- a list of the def's own, looked at -/
  | rd (ds : List D)
  /-- a new dict; a dict of the def's own, looked at -/
  | od (c : Dc) | ro (c : Dc)
def Res.seq : Res → Option (List D)
  | .va (.lst ds) => some ds
  | .va _ => none
  | .od _ => none
  | .ro _ => none
  | .ow ds => some ds
  | .li ds => some ds
  | .rd ds => some ds

/-- what calls may change behind one's back (a law's draws): where it stands, what holds of it (b: how much has been drawn at most) -/
structure Vol where
  S : Addr → Prop
  J : Nat → Hp → Prop
  there : ∀ b H a, J b H → S a → H a ≠ none
  stay : ∀ b H H', J b H → Fr (fun a => ¬ S a) H H' → J b H'
def noVol : Vol := ⟨fun _ => False, fun _ _ => True, fun _ _ _ _ h => h.elim, fun _ _ _ _ _ => trivial⟩

/-- a dict stands at p: its keys and values as data -/
inductive DcO (K : PySem.W.Frag) (H : Hp) (p : Addr) : Dc → Prop
  | k {kv : List (Key × V)} {ds : List (Key × D)} : H p = some (.dK kv) → kv.map (·.1) = ds.map (·.1) → RpA K H (kv.map (·.2)) (ds.map (·.2)) → DcO K H p (.k ds)
  | t {kv : List (List Key × V)} {ds : List (List Key × D)} : H p = some (.dT kv) → kv.map (·.1) = ds.map (·.1) → RpA K H (kv.map (·.2)) (ds.map (·.2)) → DcO K H p (.t ds)
theorem DcO.fr {K : PySem.W.Frag} {M : Addr → Prop} {H H' : Hp} {p : Addr} {c : Dc} (g : Fr M H H') (m : ¬ M p) (h : DcO K H p c) : DcO K H' p c := by
  cases h with
  | k e l r => exact .k (g.keep m e) l (r.fr g)
  | t e l r => exact .t (g.keep m e) l (r.fr g)
theorem DcO.some {K : PySem.W.Frag} {H : Hp} {p : Addr} {c : Dc} (h : DcO K H p c) : ∃ o, H p = .some o := by
  cases h with
  | k e _ _ => exact ⟨_, e⟩
  | t e _ _ => exact ⟨_, e⟩
/-- the lists in a dict of one's own -/
inductive DL (K : PySem.W.Frag) (H : Hp) {κ : Type} : List (κ × V) → List (κ × List D) → List Addr → Prop
  | nil : DL K H [] [] []
  | cons {k : κ} {r : Addr} {xs : List V} {es : List D} {kv : List (κ × V)} {ds : List (κ × List D)} {rs : List Addr} : H r = some (.lst xs) → RpA K H xs es → DL K H kv ds rs → DL K H ((k, .ref r) :: kv) ((k, es) :: ds) (r :: rs)
theorem DL.fr {K : PySem.W.Frag} {κ : Type} {M : Addr → Prop} {H H' : Hp} {kv : List (κ × V)} {ds : List (κ × List D)} {rs : List Addr} (g : Fr M H H') (m : ∀ r ∈ rs, ¬ M r) (h : DL K H kv ds rs) : DL K H' kv ds rs := by
  induction h with
  | nil => exact .nil
  | cons e r _ ih => exact .cons (g.keep (m _ List.mem_cons_self) e) (r.fr g) (ih fun x hx => m x (List.mem_cons_of_mem _ hx))
/-- a slot, what stands in it, the list that is its own -/
inductive Slot (K : PySem.W.Frag) (Z : Vol) (os : List Addr) (H : Hp) : Sl → Option V → List Addr → Prop
  | un {v : Option V} : Slot K Z os H .un v []
  | va {v : V} {d : D} : Rp K H v d → Slot K Z os H (.va d) (some v) []
  | ow {p : Addr} {xs : List V} {ds : List D} : H p = some (.lst xs) → RpA K H xs ds → Slot K Z os H (.ow ds) (some (.ref p)) [p]
  | li {p : Addr} {xs : List V} {ds : List D} : H p = some (.lst xs) → ¬ Z.S p → p ∉ os → RpA K H xs ds → Slot K Z os H (.li ds) (some (.ref p)) []
  | od {p : Addr} {c : Dc} : DcO K H p c → Slot K Z os H (.od c) (some (.ref p)) [p]
  | dl {p : Addr} {kv : List (List Key × V)} {ds : List (List Key × List D)} {rs : List Addr} : H p = some (.dT kv) → DL K H kv ds rs → Slot K Z os H (.dl ds) (some (.ref p)) (p :: rs)
  | dm {p : Addr} {kv : List (Key × V)} {ds : List (Key × List D)} {rs : List Addr} : H p = some (.dK kv) → DL K H kv ds rs → Slot K Z os H (.dm ds) (some (.ref p)) (p :: rs)
inductive Sls (K : PySem.W.Frag) (Z : Vol) (os : List Addr) (H : Hp) : List Sl → L2.St → List Addr → Prop
  | nil : Sls K Z os H [] [] []
  | cons {s : Sl} {v : Option V} {o1 : List Addr} {δ : List Sl} {σ : L2.St} {o : List Addr} : Slot K Z os H s v o1 → Sls K Z os H δ σ o → Sls K Z os H (s :: δ) (v :: σ) (o1 ++ o)

/-- where one stands: the def's context, what may change, the heap at the entry -/
structure Cn where
  X : Cx
  Z : Vol
  H0 : Hp
abbrev Cn.K (C : Cn) : PySem.W.Frag := C.X.K

/-- the state: os the def's own lists -/
structure Sts (C : Cn) (os : List Addr) (b : Nat) (δ : List Sl) (σ : L2.St) (H : Hp) : Prop where
  fr : Fr C.Z.S C.H0 H
  j : C.Z.J b H
  new : ∀ p ∈ os, C.H0 p = none ∧ ¬ C.Z.S p ∧ ∃ o, H p = some o
  sl : ∃ o : List Addr, o.Nodup ∧ (∀ p ∈ o, p ∈ os) ∧ Sls C.K C.Z os H δ σ o

/-- a value v, got from H on, behind in H', is r -/
inductive RV (K : PySem.W.Frag) (Z : Vol) (os : List Addr) (H H' : Hp) : V → Res → Prop
  | va {v : V} {d : D} : Rp K H' v d → RV K Z os H H' v (.va d)
  | ow {p : Addr} {xs : List V} {ds : List D} : H p = none → H' p = some (.lst xs) → ¬ Z.S p → RpA K H' xs ds → RV K Z os H H' (.ref p) (.ow ds)
  | li {p : Addr} {xs : List V} {ds : List D} : H' p = some (.lst xs) → ¬ Z.S p → p ∉ os → RpA K H' xs ds → RV K Z os H H' (.ref p) (.li ds)
  | rd {p : Addr} {xs : List V} {ds : List D} : H' p = some (.lst xs) → ¬ Z.S p → p ∈ os → RpA K H' xs ds → RV K Z os H H' (.ref p) (.rd ds)
  | od {p : Addr} {c : Dc} : H p = none → ¬ Z.S p → DcO K H' p c → RV K Z os H H' (.ref p) (.od c)
  | ro {p : Addr} {c : Dc} : ¬ Z.S p → p ∈ os → DcO K H' p c → RV K Z os H H' (.ref p) (.ro c)

section
variable {K : PySem.W.Frag} {Z : Vol} {os : List Addr} {H0 H H1 H2 : Hp} {δ : List Sl} {σ : L2.St} {v : V} {r : Res}
theorem RV.on (h : RV K Z os H H1 v r) (f : Fr Z.S H1 H2) : RV K Z os H H2 v r := by
  cases h with
  | va h => exact .va (h.fr f)
  | ow n e ns r => exact .ow n (f.keep ns e) ns (r.fr f)
  | li e ns no r => exact .li (f.keep ns e) ns no (r.fr f)
  | rd e ns no r => exact .rd (f.keep ns e) ns no (r.fr f)
  | od n ns e => exact .od n ns (e.fr f ns)
  | ro ns no e => exact .ro ns no (e.fr f ns)
/-- got from earlier on -/
theorem RV.from (h : RV K Z os H1 H2 v r) (g : Fr Z.S H H1) : RV K Z os H H2 v r := by
  cases h with
  | va h => exact .va h
  | ow n e ns r => exact .ow (g.back n) e ns r
  | li e ns no r => exact .li e ns no r
  | rd e ns no r => exact .rd e ns no r
  | od n ns e => exact .od (g.back n) ns e
  | ro ns no e => exact .ro ns no e
theorem Slot.fr {s : Sl} {w : Option V} {o : List Addr} (f : Fr Z.S H H1) (ho : ∀ p ∈ o, ¬ Z.S p) (h : Slot K Z os H s w o) : Slot K Z os H1 s w o := by
  cases h with
  | un => exact .un
  | va r => exact .va (r.fr f)
  | ow e r => exact .ow (f.keep (ho _ List.mem_cons_self) e) (r.fr f)
  | li e ns no r => exact .li (f.keep ns e) ns no (r.fr f)
  | od e => exact .od (e.fr f (ho _ List.mem_cons_self))
  | dl e d => exact .dl (f.keep (ho _ List.mem_cons_self) e) (d.fr f fun r hr => ho r (List.mem_cons_of_mem _ hr))
  | dm e d => exact .dm (f.keep (ho _ List.mem_cons_self) e) (d.fr f fun r hr => ho r (List.mem_cons_of_mem _ hr))
theorem Sls.fr {o : List Addr} (f : Fr Z.S H H1) (ho : ∀ p ∈ o, ¬ Z.S p) (h : Sls K Z os H δ σ o) : Sls K Z os H1 δ σ o := by
  induction h with
  | nil => exact .nil
  | cons a _ ih => exact .cons (a.fr f fun p hp => ho p (List.mem_append_left _ hp)) (ih fun p hp => ho p (List.mem_append_right _ hp))
theorem Sls.len {o : List Addr} (h : Sls K Z os H δ σ o) : σ.length = δ.length := by
  induction h with
  | nil => rfl
  | cons _ _ ih => simp [ih]
/-- a slot is looked at -/
theorem Sls.at {o : List Addr} {i : Nat} {s : Sl} (h : Sls K Z os H δ σ o) (e : δ[i]? = some s) : ∃ w o1, σ[i]? = some w ∧ Slot K Z os H s w o1 ∧ ∀ p ∈ o1, p ∈ o := by
  induction h generalizing i with
  | nil => simp at e
  | cons a _ ih =>
    cases i with
    | zero =>
      simp at e
      subst e
      exact ⟨_, _, rfl, a, fun p hp => List.mem_append_left _ hp⟩
    | succ i =>
      obtain ⟨w, o1, h1, h2, h3⟩ := ih (by simpa using e)
      exact ⟨w, o1, by simpa using h1, h2, fun p hp => List.mem_append_right _ (h3 p hp)⟩
/-- a slot is set -/
theorem Sls.put {o : List Addr} {i : Nat} {s : Sl} {w : Option V} {q : List Addr} (h : Sls K Z os H δ σ o) (nd : o.Nodup) (hq : q.Nodup) (dis : ∀ p ∈ q, p ∉ o) (a : Slot K Z os H s w q) :
    ∃ o', o'.Nodup ∧ (∀ p ∈ o', p ∈ q ∨ p ∈ o) ∧ Sls K Z os H (δ.set i s) (σ.set i w) o' := by
  induction h generalizing i with
  | nil => exact ⟨[], List.nodup_nil, fun p hp => (nomatch hp), .nil⟩
  | @cons s1 v1 o1 δ1 σ1 o2 a1 t ih =>
    have n1 := (List.nodup_append.mp nd).1
    have n2 := (List.nodup_append.mp nd).2.1
    have n3 := (List.nodup_append.mp nd).2.2
    cases i with
    | zero =>
      refine ⟨q ++ o2, List.nodup_append.mpr ⟨hq, n2, fun x hx y hy e => ?_⟩, fun p hp => ?_, .cons a t⟩
      · subst e
        exact dis x hx (List.mem_append_right _ hy)
      · rcases List.mem_append.mp hp with z | z
        · exact .inl z
        · exact .inr (List.mem_append_right _ z)
    | succ i =>
      obtain ⟨o', h1, h2, h3⟩ := ih (i := i) n2 fun p hp z => dis p hp (List.mem_append_right _ z)
      refine ⟨o1 ++ o', List.nodup_append.mpr ⟨n1, h1, fun x hx y hy e => ?_⟩, fun p hp => ?_, .cons a1 h3⟩
      · subst e
        rcases h2 x hy with z | z
        · exact dis x z (List.mem_append_left _ hx)
        · exact n3 x hx x z rfl
      · rcases List.mem_append.mp hp with z | z
        · exact .inr (List.mem_append_left _ z)
        · rcases h2 p z with y | y
          · exact .inl y
          · exact .inr (List.mem_append_right _ y)
/-- one more list of the def's own, another heap: new in H, so none of those that are only read -/
theorem Sls.more {o : List Addr} {p : Addr} (h : Sls K Z os H δ σ o) (n : H p = none) : Sls K Z (p :: os) H δ σ o := by
  induction h with
  | nil => exact .nil
  | cons a _ ih =>
    refine .cons ?_ ih
    cases a with
    | un => exact .un
    | va r => exact .va r
    | ow e r => exact .ow e r
    | li e ns no r => exact .li e ns (fun z => (List.mem_cons.mp z).elim (fun q => by rw [q, n] at e; cases e) no) r
    | od e => exact .od e
    | dl e d => exact .dl e d
    | dm e d => exact .dm e d
/-- the own list at p is written; it is at no other slot than i -/
theorem Sls.write {o : List Addr} {p : Addr} {x y : HO} (h : Sls K Z os H δ σ o) (e : H p = some x) (l : Lk x y) (no : p ∉ o) (hp : p ∈ os) : Sls K Z os (upd H p y) δ σ o := by
  have f : Fr (fun a => a = p) H (upd H p y) := Fr.putL rfl e l
  induction h with
  | nil => exact .nil
  | cons a _ ih =>
    refine .cons ?_ (ih fun z => no (List.mem_append_right _ z))
    cases a with
    | un => exact .un
    | va r => exact .va (r.fr f)
    | ow e1 r => exact .ow (by rw [upd_ne (fun z => no (by rw [← z]; simp))]; exact e1) (r.fr f)
    | li e1 ns n1 r => exact .li (by rw [upd_ne (fun z => n1 (by rw [z]; exact hp))]; exact e1) ns n1 (r.fr f)
    | od e1 => exact .od (e1.fr f (fun z => no (by rw [← z]; simp)))
    | dl e1 d => exact .dl (by rw [upd_ne (fun z => no (by rw [← z]; simp))]; exact e1) (d.fr f fun r hr z => no (by rw [← z]; simp [hr]))
    | dm e1 d => exact .dm (by rw [upd_ne (fun z => no (by rw [← z]; simp))]; exact e1) (d.fr f fun r hr z => no (by rw [← z]; simp [hr]))
end

section
variable {C : Cn} {os : List Addr} {b : Nat} {H H1 : Hp} {δ : List Sl} {σ : L2.St} {v : V}
theorem Sts.on {b' : Nat} (h : Sts C os b δ σ H) (f : Fr C.Z.S H H1) (j : C.Z.J b' H1) : Sts C os b' δ σ H1 := by
  obtain ⟨o, nd, sub, sl⟩ := h.sl
  exact ⟨h.fr.trans f, j, fun p hp => ⟨(h.new p hp).1, (h.new p hp).2.1, let ⟨o, e⟩ := (h.new p hp).2.2; ⟨o, f.keep (h.new p hp).2.1 e⟩⟩, o, nd, sub, sl.fr f fun p hp => (h.new p (sub p hp)).2.1⟩
/-- how the heap and the own lists go on -/
structure Gr (Z : Vol) (os : List Addr) (H : Hp) (os' : List Addr) (H' : Hp) : Prop where
  fr : Fr (fun a => Z.S a ∨ a ∈ os) H H'
  os : ∀ q ∈ os', q ∈ os ∨ H q = none
theorem Gr.refl {Z : Vol} : Gr Z os H os H := ⟨Fr.refl, fun _ h => .inl h⟩
theorem Gr.trans {Z : Vol} {os1 os2 : List Addr} {H2 : Hp} (a : Gr Z os H os1 H1) (b : Gr Z os1 H1 os2 H2) : Gr Z os H os2 H2 := by
  refine ⟨fun x o e => ?_, fun q hq => ?_⟩
  · rcases a.fr x o e with e1 | ⟨m, p, e1, l⟩
    · rcases b.fr x o e1 with e2 | ⟨m, l⟩
      · exact .inl e2
      · rcases m with m | m
        · exact .inr ⟨.inl m, l⟩
        · rcases a.os x m with z | z
          · exact .inr ⟨.inr z, l⟩
          · rw [z] at e; cases e
    · rcases b.fr x p e1 with e2 | ⟨_, q, e2, l2⟩
      · exact .inr ⟨m, p, e2, l⟩
      · exact .inr ⟨m, q, e2, l.trans l2⟩
  · rcases b.os q hq with z | z
    · exact a.os q z
    · exact .inr (a.fr.back z)
theorem Gr.of {Z : Vol} (f : Fr Z.S H H1) : Gr Z os H os H1 := ⟨f.wide fun _ => .inl, fun _ h => .inl h⟩
end

/-! ### the judgements, by what they mean -/
def WE (X : Cx) (e : Expr) : TE := fun σ H Q => ∀ (pins : List (Addr × Obj)) (s : Shared), Inv X pins σ H s → wpAny (model X.prog X.w) X.A (eval e X.env) (EP X pins σ Q) X.xe s
def WT (X : Cx) (e : Expr) : TT := fun σ H Q => ∀ (pins : List (Addr × Obj)) (s : Shared), Inv X pins σ H s → wpAny (model X.prog X.w) X.A (isTrue e X.env (eval e X.env)) (TP X pins σ Q) X.xe s
def WWT (X : Cx) (e : Expr) : TT := fun σ H Q => ∀ (whole : Sem Value) (pins : List (Addr × Obj)) (s : Shared), Inv X pins σ H s → wpAny (model X.prog X.w) X.A (isTrue e X.env whole) (TP X pins σ Q) X.xe s
def WA (X : Cx) (es : List Expr) : TA := fun σ H Q => ∀ (pos : Pos) (pins : List (Addr × Obj)) (s : Shared), Inv X pins σ H s → wpAny (model X.prog X.w) X.A (spliced (backTo pos (starEach es X.env))) (AP X pins σ Q) X.xe s
def WSs (X : Cx) (st : List Stmt) : TS := fun D σ H => ∀ (pins : List (Addr × Obj)) (s : Shared), Inv X pins σ H s → wpAny (model X.prog X.w) X.A (execs st X.env) (SP X pins D) X.xe s
section
variable {X : Cx} {e : Expr} {es : List Expr} {st : Stmt} {ss : List Stmt} {σ : L2.St} {H : Hp}
theorem peW : PE X e (WE X e) := ⟨fun pins s _ _ _ I h => h pins s I⟩
theorem ptW : PT X e (WT X e) := ⟨fun pins s _ _ _ I h => h pins s I⟩
theorem pwW : PW X e (WWT X e) := ⟨fun w pins s _ _ _ I h => h w pins s I⟩
theorem paW : PA X es (WA X es) := ⟨fun pos pins s _ _ _ I h => h pos pins s I⟩
theorem pssW : PSs X ss (WSs X ss) := ⟨fun pins s _ _ _ I h => h pins s I⟩
theorem WE.of {t : TE} {Q : VK} (p : PE X e t) (h : t σ H Q) : WE X e σ H Q := fun pins s I => p.run pins s σ H Q I h
theorem WT.of {t : TT} {Q : Bool → Hp → Prop} (p : PT X e t) (h : t σ H Q) : WT X e σ H Q := fun pins s I => p.run pins s σ H Q I h
theorem WWT.of {t : TT} {Q : Bool → Hp → Prop} (p : PW X e t) (h : t σ H Q) : WWT X e σ H Q := fun w pins s I => p.run w pins s σ H Q I h
theorem WA.of {t : TA} {Q : List V → Hp → Prop} (p : PA X es t) (h : t σ H Q) : WA X es σ H Q := fun pos pins s I => p.run pos pins s σ H Q I h
theorem WSs.of {t : TS} {D : Ends} (p : PSs X ss t) (h : t D σ H) : WSs X ss D σ H := fun pins s I => p.run pins s σ H D I h
end

inductive RVs (K : PySem.W.Frag) (Z : Vol) (os : List Addr) (H H' : Hp) : List V → List Res → Prop
  | nil : RVs K Z os H H' [] []
  | cons {v : V} {vs : List V} {r : Res} {rs : List Res} : RV K Z os H H' v r → RVs K Z os H H' vs rs → RVs K Z os H H' (v :: vs) (r :: rs)

def EV (C : Cn) (b : Nat) (δ : List Sl) (e : Expr) (P : Nat → Res → Prop) : Prop :=
  ∀ os σ H, Sts C os b δ σ H → ∀ Q : VK, (∀ v H' b' r, Fr C.Z.S H H' → C.Z.J b' H' → RV C.K C.Z os H H' v r → P b' r → Q v H') → WE C.X e σ H Q
def EVA (C : Cn) (b : Nat) (δ : List Sl) (es : List Expr) (P : Nat → List Res → Prop) : Prop :=
  ∀ os σ H, Sts C os b δ σ H → ∀ Q : List V → Hp → Prop, (∀ vs H' b' rs, Fr C.Z.S H H' → C.Z.J b' H' → RVs C.K C.Z os H H' vs rs → P b' rs → Q vs H') → WA C.X es σ H Q
def ET (C : Cn) (b : Nat) (δ : List Sl) (e : Expr) (P : Nat → Bool → Prop) : Prop :=
  ∀ os σ H, Sts C os b δ σ H → ∀ Q : Bool → Hp → Prop, (∀ k H' b', Fr C.Z.S H H' → C.Z.J b' H' → P b' k → Q k H') → WT C.X e σ H Q
/-- a test within and, or -/
def EW (C : Cn) (b : Nat) (δ : List Sl) (e : Expr) (P : Nat → Bool → Prop) : Prop :=
  ∀ os σ H, Sts C os b δ σ H → ∀ Q : Bool → Hp → Prop, (∀ k H' b', Fr C.Z.S H H' → C.Z.J b' H' → P b' k → Q k H') → WWT C.X e σ H Q
/-- where a block may end -/
structure Fin where
  N : Nat → List Sl → Prop
  B : Nat → List Sl → Prop
  T : Nat → List Sl → Prop
  R : Nat → Res → Prop
structure EndsOk (C : Cn) (F : Fin) (os : List Addr) (H : Hp) (D : Ends) : Prop where
  nx : ∀ b' δ' os' σ' H', F.N b' δ' → Sts C os' b' δ' σ' H' → Gr C.Z os H os' H' → D.nx σ' H'
  bk : ∀ b' δ' os' σ' H', F.B b' δ' → Sts C os' b' δ' σ' H' → Gr C.Z os H os' H' → D.bk σ' H'
  ct : ∀ b' δ' os' σ' H', F.T b' δ' → Sts C os' b' δ' σ' H' → Gr C.Z os H os' H' → D.ct σ' H'
  rt : ∀ v H' b' r, F.R b' r → RV C.K C.Z [] C.H0 H' v r → Fr C.Z.S C.H0 H' → C.Z.J b' H' → D.rt v H'
theorem EndsOk.on {C : Cn} {F : Fin} {os os1 : List Addr} {H H1 : Hp} {D : Ends} (h : EndsOk C F os H D) (g : Gr C.Z os H os1 H1) : EndsOk C F os1 H1 D :=
  ⟨fun b' δ' os' σ' H' n s g' => h.nx b' δ' os' σ' H' n s (g.trans g'), fun b' δ' os' σ' H' n s g' => h.bk b' δ' os' σ' H' n s (g.trans g'), fun b' δ' os' σ' H' n s g' => h.ct b' δ' os' σ' H' n s (g.trans g'), h.rt⟩
def SV (C : Cn) (b : Nat) (δ : List Sl) (ss : List Stmt) (F : Fin) : Prop :=
  ∀ os σ H, Sts C os b δ σ H → ∀ D : Ends, EndsOk C F os H D → WSs C.X ss D σ H
end PD
set_option Elab.async false
set_option linter.all false
set_option maxRecDepth 100000
set_option maxHeartbeats 4000000
namespace PD
open PySem PySem.Spec PyProof.Rows L2

/-! ### expressions -/
section
variable {C : Cn} {b : Nat} {δ : List Sl} {P : Nat → Res → Prop} {pos : Pos} {e e1 e2 : Expr} {es : List Expr}
theorem EV.imp {P' : Nat → Res → Prop} (h : EV C b δ e P) (i : ∀ b' r, P b' r → P' b' r) : EV C b δ e P' := fun os σ H st Q k => h os σ H st Q fun v H' b' r f j rv p => k v H' b' r f j rv (i b' r p)
theorem ev_var (i : Nat) {x : Str} {d : D} (h : δ[i]? = some (.va d)) (q : P b (.va d)) (hN : C.X.N[i]? = some x := by rfl)
    (hv : Vis C.X.env.scope x := by first | exact Or.inl rfl | exact Or.inr (Or.inl rfl) | exact Or.inr (Or.inr rfl)) (hd : (x == ("__debug__" : Str)) = false := by decide) (hcd : (x == ("__classdict__" : Str)) = false := by decide) : EV C b δ (.Name x pos) P := by
  intro os σ H st Q k
  obtain ⟨o, _, sub, sl⟩ := st.sl
  obtain ⟨w, o1, e, a, _⟩ := sl.at h
  cases a with
  | va r => exact WE.of (pe_var hN hv hd hcd) ⟨_, e, k _ H b _ Fr.refl st.j (.va r) q⟩
theorem ev_varO (i : Nat) {x : Str} {ds : List D} (h : δ[i]? = some (.ow ds)) (q : P b (.rd ds)) (hN : C.X.N[i]? = some x := by rfl)
    (hv : Vis C.X.env.scope x := by first | exact Or.inl rfl | exact Or.inr (Or.inl rfl) | exact Or.inr (Or.inr rfl)) (hd : (x == ("__debug__" : Str)) = false := by decide) (hcd : (x == ("__classdict__" : Str)) = false := by decide) : EV C b δ (.Name x pos) P := by
  intro os σ H st Q k
  obtain ⟨o, _, sub, sl⟩ := st.sl
  obtain ⟨w, o1, e, a, ho⟩ := sl.at h
  cases a with
  | ow e1 r =>
    have hp := sub _ (ho _ List.mem_cons_self)
    exact WE.of (pe_var hN hv hd hcd) ⟨_, e, k _ H b _ Fr.refl st.j (.rd e1 (st.new _ hp).2.1 hp r) q⟩
theorem ev_int {i : Int} {j : Nat} (q : P b (.va (.int i))) : EV C b δ (.Constant (.int i) j pos) P := fun os σ H st Q k => WE.of pe_int (k _ H b _ Fr.refl st.j (.va (.int i)) q)
theorem ev_str {x : Str} {j : Nat} (q : P b (.va (.str x))) : EV C b δ (.Constant (.str x) j pos) P := fun os σ H st Q k => WE.of pe_str (k _ H b _ Fr.refl st.j (.va (.str x)) q)
theorem ev_bl {k0 : Bool} {j : Nat} (q : P b (.va (.bl k0))) : EV C b δ (.Constant (.bool k0) j pos) P := fun os σ H st Q k => WE.of pe_bl (k _ H b _ Fr.refl st.j (.va (.bl k0)) q)
theorem ev_non {j : Nat} (q : P b (.va .non)) : EV C b δ (.Constant .none j pos) P := fun os σ H st Q k => WE.of pe_non (k _ H b _ Fr.refl st.j (.va .non) q)
/-- a constant of the module -/
theorem ev_glS {x y : Str} {t : Tok} (hm : C.X.mg x = some (.str y t)) (q : P b (.va (.str y))) (hg : Gl C.X x := by rfl) (hd : (x == ("__debug__" : Str)) = false := by decide) : EV C b δ (.Name x pos) P :=
  fun os σ H st Q k => WE.of (pe_glob hg hm (v := .str y) ⟨t, rfl⟩ hd) (k _ H b _ Fr.refl st.j (.va (.str y)) q)
theorem ev_glI {x : Str} {i : Int} {t : Tok} (hm : C.X.mg x = some (.int i t)) (q : P b (.va (.int i))) (hg : Gl C.X x := by rfl) (hd : (x == ("__debug__" : Str)) = false := by decide) : EV C b δ (.Name x pos) P :=
  fun os σ H st Q k => WE.of (pe_glob hg hm (v := .int i) ⟨t, rfl⟩ hd) (k _ H b _ Fr.refl st.j (.va (.int i)) q)

/-! several in a row -/
theorem eva_nil {P : Nat → List Res → Prop} (q : P b []) : EVA C b δ [] P := fun os σ H st Q k => WA.of pa_nil (k [] H b [] Fr.refl st.j .nil q)
theorem eva_cons {P : Nat → List Res → Prop} (h : EV C b δ e (fun b' r => EVA C b' δ es fun b2 rs => P b2 (r :: rs))) (hs : starEach (e :: es) C.X.env = (false, eval e C.X.env) :: starEach es C.X.env := by rfl) : EVA C b δ (e :: es) P := by
  intro os σ H st Q k
  refine WA.of (pa_cons peW paW hs) ?_
  refine h os σ H st _ fun v H1 b1 r f1 j1 rv hr => ?_
  refine hr os σ H1 (st.on f1 j1) _ fun vs H2 b2 rs f2 j2 rvs hq => ?_
  have up : ∀ {vs : List V} {rs : List Res}, RVs C.K C.Z os H1 H2 vs rs → RVs C.K C.Z os H H2 vs rs := by
    intro vs rs h
    induction h with
    | nil => exact .nil
    | cons a _ ih => exact .cons (a.from f1) ih
  exact k _ H2 b2 _ (f1.trans f2) j2 (.cons (rv.on f2) (up rvs)) hq
def vas : List Res → Option (List D)
  | [] => some []
  | .va d :: rs => (vas rs).map (d :: ·)
  | _ :: _ => none
theorem rvs_vas {K : PySem.W.Frag} {Z : Vol} {os : List Addr} {H H' : Hp} {vs : List V} {rs : List Res} {ds : List D} (h : RVs K Z os H H' vs rs) (e : vas rs = some ds) : RpA K H' vs ds := by
  induction h generalizing ds with
  | nil => cases e; exact .nil
  | @cons v vs r rs a _ ih =>
    cases a with
    | @va _ d a =>
      simp only [vas] at e
      cases e2 : vas rs with
      | none => rw [e2] at e; cases e
      | some l =>
        rw [e2] at e
        cases e
        exact .cons a (ih e2)
    | _ => cases e
theorem sz1 {n : Nat} (h : n ≤ 16000000) : n ≤ sizeLine := Nat.le_trans h (by decide)
theorem ev_tup {x1 : Nat} (h : EVA C b δ es (fun b' rs => ∃ ds, vas rs = some ds ∧ ds.length ≤ 16000000 ∧ P b' (.va (.tup ds)))) : EV C b δ (.Tuple es x1 pos) P := by
  intro os σ H st Q k
  refine WE.of (pe_tup paW) ?_
  refine h os σ H st _ fun vs H1 b1 rs f1 j1 rv hr => ?_
  obtain ⟨ds, e, hl, q⟩ := hr
  have ra := rvs_vas rv e
  refine ⟨by rw [ra.len]; exact sz1 hl, fun p hp => ?_⟩
  have fn : Fr C.Z.S H1 (upd H1 p (.tup vs)) := Fr.new hp
  refine k _ _ b1 _ (f1.trans fn) (C.Z.stay _ _ _ j1 (Fr.new hp)) (.va (.tup (.h upd_same) (ra.fr fn))) q
theorem jnew {Z : Vol} {b : Nat} {H : Hp} {p : Addr} {o : HO} (j : Z.J b H) (hp : H p = none) : Z.J b (upd H p o) := Z.stay _ _ _ j (Fr.new hp)
theorem snew {Z : Vol} {b : Nat} {H : Hp} {p : Addr} (j : Z.J b H) (hp : H p = none) : ¬ Z.S p := fun s => Z.there b H p j s hp
theorem ev_lst (h : EVA C b δ es (fun b' rs => ∃ ds, vas rs = some ds ∧ ds.length ≤ 16000000 ∧ P b' (.ow ds))) : EV C b δ (.List es pos) P := by
  intro os σ H st Q k
  refine WE.of (pe_lst paW) ?_
  refine h os σ H st _ fun vs H1 b1 rs f1 j1 rv hr => ?_
  obtain ⟨ds, e, hl, q⟩ := hr
  have ra := rvs_vas rv e
  refine ⟨by rw [ra.len]; exact sz1 hl, fun p hp => ?_⟩
  have fn : Fr C.Z.S H1 (upd H1 p (.lst vs)) := Fr.new hp
  exact k _ _ b1 _ (f1.trans fn) (jnew j1 hp) (.ow (f1.back hp) upd_same (snew j1 hp) (ra.fr fn)) q
/-! operators on values: r by values, told by data -/
theorem ev_bin {op : Operator} {r : R2} (ho : OpR C.X (binaryOp op) r)
    (h : EV C b δ e1 (fun b1 r1 => EV C b1 δ e2 fun b2 r2 => ∀ (os : List Addr) (H H' : Hp) (x y : V), C.Z.J b2 H' → RV C.K C.Z os H H' x r1 → RV C.K C.Z os H H' y r2 → ∀ Q : VK, (∀ v H2 r3, Fr C.Z.S H' H2 → C.Z.J b2 H2 → RV C.K C.Z os H' H2 v r3 → P b2 r3 → Q v H2) → r x y H' Q)) : EV C b δ (.BinOp e1 op e2 pos) P := by
  intro os σ H st Q k
  refine WE.of (pe_op ho peW peW) ?_
  refine h os σ H st _ fun v1 H1 b1 r1 f1 j1 rv1 h2 => ?_
  refine h2 os σ H1 (st.on f1 j1) _ fun v2 H2 b2 r2 f2 j2 rv2 h3 => ?_
  exact h3 os H H2 v1 v2 j2 (rv1.on f2) (rv2.from f1) _ fun v H3 r3 f3 j3 rv3 p => k v H3 b2 r3 ((f1.trans f2).trans f3) j3 (rv3.from (f1.trans f2)) p
theorem ev_cmp {op : CmpOp} {r : R2} (ho : OpR C.X (compareOp op) r) (hm : behindInMarks op e2 = false)
    (h : EV C b δ e1 (fun b1 r1 => EV C b1 δ e2 fun b2 r2 => ∀ (os : List Addr) (H H' : Hp) (x y : V), C.Z.J b2 H' → RV C.K C.Z os H H' x r1 → RV C.K C.Z os H H' y r2 → ∀ Q : VK, (∀ k, P b2 (.va (.bl k)) → Q (.bl k) H') → r x y H' Q)) : EV C b δ (.Compare e1 [op] [e2] pos) P := by
  intro os σ H st Q k
  refine WE.of (pe_cmpR ho peW peW hm) ?_
  refine h os σ H st _ fun v1 H1 b1 r1 f1 j1 rv1 h2 => ?_
  refine h2 os σ H1 (st.on f1 j1) _ fun v2 H2 b2 r2 f2 j2 rv2 h3 => ?_
  exact h3 os H H2 v1 v2 j2 (rv1.on f2) (rv2.from f1) _ fun kk p => k _ H2 b2 _ (f1.trans f2) j2 (.va (.bl kk)) p
/-- every expression is a test by its truth; where it is a truth value -/
theorem et_val {Pt : Nat → Bool → Prop} (h : EV C b δ e (fun b' r => ∃ k, r = .va (.bl k) ∧ Pt b' k))
    (he : ∀ whole, isTrue e C.X.env whole = (do let v ← whole; standAt e.pos; holding [v] (truthy v)) := by intro _; rfl) : ET C b δ e Pt := by
  intro os σ H st Q k
  refine WT.of (pt_truth peW he) ?_
  refine h os σ H st _ fun v H1 b1 r f j rv hr => ?_
  obtain ⟨kk, rfl, q⟩ := hr
  cases rv with | va rv => ?_
  cases rv
  exact ⟨kk, rfl, k kk H1 b1 f j q⟩
theorem et_cmp {op : CmpOp} {r : R2} {Pt : Nat → Bool → Prop} (ho : OpR C.X (compareOp op) r) (hm : behindInMarks op e2 = false)
    (h : EV C b δ e1 (fun b1 r1 => EV C b1 δ e2 fun b2 r2 => ∀ (os : List Addr) (H H' : Hp) (x y : V), C.Z.J b2 H' → RV C.K C.Z os H H' x r1 → RV C.K C.Z os H H' y r2 → ∀ Q : VK, (∀ k, Pt b2 k → Q (.bl k) H') → r x y H' Q)) : ET C b δ (.Compare e1 [op] [e2] pos) Pt := by
  intro os σ H st Q k
  refine WT.of (pt_cmpR ho peW peW hm) ?_
  refine h os σ H st _ fun v1 H1 b1 r1 f1 j1 rv1 h2 => ?_
  refine h2 os σ H1 (st.on f1 j1) _ fun v2 H2 b2 r2 f2 j2 rv2 h3 => ?_
  exact h3 os H H2 v1 v2 j2 (rv1.on f2) (rv2.from f1) _ fun kk p => ⟨kk, rfl, k kk H2 b2 (f1.trans f2) j2 p⟩
theorem et_not {Pt : Nat → Bool → Prop} (h : ET C b δ e (fun b' k => Pt b' (!k))) : ET C b δ (.UnaryOp .Not e pos) Pt := by
  intro os σ H st Q k
  refine WT.of (pt_not ptW) ?_
  exact h os σ H st _ fun kk H1 b1 f j q => k _ H1 b1 f j q
end
end PD
set_option Elab.async false
set_option linter.all false
set_option maxRecDepth 100000
set_option maxHeartbeats 4000000
namespace PD
open PySem PySem.Spec PyProof.Rows L2

/-! ### calls of own defs -/
inductive Ar where
  | va (d : D)
  | li (ds : List D)
  /-- a thing that the def doesn't look at -/
  | no
def Res.ar : Res → Ar
  | .va d => .va d
  | .ow ds => .li ds
  | .li ds => .li ds
  | .rd ds => .li ds
  | .od _ => .no
  | .ro _ => .no
def Ar.sl : Ar → Sl
  | .va d => .va d
  | .li ds => .li ds
  | .no => .un
def Res.out : Res → Bool
  | .va _ => true
  | .ow _ => true
  | .od _ => true
  | _ => false
inductive ArV (K : PySem.W.Frag) (Z : Vol) (H : Hp) : V → Ar → Prop
  | va {v : V} {d : D} : Rp K H v d → ArV K Z H v (.va d)
  | li {p : Addr} {xs : List V} {ds : List D} : H p = some (.lst xs) → ¬ Z.S p → RpA K H xs ds → ArV K Z H (.ref p) (.li ds)
  | no {v : V} : ArV K Z H v .no
inductive ArVs (K : PySem.W.Frag) (Z : Vol) (H : Hp) : List V → List Ar → Prop
  | nil : ArVs K Z H [] []
  | cons {v : V} {vs : List V} {a : Ar} {as : List Ar} : ArV K Z H v a → ArVs K Z H vs as → ArVs K Z H (v :: vs) (a :: as)
theorem RV.ar {K : PySem.W.Frag} {Z : Vol} {os : List Addr} {H H' : Hp} {v : V} {r : Res} (h : RV K Z os H H' v r) : ArV K Z H' v r.ar := by
  cases h with
  | va h => exact .va h
  | ow n e ns r => exact .li e ns r
  | li e ns no r => exact .li e ns r
  | rd e ns no r => exact .li e ns r
  | od n ns e => exact .no
  | ro ns no e => exact .no
theorem RVs.ar {K : PySem.W.Frag} {Z : Vol} {os : List Addr} {H H' : Hp} {vs : List V} {rs : List Res} (h : RVs K Z os H H' vs rs) : ArVs K Z H' vs (rs.map Res.ar) := by
  induction h with
  | nil => exact .nil
  | cons a _ ih => exact .cons a.ar ih
theorem ArVs.len {K : PySem.W.Frag} {Z : Vol} {H : Hp} {vs : List V} {as : List Ar} (h : ArVs K Z H vs as) : vs.length = as.length := by
  induction h with
  | nil => rfl
  | cons _ _ ih => simp [ih]
/-- what a def promises, by data: pre ahead, post behind (b: what has been drawn at most) -/
def spD (Z : Vol) (K : PySem.W.Frag) (n : Nat) (pre : Nat → List Ar → Prop) (post : Nat → List Ar → Nat → Res → Prop) : Sp := fun vs H Q _ =>
  ∃ b as, as.length = n ∧ ArVs K Z H vs as ∧ Z.J b H ∧ pre b as ∧ ∀ v H' b' r, Fr Z.S H H' → Z.J b' H' → RV K Z [] H H' v r → r.out = true → post b as b' r → Q v H'
/-- a def of the module as its callers know it -/
structure Df (P : Program) (w : World) (K : PySem.W.Frag) (mg : Str → Option Value) (base : Heap) (x : Str) (k : Nat) (ps : List Str) (sp : Sp) : Prop where
  ok : ∃ f fd, FnOk P w K mg base CX0 k f fd ps sp ∧ mg x = some (.ref f) ∧ PySem.W.keepIn K (.ref f) = true ∧ Binds K fd ps []
theorem RV.any {K : PySem.W.Frag} {Z : Vol} {os os' : List Addr} {H H' : Hp} {v : V} {r : Res} (h : RV K Z os H H' v r) (o : r.out = true) : RV K Z os' H H' v r := by
  cases h with
  | va h => exact .va h
  | ow n e ns r => exact .ow n e ns r
  | li e ns no r => cases o
  | rd e ns no r => cases o
  | od n ns e => exact .od n ns e
  | ro ns no e => cases o
section
variable {C : Cn} {b : Nat} {δ : List Sl} {P : Nat → Res → Prop} {pos p0 : Pos} {e e1 e2 : Expr} {es : List Expr}
theorem ev_call {x : Str} {k n : Nat} {ps : List Str} {pre : Nat → List Ar → Prop} {post : Nat → List Ar → Nat → Res → Prop} (F : Df C.X.prog C.X.w C.X.K C.X.mg C.X.base x k ps (spD C.Z C.K n pre post)) (hr : Room k C.X.A)
    (h : EVA C b δ (e :: es) (fun b1 rs => rs.length = n ∧ pre b1 (rs.map Res.ar) ∧ ∀ b2 r, r.out = true → post b1 (rs.map Res.ar) b2 r → P b2 r)) (hg : Gl C.X x := by rfl)
    (hdb : (x == ("__debug__" : Str)) = false := by decide) (he : starEach (e :: es) C.X.env = (false, eval e C.X.env) :: starEach es C.X.env := by rfl) (hpl : (backTo pos (starEach es C.X.env)).any (·.1) = false := by rfl) :
    EV C b δ (.Call (.Name x p0) (e :: es) [] pos) P := by
  obtain ⟨f, fd, ok, hm, hk, hb⟩ := F.ok
  intro os σ H st Q q
  refine WE.of (pe_call ok hr hg hm hk hb .nil pass0 paW hdb he hpl) ?_
  refine h os σ H st _ fun vs H1 b1 rs f1 j1 rv hh => ?_
  obtain ⟨hl, hp, hq⟩ := hh
  show spD C.Z C.K n pre post (vs ++ []) H1 Q E0
  rw [List.append_nil]
  exact ⟨b1, rs.map Res.ar, by simpa using hl, rv.ar, j1, hp, fun v H' b' r f2 j2 rv2 ho po => q v H' b' r (f1.trans f2) j2 ((rv2.any ho).from f1) (hq b' r ho po)⟩
end

/-! ### a def's body -/
theorem sls_un {K : PySem.W.Frag} {Z : Vol} {os : List Addr} {H : Hp} : ∀ n : Nat, Sls K Z os H (List.replicate n .un) (List.replicate n none) []
  | 0 => .nil
  | n + 1 => by
    have h := Sls.cons (K := K) (Z := Z) (os := os) (H := H) (Slot.un (v := none)) (sls_un n)
    exact h
theorem sls_start {K : PySem.W.Frag} {Z : Vol} {H : Hp} {vs : List V} {as : List Ar} (h : ArVs K Z H vs as) (n : Nat) : Sls K Z [] H (as.map Ar.sl ++ List.replicate n .un) (vs.map some ++ List.replicate n none) [] := by
  induction h with
  | nil => exact sls_un n
  | cons a _ ih =>
    cases a with
    | va r =>
      have z := Sls.cons (Slot.va (K := K) (Z := Z) (os := []) (H := H) r) ih
      exact z
    | li e ns r =>
      have z := Sls.cons (Slot.li (K := K) (Z := Z) (os := []) (H := H) e ns (by simp) r) ih
      exact z
    | no =>
      exact Sls.cons .un ih
/-- what a def's block may come to -/
def retF (post : Nat → Res → Prop) : Fin := ⟨fun b' _ => post b' (.va .non), fun _ _ => False, fun _ _ => False, fun b' r => r.out = true ∧ post b' r⟩
section
variable {P : Program} {w : World} {K : PySem.W.Frag} {mg : Str → Option Value} {base : Heap} {Z : Vol}
theorem fn_body {x qual : Str} {st : Stmt} {f : Addr} {fd : FuncData} {N ps : List Str} {k n : Nat} {pre : Nat → List Ar → Prop} {post : Nat → List Ar → Nat → Res → Prop} (F : Fun K x qual st f fd) (S : FnScope N ps (defScope st)) (hn : ps.length = n)
    (body : ∀ (cdv : Value) (A : Around) (outer : List Env) (s : Shared) (H : Hp) (E : XK) (b : Nat) (as : List Ar), Room k (A.deeper (envOfC qual (defScope st) s.heap.objs.size f cdv)) → as.length = n → pre b as →
      SV ⟨(cxOf CX0 P w K mg base N qual (defScope st) f cdv A outer s H E).nox, Z, H⟩ b (as.map Ar.sl ++ List.replicate (N.length - n) .un) (defBody st) (retF (post b as))) :
    FnOk P w K mg base CX0 (k + 1) f fd ps (spD Z K n pre post) := by
  refine F.ok S (fun vs H Q E h => ?_) (fun cdv A outer s H vs Q E hr h => ?_)
  · obtain ⟨b, as, hl, hv, _⟩ := h
    rw [hv.len, hl, hn]
  · obtain ⟨b, as, hl, hv, hj, hp, hq⟩ := h
    refine ⟨_, pssW, ?_⟩
    refine body cdv A outer s H E b as hr hl hp [] _ H ⟨Fr.refl, hj, fun p z => (nomatch z), [], List.nodup_nil, fun p z => (nomatch z), ?_⟩ _ ⟨fun b' δ' os' σ' H' z s g => ?_, fun _ _ _ _ _ z _ _ => z.elim, fun _ _ _ _ _ z _ _ => z.elim, fun v H' b' r z rv f j => ?_⟩
    · show Sls K Z [] H _ (L2.start N vs) []
      unfold L2.start
      rw [hv.len, hl]
      exact sls_start hv _
    · exact hq .non H' b' (.va .non) s.fr s.j (.va .non) rfl z
    · exact hq v H' b' r f j rv z.1 z.2
theorem Df.of {x : Str} {st : Stmt} {f : Addr} {fd : FuncData} {ps : List Str} {k : Nat} {sp : Sp} (F : Fun K x x st f fd) (ok : FnOk P w K mg base CX0 k f fd ps sp) (hm : mg x = some (.ref f)) (hb : Binds K fd ps []) : Df P w K mg base x k ps sp :=
  ⟨f, fd, ok, hm, F.kp, hb⟩
end

/-! ### statements -/
def Res.sl : Res → Option Sl
  | .va d => some (.va d)
  | .ow ds => some (.ow ds)
  | .li ds => some (.li ds)
  | .rd _ => none
  | .od c => some (.od c)
  | .ro _ => none
section
variable {C : Cn} {b : Nat} {δ : List Sl} {F : Fin} {pos p0 : Pos} {e e1 e2 c : Expr} {rest ss : List Stmt}
theorem sv_nil (h : F.N b δ) : SV C b δ [] F := fun os σ H st D ed => WSs.of pss_nil (ed.nx b δ os σ H h st Gr.refl)
theorem SV.imp {F' : Fin} (h : SV C b δ ss F) (n : ∀ b' δ', F.N b' δ' → F'.N b' δ') (k : ∀ b' δ', F.B b' δ' → F'.B b' δ') (t : ∀ b' δ', F.T b' δ' → F'.T b' δ') (r : ∀ b' r, F.R b' r → F'.R b' r) : SV C b δ ss F' :=
  fun os σ H st D ed => h os σ H st D ⟨fun b' δ' os' σ' H' z => ed.nx b' δ' os' σ' H' (n _ _ z), fun b' δ' os' σ' H' z => ed.bk b' δ' os' σ' H' (k _ _ z), fun b' δ' os' σ' H' z => ed.ct b' δ' os' σ' H' (t _ _ z), fun v H' b' r' z => ed.rt v H' b' r' (r _ _ z)⟩
/-- slot i gets what an expression gave -/
theorem Sts.put {os : List Addr} {σ : L2.St} {H H1 : Hp} {b1 : Nat} {r : Res} {s : Sl} {v : V} {i : Nat} (st : Sts C os b δ σ H) (f : Fr C.Z.S H H1) (j : C.Z.J b1 H1) (rv : RV C.K C.Z os H H1 v r) (hs : r.sl = some s) :
    ∃ os', Sts C os' b1 (δ.set i s) (σ.set i (some v)) H1 ∧ Gr C.Z os H os' H1 := by
  have st1 := st.on f j
  obtain ⟨o, nd, sub, sl⟩ := st1.sl
  cases rv with
  | va rv =>
    cases hs
    obtain ⟨o', n', s', l'⟩ := sl.put (i := i) nd List.nodup_nil (fun p z => (nomatch z)) (Slot.va rv)
    exact ⟨os, ⟨st1.fr, j, st1.new, o', n', fun p hp => (s' p hp).elim (fun z => (nomatch z)) (sub p), l'⟩, Gr.of f⟩
  | @ow p xs ds n e ns rv =>
    cases hs
    have hn : p ∉ os := fun z => by
      obtain ⟨x, q⟩ := (st.new p z).2.2
      rw [n] at q; cases q
    obtain ⟨o0, nd0, sub0, sl0⟩ := st.sl
    have sl1 : Sls C.K C.Z (p :: os) H1 δ σ o0 := (sl0.more n).fr f fun q hq => (st.new q (sub0 q hq)).2.1
    obtain ⟨o', n', s', l'⟩ := sl1.put (i := i) nd0 (q := [p]) (by simp) (fun q hq z => hn (sub0 p (by rw [← List.mem_singleton.mp hq]; exact z))) (Slot.ow e rv)
    refine ⟨p :: os, ⟨st1.fr, j, fun q hq => ?_, o', n', fun q hq => ?_, l'⟩, ⟨f.wide fun _ => .inl, fun q hq => ?_⟩⟩
    · rcases List.mem_cons.mp hq with z | z
      · rw [z]
        exact ⟨st.fr.back n, ns, _, e⟩
      · exact st1.new q z
    · rcases s' q hq with z | z
      · exact List.mem_cons.mpr (.inl (List.mem_singleton.mp z))
      · exact List.mem_cons_of_mem _ (sub0 q z)
    · rcases List.mem_cons.mp hq with z | z
      · rw [z]
        exact .inr n
      · exact .inl z
  | li e ns no rv =>
    cases hs
    obtain ⟨o', n', s', l'⟩ := sl.put (i := i) nd List.nodup_nil (fun p z => (nomatch z)) (Slot.li e ns no rv)
    exact ⟨os, ⟨st1.fr, j, st1.new, o', n', fun p hp => (s' p hp).elim (fun z => (nomatch z)) (sub p), l'⟩, Gr.of f⟩
  | rd e ns no rv => cases hs
  | @od p c n ns e =>
    cases hs
    have hn : p ∉ os := fun z => by
      obtain ⟨x, q⟩ := (st.new p z).2.2
      rw [n] at q; cases q
    obtain ⟨o0, nd0, sub0, sl0⟩ := st.sl
    have sl1 : Sls C.K C.Z (p :: os) H1 δ σ o0 := (sl0.more n).fr f fun q hq => (st.new q (sub0 q hq)).2.1
    obtain ⟨o', n', s', l'⟩ := sl1.put (i := i) nd0 (q := [p]) (by simp) (fun q hq z => hn (sub0 p (by rw [← List.mem_singleton.mp hq]; exact z))) (Slot.od e)
    refine ⟨p :: os, ⟨st1.fr, j, fun q hq => ?_, o', n', fun q hq => ?_, l'⟩, ⟨f.wide fun _ => .inl, fun q hq => ?_⟩⟩
    · rcases List.mem_cons.mp hq with z | z
      · rw [z]
        exact ⟨st.fr.back n, ns, e.some⟩
      · exact st1.new q z
    · rcases s' q hq with z | z
      · exact List.mem_cons.mpr (.inl (List.mem_singleton.mp z))
      · exact List.mem_cons_of_mem _ (sub0 q z)
    · rcases List.mem_cons.mp hq with z | z
      · rw [z]
        exact .inr n
      · exact .inl z
  | ro ns no e => cases hs
theorem sv_set (i : Nat) {x : Str} (h : EV C b δ e (fun b1 r => ∃ s, r.sl = some s ∧ SV C b1 (δ.set i s) rest F)) (hN : C.X.N.Nodup) (hi : C.X.N[i]? = some x := by rfl) (hx : Loc C.X.env.scope x := by first | exact Or.inl rfl | exact Or.inr rfl)
    (hs : swapsWith e (some (.Name x p0)) pos.line C.X.env = pure false := by rfl) (hf : C.X.fn x = true ∨ C.X.env.scope.names.lookup x = some .local := by first | exact .inl rfl | exact .inr rfl) : SV C b δ (.Assign [.Name x p0] e pos :: rest) F := by
  intro os σ H st D ed
  refine WSs.of (pss_cons (ps_set hN hi hx peW hs hf) pssW) ?_
  refine h os σ H st _ fun v H1 b1 r f1 j1 rv hr => ?_
  obtain ⟨s, hs, q⟩ := hr
  obtain ⟨os', st', g⟩ := st.put (i := i) f1 j1 rv hs
  exact q os' _ H1 st' D (ed.on g)
theorem sv_ret (h : EV C b δ e (fun b' r => F.R b' r)) (ho : ∀ b' r, F.R b' r → r.out = true := by exact fun _ _ h => h.1) : SV C b δ (.Return (some e) pos :: rest) F := by
  intro os σ H st D ed
  refine WSs.of (pss_cons (ps_ret peW) pssW) ?_
  refine h os σ H st _ fun v H1 b1 r f1 j1 rv hr => ?_
  exact ed.rt v H1 b1 r hr ((rv.any (ho _ _ hr)).from st.fr) (st.fr.trans f1) j1
/-- return of a list of one's own, by its name -/
theorem sv_retO (i : Nat) {x : Str} {ds : List D} (h : δ[i]? = some (.ow ds)) (q : F.R b (.ow ds)) (hN : C.X.N[i]? = some x := by rfl)
    (hv : Vis C.X.env.scope x := by first | exact Or.inl rfl | exact Or.inr (Or.inl rfl) | exact Or.inr (Or.inr rfl)) (hd : (x == ("__debug__" : Str)) = false := by decide) (hcd : (x == ("__classdict__" : Str)) = false := by decide) :
    SV C b δ (.Return (some (.Name x p0)) pos :: rest) F := by
  intro os σ H st D ed
  refine WSs.of (pss_cons (ps_ret (pe_var hN hv hd hcd)) pssW) ?_
  obtain ⟨o, _, sub, sl⟩ := st.sl
  obtain ⟨w, o1, e, a, ho⟩ := sl.at h
  cases a with
  | ow e1 r =>
    obtain ⟨n, ns, _⟩ := st.new _ (sub _ (ho _ List.mem_cons_self))
    exact ⟨_, e, ed.rt _ H b _ q (.ow n e1 ns r) st.fr st.j⟩
theorem sv_if (h : ET C b δ c (fun b1 k => if k = true then SV C b1 δ ss { F with N := fun b2 δ2 => SV C b2 δ2 rest F } else SV C b1 δ els { F with N := fun b2 δ2 => SV C b2 δ2 rest F })) : SV C b δ (.If c ss els pos :: rest) F := by
  intro os σ H st D ed
  refine WSs.of (pss_cons (ps_if ptW pssW pssW) pssW) ?_
  refine h os σ H st _ fun k H1 b1 f1 j1 hk => ?_
  have st1 := st.on f1 j1
  have ed1 := ed.on (Gr.of (os := os) f1)
  have ed2 : EndsOk C { F with N := fun b2 δ2 => SV C b2 δ2 rest F } os H1 { D with nx := WSs C.X rest D } :=
    ⟨fun b' δ' os' σ' H' n s g => n os' σ' H' s D (ed1.on g), ed1.bk, ed1.ct, ed1.rt⟩
  cases k with
  | true => exact hk os σ H1 st1 _ ed2
  | false => exact hk os σ H1 st1 _ ed2
theorem sv_expr (h : EV C b δ e (fun b1 _ => SV C b1 δ rest F)) (hs : swapsWith e none pos.line C.X.env = pure false := by rfl) : SV C b δ (.Expr e pos :: rest) F := by
  intro os σ H st D ed
  refine WSs.of (pss_cons (ps_expr peW hs) pssW) ?_
  refine h os σ H st _ fun v H1 b1 r f1 j1 rv hr => ?_
  exact hr os σ H1 (st.on f1 j1) D (ed.on (Gr.of f1))
end
end PD
set_option Elab.async false
set_option linter.all false
set_option maxRecDepth 100000
set_option maxHeartbeats 4000000
namespace PD
open PySem PySem.Spec PyProof.Rows L2

section
variable {C : Cn} {b : Nat} {δ : List Sl} {P : Nat → Res → Prop} {Pt : Nat → Bool → Prop} {pos p0 : Pos} {e e1 e2 c : Expr} {es : List Expr}
/-! ### and, or, not, if .. else -/
theorem ev_one {op : BoolOp} (h : EV C b δ e P) : EV C b δ (.BoolOp op [e] pos) P := fun os σ H st Q k => WE.of (pe_one peW) (h os σ H st Q k)
theorem ev_and (h : EV C b δ e (fun b1 r => ∃ k, r = .va (.bl k) ∧ if k = true then EV C b1 δ (.BoolOp .And (e2 :: es) pos) P else P b1 (.va (.bl false)))) : EV C b δ (.BoolOp .And (e :: e2 :: es) pos) P := by
  intro os σ H st Q q
  refine WE.of (pe_and peW peW) ?_
  refine h os σ H st _ fun v H1 b1 r f j rv hr => ?_
  obtain ⟨k, rfl, hk⟩ := hr
  cases rv with | va rv => ?_
  cases rv
  refine ⟨k, rfl, ?_⟩
  cases k with
  | true => exact hk os σ H1 (st.on f j) Q fun v H2 b2 r2 f2 j2 rv2 p => q v H2 b2 r2 (f.trans f2) j2 (rv2.from f) p
  | false => exact q _ H1 b1 _ f j (.va (.bl false)) hk
theorem ev_or (h : EV C b δ e (fun b1 r => ∃ k, r = .va (.bl k) ∧ if k = true then P b1 (.va (.bl true)) else EV C b1 δ (.BoolOp .Or (e2 :: es) pos) P)) : EV C b δ (.BoolOp .Or (e :: e2 :: es) pos) P := by
  intro os σ H st Q q
  refine WE.of (pe_or peW peW) ?_
  refine h os σ H st _ fun v H1 b1 r f j rv hr => ?_
  obtain ⟨k, rfl, hk⟩ := hr
  cases rv with | va rv => ?_
  cases rv
  refine ⟨k, rfl, ?_⟩
  cases k with
  | true => exact q _ H1 b1 _ f j (.va (.bl true)) hk
  | false => exact hk os σ H1 (st.on f j) Q fun v H2 b2 r2 f2 j2 rv2 p => q v H2 b2 r2 (f.trans f2) j2 (rv2.from f) p
theorem ev_not (h : EV C b δ e (fun b1 r => ∃ k, r = .va (.bl k) ∧ P b1 (.va (.bl (!k))))) : EV C b δ (.UnaryOp .Not e pos) P := by
  intro os σ H st Q q
  refine WE.of (pe_not peW) ?_
  refine h os σ H st _ fun v H1 b1 r f j rv hr => ?_
  obtain ⟨k, rfl, hk⟩ := hr
  cases rv with | va rv => ?_
  cases rv
  exact ⟨k, rfl, q _ H1 b1 _ f j (.va (.bl (!k))) hk⟩
theorem ev_if (h : ET C b δ c (fun b1 k => if k = true then EV C b1 δ e P else EV C b1 δ e2 P)) : EV C b δ (.IfExp c e e2 pos) P := by
  intro os σ H st Q q
  refine WE.of (pe_ifExp ptW peW peW) ?_
  refine h os σ H st _ fun k H1 b1 f j hk => ?_
  cases k with
  | true => exact hk os σ H1 (st.on f j) Q fun v H2 b2 r2 f2 j2 rv2 p => q v H2 b2 r2 (f.trans f2) j2 (rv2.from f) p
  | false => exact hk os σ H1 (st.on f j) Q fun v H2 b2 r2 f2 j2 rv2 p => q v H2 b2 r2 (f.trans f2) j2 (rv2.from f) p
/-- and, or as a test: the parts are tests -/
theorem et_pw (h : EW C b δ e Pt) : ET C b δ e Pt := fun os σ H st Q k => WT.of pwW.pt (h os σ H st Q k)
theorem ew_and1 (h : ET C b δ e Pt) : EW C b δ (.BoolOp .And [e] pos) Pt := fun os σ H st Q k => WWT.of (pw_and1 ptW) (h os σ H st Q k)
theorem ew_or1 (h : ET C b δ e Pt) : EW C b δ (.BoolOp .Or [e] pos) Pt := fun os σ H st Q k => WWT.of (pw_or1 ptW) (h os σ H st Q k)
theorem ew_and (h : ET C b δ e (fun b1 k => if k = true then EW C b1 δ (.BoolOp .And (e2 :: es) pos) Pt else Pt b1 false)) : EW C b δ (.BoolOp .And (e :: e2 :: es) pos) Pt := by
  intro os σ H st Q q
  refine WWT.of (pw_and ptW pwW) ?_
  refine h os σ H st _ fun k H1 b1 f j hk => ?_
  cases k with
  | true => exact hk os σ H1 (st.on f j) Q fun k2 H2 b2 f2 j2 p => q k2 H2 b2 (f.trans f2) j2 p
  | false => exact q false H1 b1 f j hk
theorem ew_or (h : ET C b δ e (fun b1 k => if k = true then Pt b1 true else EW C b1 δ (.BoolOp .Or (e2 :: es) pos) Pt)) : EW C b δ (.BoolOp .Or (e :: e2 :: es) pos) Pt := by
  intro os σ H st Q q
  refine WWT.of (pw_or ptW pwW) ?_
  refine h os σ H st _ fun k H1 b1 f j hk => ?_
  cases k with
  | true => exact q true H1 b1 f j hk
  | false => exact hk os σ H1 (st.on f j) Q fun k2 H2 b2 f2 j2 p => q k2 H2 b2 (f.trans f2) j2 p

/-! ### calls of built-ins: r by values, told by data -/
theorem ev_cb {x : Str} {id : String} {r : List V → Hp → VK → Prop} (hc : CallR C.X (.builtin id) r) (hm : C.X.mg x = none) (hv : bootBuiltins x = some (.builtin id))
    (h : EVA C b δ (e :: es) (fun b1 rs => ∀ (os : List Addr) (H H' : Hp) (vs : List V), C.Z.J b1 H' → RVs C.K C.Z os H H' vs rs → ∀ Q : VK, (∀ v H2 r3, Fr C.Z.S H' H2 → C.Z.J b1 H2 → RV C.K C.Z os H' H2 v r3 → P b1 r3 → Q v H2) → r vs H' Q))
    (hg : Gl C.X x := by rfl) (hn : x ≠ "__name__" := by decide) (hdb : (x == ("__debug__" : Str)) = false := by decide)
    (hsx : starEach (e :: es) C.X.env = (false, eval e C.X.env) :: starEach es C.X.env := by rfl) (hpl : (backTo pos (starEach es C.X.env)).any (·.1) = false := by rfl) : EV C b δ (.Call (.Name x p0) (e :: es) [] pos) P := by
  intro os σ H st Q q
  refine WE.of (pe_callB hc hg hm hv paW hn hdb hsx hpl) ?_
  refine h os σ H st _ fun vs H1 b1 rs f1 j1 rv hh => ?_
  exact hh os H H1 vs j1 rv Q fun v H2 r3 f2 j2 rv3 p => q v H2 b1 r3 (f1.trans f2) j2 (rv3.from f1) p
end
end PD
set_option Elab.async false
set_option linter.all false
set_option maxRecDepth 100000
set_option maxHeartbeats 4000000
namespace PD
open PySem PySem.Spec PyProof.Rows L2

/-! ### kinds -/
def D.ty : D → String
  | .non => "NoneType" | .bl _ => "bool" | .int _ => "int" | .str _ => "str" | .tup _ => "tuple" | .obj t _ => t.name | .lst _ => "list" | .dk _ => "dict" | .dt _ => "dict"
def Res.ty : Res → String
  | .va d => d.ty
  | .od _ => "dict"
  | .ro _ => "dict"
  | _ => "list"
/-- its type; a frozen dict of tuple keys apart -/
def TyZ (K : PySem.W.Frag) (H : Hp) (v : V) (t : Value) : Prop := TyX K H v t ∨ ∃ a o kvs, v = .ref a ∧ H a = some (.frz o (.dT kvs)) ∧ t = .type "dict"
theorem kit_ofZ {X : Cx} {pins : List (Addr × Obj)} {σ : L2.St} {H : Hp} {s : Shared} {x : V} {u t : Value} (I : Inv X pins σ H s) (rx : RelV x u) (ty : TyZ X.K H x t) : ∃ P : Heap → Prop, PySem.W.KitX X.K u t P ∧ P s.heap ∧ u ≠ .builtin "__main__.__loader__#opaque" := by
  rcases ty with ty | ⟨a, ob, kvs, rfl, ea, rfl⟩
  · exact kit_of I rx ty
  · cases (show u = Value.ref a from rx)
    obtain ⟨_, _, _, vs, _, o, es, ep, h1, h2, _⟩ := (show ObjOk X.prog X.w H s.heap a (.frz ob (.dT kvs)) from I.hok a _ ea)
    exact ⟨_, PySem.W.kitx_dict, ⟨o, h1, h2.1⟩, fun z => nomatch z⟩
def rIsiZ (K : PySem.W.Frag) : List V → Hp → VK → Prop := fun xs H Q => ∃ (x c : V) (t u : Value) (b : Bool), xs = [x, c] ∧ ClsV c u ∧ TyZ K H x t ∧ PySem.W.kitOne K t u = some b ∧ Q (.bl b) H
theorem call_isiZ {X : Cx} : CallR X (.builtin "isinstance") (rIsiZ X.K) := by
  intro pins s σ H xs us Q I r h
  obtain ⟨x, c, t, u, b, rfl, k, ty, e, q⟩ := h
  obtain ⟨u1, u2, rfl, r1, r2⟩ := vals2 r
  have e2 := k.eq r2
  subst e2
  obtain ⟨P, Z, p, hx⟩ := kit_ofZ I r1 ty
  exact PySem.W.kia_one Z I.kIn p e hx fun tk => ⟨.bl b, H, I.tok tk, rfl, q⟩
theorem rp_ty {K : PySem.W.Frag} {H : Hp} {v : V} {d : D} (h : Rp K H v d) : TyZ K H v (.type d.ty) := by
  cases h with
  | non => exact .inl (.base .non)
  | bl b => exact .inl (.base (.bl b))
  | int i => exact .inl (.base (.int i))
  | str x => exact .inl (.base (.str x))
  | tup h r =>
    cases h with
    | h e => exact .inl (.base (.tup e))
    | c _ e c => exact .inl (.kTuple e c)
  | obj h =>
    cases h with
    | l e =>
      rcases e with e | ⟨o, e⟩
      · exact .inl (.base (.lst e))
      · exact .inl (.base (.frz e))
    | d e =>
      rcases e with e | ⟨o, e⟩
      · exact .inl (.base (.dK e))
      · exact .inl (.fDict e)
    | u e1 e2 _ _ => exact .inl (.kTuple e1 e2)
  | lst e _ => exact .inl (.base (.frz e))
  | dicK e _ _ => exact .inl (.fDict e)
  | dicT e _ _ => exact .inr ⟨_, _, _, rfl, e, rfl⟩
theorem dco_ty {K : PySem.W.Frag} {H : Hp} {p : Addr} {c : Dc} (h : DcO K H p c) : TyX K H (.ref p) (.type "dict") := by
  cases h with
  | k e _ _ => exact .base (.dK e)
  | t e _ _ => exact .base (.dT e)
theorem rv_ty {K : PySem.W.Frag} {Z : Vol} {os : List Addr} {H H' : Hp} {v : V} {r : Res} (h : RV K Z os H H' v r) : TyZ K H' v (.type r.ty) := by
  cases h with
  | va h => exact rp_ty h
  | ow n e ns r => exact .inl (.base (.lst e))
  | li e ns no r => exact .inl (.base (.lst e))
  | rd e ns no r => exact .inl (.base (.lst e))
  | od n ns e => exact .inl (dco_ty e)
  | ro ns no e => exact .inl (dco_ty e)
theorem rp_bls {K : PySem.W.Frag} {H : Hp} : ∀ {xs : List V} {bs : List Bool}, RpA K H xs (bs.map D.bl) → xs = bs.map V.bl
  | _, [], .nil => rfl
  | _, k :: bs, .cons a r => by
    cases a
    rw [rp_bls r]
    rfl
/-- a list that stands still for calls, or for ever -/
def LsF (Z : Vol) (H : Hp) (p : Addr) (xs : List V) : Prop := (H p = some (.lst xs) ∧ ¬ Z.S p) ∨ ∃ o, H p = some (.frz o (.lst xs))
theorem LsF.sq {Z : Vol} {H : Hp} {p : Addr} {xs : List V} {K : PySem.W.Frag} (h : LsF Z H p xs) : SqL K H p xs := by
  rcases h with ⟨h, _⟩ | h
  · exact .inl (.inl h)
  · exact .inl (.inr h)
theorem LsF.fr {Z : Vol} {H H' : Hp} {p : Addr} {xs : List V} (h : LsF Z H p xs) (f : Fr Z.S H H') : LsF Z H' p xs := by
  rcases h with ⟨h, ns⟩ | ⟨o, h⟩
  · exact .inl ⟨f.keep ns h, ns⟩
  · exact .inr ⟨o, f.frz h⟩
theorem RV.seq_ {K : PySem.W.Frag} {Z : Vol} {os : List Addr} {H H' : Hp} {v : V} {r : Res} {ds : List D} (h : RV K Z os H H' v r) (e : r.seq = some ds) : ∃ p xs, v = .ref p ∧ LsF Z H' p xs ∧ RpA K H' xs ds := by
  cases h with
  | va h =>
    cases h with
    | lst e1 r => cases e; exact ⟨_, _, rfl, .inr ⟨_, e1⟩, r⟩
    | _ => cases e
  | ow n e1 ns r => cases e; exact ⟨_, _, rfl, .inl ⟨e1, ns⟩, r⟩
  | li e1 ns no r => cases e; exact ⟨_, _, rfl, .inl ⟨e1, ns⟩, r⟩
  | rd e1 ns no r => cases e; exact ⟨_, _, rfl, .inl ⟨e1, ns⟩, r⟩
  | od n ns e1 => cases e
  | ro ns no e1 => cases e

section
variable {C : Cn} {b : Nat} {δ : List Sl} {P : Nat → Res → Prop} {Pt : Nat → Bool → Prop} {pos p0 p1 : Pos} {e e1 e2 e3 c : Expr} {es : List Expr}
/-- what the module leaves of the built-in names -/
structure Blt (X : Cx) : Prop where
  isi : X.mg "isinstance" = none
  len : X.mg "len" = none
  all : X.mg "all" = none
  any : X.mg "any" = none
  tuple : X.mg "tuple" = none
  list : X.mg "list" = none
  str : X.mg "str" = none
  int : X.mg "int" = none
  bool : X.mg "bool" = none
  dict : X.mg "dict" = none
  set : X.mg "set" = none
  range : X.mg "range" = none
  enumerate : X.mg "enumerate" = none
  reversed : X.mg "reversed" = none
  sorted : X.mg "sorted" = none
  repr : X.mg "repr" = none
/-- isinstance(e, T), T a built-in class -/
theorem ev_isi {T : Str} {t : String} (B : Blt C.X) (hmT : C.X.mg T = none) (hvT : bootBuiltins T = some (.type t))
    (h : EV C b δ e (fun b1 r => ∃ k, kitB r.ty t = some k ∧ P b1 (.va (.bl k)))) (hg : Gl C.X "isinstance" := by rfl) (hgT : Gl C.X T := by rfl) (hnT : T ≠ "__name__" := by decide) (hdT : (T == ("__debug__" : Str)) = false := by decide)
    (hsx : starEach [e, .Name T p1] C.X.env = (false, eval e C.X.env) :: starEach [.Name T p1] C.X.env := by rfl) (hs2 : starEach [.Name T p1] C.X.env = [(false, eval (.Name T p1) C.X.env)] := by rfl) (hpl : (backTo pos (starEach [.Name T p1] C.X.env)).any (·.1) = false := by rfl) :
    EV C b δ (.Call (.Name "isinstance" p0) [e, .Name T p1] [] pos) P := by
  intro os σ H st Q q
  refine WE.of (pe_callB call_isiZ hg B.isi (by decide +kernel) (pa_cons peW (pa_cons (pe_bltn (v := .ty t) hgT hmT hvT rfl hnT hdT) pa_nil hs2) hsx) (by decide) (by decide) hsx hpl) ?_
  refine h os σ H st _ fun v H1 b1 r f1 j1 rv hh => ?_
  obtain ⟨k, hk, hq⟩ := hh
  exact ⟨v, .ty t, .type r.ty, .type t, k, rfl, .ty t, rv_ty rv, kit_ty hk, q _ H1 b1 _ f1 j1 (.va (.bl k)) hq⟩
def D.isS : D → Bool
  | .str _ => true
  | _ => false
def D.isT : D → Bool
  | .tup _ => true
  | .obj .unit _ => true
  | _ => false
def D.isI : D → Bool
  | .int _ => true
  | .bl _ => true
  | _ => false
def D.isB : D → Bool
  | .bl _ => true
  | _ => false
def D.isD : D → Bool
  | .obj .dict _ => true
  | .dk _ => true
  | .dt _ => true
  | _ => false
theorem isi_s (d : D) : kitB d.ty "str" = some d.isS := by
  have kNoneType : kitB "NoneType" "str" = some false := by decide +kernel
  have kbool : kitB "bool" "str" = some false := by decide +kernel
  have kint : kitB "int" "str" = some false := by decide +kernel
  have kstr : kitB "str" "str" = some true := by decide +kernel
  have ktuple : kitB "tuple" "str" = some false := by decide +kernel
  have klist : kitB "list" "str" = some false := by decide +kernel
  have kdict : kitB "dict" "str" = some false := by decide +kernel
  rcases d with _ | _ | _ | _ | _ | ⟨_ | _ | _, _⟩ | _ | _ | _
  · exact kNoneType
  · exact kbool
  · exact kint
  · exact kstr
  · exact ktuple
  · exact klist
  · exact kdict
  · exact ktuple
  · exact klist
  · exact kdict
  · exact kdict
theorem isi_t (d : D) : kitB d.ty "tuple" = some d.isT := by
  have kNoneType : kitB "NoneType" "tuple" = some false := by decide +kernel
  have kbool : kitB "bool" "tuple" = some false := by decide +kernel
  have kint : kitB "int" "tuple" = some false := by decide +kernel
  have kstr : kitB "str" "tuple" = some false := by decide +kernel
  have ktuple : kitB "tuple" "tuple" = some true := by decide +kernel
  have klist : kitB "list" "tuple" = some false := by decide +kernel
  have kdict : kitB "dict" "tuple" = some false := by decide +kernel
  rcases d with _ | _ | _ | _ | _ | ⟨_ | _ | _, _⟩ | _ | _ | _
  · exact kNoneType
  · exact kbool
  · exact kint
  · exact kstr
  · exact ktuple
  · exact klist
  · exact kdict
  · exact ktuple
  · exact klist
  · exact kdict
  · exact kdict
theorem isi_i (d : D) : kitB d.ty "int" = some d.isI := by
  have kNoneType : kitB "NoneType" "int" = some false := by decide +kernel
  have kbool : kitB "bool" "int" = some true := by decide +kernel
  have kint : kitB "int" "int" = some true := by decide +kernel
  have kstr : kitB "str" "int" = some false := by decide +kernel
  have ktuple : kitB "tuple" "int" = some false := by decide +kernel
  have klist : kitB "list" "int" = some false := by decide +kernel
  have kdict : kitB "dict" "int" = some false := by decide +kernel
  rcases d with _ | _ | _ | _ | _ | ⟨_ | _ | _, _⟩ | _ | _ | _
  · exact kNoneType
  · exact kbool
  · exact kint
  · exact kstr
  · exact ktuple
  · exact klist
  · exact kdict
  · exact ktuple
  · exact klist
  · exact kdict
  · exact kdict
theorem isi_b (d : D) : kitB d.ty "bool" = some d.isB := by
  have kNoneType : kitB "NoneType" "bool" = some false := by decide +kernel
  have kbool : kitB "bool" "bool" = some true := by decide +kernel
  have kint : kitB "int" "bool" = some false := by decide +kernel
  have kstr : kitB "str" "bool" = some false := by decide +kernel
  have ktuple : kitB "tuple" "bool" = some false := by decide +kernel
  have klist : kitB "list" "bool" = some false := by decide +kernel
  have kdict : kitB "dict" "bool" = some false := by decide +kernel
  rcases d with _ | _ | _ | _ | _ | ⟨_ | _ | _, _⟩ | _ | _ | _
  · exact kNoneType
  · exact kbool
  · exact kint
  · exact kstr
  · exact ktuple
  · exact klist
  · exact kdict
  · exact ktuple
  · exact klist
  · exact kdict
  · exact kdict
theorem isi_d (d : D) : kitB d.ty "dict" = some d.isD := by
  have kNoneType : kitB "NoneType" "dict" = some false := by decide +kernel
  have kbool : kitB "bool" "dict" = some false := by decide +kernel
  have kint : kitB "int" "dict" = some false := by decide +kernel
  have kstr : kitB "str" "dict" = some false := by decide +kernel
  have ktuple : kitB "tuple" "dict" = some false := by decide +kernel
  have klist : kitB "list" "dict" = some false := by decide +kernel
  have kdict : kitB "dict" "dict" = some true := by decide +kernel
  rcases d with _ | _ | _ | _ | _ | ⟨_ | _ | _, _⟩ | _ | _ | _
  · exact kNoneType
  · exact kbool
  · exact kint
  · exact kstr
  · exact ktuple
  · exact klist
  · exact kdict
  · exact ktuple
  · exact klist
  · exact kdict
  · exact kdict
/-- the length, where it has one -/
inductive Lenr : Res → Nat → Prop
  | str {x : Str} : x.length ≤ 16000000 → Lenr (.va (.str x)) x.length
  | tup {ds : List D} : Lenr (.va (.tup ds)) ds.length
  | seq {r : Res} {ds : List D} : r.seq = some ds → Lenr r ds.length
theorem ev_len (B : Blt C.X) (h : EV C b δ e (fun b1 r => ∃ n, Lenr r n ∧ P b1 (.va (.int n)))) (hg : Gl C.X "len" := by rfl)
    (hsx : starEach [e] C.X.env = (false, eval e C.X.env) :: starEach [] C.X.env := by rfl) (hpl : (backTo pos (starEach [] C.X.env)).any (·.1) = false := by rfl) : EV C b δ (.Call (.Name "len" p0) [e] [] pos) P := by
  intro os σ H st Q q
  refine WE.of (pe_callB call_len hg B.len PySem.boot_len (pa_cons peW pa_nil hsx) (by decide) (by decide) hsx hpl) ?_
  refine h os σ H st _ fun v H1 b1 r f1 j1 rv hh => ?_
  obtain ⟨n, hl, hq⟩ := hh
  refine ⟨v, n, rfl, ?_, q _ H1 b1 _ f1 j1 (.va (.int n)) hq⟩
  cases hl with
  | str hx => cases rv with | va rv => cases rv; exact ⟨sz1 hx, rfl⟩
  | tup => cases rv with | va rv => cases rv with | tup h r => exact .inr ⟨_, h.sq, r.len.symm⟩
  | seq hs =>
    obtain ⟨p, xs, rfl, e, ra⟩ := rv.seq_ hs
    exact .inl ⟨xs, e.sq, ra.len.symm⟩
theorem ev_all (hc : C.X.calm = true) (B : Blt C.X) (h : EV C b δ e (fun b1 r => ∃ bs : List Bool, r.seq = some (bs.map D.bl) ∧ P b1 (.va (.bl (bs.all id))))) (hg : Gl C.X "all" := by rfl)
    (hsx : starEach [e] C.X.env = (false, eval e C.X.env) :: starEach [] C.X.env := by rfl) (hpl : (backTo pos (starEach [] C.X.env)).any (·.1) = false := by rfl) : EV C b δ (.Call (.Name "all" p0) [e] [] pos) P := by
  intro os σ H st Q q
  refine WE.of (pe_callB (cr_all hc) hg B.all (by decide +kernel) (pa_cons peW pa_nil hsx) (by decide) (by decide) hsx hpl) ?_
  refine h os σ H st _ fun v H1 b1 r f1 j1 rv hh => ?_
  obtain ⟨bs, hs, hq⟩ := hh
  obtain ⟨p, xs, rfl, e, ra⟩ := rv.seq_ hs
  obtain rfl := rp_bls ra
  exact ⟨p, bs, rfl, e.sq, q _ H1 b1 _ f1 j1 (.va (.bl _)) hq⟩
/-- tuple(a list) -/
theorem ev_tuple (B : Blt C.X) (h : EV C b δ e (fun b1 r => ∃ ds, r.seq = some ds ∧ P b1 (.va (.tup ds)))) (hg : Gl C.X "tuple" := by rfl)
    (hsx : starEach [e] C.X.env = (false, eval e C.X.env) :: starEach [] C.X.env := by rfl) (hpl : (backTo pos (starEach [] C.X.env)).any (·.1) = false := by rfl) : EV C b δ (.Call (.Name "tuple" p0) [e] [] pos) P := by
  intro os σ H st Q q
  refine WE.of (pe_callTy call_tuple_of hg B.tuple (by decide +kernel) (pa_cons peW pa_nil hsx) (by decide) (by decide) hsx hpl) ?_
  refine h os σ H st _ fun v H1 b1 r f1 j1 rv hh => ?_
  obtain ⟨ds, hs, hq⟩ := hh
  obtain ⟨p, xs, rfl, e, ra⟩ := rv.seq_ hs
  refine ⟨p, xs, rfl, .inl ⟨e.sq, fun l hl => ?_⟩⟩
  have fn : Fr C.Z.S H1 (upd H1 l (.tup xs)) := Fr.new hl
  exact q _ _ b1 _ (f1.trans fn) (jnew j1 hl) (.va (.tup (.h upd_same) (ra.fr fn))) hq
/-! ### comparisons -/
def D.sc : D → D → Option Bool
  | .int i, .int j => some (decide (i = j))
  | .bl i, .bl j => some (decide (i = j))
  | .str i, .str j => some (decide (i = j))
  | _, _ => none
theorem sc_ok {K : PySem.W.Frag} {H : Hp} {v w : V} {d e : D} {k : Bool} (h : d.sc e = some k) (r : Rp K H v d) (q : Rp K H w e) : scal v w = true ∧ decide (v = w) = k := by
  cases r <;> cases q <;> first
    | (cases h; done)
    | (simp only [D.sc, Option.some.injEq] at h
       subst h
       exact ⟨rfl, by simp⟩)
/-- == of two ints, two texts, two truth values -/
theorem ev_eq (h : EV C b δ e1 (fun b1 r1 => EV C b1 δ e2 fun b2 r2 => ∃ d1 d2 k, r1 = .va d1 ∧ r2 = .va d2 ∧ d1.sc d2 = some k ∧ P b2 (.va (.bl k)))) : EV C b δ (.Compare e1 [.Eq] [e2] pos) P := by
  refine ev_cmp op_eq (nomark _) (h.imp fun b1 r1 h2 => h2.imp fun b2 r2 ⟨d1, d2, k, e1, e2, hk, hq⟩ => ?_)
  subst e1 e2
  intro os H H' x y j rx ry Q q
  cases rx with | va rx => ?_
  cases ry with | va ry => ?_
  obtain ⟨s1, s2⟩ := sc_ok hk rx ry
  exact ⟨s1, by rw [s2]; exact q k hq⟩
theorem et_eq (h : EV C b δ e1 (fun b1 r1 => EV C b1 δ e2 fun b2 r2 => ∃ d1 d2 k, r1 = .va d1 ∧ r2 = .va d2 ∧ d1.sc d2 = some k ∧ Pt b2 k)) : ET C b δ (.Compare e1 [.Eq] [e2] pos) Pt := by
  refine et_cmp op_eq (nomark _) (h.imp fun b1 r1 h2 => h2.imp fun b2 r2 ⟨d1, d2, k, e1, e2, hk, hq⟩ => ?_)
  subst e1 e2
  intro os H H' x y j rx ry Q q
  cases rx with | va rx => ?_
  cases ry with | va ry => ?_
  obtain ⟨s1, s2⟩ := sc_ok hk rx ry
  exact ⟨s1, by rw [s2]; exact q k hq⟩
theorem ev_ne (h : EV C b δ e1 (fun b1 r1 => EV C b1 δ e2 fun b2 r2 => ∃ d1 d2 k, r1 = .va d1 ∧ r2 = .va d2 ∧ d1.sc d2 = some k ∧ P b2 (.va (.bl (!k))))) : EV C b δ (.Compare e1 [.NotEq] [e2] pos) P := by
  refine ev_cmp op_ne (nomark _) (h.imp fun b1 r1 h2 => h2.imp fun b2 r2 ⟨d1, d2, k, e1, e2, hk, hq⟩ => ?_)
  subst e1 e2
  intro os H H' x y j rx ry Q q
  cases rx with | va rx => ?_
  cases ry with | va ry => ?_
  obtain ⟨s1, s2⟩ := sc_ok hk rx ry
  exact ⟨s1, by rw [s2]; exact q (!k) hq⟩
theorem et_ne (h : EV C b δ e1 (fun b1 r1 => EV C b1 δ e2 fun b2 r2 => ∃ d1 d2 k, r1 = .va d1 ∧ r2 = .va d2 ∧ d1.sc d2 = some k ∧ Pt b2 (!k))) : ET C b δ (.Compare e1 [.NotEq] [e2] pos) Pt := by
  refine et_cmp op_ne (nomark _) (h.imp fun b1 r1 h2 => h2.imp fun b2 r2 ⟨d1, d2, k, e1, e2, hk, hq⟩ => ?_)
  subst e1 e2
  intro os H H' x y j rx ry Q q
  cases rx with | va rx => ?_
  cases ry with | va ry => ?_
  obtain ⟨s1, s2⟩ := sc_ok hk rx ry
  exact ⟨s1, by rw [s2]; exact q (!k) hq⟩
/-- the order of two ints -/
theorem ev_ord {op : CmpOp} {f : Int → Int → Bool} (ho : OpR C.X (compareOp op) (rI0 fun i j => .bl (f i j))) (hm : behindInMarks op e2 = false)
    (h : EV C b δ e1 (fun b1 r1 => EV C b1 δ e2 fun b2 r2 => ∃ i j, r1 = .va (.int i) ∧ r2 = .va (.int j) ∧ P b2 (.va (.bl (f i j))))) : EV C b δ (.Compare e1 [op] [e2] pos) P := by
  refine ev_cmp ho hm (h.imp fun b1 r1 h2 => h2.imp fun b2 r2 ⟨i, j, e1, e2, hq⟩ => ?_)
  subst e1 e2
  intro os H H' x y jj rx ry Q q
  cases rx with | va rx => ?_
  cases ry with | va ry => ?_
  cases rx; cases ry
  exact ⟨i, j, rfl, rfl, q _ hq⟩
theorem et_ord {op : CmpOp} {f : Int → Int → Bool} (ho : OpR C.X (compareOp op) (rI0 fun i j => .bl (f i j))) (hm : behindInMarks op e2 = false)
    (h : EV C b δ e1 (fun b1 r1 => EV C b1 δ e2 fun b2 r2 => ∃ i j, r1 = .va (.int i) ∧ r2 = .va (.int j) ∧ Pt b2 (f i j))) : ET C b δ (.Compare e1 [op] [e2] pos) Pt := by
  refine et_cmp ho hm (h.imp fun b1 r1 h2 => h2.imp fun b2 r2 ⟨i, j, e1, e2, hq⟩ => ?_)
  subst e1 e2
  intro os H H' x y jj rx ry Q q
  cases rx with | va rx => ?_
  cases ry with | va ry => ?_
  cases rx; cases ry
  exact ⟨i, j, rfl, rfl, q _ hq⟩
/-- a <= b <= c and its like, of ints -/
theorem et_chain {op op' : CmpOp} {f g : Int → Int → Bool} (hm : lastMarks [op, op'] [e2, e3] = false) (ho : OpR C.X (compareOp op) (rI0 fun i j => .bl (f i j))) (ho' : OpR C.X (compareOp op') (rI0 fun i j => .bl (g i j)))
    (h : EV C b δ e1 (fun b1 r1 => EV C b1 δ e2 fun b2 r2 => ∃ i j, r1 = .va (.int i) ∧ r2 = .va (.int j) ∧ if f i j = true then EV C b2 δ e3 (fun b3 r3 => ∃ k, r3 = .va (.int k) ∧ Pt b3 (g j k)) else Pt b2 false)) :
    ET C b δ (.Compare e1 [op, op'] [e2, e3] pos) Pt := by
  intro os σ H st Q q
  refine WT.of (pt_chain ho ho' peW peW peW hm) ?_
  refine h os σ H st _ fun v1 H1 b1 r1 f1 j1 rv1 h2 => ?_
  refine h2 os σ H1 (st.on f1 j1) _ fun v2 H2 b2 r2 f2 j2 rv2 h3 => ?_
  obtain ⟨i, j, rfl, rfl, h3⟩ := h3
  cases rv1 with | va rv1 => ?_
  cases rv2 with | va rv2 => ?_
  cases rv1; cases rv2
  refine ⟨i, j, rfl, rfl, f i j, rfl, ?_⟩
  cases e : f i j with
  | true =>
    rw [e] at h3
    refine iteT (h3 os σ H2 ((st.on f1 j1).on f2 j2) _ fun v3 H3 b3 r3 f3 j3 rv3 h4 => ?_)
    obtain ⟨k, rfl, h4⟩ := h4
    cases rv3 with | va rv3 => ?_
    cases rv3
    exact ⟨j, k, rfl, rfl, g j k, rfl, q _ H3 b3 ((f1.trans f2).trans f3) j3 h4⟩
  | false =>
    rw [e] at h3
    exact iteF ⟨false, rfl, q false H2 b2 (f1.trans f2) j2 h3⟩
theorem ev_chain {op op' : CmpOp} {f g : Int → Int → Bool} (hm : lastMarks [op, op'] [e2, e3] = false) (ho : OpR C.X (compareOp op) (rI0 fun i j => .bl (f i j))) (ho' : OpR C.X (compareOp op') (rI0 fun i j => .bl (g i j)))
    (h : EV C b δ e1 (fun b1 r1 => EV C b1 δ e2 fun b2 r2 => ∃ i j, r1 = .va (.int i) ∧ r2 = .va (.int j) ∧ if f i j = true then EV C b2 δ e3 (fun b3 r3 => ∃ k, r3 = .va (.int k) ∧ P b3 (.va (.bl (g j k)))) else P b2 (.va (.bl false)))) :
    EV C b δ (.Compare e1 [op, op'] [e2, e3] pos) P := by
  intro os σ H st Q q
  refine WE.of (pe_chain ho ho' peW peW peW hm) ?_
  refine h os σ H st _ fun v1 H1 b1 r1 f1 j1 rv1 h2 => ?_
  refine h2 os σ H1 (st.on f1 j1) _ fun v2 H2 b2 r2 f2 j2 rv2 h3 => ?_
  obtain ⟨i, j, rfl, rfl, h3⟩ := h3
  cases rv1 with | va rv1 => ?_
  cases rv2 with | va rv2 => ?_
  cases rv1; cases rv2
  refine ⟨i, j, rfl, rfl, f i j, rfl, ?_⟩
  cases e : f i j with
  | true =>
    rw [e] at h3
    refine iteT (h3 os σ H2 ((st.on f1 j1).on f2 j2) _ fun v3 H3 b3 r3 f3 j3 rv3 h4 => ?_)
    obtain ⟨k, rfl, h4⟩ := h4
    cases rv3 with | va rv3 => ?_
    cases rv3
    exact ⟨j, k, rfl, rfl, q _ H3 b3 _ ((f1.trans f2).trans f3) j3 (.va (.bl _)) h4⟩
  | false =>
    rw [e] at h3
    exact iteF (q _ H2 b2 _ (f1.trans f2) j2 (.va (.bl false)) h3)
def D.isN : D → Bool
  | .non => true
  | _ => false
theorem isN_ok {K : PySem.W.Frag} {H : Hp} {v : V} {d : D} (r : Rp K H v d) : decide (v = .non) = d.isN := by cases r <;> simp [D.isN]
/-- is None -/
theorem et_isN {jj : Nat} {pj : Pos} (h : EV C b δ e (fun b1 r => ∃ d, r = .va d ∧ Pt b1 d.isN)) : ET C b δ (.Compare e [.Is] [.Constant .none jj pj] pos) Pt := by
  intro os σ H st Q q
  refine WT.of (pt_cmp (pc_isN peW)) ?_
  refine h os σ H st _ fun v H1 b1 r f1 j1 rv hh => ?_
  obtain ⟨d, rfl, hq⟩ := hh
  cases rv with | va rv => ?_
  exact ⟨_, rfl, by rw [isN_ok rv]; exact q _ H1 b1 f1 j1 hq⟩
theorem et_notN {jj : Nat} {pj : Pos} (h : EV C b δ e (fun b1 r => ∃ d, r = .va d ∧ Pt b1 (!d.isN))) : ET C b δ (.Compare e [.IsNot] [.Constant .none jj pj] pos) Pt := by
  intro os σ H st Q q
  refine WT.of (pt_cmp (pc_notN peW)) ?_
  refine h os σ H st _ fun v H1 b1 r f1 j1 rv hh => ?_
  obtain ⟨d, rfl, hq⟩ := hh
  cases rv with | va rv => ?_
  exact ⟨_, rfl, by rw [isN_ok rv]; exact q _ H1 b1 f1 j1 hq⟩
/-- one sign in a text -/
theorem ev_inS (hm : behindInMarks .In e2 = false := by rfl) (h : EV C b δ e1 (fun b1 r1 => EV C b1 δ e2 fun b2 r2 => ∃ c z, r1 = .va (.str ⟨#[c]⟩) ∧ r2 = .va (.str z) ∧ P b2 (.va (.bl (decide (c ∈ z.cps.toList)))))) : EV C b δ (.Compare e1 [.In] [e2] pos) P := by
  refine ev_cmp op_in_sign hm (h.imp fun b1 r1 h2 => h2.imp fun b2 r2 ⟨c, z, e1, e2, hq⟩ => ?_)
  subst e1 e2
  intro os H H' x y jj rx ry Q q
  cases rx with | va rx => ?_
  cases ry with | va ry => ?_
  cases rx; cases ry
  exact ⟨c, z, rfl, rfl, q _ hq⟩
/-- t[i] of a tuple, of a list -/
theorem ev_ix (h : EV C b δ e1 (fun b1 r1 => EV C b1 δ e2 fun b2 r2 => ∃ ds i d, (r1 = .va (.tup ds) ∨ r1.seq = some ds) ∧ r2 = .va (.int i) ∧ atI ds i = some d ∧ P b2 (.va d))) (hs : PlainIx e2 := by exact fun _ _ => rfl) : EV C b δ (.Subscript e1 e2 pos) P := by
  intro os σ H st Q q
  refine WE.of (pe_ix ix_seq peW peW hs) ?_
  refine h os σ H st _ fun v1 H1 b1 r1 f1 j1 rv1 h2 => ?_
  refine h2 os σ H1 (st.on f1 j1) _ fun v2 H2 b2 r2 f2 j2 rv2 h3 => ?_
  obtain ⟨ds, i, d, hr, rfl, hi, hq⟩ := h3
  cases rv2 with | va rv2 => ?_
  cases rv2
  have at_ : ∀ {xs : List V}, RpA C.K H2 xs ds → ∃ v, atI xs i = some v ∧ Rp C.K H2 v d := fun {xs} ra => by
    unfold atI at hi ⊢
    rw [ra.len]
    cases e : ixN ds.length i with
    | none => rw [e] at hi; cases hi
    | some k =>
      rw [e] at hi
      obtain ⟨v, h1, h2⟩ := ra.get (i := k) hi
      exact ⟨v, h1, h2⟩
  rcases hr with rfl | hs
  · cases rv1 with
    | va rv1 =>
      cases rv1 with
      | tup hh ra =>
        obtain ⟨v, h1, h2⟩ := at_ (ra.fr f2)
        exact .inr (.inl ⟨_, _, i, v, rfl, rfl, sqT_fr f2 hh.sq, h1, q _ H2 b2 _ (f1.trans f2) j2 (.va h2) hq⟩)
  · obtain ⟨p, xs, rfl, e, ra⟩ := rv1.seq_ hs
    obtain ⟨v, h1, h2⟩ := at_ (ra.fr f2)
    exact .inl ⟨_, _, i, v, rfl, rfl, (e.fr f2).sq, h1, q _ H2 b2 _ (f1.trans f2) j2 (.va h2) hq⟩
/-- a + b of ints -/
theorem ev_add (h : EV C b δ e1 (fun b1 r1 => EV C b1 δ e2 fun b2 r2 => ∃ i j, r1 = .va (.int i) ∧ r2 = .va (.int j) ∧ P b2 (.va (.int (i + j))))) : EV C b δ (.BinOp e1 .Add e2 pos) P := by
  refine ev_bin op_add (h.imp fun b1 r1 h2 => h2.imp fun b2 r2 ⟨i, j, e1, e2, hq⟩ => ?_)
  subst e1 e2
  intro os H H' x y jj rx ry Q q
  cases rx with | va rx => ?_
  cases ry with | va ry => ?_
  cases rx; cases ry
  exact ⟨i, j, rfl, rfl, q _ H' _ Fr.refl jj (.va (.int _)) hq⟩
/-- t + u of tuples -/
theorem ev_cat (h : EV C b δ e1 (fun b1 r1 => EV C b1 δ e2 fun b2 r2 => ∃ ds es, r1 = .va (.tup ds) ∧ r2 = .va (.tup es) ∧ ds.length + es.length ≤ 16000000 ∧ P b2 (.va (.tup (ds ++ es))))) : EV C b δ (.BinOp e1 .Add e2 pos) P := by
  refine ev_bin op_catA (h.imp fun b1 r1 h2 => h2.imp fun b2 r2 ⟨ds, es, e1, e2, hl, hq⟩ => ?_)
  subst e1 e2
  intro os H H' x y jj rx ry Q q
  cases rx with | va rx => ?_
  cases ry with | va ry => ?_
  cases rx with | @tup a xs _ hx ra => ?_
  cases ry with | @tup c ys _ hy rc => ?_
  refine ⟨a, c, xs, ys, rfl, rfl, hx.sq, hy.sq, by rw [ra.len, rc.len]; exact sz1 hl, fun z => ?_, fun _ z => ?_, fun _ _ p hp => ?_⟩
  · subst z
    cases ra
    exact q _ H' _ Fr.refl jj (.va (.tup hy rc)) hq
  · subst z
    cases rc
    exact q _ H' _ Fr.refl jj (.va (.tup hx ra)) (by rw [List.append_nil] at hq; exact hq)
  · have fn : Fr C.Z.S H' (upd H' p (.tup (xs ++ ys))) := Fr.new hp
    exact q _ _ _ fn (jnew jj hp) (.va (.tup (.h upd_same) ((ra.append rc).fr fn))) hq
end
end PD
set_option Elab.async false
set_option linter.all false
set_option maxRecDepth 100000
set_option maxHeartbeats 4000000
namespace PD
open PySem PySem.Spec PyProof.Rows L2

/-! ### targets -/
inductive Pat where
  | nm (i : Nat)
  | tp (ps : List Pat)
mutual
def gPat (K : PySem.W.Frag) : Pat → TG
  | .nm i => gName i
  | .tp ps => gTup K ps.length (gPats K ps)
def gPats (K : PySem.W.Frag) : List Pat → TGs
  | [] => gNil
  | p :: ps => gCons (gPat K p) (gPats K ps)
end
mutual
def bindP : Pat → D → List Sl → Option (List Sl)
  | .nm i, d, δ => some (δ.set i (.va d))
  | .tp ps, .tup ds, δ => bindPs ps ds δ
  | .tp _, _, _ => none
def bindPs : List Pat → List D → List Sl → Option (List Sl)
  | [], [], δ => some δ
  | p :: ps, d :: ds, δ => (bindP p d δ).bind (bindPs ps ds)
  | _, _, _ => none
end
mutual
def Pat.slots : Pat → List Nat
  | .nm i => [i]
  | .tp ps => slotsAll ps
def slotsAll : List Pat → List Nat
  | [] => []
  | p :: ps => p.slots ++ slotsAll ps
end
theorem wipe_set (σ : L2.St) (i : Nat) (x : Option V) : ∀ vs : List Nat, i ∈ vs → wipe (σ.set i x) vs = wipe σ vs := by
  have key : ∀ vs : List Nat, (i ∉ vs → wipe (σ.set i x) vs = (wipe σ vs).set i x) ∧ (i ∈ vs → wipe (σ.set i x) vs = wipe σ vs) := by
    intro vs
    induction vs with
    | nil => exact ⟨fun _ => rfl, fun h => (nomatch h)⟩
    | cons v vs ih =>
      refine ⟨fun h => ?_, fun h => ?_⟩
      · unfold wipe
        rw [ih.1 fun z => h (List.mem_cons_of_mem _ z), List.set_comm _ _ (fun z => h (by rw [z]; exact List.mem_cons_self))]
      · unfold wipe
        by_cases hv : i ∈ vs
        · rw [ih.2 hv]
        · rw [ih.1 hv]
          have e : i = v := by
            rcases List.mem_cons.mp h with z | z
            · exact z
            · exact absurd z hv
          subst e
          rw [List.set_set]
  exact fun vs h => (key vs).2 h
def wipeD (δ : List Sl) : List Nat → List Sl
  | [] => δ
  | v :: vs => (wipeD δ vs).set v .un
section
variable {C : Cn} {os : List Addr} {b : Nat} {H : Hp}
theorem Sts.wipe {δ : List Sl} {σ : L2.St} (st : Sts C os b δ σ H) : ∀ vs : List Nat, Sts C os b (wipeD δ vs) (wipe σ vs) H
  | [] => st
  | v :: vs => by
    have ih := Sts.wipe st vs
    obtain ⟨o, nd, sub, sl⟩ := ih.sl
    obtain ⟨o', n', s', l'⟩ := sl.put (i := v) nd List.nodup_nil (fun p z => (nomatch z)) (Slot.un (v := none))
    exact ⟨ih.fr, ih.j, ih.new, o', n', fun p hp => (s' p hp).elim (fun z => (nomatch z)) (sub p), l'⟩
theorem Sts.va1 {δ : List Sl} {σ : L2.St} {v : V} {d : D} (st : Sts C os b δ σ H) (i : Nat) (r : Rp C.K H v d) : Sts C os b (δ.set i (.va d)) (σ.set i (some v)) H := by
  obtain ⟨o, nd, sub, sl⟩ := st.sl
  obtain ⟨o', n', s', l'⟩ := sl.put (i := i) nd List.nodup_nil (fun p z => (nomatch z)) (Slot.va r)
  exact ⟨st.fr, st.j, st.new, o', n', fun p hp => (s' p hp).elim (fun z => (nomatch z)) (sub p), l'⟩
mutual
theorem bind_ok : ∀ (p : Pat) {d : D} {v : V} {δ δ' : List Sl} {σ : L2.St}, Rp C.K H v d → Sts C os b δ σ H → bindP p d δ = some δ' →
    ∃ σ', Sts C os b δ' σ' H ∧ (∀ vs, (∀ i ∈ p.slots, i ∈ vs) → wipe σ' vs = wipe σ vs) ∧ ∀ Q : L2.St → Hp → Prop, Q σ' H → gPat C.K p v σ H Q
  | .nm i, d, v, δ, δ', σ, r, st, e => by
    simp only [bindP, Option.some.injEq] at e
    subst e
    exact ⟨_, st.va1 i r, fun vs h => wipe_set _ _ _ _ (h i (by simp [Pat.slots])), fun Q q => q⟩
  | .tp ps, d, v, δ, δ', σ, r, st, e => by
    cases d with
    | tup ds =>
      cases r with
      | @tup a xs _ h ra =>
        simp only [bindP] at e
        obtain ⟨σ', h1, h2, h3, h4⟩ := binds_ok ps ra st e
        exact ⟨σ', h1, fun vs hv => h2 vs (by simpa only [Pat.slots] using hv), fun Q q => ⟨a, xs, rfl, h.sq, h3, h4 Q q⟩⟩
    | _ => simp only [bindP] at e; cases e
theorem binds_ok : ∀ (ps : List Pat) {ds : List D} {xs : List V} {δ δ' : List Sl} {σ : L2.St}, RpA C.K H xs ds → Sts C os b δ σ H → bindPs ps ds δ = some δ' →
    ∃ σ', Sts C os b δ' σ' H ∧ (∀ vs, (∀ i ∈ slotsAll ps, i ∈ vs) → wipe σ' vs = wipe σ vs) ∧ xs.length = ps.length ∧ ∀ Q : L2.St → Hp → Prop, Q σ' H → gPats C.K ps xs σ H Q
  | [], ds, xs, δ, δ', σ, r, st, e => by
    cases ds with
    | nil =>
      cases r
      simp only [bindPs, Option.some.injEq] at e
      subst e
      exact ⟨σ, st, fun _ _ => rfl, rfl, fun Q q => ⟨rfl, q⟩⟩
    | cons d ds => simp only [bindPs] at e; cases e
  | p :: ps, ds, xs, δ, δ', σ, r, st, e => by
    cases ds with
    | nil => simp only [bindPs] at e; cases e
    | cons d ds =>
      cases r with
      | @cons v vs _ _ r1 r2 =>
        simp only [bindPs] at e
        cases e1 : bindP p d δ with
        | none => rw [e1] at e; cases e
        | some δ1 =>
          rw [e1] at e
          obtain ⟨σ1, s1, w1, g1⟩ := bind_ok p r1 st e1
          obtain ⟨σ2, s2, w2, l2, g2⟩ := binds_ok ps r2 s1 e
          refine ⟨σ2, s2, fun us hu => ?_, by simp [l2], fun Q q => ⟨v, vs, rfl, g1 _ (g2 Q q)⟩⟩
          rw [w2 us fun i hi => hu i (by simp only [slotsAll]; exact List.mem_append_right _ hi), w1 us fun i hi => hu i (by simp only [slotsAll]; exact List.mem_append_left _ hi)]
end
end

/-! ### what is walked -/
/-- J gives the ds, one after the other, wherever all that it leans on stands -/
structure WkF (K : PySem.W.Frag) (Z : Vol) (J : It) (ds : List D) (H : Hp) : Prop where
  go : ∀ H', Fr Z.S H H' → ∀ i, i < ds.length → J.go i H' ∧ ∀ x H2, J.yld i H' x H2 → Fr (fun _ => False) H' H2 ∧ ∃ d, ds[i]? = some d ∧ Rp K H2 x d
  stop : ∀ H', Fr Z.S H H' → ∀ i, ds.length ≤ i → J.stop i H'
structure Wk (K : PySem.W.Frag) (Z : Vol) (J : It) (ds : List D) (os : List Addr) (H : Hp) : Prop where
  go : ∀ os' H', Gr Z os H os' H' → ∀ i, i < ds.length → J.go i H' ∧ ∀ x H2, J.yld i H' x H2 → Fr (fun _ => False) H' H2 ∧ ∃ d, ds[i]? = some d ∧ Rp K H2 x d
  stop : ∀ os' H', Gr Z os H os' H' → ∀ i, ds.length ≤ i → J.stop i H'
theorem Wk.f {K : PySem.W.Frag} {Z : Vol} {J : It} {ds : List D} {os : List Addr} {H : Hp} (h : Wk K Z J ds os H) : WkF K Z J ds H := ⟨fun H' f => h.go os H' (Gr.of f), fun H' f => h.stop os H' (Gr.of f)⟩
theorem Gr.keepT {Z : Vol} {os os' : List Addr} {H H' : Hp} {K : PySem.W.Frag} {a : Addr} {xs : List V} (g : Gr Z os H os' H') (h : SqT K H a xs) : SqT K H' a xs := sqT_fr g.fr h
theorem Gr.keepL {Z : Vol} {os os' : List Addr} {H H' : Hp} {a : Addr} {xs : List V} (g : Gr Z os H os' H') (h : H a = some (.lst xs)) (ns : ¬ Z.S a) (no : a ∉ os) : H' a = some (.lst xs) := g.fr.keep (fun z => z.elim ns no) h

def WI (X : Cx) (tg iter : Expr) : TI := fun σ H R => ∀ (pins : List (Addr × Obj)) (s : Shared), Inv X pins σ H s →
  wpAny (model X.prog X.w) X.A (eval iter X.env) (fun v s1 => wpAny (model X.prog X.w) X.A (pyIter v) (PIE X pins σ tg R) X.xe s1) X.xe s
theorem piW {X : Cx} {tg iter : Expr} : PI X tg iter (WI X tg iter) := ⟨fun pins s _ _ _ I h => h pins s I⟩
theorem WI.of {X : Cx} {tg iter : Expr} {σ : L2.St} {H : Hp} {wi : TI} {R : It → Hp → Prop} (p : PI X tg iter wi) (h : wi σ H R) : WI X tg iter σ H R := fun pins s I => p.run pins s σ H R I h
/-- what a for walks -/
def EI (C : Cn) (b : Nat) (δ : List Sl) (tg iter : Expr) (P : Nat → List D → Prop) : Prop :=
  ∀ os σ H, Sts C os b δ σ H → ∀ R : It → Hp → Prop, (∀ J H' b' ds, Fr C.Z.S H H' → C.Z.J b' H' → Wk C.K C.Z J ds os H' → P b' ds → R J H') → WI C.X tg iter σ H R
/-- what a comprehension walks -/
def EIc (C : Cn) (b : Nat) (δ : List Sl) (tg iter : Expr) (P : Nat → List D → Prop) : Prop :=
  ∀ os σ H, Sts C os b δ σ H → ∀ R : It → Hp → Prop, (∀ J H' b' ds, Fr C.Z.S H H' → C.Z.J b' H' → WkF C.K C.Z J ds H' → P b' ds → R J H') → WI C.X tg iter σ H R
section
variable {C : Cn} {b : Nat} {δ : List Sl} {P : Nat → List D → Prop} {tg iter e : Expr} {pos p0 : Pos}
theorem EI.c (h : EI C b δ tg iter P) : EIc C b δ tg iter P := fun os σ H st R k => h os σ H st R fun J H' b' ds f j w p => k J H' b' ds f j w.f p
theorem wk_list {K : PySem.W.Frag} {Z : Vol} {os : List Addr} {H : Hp} {a : Addr} {xs : List V} {ds : List D} (e : H a = some (.lst xs)) (ns : ¬ Z.S a) (no : a ∉ os) (ra : RpA K H xs ds) : Wk K Z (Itl K a) ds os H := by
  refine ⟨fun os' H' g i hi => ?_, fun os' H' g i hi => ⟨xs, SqL.of (g.keepL e ns no), by rw [ra.len]; exact hi⟩⟩
  have e' := g.keepL e ns no
  have hx : i < xs.length := by rw [ra.len]; exact hi
  refine ⟨⟨xs, xs[i], SqL.of e', by simp [hx]⟩, fun x H2 y => ?_⟩
  obtain ⟨rfl, y⟩ := y
  obtain ⟨d, h1, h2⟩ := (ra.fr g.fr).getV (y xs (SqL.of e'))
  exact ⟨Fr.refl, d, h1, h2⟩
theorem wkF_list {K : PySem.W.Frag} {Z : Vol} {H : Hp} {a : Addr} {xs : List V} {ds : List D} (e : H a = some (.lst xs)) (ns : ¬ Z.S a) (ra : RpA K H xs ds) : WkF K Z (Itl K a) ds H := (wk_list (os := []) e ns (by simp) ra).f
theorem wk_frz {K : PySem.W.Frag} {Z : Vol} {os : List Addr} {H : Hp} {a : Addr} {o : Obj} {xs : List V} {ds : List D} (e : H a = some (.frz o (.lst xs))) (ra : RpA K H xs ds) : Wk K Z (Itl K a) ds os H := by
  refine ⟨fun os' H' g i hi => ?_, fun os' H' g i hi => ⟨xs, .inl (.inr ⟨o, g.fr.frz e⟩), by rw [ra.len]; exact hi⟩⟩
  have e' : SqL K H' a xs := .inl (.inr ⟨o, g.fr.frz e⟩)
  have hx : i < xs.length := by rw [ra.len]; exact hi
  refine ⟨⟨xs, xs[i], e', by simp [hx]⟩, fun x H2 y => ?_⟩
  obtain ⟨rfl, y⟩ := y
  obtain ⟨d, h1, h2⟩ := (ra.fr g.fr).getV (y xs e')
  exact ⟨Fr.refl, d, h1, h2⟩
theorem wkF_ls {K : PySem.W.Frag} {Z : Vol} {H : Hp} {a : Addr} {xs : List V} {ds : List D} (e : LsF Z H a xs) (ra : RpA K H xs ds) : WkF K Z (Itl K a) ds H := by
  rcases e with ⟨e, ns⟩ | ⟨o, e⟩
  · exact wkF_list e ns ra
  · exact (wk_frz (os := []) e ra).f
theorem wk_tup {K : PySem.W.Frag} {Z : Vol} {os : List Addr} {H : Hp} {a : Addr} {xs : List V} {ds : List D} (e : SqT K H a xs) (ra : RpA K H xs ds) : Wk K Z (Itt K a) ds os H := by
  refine ⟨fun os' H' g i hi => ?_, fun os' H' g i hi => ⟨xs, g.keepT e, by rw [ra.len]; exact hi⟩⟩
  have e' := g.keepT e
  have hx : i < xs.length := by rw [ra.len]; exact hi
  refine ⟨⟨xs, xs[i], e', by simp [hx]⟩, fun x H2 y => ?_⟩
  obtain ⟨rfl, y⟩ := y
  obtain ⟨d, h1, h2⟩ := (ra.fr g.fr).getV (y xs e')
  exact ⟨Fr.refl, d, h1, h2⟩
theorem ei_tup (h : EV C b δ iter (fun b1 r => ∃ ds, r = .va (.tup ds) ∧ P b1 ds)) : EI C b δ tg iter P := by
  intro os σ H st R k
  refine WI.of (pi_tup peW) ?_
  refine h os σ H st _ fun v H1 b1 r f1 j1 rv hr => ?_
  obtain ⟨ds, rfl, q⟩ := hr
  cases rv with | va rv => ?_
  cases rv with | @tup a xs _ hh ra => ?_
  exact ⟨a, rfl, ⟨xs, hh.sq⟩, k _ H1 b1 ds f1 j1 (wk_tup hh.sq ra) q⟩
theorem ei_list (h : EV C b δ iter (fun b1 r => ∃ ds, (r = .ow ds ∨ r = .li ds ∨ r = .va (.lst ds)) ∧ P b1 ds)) : EI C b δ tg iter P := by
  intro os σ H st R k
  refine WI.of (pi_list peW) ?_
  refine h os σ H st _ fun v H1 b1 r f1 j1 rv hr => ?_
  obtain ⟨ds, hr, q⟩ := hr
  rcases hr with rfl | rfl | rfl
  · cases rv with
    | @ow p xs _ n e ns ra =>
      refine ⟨p, rfl, ⟨xs, SqL.of e⟩, k _ H1 b1 ds f1 j1 (wk_list e ns (fun z => ?_) ra) q⟩
      obtain ⟨_, y⟩ := (st.new p z).2.2
      rw [n] at y; cases y
  · cases rv with
    | @li p xs _ e ns no ra => exact ⟨p, rfl, ⟨xs, SqL.of e⟩, k _ H1 b1 ds f1 j1 (wk_list e ns no ra) q⟩
  · cases rv with
    | va rv =>
      cases rv with
      | @lst p o xs _ e ra => exact ⟨p, rfl, ⟨xs, .inl (.inr ⟨o, e⟩)⟩, k _ H1 b1 ds f1 j1 (wk_frz e ra) q⟩
theorem eic_list (h : EV C b δ iter (fun b1 r => ∃ ds, r.seq = some ds ∧ P b1 ds)) : EIc C b δ tg iter P := by
  intro os σ H st R k
  refine WI.of (pi_list peW) ?_
  refine h os σ H st _ fun v H1 b1 r f1 j1 rv hr => ?_
  obtain ⟨ds, hr, q⟩ := hr
  obtain ⟨p, xs, rfl, e, ra⟩ := rv.seq_ hr
  exact ⟨p, rfl, ⟨xs, e.sq⟩, k _ H1 b1 ds f1 j1 (wkF_ls e ra) q⟩
theorem ei_range (B : Blt C.X) (h : EV C b δ e (fun b1 r => ∃ n : Nat, r = .va (.int n) ∧ n ≤ 16000000 ∧ P b1 ((List.range n).map fun i => D.int (i : Nat)))) (hg : Gl C.X "range" := by rfl) (hs : starEach [e] C.X.env = [(false, eval e C.X.env)] := by rfl) :
    EI C b δ tg (.Call (.Name "range" p0) [e] [] pos) P := by
  intro os σ H st R k
  refine WI.of (pi_range1 hg B.range (pa_cons peW pa_nil hs) hs) ?_
  refine h os σ H st _ fun v H1 b1 r f1 j1 rv hr => ?_
  obtain ⟨n, rfl, hn, q⟩ := hr
  cases rv with | va rv => ?_
  cases rv
  refine ⟨(n : Int), rfl, by omega, by omega, k _ H1 b1 _ f1 j1 ⟨fun os' H' g i hi => ⟨show i < n by simpa using hi, fun x H2 y => ?_⟩, fun os' H' g i hi => show n ≤ i by simpa using hi⟩ q⟩
  obtain ⟨rfl, rfl⟩ := y
  have hi' : i < n := by simpa using hi
  refine ⟨Fr.refl, .int i, by simp [hi'], ?_⟩
  have e : (0 : Int) + (i : Nat) = (i : Nat) := by omega
  rw [e]
  exact .int _
end
end PD
set_option Elab.async false
set_option linter.all false
set_option maxRecDepth 100000
set_option maxHeartbeats 4000000
namespace PD
open PySem PySem.Spec PyProof.Rows L2

/-! ### a list comprehension -/
abbrev Cn.blk (C : Cn) (s : Shared) (H : Hp) (scope : Scope) (cenv : Env) (fp : List Addr) : Cn := ⟨C.X.blk s H scope cenv fp, C.Z, C.H0⟩
def ETs (C : Cn) (b : Nat) (δ : List Sl) (ifs : List Expr) (P : Nat → Bool → Prop) : Prop :=
  match ifs with
  | [] => P b true
  | [c] => ET C b δ c P
  | _ => False
def WTs (X : Cx) (ifs : List Expr) : TT := fun σ H Q => ∀ (pins : List (Addr × Obj)) (s : Shared), Inv X pins σ H s →
    wpAny (model X.prog X.w) X.A (forIn ifs true fun c r => if r = true then do let ok ← isTrue c X.env (eval c X.env); pure (ForInStep.yield ok) else pure (ForInStep.yield r)) (TP X pins σ Q) X.xe s
theorem WTs.of {X : Cx} {ifs : List Expr} {σ : L2.St} {H : Hp} {t : TT} {Q : Bool → Hp → Prop} (p : PTs X ifs t) (h : t σ H Q) : WTs X ifs σ H Q := fun pins s I => p.run pins s σ H Q I h
section
variable {C : Cn} {b : Nat} {δ : List Sl} {P : Nat → Res → Prop} {tg iter elt e : Expr} {ifs : List Expr} {pos p0 : Pos} {scope : Scope}
/-- the element's reading, in any block -/
def WEb (X : Cx) (scope : Scope) (elt : Expr) : TE := fun σ H Q => ∀ (s : Shared) (H' : Hp) (Cc : Addr) (cl : List (Str × Addr)) (fp : List Addr), WE (X.blk s H' scope (compEnvC scope cl Cc X.env) fp) elt σ H Q
def WTsb (X : Cx) (scope : Scope) (ifs : List Expr) : TT := fun σ H Q => ∀ (s : Shared) (H' : Hp) (Cc : Addr) (cl : List (Str × Addr)) (fp : List Addr), WTs (X.blk s H' scope (compEnvC scope cl Cc X.env) fp) ifs σ H Q
theorem peWb {X : Cx} (s : Shared) (H' : Hp) (Cc : Addr) (cl : List (Str × Addr)) (fp : List Addr) : PE (X.blk s H' scope (compEnvC scope cl Cc X.env) fp) elt (WEb X scope elt) := ⟨fun pins s1 σ H Q I h => h s H' Cc cl fp pins s1 I⟩
theorem ptsWb {X : Cx} (s : Shared) (H' : Hp) (Cc : Addr) (cl : List (Str × Addr)) (fp : List Addr) : PTs (X.blk s H' scope (compEnvC scope cl Cc X.env) fp) ifs (WTsb X scope ifs) := ⟨fun pins s1 σ H Q I h => h s H' Cc cl fp pins s1 I⟩
theorem wipe_wipe (σ : L2.St) : ∀ vs : List Nat, wipe (wipe σ vs) vs = wipe σ vs := by
  have key : ∀ (us : List Nat) (τ : L2.St), (∀ i ∈ us, ∀ v, τ[i]? ≠ some (some v)) → wipe τ us = τ := by
    intro us
    induction us with
    | nil => intro τ _; rfl
    | cons v us ih =>
      intro τ h
      unfold wipe
      rw [ih τ fun i hi => h i (List.mem_cons_of_mem _ hi)]
      refine List.ext_getElem? fun j => ?_
      by_cases e : v = j
      · subst e
        by_cases hl : v < τ.length
        · rw [List.getElem?_set_self hl]
          cases q : τ[v]? with
          | none => rw [List.getElem?_eq_none_iff] at q; omega
          | some w =>
            cases w with
            | none => rfl
            | some u => exact absurd q (h v List.mem_cons_self u)
        · rw [List.getElem?_eq_none (by simpa using hl), List.getElem?_eq_none (by simpa using hl)]
      · rw [List.getElem?_set_ne e]
  intro vs
  exact key vs _ fun i hi v e => (wipe_some e).2 hi
theorem ets_w {Pt : Nat → Bool → Prop} {os : List Addr} {σ : L2.St} {H : Hp} {Q : Bool → Hp → Prop} (h : ETs C b δ ifs Pt) (st : Sts C os b δ σ H) (k : ∀ k H' b', Fr C.Z.S H H' → C.Z.J b' H' → Pt b' k → Q k H') : WTs C.X ifs σ H Q := by
  match ifs, h with
  | [], h => exact WTs.of pts_nil (k true H b Fr.refl st.j h)
  | [c], h => exact WTs.of (pts_one ptW) (h os σ H st Q k)
/-- Iv: what is known of the items gone through and of the list so far -/
theorem ev_lc (p : Pat) (own : List (Str × Nat)) (hc : C.X.calm = true) (hN : C.X.N.Nodup) (ok : BlkOk C.X.N C.X.env.scope scope own)
    (hg : ∀ (s : Shared) (H : Hp) (Cc : Addr) (cl : List (Str × Addr)) (fp : List Addr), PG (C.X.blk s H scope (compEnvC scope cl Cc C.X.env) fp) tg (gPat C.X.K p))
    (hp : ∀ i ∈ p.slots, i ∈ own.map (·.2))
    (h : EIc C b δ tg iter (fun b1 ds => ds.length ≤ 16000000 ∧ ∃ Iv : Nat → List D → List D → Prop, Iv b1 [] [] ∧
      (∀ (pre : List D) (d : D) (post acc : List D) (b2 : Nat), ds = pre ++ d :: post → Iv b2 pre acc →
        ∃ δ', bindP p d (wipeD δ (own.map (·.2))) = some δ' ∧ ∀ (s : Shared) (H : Hp) (Cc : Addr) (cl : List (Str × Addr)) (fp : List Addr), ETs (C.blk s H scope (compEnvC scope cl Cc C.X.env) fp) b2 δ' ifs fun b3 k =>
          if k = true then ∀ (s : Shared) (H : Hp) (Cc : Addr) (cl : List (Str × Addr)) (fp : List Addr), EV (C.blk s H scope (compEnvC scope cl Cc C.X.env) fp) b3 δ' elt (fun b4 r => ∃ y, r = .va y ∧ Iv b4 (pre ++ [d]) (acc ++ [y])) else Iv b3 (pre ++ [d]) acc) ∧
      ∀ b2 acc, Iv b2 ds acc → P b2 (.ow acc)))
    (hs : ∀ x, foldedSetIterable iter C.X.env x = pure x := by intro _; rfl) : EV C b δ (.ListComp elt [⟨tg, iter, ifs, 0⟩] scope pos) P := by
  intro os σ H st Q q
  refine WE.of (pe_lc hc hN piW ok hg (fun s H Cc cl fp => ptsWb s H Cc cl fp) (fun s H Cc cl fp => peWb s H Cc cl fp) hs) ?_
  refine h os σ H st _ fun J H1 b1 ds f1 j1 W hh => ?_
  obtain ⟨hl, Iv, i0, step, last⟩ := hh
  intro D0 hD
  have nsD : ¬ C.Z.S D0 := snew j1 hD
  -- the state at turn i: i items gone through, the list so far
  refine ⟨fun i m H2 => m = ds.length - i ∧ i ≤ ds.length ∧ ∃ b2 acc xs, Fr C.Z.S H1 H2 ∧ C.Z.J b2 H2 ∧ Iv b2 (ds.take i) acc ∧ acc.length ≤ i ∧ H2 D0 = some (.lst xs) ∧ RpA C.K H2 xs acc, ⟨ds.length, ?_⟩, ?_⟩
  · exact ⟨by omega, Nat.zero_le _, b1, [], [], Fr.new hD, jnew j1 hD, by simpa using i0, Nat.le_refl _, upd_same, .nil⟩
  · rintro i m H2 ⟨rfl, hi, b2, acc, xs, f2, j2, iv, la, hD2, ra⟩
    by_cases hlt : i < ds.length
    · obtain ⟨go, item⟩ := W.go H2 f2 i hlt
      refine .inr ⟨go, fun H' => ∃ b2 acc xs, Fr C.Z.S H1 H' ∧ C.Z.J b2 H' ∧ Iv b2 (ds.take (i + 1)) acc ∧ acc.length ≤ i + 1 ∧ H' D0 = some (.lst xs) ∧ RpA C.K H' xs acc, fun H' z => ⟨ds.length - (i + 1), by omega, rfl, hlt, z⟩, fun x H3 y => ?_⟩
      obtain ⟨f3, d, hd, rx⟩ := item x H3 y
      have f3' : Fr C.Z.S H2 H3 := f3.wide fun _ z => z.elim
      have j3 : C.Z.J b2 H3 := C.Z.stay _ _ _ j2 (f3.wide fun _ z => z.elim)
      have eds : ds = ds.take i ++ d :: ds.drop (i + 1) := by
        obtain ⟨hh, e⟩ := List.getElem?_eq_some_iff.mp hd
        rw [← e, ← List.drop_eq_getElem_cons hh, List.take_append_drop]
      have etk : ds.take (i + 1) = ds.take i ++ [d] := by
        rw [List.take_succ, hd]
        rfl
      have st3 : Sts C os b2 (wipeD δ (own.map (·.2))) (wipe σ (own.map (·.2))) H3 := (st.on (f1.trans (f2.trans f3')) j3).wipe _
      obtain ⟨δ', hb, hstep⟩ := step (ds.take i) d (ds.drop (i + 1)) acc b2 eds iv
      obtain ⟨σ', st4, hw, hgo⟩ := bind_ok p rx st3 hb
      refine hgo _ ⟨by rw [hw _ hp, wipe_wipe], fun s0 H0 Cc cl fp => ?_⟩
      have ctx : ∀ s H Cc cl fp {b' δ' σ' H'}, Sts C os b' δ' σ' H' → Sts (C.blk s H scope (compEnvC scope cl Cc C.X.env) fp) os b' δ' σ' H' := fun s H Cc cl fp b' δ' σ' H' z => ⟨z.fr, z.j, z.new, z.sl⟩
      refine ets_w (hstep s0 H0 Cc cl fp) (ctx s0 H0 Cc cl fp st4) fun k H4 b3 f4 j4 hk => ?_
      have f4' : Fr C.Z.S H3 H4 := f4
      have D4 : H4 D0 = some (.lst xs) := f4'.keep nsD (f3'.keep nsD hD2)
      cases k with
      | false => exact ⟨b3, acc, xs, f2.trans (f3'.trans f4'), j4, by rw [etk]; exact hk, by omega, D4, (ra.fr f3').fr f4'⟩
      | true =>
        show WEb C.X scope elt σ' H4 _
        intro s5 H5 Cc5 cl5 fp5
        refine hk s5 H5 Cc5 cl5 fp5 os σ' H4 (ctx s5 H5 Cc5 cl5 fp5 (st4.on f4' j4)) _ fun v H6 b4 r f6 j6 rv hy => ?_
        obtain ⟨y, rfl, iv'⟩ := hy
        cases rv with | va rv => ?_
        have f6' : Fr C.Z.S H4 H6 := f6
        have D6 : H6 D0 = some (.lst xs) := f6'.keep nsD D4
        have fD : Fr (fun a => a = D0) H6 (upd H6 D0 (.lst (xs ++ [v]))) := Fr.put rfl D6
        have ra6 : RpA C.K H6 xs acc := ((ra.fr f3').fr f4').fr f6'
        have n1 : H1 D0 = none := hD
        refine ⟨xs, D6, by rw [ra6.len]; exact Nat.lt_of_lt_of_le (show acc.length < 16000001 by omega) (by decide), b4, acc ++ [y], xs ++ [v], ?_, ?_, by rw [etk]; exact iv', by simp; omega, upd_same, (ra6.append (.cons rv .nil)).fr fD⟩
        · intro a o ea
          have ne : a ≠ D0 := ne_of_none ea n1
          rcases (f2.trans (f3'.trans (f4'.trans f6'))) a o ea with z | z
          · exact .inl (by rw [upd_ne ne]; exact z)
          · obtain ⟨m, q, z1, z2⟩ := z
            exact .inr ⟨m, q, by rw [upd_ne ne]; exact z1, z2⟩
        · exact C.Z.stay _ _ _ j6 (Fr.putL nsD D6 .l)
    · have e : i = ds.length := by omega
      subst e
      rw [List.take_length] at iv
      exact .inl ⟨W.stop H2 f2 _ (Nat.le_refl _), q _ H2 b2 _ (f1.trans f2) j2 (.ow (f1.back hD) hD2 nsD ra) (last b2 acc iv)⟩
end
end PD
set_option Elab.async false
set_option linter.all false
set_option maxRecDepth 100000
set_option maxHeartbeats 4000000
namespace PD
open PySem PySem.Spec PyProof.Rows L2
section
variable {C : Cn} {b : Nat} {δ : List Sl} {F : Fin} {pos p0 p1 apos : Pos} {e e1 e2 c tg iter : Expr} {rest ss : List Stmt} {es : List Expr}

/-! ### for -/
theorem sv_for (p : Pat) (hc : C.X.calm = true) (hp : PassesOwn (model C.X.prog C.X.w) C.X.A C.X.env C.X.xe) (hg : PG C.X tg (gPat C.X.K p))
    (h : EI C b δ tg iter (fun b1 ds => ∃ Iv : List D → Nat → List Sl → Prop, Iv [] b1 δ ∧
      (∀ (pre : List D) (d : D) (post : List D) (b2 : Nat) (δ2 : List Sl), ds = pre ++ d :: post → Iv pre b2 δ2 →
        ∃ δ', bindP p d δ2 = some δ' ∧ SV C b2 δ' ss ⟨Iv (pre ++ [d]), fun b3 δ3 => SV C b3 δ3 rest F, Iv (pre ++ [d]), F.R⟩) ∧
      ∀ b2 δ2, Iv ds b2 δ2 → SV C b2 δ2 rest F))
    (hs : ∀ x, foldedSetIterable iter C.X.env x = pure x := by intro _; rfl) : SV C b δ (.For tg iter ss [] pos :: rest) F := by
  intro os σ H st D ed
  refine WSs.of (pss_cons (ps_for hp hc piW hg pssW hs) pssW) ?_
  refine h os σ H st _ fun J H1 b1 ds f1 j1 W hh => ?_
  obtain ⟨Iv, i0, step, last⟩ := hh
  have st1 := st.on f1 j1
  refine ⟨fun i m σ2 H2 => m = ds.length - i ∧ i ≤ ds.length ∧ ∃ b2 δ2 os2, Sts C os2 b2 δ2 σ2 H2 ∧ Gr C.Z os H1 os2 H2 ∧ Iv (ds.take i) b2 δ2, ⟨ds.length, ?_⟩, ?_⟩
  · exact ⟨by omega, Nat.zero_le _, b1, δ, os, st1, Gr.refl, by simpa using i0⟩
  · rintro i m σ2 H2 ⟨rfl, hi, b2, δ2, os2, st2, g2, iv⟩
    by_cases hlt : i < ds.length
    · obtain ⟨go, item⟩ := W.go os2 H2 g2 i hlt
      refine .inr ⟨go, fun σ' H' => ∃ b2 δ2 os2, Sts C os2 b2 δ2 σ' H' ∧ Gr C.Z os H1 os2 H' ∧ Iv (ds.take (i + 1)) b2 δ2, fun σ' H' z => ⟨ds.length - (i + 1), by omega, rfl, hlt, z⟩, fun x H3 y => ?_⟩
      obtain ⟨f3, d, hd, rx⟩ := item x H3 y
      have f3' : Fr C.Z.S H2 H3 := f3.wide fun _ z => z.elim
      have j3 : C.Z.J b2 H3 := C.Z.stay _ _ _ st2.j (f3.wide fun _ z => z.elim)
      have eds : ds = ds.take i ++ d :: ds.drop (i + 1) := by
        obtain ⟨hh, e⟩ := List.getElem?_eq_some_iff.mp hd
        rw [← e, ← List.drop_eq_getElem_cons hh, List.take_append_drop]
      have etk : ds.take (i + 1) = ds.take i ++ [d] := by
        rw [List.take_succ, hd]
        rfl
      obtain ⟨δ', hb, hstep⟩ := step (ds.take i) d (ds.drop (i + 1)) b2 δ2 eds iv
      obtain ⟨σ', st4, _, hgo⟩ := bind_ok p rx (st2.on f3' j3) hb
      refine hgo _ ?_
      have g3 : Gr C.Z os H1 os2 H3 := g2.trans (Gr.of f3')
      refine hstep os2 σ' H3 st4 _ ⟨fun b' δ5 os' σ5 H5 n s g => ⟨b', δ5, os', s, g3.trans g, by rw [etk]; exact n⟩, fun b' δ5 os' σ5 H5 n s g => ?_, fun b' δ5 os' σ5 H5 n s g => ⟨b', δ5, os', s, g3.trans g, by rw [etk]; exact n⟩, ed.rt⟩
      exact n os' σ5 H5 s D (ed.on ((Gr.of f1).trans (g3.trans g)))
    · have e : i = ds.length := by omega
      subst e
      rw [List.take_length] at iv
      exact .inl ⟨W.stop os2 H2 g2 _ (Nat.le_refl _), last b2 δ2 iv os2 σ2 H2 st2 D (ed.on ((Gr.of f1).trans g2))⟩
/-! ### while, by a word and a measure of the state -/
theorem sv_while (Iv : Nat → List Sl → Prop) (μ : List Sl → Nat) (hp : PassesOwn (model C.X.prog C.X.w) C.X.A C.X.env C.X.xe) (h0 : Iv b δ)
    (h : ∀ b2 δ2, Iv b2 δ2 → ET C b2 δ2 c (fun b3 k => if k = true then SV C b3 δ2 ss ⟨fun b4 δ4 => Iv b4 δ4 ∧ μ δ4 < μ δ2, fun b4 δ4 => SV C b4 δ4 rest F, fun b4 δ4 => Iv b4 δ4 ∧ μ δ4 < μ δ2, F.R⟩ else SV C b3 δ2 rest F)) :
    SV C b δ (.While c ss [] pos :: rest) F := by
  intro os σ H st D ed
  refine WSs.of (pss_cons (ps_while hp ptW pssW) pssW) ?_
  refine ⟨fun m σ2 H2 => ∃ b2 δ2 os2, m = μ δ2 ∧ Sts C os2 b2 δ2 σ2 H2 ∧ Gr C.Z os H os2 H2 ∧ Iv b2 δ2, ⟨_, b, δ, os, rfl, st, Gr.refl, h0⟩, ?_⟩
  rintro m σ2 H2 ⟨b2, δ2, os2, rfl, st2, g2, iv⟩
  refine h b2 δ2 iv os2 σ2 H2 st2 _ fun k H3 b3 f3 j3 hk => ?_
  have st3 := st2.on f3 j3
  have g3 : Gr C.Z os H os2 H3 := g2.trans (Gr.of f3)
  cases k with
  | true =>
    refine iteT ⟨fun σ' H' => ∃ m', m' < μ δ2 ∧ ∃ b2 δ2 os2, m' = μ δ2 ∧ Sts C os2 b2 δ2 σ' H' ∧ Gr C.Z os H os2 H' ∧ Iv b2 δ2, fun σ' H' z => z, ?_⟩
    have hk : SV C b3 δ2 ss _ := hk
    exact hk os2 σ2 H3 st3 _ ⟨fun b' δ5 os' σ5 H5 n s g => ⟨_, n.2, b', δ5, os', rfl, s, g3.trans g, n.1⟩, fun b' δ5 os' σ5 H5 n s g => n os' σ5 H5 s D (ed.on (g3.trans g)), fun b' δ5 os' σ5 H5 n s g => ⟨_, n.2, b', δ5, os', rfl, s, g3.trans g, n.1⟩, ed.rt⟩
  | false =>
    refine iteF ?_
    have hk : SV C b3 δ2 rest F := hk
    exact hk os2 σ2 H3 st3 D (ed.on g3)
/-- the truth of a list of one's own, at its name -/
theorem et_own (i : Nat) {x : Str} {ds : List D} {Pt : Nat → Bool → Prop} (h : δ[i]? = some (.ow ds)) (q : Pt b (!ds.isEmpty)) (hN : C.X.N[i]? = some x := by rfl)
    (hv : Vis C.X.env.scope x := by first | exact Or.inl rfl | exact Or.inr (Or.inl rfl) | exact Or.inr (Or.inr rfl)) (hd : (x == ("__debug__" : Str)) = false := by decide) (hcd : (x == ("__classdict__" : Str)) = false := by decide)
    (he : ∀ whole, isTrue (.Name x pos) C.X.env whole = (do let v ← whole; standAt (Expr.Name x pos).pos; holding [v] (truthy v)) := by intro _; rfl) : ET C b δ (.Name x pos) Pt := by
  intro os σ H st Q k
  obtain ⟨o, _, sub, sl⟩ := st.sl
  obtain ⟨w, o1, e, a, ho⟩ := sl.at h
  cases a with
  | @ow p xs _ e1 r =>
    have em : xs.isEmpty = ds.isEmpty := by
      have := r.len
      cases xs <;> cases ds <;> simp_all
    exact WT.of (pt_truth (pe_var hN hv hd hcd) he) ⟨_, e, !ds.isEmpty, .inl ⟨xs, SqL.of e1, by rw [em]⟩, k _ H b Fr.refl st.j q⟩

/-! ### lists of one's own changed by their methods -/
/-- what stands elsewhere is untouched where p is written -/
theorem Slot.write {K : PySem.W.Frag} {Z : Vol} {os : List Addr} {H : Hp} {s : Sl} {v : Option V} {o : List Addr} {p : Addr} {x y : HO} (h : Slot K Z os H s v o) (e : H p = some x) (l : Lk x y) (no : p ∉ o) (hp : p ∈ os) : Slot K Z os (upd H p y) s v o := by
  have f : Fr (fun a => a = p) H (upd H p y) := Fr.putL rfl e l
  cases h with
  | un => exact .un
  | va r => exact .va (r.fr f)
  | ow e1 r => exact .ow (by rw [upd_ne (fun z => no (by rw [← z]; simp))]; exact e1) (r.fr f)
  | li e1 ns n1 r => exact .li (by rw [upd_ne (fun z => n1 (by rw [z]; exact hp))]; exact e1) ns n1 (r.fr f)
  | od e1 => exact .od (e1.fr f (fun z => no (by rw [← z]; simp)))
  | dl e1 d => exact .dl (by rw [upd_ne (fun z => no (by rw [← z]; simp))]; exact e1) (d.fr f fun r hr z => no (by rw [← z]; simp [hr]))
  | dm e1 d => exact .dm (by rw [upd_ne (fun z => no (by rw [← z]; simp))]; exact e1) (d.fr f fun r hr z => no (by rw [← z]; simp [hr]))
/-- the own object at slot i is written; its slot changes -/
theorem Sls.putG {K : PySem.W.Frag} {Z : Vol} {os : List Addr} {H : Hp} {δ : List Sl} {σ : L2.St} {o : List Addr} {i : Nat} {s s' : Sl} {p : Addr} {x y : HO} {q : List Addr} (h : Sls K Z os H δ σ o) (nd : o.Nodup) (sub : ∀ q ∈ o, q ∈ os) (hi : δ[i]? = some s) (hσ : σ[i]? = some (some (.ref p)))
    (hp : H p = some x) (l : Lk x y) (own : ∀ o1, Slot K Z os H s (some (.ref p)) o1 → p ∈ o1) (hq : q = [p] ∨ q = []) (new : Slot K Z os (upd H p y) s' (some (.ref p)) q) :
    ∃ o', o'.Nodup ∧ (∀ a ∈ o', a ∈ o) ∧ Sls K Z os (upd H p y) (δ.set i s') σ o' := by
  induction h generalizing i with
  | nil => simp at hi
  | @cons s1 v1 o1 δ1 σ1 o2 a t ih =>
    have n1 := (List.nodup_append.mp nd).1
    have n2 := (List.nodup_append.mp nd).2.1
    have n3 := (List.nodup_append.mp nd).2.2
    cases i with
    | zero =>
      simp only [List.getElem?_cons_zero, Option.some.injEq] at hi hσ
      subst hi
      subst hσ
      have po := own _ a
      have pn : p ∉ o2 := fun z => n3 p po p z rfl
      refine ⟨q ++ o2, List.nodup_append.mpr ⟨?_, n2, fun x hx y hy e => ?_⟩, fun b hb => ?_, .cons new (t.write hp l pn (sub p (List.mem_append_left _ po)))⟩
      · rcases hq with rfl | rfl <;> simp
      · rcases hq with rfl | rfl
        · have := List.mem_singleton.mp hx
          subst e
          subst this
          exact pn hy
        · cases hx
      · rcases List.mem_append.mp hb with z | z
        · rcases hq with rfl | rfl
          · rw [List.mem_singleton.mp z]
            exact List.mem_append_left _ po
          · cases z
        · exact List.mem_append_right _ z
    | succ i =>
      have hi' : δ1[i]? = some s := by simpa using hi
      have hσ' : σ1[i]? = some (some (.ref p)) := by simpa using hσ
      obtain ⟨w, o3, z1, z2, z3⟩ := t.at hi'
      rw [hσ'] at z1
      cases z1
      have p2 : p ∈ o2 := z3 p (own _ z2)
      obtain ⟨o', h1, h2, h3⟩ := ih n2 (fun q hq => sub q (List.mem_append_right _ hq)) hi' hσ'
      refine ⟨o1 ++ o', List.nodup_append.mpr ⟨n1, h1, fun x hx y hy e => ?_⟩, fun b hb => ?_, .cons (a.write hp l (fun z => n3 p z p p2 rfl) (sub p (List.mem_append_right _ p2))) h3⟩
      · subst e
        exact n3 x hx x (h2 x hy) rfl
      · rcases List.mem_append.mp hb with z | z
        · exact List.mem_append_left _ z
        · exact List.mem_append_right _ (h2 b z)
/-- the own object at slot i is written -/
theorem Sts.putG {os : List Addr} {σ : L2.St} {H : Hp} {i : Nat} {s s' : Sl} {p : Addr} {x y : HO} {q : List Addr} (st : Sts C os b δ σ H) (hi : δ[i]? = some s) (hσ : σ[i]? = some (some (.ref p)))
    (hp : H p = some x) (l : Lk x y) (hpo : p ∈ os) (own : ∀ o1, Slot C.K C.Z os H s (some (.ref p)) o1 → p ∈ o1) (hq : q = [p] ∨ q = []) (new : Slot C.K C.Z os (upd H p y) s' (some (.ref p)) q) :
    Sts C os b (δ.set i s') σ (upd H p y) ∧ Gr C.Z os H os (upd H p y) := by
  obtain ⟨o, nd, sub, sl⟩ := st.sl
  obtain ⟨o', h1, h2, h3⟩ := sl.putG nd sub hi hσ hp l own hq new
  refine ⟨⟨?_, ?_, ?_, o', h1, fun a ha => sub a (h2 a ha), h3⟩, ⟨Fr.putL (.inr hpo) hp l, fun q hq => .inl hq⟩⟩
  · intro a o0 ea
    have ne : a ≠ p := ne_of_none ea (st.new p hpo).1
    rcases st.fr a o0 ea with z | ⟨m, q, z1, z2⟩
    · exact .inl (by rw [upd_ne ne]; exact z)
    · exact .inr ⟨m, q, by rw [upd_ne ne]; exact z1, z2⟩
  · exact C.Z.stay _ _ _ st.j (Fr.putL (st.new p hpo).2.1 hp l)
  · intro q hq
    refine ⟨(st.new q hq).1, (st.new q hq).2.1, ?_⟩
    by_cases z : q = p
    · rw [z]
      exact ⟨_, upd_same⟩
    · obtain ⟨zs, y⟩ := (st.new q hq).2.2
      exact ⟨zs, by rw [upd_ne z]; exact y⟩
theorem Sts.own {os : List Addr} {σ : L2.St} {H : Hp} {i : Nat} {ds : List D} (st : Sts C os b δ σ H) (hi : δ[i]? = some (.ow ds)) :
    ∃ p xs, σ[i]? = some (some (.ref p)) ∧ p ∈ os ∧ H p = some (.lst xs) ∧ RpA C.K H xs ds ∧
      ∀ ds' ys, RpA C.K H ys ds' → Sts C os b (δ.set i (.ow ds')) σ (upd H p (.lst ys)) ∧ Gr C.Z os H os (upd H p (.lst ys)) := by
  obtain ⟨o, nd, sub, sl⟩ := st.sl
  obtain ⟨w, o1, e, a, ho⟩ := sl.at hi
  cases a with
  | @ow p xs _ e1 r =>
    have hp := sub p (ho p (by simp))
    refine ⟨p, xs, e, hp, e1, r, fun ds' ys ra => st.putG hi e e1 .l hp (fun o1 z => ?_) (.inl rfl) (.ow upd_same (ra.fr (Fr.putL (M := fun a => a = p) rfl e1 .l)))⟩
    cases z
    simp
/-- the own dict at slot i -/
theorem Sts.ownD {os : List Addr} {σ : L2.St} {H : Hp} {i : Nat} {c : Dc} (st : Sts C os b δ σ H) (hi : δ[i]? = some (.od c)) :
    ∃ p, σ[i]? = some (some (.ref p)) ∧ p ∈ os ∧ ¬ C.Z.S p ∧ DcO C.K H p c ∧
      ∀ x y c', H p = some x → Lk x y → DcO C.K (upd H p y) p c' → Sts C os b (δ.set i (.od c')) σ (upd H p y) ∧ Gr C.Z os H os (upd H p y) := by
  obtain ⟨o, nd, sub, sl⟩ := st.sl
  obtain ⟨w, o1, e, a, ho⟩ := sl.at hi
  cases a with
  | @od p _ e1 =>
    have hp := sub p (ho p (by simp))
    refine ⟨p, e, hp, (st.new p hp).2.1, e1, fun x y c' hx l dn => st.putG hi e hx l hp (fun o1 z => ?_) (.inl rfl) (.od dn)⟩
    cases z
    simp
/-- x.append(e) -/
theorem sv_append (i : Nat) {x : Str} (hline : (apos.endLine == p1.line) = true) (h : EV C b δ e (fun b1 r => ∃ d ds, r = .va d ∧ δ[i]? = some (.ow ds) ∧ ds.length < 16000000 ∧ SV C b1 (δ.set i (.ow (ds ++ [d]))) rest F))
    (hN : C.X.N[i]? = some x := by rfl) (hv : Vis C.X.env.scope x := by first | exact Or.inl rfl | exact Or.inr (Or.inl rfl) | exact Or.inr (Or.inr rfl)) (hd : (x == ("__debug__" : Str)) = false := by decide) (hcd : (x == ("__classdict__" : Str)) = false := by decide)
    (hi : ∃ ds, δ[i]? = some (.ow ds) := by exact ⟨_, rfl⟩)
    (hbase : attributeBase (.Name x p0) "append" C.X.env (eval (.Name x p0) C.X.env) = eval (.Name x p0) C.X.env := by rfl)
    (hfew : ((backTo p1 (starEach [e] C.X.env)).all (fun x => !x.1) && (backToKw p1 (keywordEach [] C.X.env)).all (fun x => x.1.isSome) && decide ([e].length + ([] : List Keyword).length + (if ([] : List Keyword).isEmpty then 0 else 1) < 30)) = true := by rfl)
    (hs : starEach [e] C.X.env = (false, eval e C.X.env) :: starEach [] C.X.env := by rfl) (hplain : (backTo p1 (starEach [] C.X.env)).any (·.1) = false := by rfl)
    (hsw : swapsWith (.Call (.Attribute (.Name x p0) "append" apos) [e] [] p1) none pos.line C.X.env = pure false := by rfl) :
    SV C b δ (.Expr (.Call (.Attribute (.Name x p0) "append" apos) [e] [] p1) pos :: rest) F := by
  intro os σ H st D ed
  refine WSs.of (pss_cons (ps_expr (pe_bm PySem.F.plainAttrs_list PySem.F.slot_list_append PySem.F.type_list_append mt_append (pe_var hN hv hd hcd) (pa_cons peW pa_nil hs) hbase hfew hline hs hplain) hsw) pssW) ?_
  obtain ⟨ds0, hi0⟩ := hi
  obtain ⟨p, xs, e1, hp, ep, ra, go⟩ := st.own hi0
  refine ⟨_, e1, .inl ⟨rfl, xs, SqL.of ep⟩, ?_⟩
  refine h os σ H st _ fun v H1 b1 r f1 j1 rv hr => ?_
  obtain ⟨d, ds, rfl, hi1, hl, q⟩ := hr
  cases rv with | va rv => ?_
  have st1 := st.on f1 j1
  obtain ⟨p', xs', e1', hp', ep', ra', go'⟩ := st1.own hi1
  rw [e1] at e1'
  cases e1'
  obtain ⟨s2, g2⟩ := go' (ds ++ [d]) (xs' ++ [v]) (ra'.append (.cons rv .nil))
  refine ⟨p, xs', v, rfl, rfl, ep', by rw [ra'.len]; exact Nat.lt_of_lt_of_le hl (by decide), ?_⟩
  exact q os σ _ s2 D (ed.on ((Gr.of f1).trans g2))
/-- x.extend(a list) -/
theorem sv_extend (i : Nat) {x : Str} (hline : (apos.endLine == p1.line) = true) (h : EV C b δ e (fun b1 r => ∃ es ds, r = .ow es ∧ δ[i]? = some (.ow ds) ∧ ds.length + es.length ≤ 16000000 ∧ SV C b1 (δ.set i (.ow (ds ++ es))) rest F))
    (hN : C.X.N[i]? = some x := by rfl) (hv : Vis C.X.env.scope x := by first | exact Or.inl rfl | exact Or.inr (Or.inl rfl) | exact Or.inr (Or.inr rfl)) (hd : (x == ("__debug__" : Str)) = false := by decide) (hcd : (x == ("__classdict__" : Str)) = false := by decide)
    (hi : ∃ ds, δ[i]? = some (.ow ds) := by exact ⟨_, rfl⟩)
    (hbase : attributeBase (.Name x p0) "extend" C.X.env (eval (.Name x p0) C.X.env) = eval (.Name x p0) C.X.env := by rfl)
    (hfew : ((backTo p1 (starEach [e] C.X.env)).all (fun x => !x.1) && (backToKw p1 (keywordEach [] C.X.env)).all (fun x => x.1.isSome) && decide ([e].length + ([] : List Keyword).length + (if ([] : List Keyword).isEmpty then 0 else 1) < 30)) = true := by rfl)
    (hs : starEach [e] C.X.env = (false, eval e C.X.env) :: starEach [] C.X.env := by rfl) (hplain : (backTo p1 (starEach [] C.X.env)).any (·.1) = false := by rfl)
    (hsw : swapsWith (.Call (.Attribute (.Name x p0) "extend" apos) [e] [] p1) none pos.line C.X.env = pure false := by rfl) :
    SV C b δ (.Expr (.Call (.Attribute (.Name x p0) "extend" apos) [e] [] p1) pos :: rest) F := by
  intro os σ H st D ed
  refine WSs.of (pss_cons (ps_expr (pe_bm PySem.F.plainAttrs_list PySem.F.slot_list_extend PySem.F.type_list_extend mt_extend (pe_var hN hv hd hcd) (pa_cons peW pa_nil hs) hbase hfew hline hs hplain) hsw) pssW) ?_
  obtain ⟨ds0, hi0⟩ := hi
  obtain ⟨p, xs, e1, hp, ep, ra, go⟩ := st.own hi0
  refine ⟨_, e1, .inl ⟨rfl, xs, SqL.of ep⟩, ?_⟩
  refine h os σ H st _ fun v H1 b1 r f1 j1 rv hr => ?_
  obtain ⟨es, ds, rfl, hi1, hl, q⟩ := hr
  cases rv with | @ow l zs _ n el ns rl => ?_
  have st1 := st.on f1 j1
  obtain ⟨p', xs', e1', hp', ep', ra', go'⟩ := st1.own hi1
  rw [e1] at e1'
  cases e1'
  obtain ⟨s2, g2⟩ := go' (ds ++ es) (xs' ++ zs) (ra'.append rl)
  refine ⟨p, l, xs', zs, rfl, rfl, ep', el, by rw [ra'.len, rl.len]; exact sz1 hl, ?_⟩
  exact q os σ _ s2 D (ed.on ((Gr.of f1).trans g2))
end
end PD
set_option Elab.async false
set_option linter.all false
set_option maxRecDepth 100000
set_option maxHeartbeats 4000000
namespace PD
open PySem PySem.Spec PyProof.Rows L2
section
variable {C : Cn} {b : Nat} {δ : List Sl} {F : Fin} {pos p0 p1 apos : Pos} {e e1 e2 c tg iter : Expr} {rest ss : List Stmt} {es : List Expr}
/-- a, b = e -/
theorem sv_unpack (p : Pat) (hg : PG C.X tg (gPat C.X.K p)) (h : EV C b δ e (fun b1 r => ∃ d δ', r = .va d ∧ bindP p d δ = some δ' ∧ SV C b1 δ' rest F)) (hs : swapsWithSole [tg] e pos.line C.X.env = pure false := by rfl) (hw : swappedStores [tg] e C.X.env = pure none := by rfl)
    (h1 : (assignEach [tg] C.X.env).map (·.2) = [assign tg C.X.env] := by rfl) : SV C b δ (.Assign [tg] e pos :: rest) F := by
  intro os σ H st D ed
  refine WSs.of (pss_cons (ps_asg peW hg hs hw h1) pssW) ?_
  refine h os σ H st _ fun v H1 b1 r f1 j1 rv hr => ?_
  obtain ⟨d, δ', rfl, hb, q⟩ := hr
  cases rv with | va rv => ?_
  obtain ⟨σ', s2, _, go⟩ := bind_ok p rv (st.on f1 j1) hb
  exact go _ (q os σ' H1 s2 D (ed.on (Gr.of f1)))
/-- a, b = x.pop() -/
theorem sv_popU (p : Pat) (i : Nat) {x : Str} {ds : List D} {d : D} {δ' : List Sl} (hg : PG C.X tg (gPat C.X.K p)) (hi : δ[i]? = some (.ow (ds ++ [d]))) (hb : bindP p d (δ.set i (.ow ds)) = some δ') (q : SV C b δ' rest F) (hline : (apos.endLine == p1.line) = true)
    (hN : C.X.N[i]? = some x := by rfl) (hv : Vis C.X.env.scope x := by first | exact Or.inl rfl | exact Or.inr (Or.inl rfl) | exact Or.inr (Or.inr rfl)) (hd : (x == ("__debug__" : Str)) = false := by decide) (hcd : (x == ("__classdict__" : Str)) = false := by decide)
    (hbase : attributeBase (.Name x p0) "pop" C.X.env (eval (.Name x p0) C.X.env) = eval (.Name x p0) C.X.env := by rfl)
    (hs : swapsWithSole [tg] (.Call (.Attribute (.Name x p0) "pop" apos) [] [] p1) pos.line C.X.env = pure false := by rfl) (hw : swappedStores [tg] (.Call (.Attribute (.Name x p0) "pop" apos) [] [] p1) C.X.env = pure none := by rfl)
    (h1 : (assignEach [tg] C.X.env).map (·.2) = [assign tg C.X.env] := by rfl) : SV C b δ (.Assign [tg] (.Call (.Attribute (.Name x p0) "pop" apos) [] [] p1) pos :: rest) F := by
  intro os σ H st D ed
  refine WSs.of (pss_cons (ps_asg (pe_bm0 PySem.F.plainAttrs_list PySem.F.slot_list_pop PySem.F.type_list_pop mt_pop (pe_var hN hv hd hcd) hbase hline) hg hs hw h1) pssW) ?_
  obtain ⟨p2, xs, e1, hp, ep, ra, go⟩ := st.own hi
  refine ⟨_, e1, .inl ⟨rfl, xs, SqL.of ep⟩, ?_⟩
  have hl : xs.length = ds.length + 1 := by rw [ra.len]; simp
  obtain ⟨v, hv2, rv⟩ := ra.get (i := ds.length) (d := d) (by simp)
  have hr : RpA C.K H xs.dropLast ds := by
    have := ra.take ds.length
    rw [List.take_left'  rfl] at this
    rw [List.dropLast_eq_take, hl]
    exact this
  obtain ⟨s2, g2⟩ := go ds xs.dropLast hr
  refine ⟨p2, xs, v, rfl, rfl, ep, by rw [hl]; exact hv2, ?_⟩
  obtain ⟨σ', s3, _, go3⟩ := bind_ok p (rv.fr (M := fun a => a = p2) (Fr.put rfl ep)) s2 hb
  exact go3 _ (q os σ' _ s3 D (ed.on g2))
/-- x += e of ints -/
theorem sv_augI (i : Nat) {x : Str} {n : Int} (hi : δ[i]? = some (.va (.int n))) (h : EV C b δ e (fun b1 r => ∃ m, r = .va (.int m) ∧ SV C b1 (δ.set i (.va (.int (n + m)))) rest F)) (hN : C.X.N.Nodup) (hix : C.X.N[i]? = some x := by rfl) (hx : Loc C.X.env.scope x := by first | exact Or.inl rfl | exact Or.inr rfl)
    (hf : C.X.fn x = true ∨ C.X.env.scope.names.lookup x = some .local := by first | exact .inl rfl | exact .inr rfl) : SV C b δ (.AugAssign (.Name x p0) .Add e pos :: rest) F := by
  intro os σ H st D ed
  refine WSs.of (pss_cons (ps_aug hN hix hx peW ip_add hf) pssW) ?_
  obtain ⟨o, _, sub, sl⟩ := st.sl
  obtain ⟨w, o1, e1, a, _⟩ := sl.at hi
  cases a with
  | va r =>
    cases r
    refine ⟨_, e1, ?_⟩
    refine h os σ H st _ fun v H1 b1 r f1 j1 rv hr => ?_
    obtain ⟨m, rfl, q⟩ := hr
    cases rv with | va rv => ?_
    cases rv
    refine ⟨n, m, rfl, rfl, ?_⟩
    exact q os _ H1 ((st.on f1 j1).va1 i (.int (n + m))) D (ed.on (Gr.of f1))
end
/-- a text, sign by sign -/
theorem ei_str {C : Cn} {b : Nat} {δ : List Sl} {P : Nat → List D → Prop} {tg iter : Expr} (h : EV C b δ iter (fun b1 r => ∃ x : Str, r = .va (.str x) ∧ P b1 (x.cps.toList.map fun c => D.str ⟨#[c]⟩))) : EI C b δ tg iter P := by
  intro os σ H st R k
  refine WI.of (pi_str peW) ?_
  refine h os σ H st _ fun v H1 b1 r f1 j1 rv hr => ?_
  obtain ⟨x, rfl, q⟩ := hr
  cases rv with | va rv => ?_
  cases rv
  refine ⟨x, rfl, k _ H1 b1 _ f1 j1 ⟨fun os' H' g i hi => ?_, fun os' H' g i hi => ?_⟩ q⟩
  · have hi' : i < x.cps.size := by simpa using hi
    refine ⟨hi', fun y H2 z => ?_⟩
    obtain ⟨rfl, c, hc, rfl⟩ := z
    refine ⟨Fr.refl, _, ?_, .str _⟩
    rw [List.getElem?_map, Array.getElem?_toList, hc]
    rfl
  · show x.cps.size ≤ i
    simpa using hi
end PD
set_option Elab.async false
set_option linter.all false
set_option maxRecDepth 100000
set_option maxHeartbeats 4000000
namespace PD
open PySem PySem.Spec PyProof.Rows L2

/-- a def that is a function of data: g tells what it gives, where it is asked -/
def spP (Z : Vol) (K : PySem.W.Frag) (n : Nat) (g : List D → Option Res) : Sp :=
  spD Z K n (fun _ as => ∃ ds r, as = ds.map Ar.va ∧ g ds = some r) (fun b as b' r => b' = b ∧ ∃ ds, as = ds.map Ar.va ∧ g ds = some r)
theorem vas_ar : ∀ {rs : List Res} {ds : List D}, vas rs = some ds → rs.map Res.ar = ds.map Ar.va ∧ rs.length = ds.length
  | [], ds, h => by cases h; exact ⟨rfl, rfl⟩
  | r :: rs, ds, h => by
    cases r with
    | va d =>
      simp only [vas] at h
      cases e : vas rs with
      | none => rw [e] at h; cases h
      | some l =>
        rw [e] at h
        cases h
        obtain ⟨h1, h2⟩ := vas_ar e
        exact ⟨by simp [Res.ar, h1], by simp [h2]⟩
    | _ => cases h
theorem map_va_inj : ∀ {ds es : List D}, ds.map Ar.va = es.map Ar.va → ds = es
  | [], [], _ => rfl
  | [], _ :: _, h => by cases h
  | _ :: _, [], h => by cases h
  | d :: ds, e :: es, h => by
    simp only [List.map_cons, List.cons.injEq, Ar.va.injEq] at h
    rw [h.1, map_va_inj h.2]
section
variable {C : Cn} {b : Nat} {δ : List Sl} {P : Nat → Res → Prop} {pos p0 : Pos} {e : Expr} {es : List Expr}
theorem ev_callP {x : Str} {k n : Nat} {ps : List Str} {g : List D → Option Res} (F : Df C.X.prog C.X.w C.X.K C.X.mg C.X.base x k ps (spP C.Z C.K n g)) (hr : Room k C.X.A)
    (h : EVA C b δ (e :: es) (fun b1 rs => ∃ ds r, vas rs = some ds ∧ ds.length = n ∧ g ds = some r ∧ P b1 r)) (hg : Gl C.X x := by rfl)
    (hdb : (x == ("__debug__" : Str)) = false := by decide) (he : starEach (e :: es) C.X.env = (false, eval e C.X.env) :: starEach es C.X.env := by rfl) (hpl : (backTo pos (starEach es C.X.env)).any (·.1) = false := by rfl) :
    EV C b δ (.Call (.Name x p0) (e :: es) [] pos) P := by
  refine ev_call F hr (fun os σ H st Q k => h os σ H st Q fun vs H' b' rs f j rv hh => k vs H' b' rs f j rv ?_) hg hdb he hpl
  obtain ⟨ds, r, h1, h2, h3, h4⟩ := hh
  obtain ⟨a1, a2⟩ := vas_ar h1
  refine ⟨by rw [a2, h2], ⟨ds, r, a1, h3⟩, fun b2 r2 _ ⟨hb, ds', e1, e2⟩ => ?_⟩
  rw [a1] at e1
  rw [← map_va_inj e1, h3] at e2
  cases e2
  rw [hb]
  exact h4
end
section
variable {P : Program} {w : World} {K : PySem.W.Frag} {mg : Str → Option Value} {base : Heap} {Z : Vol}
theorem fn_pure {x qual : Str} {st : Stmt} {f : Addr} {fd : FuncData} {N ps : List Str} {k n : Nat} {g : List D → Option Res} (F : Fun K x qual st f fd) (S : FnScope N ps (defScope st)) (hn : ps.length = n) (ho : ∀ ds r, g ds = some r → r.out = true)
    (body : ∀ (cdv : Value) (A : Around) (outer : List Env) (s : Shared) (H : Hp) (E : XK) (b : Nat) (ds : List D) (r : Res), Room k (A.deeper (envOfC qual (defScope st) s.heap.objs.size f cdv)) → ds.length = n → g ds = some r →
      SV ⟨(cxOf CX0 P w K mg base N qual (defScope st) f cdv A outer s H E).nox, Z, H⟩ b (ds.map Sl.va ++ List.replicate (N.length - n) .un) (defBody st) (retF fun b' r' => b' = b ∧ r' = r)) :
    FnOk P w K mg base CX0 (k + 1) f fd ps (spP Z K n g) := by
  refine fn_body F S hn fun cdv A outer s H E b as hr hl hp => ?_
  obtain ⟨ds, r, rfl, hg⟩ := hp
  have e : (ds.map Ar.va).map Ar.sl = ds.map Sl.va := by rw [List.map_map]; rfl
  rw [e]
  refine (body cdv A outer s H E b ds r hr (by simpa using hl) hg).imp (fun b' _ h => ?_) (fun _ _ h => h.elim) (fun _ _ h => h.elim) (fun b' r' h => ?_)
  · exact ⟨h.1, ds, rfl, by rw [hg, h.2]⟩
  · exact ⟨h.1, h.2.1, ds, rfl, by rw [hg, h.2.2]⟩
end
end PD
namespace PD
open PySem PySem.Spec PyProof.Rows L2
section
variable {C : Cn} {b : Nat} {δ : List Sl} {P : Nat → Res → Prop} {tg iter elt e c : Expr} {pos p0 : Pos} {scope : Scope}
/-- [elt for tg in iter], elt a function of the item -/
theorem ev_map (p : Pat) (own : List (Str × Nat)) (g : D → D) (hc : C.X.calm = true) (hN : C.X.N.Nodup) (ok : BlkOk C.X.N C.X.env.scope scope own)
    (hg : ∀ (s : Shared) (H : Hp) (Cc : Addr) (cl : List (Str × Addr)) (fp : List Addr), PG (C.X.blk s H scope (compEnvC scope cl Cc C.X.env) fp) tg (gPat C.X.K p))
    (hp : ∀ i ∈ p.slots, i ∈ own.map (·.2))
    (h : EIc C b δ tg iter (fun b1 ds => ds.length ≤ 16000000 ∧ (∀ d ∈ ds, ∃ δ', bindP p d (wipeD δ (own.map (·.2))) = some δ' ∧
      ∀ (s : Shared) (H : Hp) (Cc : Addr) (cl : List (Str × Addr)) (fp : List Addr), EV (C.blk s H scope (compEnvC scope cl Cc C.X.env) fp) b1 δ' elt (fun b4 r => b4 = b1 ∧ r = .va (g d))) ∧ P b1 (.ow (ds.map g))))
    (hs : ∀ x, foldedSetIterable iter C.X.env x = pure x := by intro _; rfl) : EV C b δ (.ListComp elt [⟨tg, iter, [], 0⟩] scope pos) P := by
  refine ev_lc p own hc hN ok hg hp (fun os σ H st R k => h os σ H st R fun J H1 b1 ds f j w hh => k J H1 b1 ds f j w ?_) hs
  obtain ⟨hl, step, last⟩ := hh
  refine ⟨hl, fun b' pre acc => b' = b1 ∧ acc = pre.map g, ⟨rfl, rfl⟩, fun pre d post acc b2 e iv => ?_, fun b2 acc iv => ?_⟩
  · obtain ⟨rfl, rfl⟩ := iv
    obtain ⟨δ', hb, hstep⟩ := step d (by rw [e]; simp)
    refine ⟨δ', hb, fun s H Cc cl fp => ?_⟩
    unfold ETs
    refine iteT fun s H Cc cl fp => ?_
    refine (hstep s H Cc cl fp).imp fun b4 r hr => ?_
    exact ⟨g d, hr.2, hr.1, by simp⟩
  · obtain ⟨rfl, rfl⟩ := iv
    exact last
/-- [elt for tg in iter if c] -/
theorem ev_filt (p : Pat) (own : List (Str × Nat)) (t : D → Bool) (g : D → D) (hc : C.X.calm = true) (hN : C.X.N.Nodup) (ok : BlkOk C.X.N C.X.env.scope scope own)
    (hg : ∀ (s : Shared) (H : Hp) (Cc : Addr) (cl : List (Str × Addr)) (fp : List Addr), PG (C.X.blk s H scope (compEnvC scope cl Cc C.X.env) fp) tg (gPat C.X.K p))
    (hp : ∀ i ∈ p.slots, i ∈ own.map (·.2))
    (h : EIc C b δ tg iter (fun b1 ds => ds.length ≤ 16000000 ∧ (∀ d ∈ ds, ∃ δ', bindP p d (wipeD δ (own.map (·.2))) = some δ' ∧
      (∀ (s : Shared) (H : Hp) (Cc : Addr) (cl : List (Str × Addr)) (fp : List Addr), ET (C.blk s H scope (compEnvC scope cl Cc C.X.env) fp) b1 δ' c (fun b3 k => b3 = b1 ∧ k = t d)) ∧
      (t d = true → ∀ (s : Shared) (H : Hp) (Cc : Addr) (cl : List (Str × Addr)) (fp : List Addr), EV (C.blk s H scope (compEnvC scope cl Cc C.X.env) fp) b1 δ' elt (fun b4 r => b4 = b1 ∧ r = .va (g d)))) ∧ P b1 (.ow ((ds.filter t).map g))))
    (hs : ∀ x, foldedSetIterable iter C.X.env x = pure x := by intro _; rfl) : EV C b δ (.ListComp elt [⟨tg, iter, [c], 0⟩] scope pos) P := by
  refine ev_lc p own hc hN ok hg hp (fun os σ H st R k => h os σ H st R fun J H1 b1 ds f j w hh => k J H1 b1 ds f j w ?_) hs
  obtain ⟨hl, step, last⟩ := hh
  refine ⟨hl, fun b' pre acc => b' = b1 ∧ acc = (pre.filter t).map g, ⟨rfl, rfl⟩, fun pre d post acc b2 e iv => ?_, fun b2 acc iv => ?_⟩
  · obtain ⟨rfl, rfl⟩ := iv
    obtain ⟨δ', hb, htest, hstep⟩ := step d (by rw [e]; simp)
    refine ⟨δ', hb, fun s H Cc cl fp => ?_⟩
    intro os σ H2 st2 Q k2
    refine htest s H Cc cl fp os σ H2 st2 Q fun kk H' b' f' j' hk => k2 kk H' b' f' j' ?_
    obtain ⟨rfl, rfl⟩ := hk
    cases ht : t d with
    | true =>
      refine iteT fun s H Cc cl fp => (hstep ht s H Cc cl fp).imp fun b4 r hr => ?_
      exact ⟨g d, hr.2, hr.1, by simp [List.filter_append, List.filter_cons, ht]⟩
    | false => exact iteF ⟨rfl, by simp [List.filter_append, List.filter_cons, ht]⟩
  · obtain ⟨rfl, rfl⟩ := iv
    exact last
end
end PD
set_option Elab.async false
set_option linter.all false
set_option maxRecDepth 100000
set_option maxHeartbeats 4000000
/-! What the program's parts are, as functions of data. -/
namespace G
open PySem PD
mutual
/-- no text, no tuple beyond this size, all the way down -/
def sm : D → Bool
  | .str x => decide (x.length ≤ 100000)
  | .tup ds => decide (ds.length ≤ 50000) && sms ds
  | .obj .unit _ => false
  | _ => true
def sms : List D → Bool
  | [] => true
  | d :: ds => sm d && sms ds
end
theorem sm_mem : ∀ {ds : List D} {d : D}, sms ds = true → d ∈ ds → sm d = true
  | [], _, _, h => nomatch h
  | x :: xs, d, h, hm => by
    have h' : sm x = true ∧ sms xs = true := by simpa [sms] using h
    rcases List.mem_cons.mp hm with rfl | hm
    · exact h'.1
    · exact sm_mem h'.2 hm
theorem sm_tup {ds : List D} (h : sm (.tup ds) = true) : ds.length ≤ 50000 ∧ sms ds = true := by simpa [sm] using h
theorem sm_str {x : Str} (h : sm (.str x) = true) : x.length ≤ 16000000 := Nat.le_trans (show x.length ≤ 100000 by simpa [sm] using h) (by decide)
/-- of signs, least to most of them -/
def mdo (signs : Str) (lo hi : Int) : D → Bool
  | .str x => decide (lo ≤ (x.length : Int)) && decide ((x.length : Int) ≤ hi) && x.cps.toList.all fun c => decide (c ∈ signs.cps.toList)
  | _ => false
def letters : Str := "abcdefghijklmnopqrstuvwxyz"
def addrS : Str := "abcdefghijklmnopqrstuvwxyz0123456789./:-"
def plainS : Str := "abcdefghijklmnopqrstuvwxyz0123456789 ./-"
def isText (w : Str) : D → Bool
  | .str x => decide (x = w)
  | _ => false
def isPrefix (d : D) : Bool := mdo letters 0 8 d && !isText "xmlns" d
def isLocal (d : D) : Bool := mdo letters 1 8 d && !isText "xmlns" d
def isAddr (d : D) : Bool := mdo addrS 1 20 d
def isWord (d : D) : Bool := mdo letters 1 8 d
def isPlain (d : D) : Bool := mdo plainS 0 20 d
def isPair : D → Bool
  | .tup ds => decide ((ds.length : Int) = 2)
  | _ => false
def isName : D → Bool
  | .tup [a, b] => isPrefix a && isLocal b
  | _ => false
def begins (w : Str) : D → Bool
  | .tup (.str x :: _) => decide (x = w)
  | _ => false
def isHole : D → Bool
  | .tup [.str x, h] => decide (x = "hole") && isWord h
  | _ => false
def isEmptyS : D → Bool
  | .str x => decide ((x.length : Int) = 0)
  | _ => false
def isDecl : D → Bool
  | .tup [a, b] => isPrefix a && (isAddr b || isEmptyS b)
  | _ => false
def isAttr : D → Bool
  | .tup [n, v] => isName n && (isPlain v || isName v)
  | _ => false
theorem mdo_str {s : Str} {lo hi : Int} {d : D} (h : mdo s lo hi d = true) : ∃ x, d = .str x := by
  cases d with
  | str x => exact ⟨x, rfl⟩
  | _ => cases h
/-- a truth value of data that is small -/
def gB (f : D → Bool) : List D → Option Res
  | [d] => if sm d = true then some (.va (.bl (f d))) else none
  | _ => none
theorem gB_out {f : D → Bool} : ∀ (ds : List D) (r : Res), gB f ds = some r → r.out = true := by
  intro ds r h
  unfold gB at h
  split at h
  · split at h
    · cases h; rfl
    · cases h
  · cases h
theorem gB_of {f : D → Bool} {d : D} (h : sm d = true) : gB f [d] = some (.va (.bl (f d))) := by
  show (if sm d = true then _ else _) = _
  rw [if_pos h]
theorem gB_one {f : D → Bool} {ds : List D} {r : Res} (h : gB f ds = some r) : ∃ d, ds = [d] ∧ sm d = true ∧ r = .va (.bl (f d)) := by
  unfold gB at h
  split at h
  · rename_i d
    split at h
    · rename_i hs
      cases h
      exact ⟨d, rfl, hs, rfl⟩
    · cases h
  · cases h
def gMade : List D → Option Res
  | [d, .str s, .int lo, .int hi] => if sm d = true then some (.va (.bl (mdo s lo hi d))) else none
  | _ => none
def gBegins : List D → Option Res
  | [d, .str w] => if sm d = true then some (.va (.bl (begins w d))) else none
  | _ => none
end G
set_option Elab.async false
set_option linter.all false
set_option maxRecDepth 100000
set_option maxHeartbeats 4000000
namespace G
open PySem PD
/-! ### children, elements -/
/-- bt: a text stood ahead -/
def kidsOk : Bool → List D → Bool
  | _, [] => true
  | bt, d :: ds => if d.isS then !(bt || isEmptyS d || !isPlain d) && kidsOk true ds else (begins "element" d || isHole d) && kidsOk false ds
def areChildren : D → Bool
  | .tup ds => kidsOk false ds
  | _ => false
/-- the items of a list, each once -/
def nodupB [DecidableEq α] : List α → Bool
  | [] => true
  | x :: xs => !decide (x ∈ xs) && nodupB xs
def strOf : D → Str
  | .str x => x
  | _ => ""
def fstOf : D → D
  | .tup (a :: _) => a
  | _ => .non
def sndOf : D → D
  | .tup (_ :: a :: _) => a
  | _ => .non
def nameOf (d : D) : Str × Str := (strOf (fstOf d), strOf (sndOf d))
def areDecls : D → Bool
  | .tup ds => ds.all isDecl && nodupB (ds.map fun d => strOf (fstOf d))
  | _ => false
def areAttrs : D → Bool
  | .tup ds => ds.all isAttr && nodupB (ds.map fun d => nameOf (fstOf d))
  | _ => false
/-- the first item by which a thing is no element by itself -/
def wrongItem : D → Option Str
  | .tup [k, n, de, at_, ch] =>
    if begins "element" (.tup [k, n, de, at_, ch]) then
      if isName n then if areDecls de then if areAttrs at_ then if areChildren ch then none else some "children" else some "attributes" else some "declarations" else some "name"
    else some "form"
  | _ => some "form"
def optD : Option Str → D
  | none => .non
  | some x => .str x
/-- the children of an element -/
def kidsOf : D → List D
  | .tup [_, _, _, _, .tup ch] => ch
  | _ => []
theorem kids_lt : ∀ (d : D), (kidsOf d ≠ [] → sizeOf (kidsOf d) < sizeOf d) := by
  intro d h
  unfold kidsOf at h ⊢
  split
  · simp
    omega
  · rename_i z
    split at h
    · rename_i z2
      exact absurd rfl (z _ _ _ _ _)
    · exact absurd rfl h
/-- the elements among children, with their paths -/
def elemsAt (p : List D) : Nat → List D → List (List D × D)
  | _, [] => []
  | k, c :: cs => if begins "element" c then (p ++ [.int (k : Nat)], c) :: elemsAt p (k + 1) cs else elemsAt p (k + 1) cs
theorem elemsAt_size (p : List D) : ∀ (k : Nat) (cs : List D) (q : List D × D), q ∈ elemsAt p k cs → sizeOf q.2 < sizeOf cs
  | _, [], _, h => nomatch h
  | k, c :: cs, q, h => by
    unfold elemsAt at h
    split at h
    · rcases List.mem_cons.mp h with rfl | h
      · simp; omega
      · have := elemsAt_size p (k + 1) cs q h
        simp; omega
    · have := elemsAt_size p (k + 1) cs q h
      simp; omega
/-- an element and all within it, in their order -/
def pre (p : List D) (d : D) : List (List D × D) :=
  (p, d) :: ((elemsAt p 0 (kidsOf d)).attach.flatMap fun q => pre q.1.1 q.1.2)
termination_by sizeOf d
decreasing_by
  have h := elemsAt_size p 0 (kidsOf d) q.1 q.2
  have h2 : kidsOf d ≠ [] := fun e => by
    have hq := q.2
    have e2 : elemsAt p 0 (kidsOf d) = [] := by rw [e]; rfl
    have hn : ∀ (l : List (List D × D)) (x : List D × D), l = [] → x ∈ l → False := fun l x z hx => by rw [z] at hx; cases hx
    exact hn _ _ e2 hq
  have := kids_lt d h2
  omega
theorem pre_eq (p : List D) (d : D) : pre p d = (p, d) :: (elemsAt p 0 (kidsOf d)).flatMap fun q => pre q.1 q.2 := by
  rw [pre]
  congr 1
  have h : ∀ (l : List (List D × D)), (l.attach.flatMap fun q => pre q.1.1 q.1.2) = l.flatMap fun q => pre q.1 q.2 := fun l => by
    rw [List.flatMap_def, List.flatMap_def]
    congr 1
    exact List.attach_map_val (l := l) (f := fun q : List D × D => pre q.1 q.2)
  exact h _
def preAll (st : List (List D × D)) : List (List D × D) := st.flatMap fun q => pre q.1 q.2
theorem preAll_cons (p : List D) (d : D) (st : List (List D × D)) : preAll ((p, d) :: st) = (p, d) :: preAll (elemsAt p 0 (kidsOf d) ++ st) := by
  unfold preAll
  rw [List.flatMap_cons, pre_eq, List.flatMap_append]
  rfl
theorem preAll_len (st : List (List D × D)) : st.length ≤ (preAll st).length := by
  induction st with
  | nil => exact Nat.le_refl _
  | cons q st ih =>
    obtain ⟨p, d⟩ := q
    unfold preAll at ih ⊢
    rw [List.flatMap_cons, pre_eq, List.length_append, List.length_cons, List.length_cons]
    omega
/-- what is first wrong along a list of things in their order; n have been looked at -/
def fw : Nat → List (List D × D) → Option (List D × Str)
  | _, [] => none
  | n, (p, d) :: r => if n + 1 ≤ 60 ∧ p.length < 8 then (match wrongItem d with | some it => some (p, it) | none => fw (n + 1) r) else some (p, "form")
def holeStrs : List D → List D
  | [] => []
  | c :: cs => if begins "hole" c then sndOf c :: holeStrs cs else holeStrs cs
/-- the first element with a hole that was told ahead of it -/
def fh : List Str → List (List D × D) → Option (List D × Str)
  | _, [] => none
  | told, (p, d) :: r => if nodupB (told ++ (holeStrs (kidsOf d)).map strOf) then fh (told ++ (holeStrs (kidsOf d)).map strOf) r else some (p, "hole")
def fault (d : D) : Option (List D × Str) :=
  match fw 0 (pre [] d) with
  | some x => some x
  | none => fh [] (pre [] d)
def pairD (q : List D × D) : D := .tup [.tup q.1, q.2]
def faultD : Option (List D × Str) → D
  | none => .non
  | some (p, it) => .tup [.tup p, .str it]
end G
set_option Elab.async false
set_option linter.all false
set_option maxRecDepth 100000
set_option maxHeartbeats 2000000
/-! Sets of few tuples of texts and ints (at most four: the table is never laid anew). The way through a table is HandS.TupSets' (TabOk, go_spec). -/
namespace KS
open PySem PySem.Spec PyProof.Rows L2
abbrev kh (P : Program) (w : World) (k : List Key) : Int := tupleKeyHash (mixKind P w) k
abbrev IsK (P : Program) (w : World) (h : Heap) (k : List Key) (a : Addr) : Prop := IsTupleKey (mixKind P w) h k a
section
variable {P : Program} {w : World} {A : Around} {E : Value → Shared → Prop} {s : Shared}
def Flat (v : Value) : Prop := (∃ i t, v = Value.int i t) ∨ ∃ x t, v = Value.str x t
theorem items_flat {k : List Key} {vs : List Value} (h : ItemsAre (mixKind P w) k vs) : ∀ v ∈ vs, Flat v := by
  induction h with
  | nil => intro v hv; cases hv
  | @cons k0 v' ks vs h1 _ ih =>
    intro v hv
    rcases List.mem_cons.mp hv with e | hv
    · subst e
      rcases keyIs_shape h1 with ⟨i, t, _, e⟩ | ⟨x, t, _, e⟩
      · exact .inl ⟨i, t, e⟩
      · exact .inr ⟨x, t, e⟩
    · exact ih v hv
theorem ofAClass_flat (n : Nat) {v : Value} (h : Flat v) : ofAClassStatement n v = pure false := by
  rcases h with ⟨i, t, rfl⟩ | ⟨x, t, rfl⟩ <;> (cases n <;> rfl)
theorem hashBy_flat (n : Nat) {v : Value} (h : Flat v) : ∃ c, hashByValue n v = pure c := by
  rcases h with ⟨i, t, rfl⟩ | ⟨x, t, rfl⟩
  · exact ⟨true, by cases n <;> rfl⟩
  · exact ⟨false, by cases n <;> rfl⟩
theorem ofAClass_k {k : List Key} {b : Addr} {Q : Bool → Shared → Prop} (hk : IsK P w s.heap k b) (h : Q false s) : wpAny (model P w) A (ofAClassStatement 8 (.ref b)) Q E s := by
  have hT := hk.typeIs
  obtain ⟨o, items, n, ho, _, hd, hi⟩ := hk
  unfold ofAClassStatement
  refine wpAny_bind (wpAny_typeOf hT ?_)
  dsimp only
  have e : (("tuple" : String) == "tuple") = true := by decide
  simp only [e, if_true, Bool.not_true, Bool.false_eq_true, if_false]
  try refine wpAny_bind (wpAny_pure ?_)
  try simp only [Bool.not_true, Bool.false_eq_true, if_false]
  show wpAny _ _ (seqItems? (.ref b) >>= _) _ _ s
  refine wpAny_bind (wpAny_seqItems ho hd ?_)
  dsimp only
  refine wpAny_bind ?_
  show wpAny _ _ (forIn items _ _) _ _ s
  rw [← Array.forIn_toList]
  refine wpAny_forIn_list _ (fun rest r s' => r.1 = none ∧ s' = s ∧ ∀ v ∈ rest, Flat v) _ ?_ ?_ _ _ ⟨rfl, rfl, items_flat hi⟩
  · rintro v rest r s' ⟨hr, rfl, hall⟩
    rw [ofAClass_flat _ (hall v List.mem_cons_self)]
    refine wpAny_bind (wpAny_pure ?_)
    simp only [Bool.false_eq_true, if_false]
    exact wpAny_pure ⟨rfl, rfl, fun u hu' => hall u (List.mem_cons_of_mem _ hu')⟩
  · rintro ⟨r1, r2⟩ s' ⟨hr, rfl, _⟩
    simp only at hr
    subst hr
    exact wpAny_pure h
theorem hashBy_k {k : List Key} {b : Addr} {Q : Bool → Shared → Prop} (hk : IsK P w s.heap k b) (h : ∀ c, Q c s) : wpAny (model P w) A (hashByValue 8 (.ref b)) Q E s := by
  have hT := hk.typeIs
  obtain ⟨o, items, n, ho, _, hd, hi⟩ := hk
  unfold hashByValue
  refine wpAny_bind (wpAny_specialOf hT PySem.F.slot_tuple_hash.lookup ?_)
  show wpAny _ _ (seqItems? (.ref b) >>= _) _ _ s
  refine wpAny_bind (wpAny_seqItems ho hd ?_)
  refine wpAny_bind ?_
  show wpAny _ _ (forIn items _ _) _ _ s
  rw [← Array.forIn_toList]
  refine wpAny_forIn_list _ (fun rest r s' => r.1 = none ∧ s' = s ∧ ∀ v ∈ rest, Flat v) _ ?_ ?_ _ _ ⟨rfl, rfl, items_flat hi⟩
  · rintro v rest r s' ⟨hr, rfl, hall⟩
    obtain ⟨c, ec⟩ := hashBy_flat 7 (hall v List.mem_cons_self)
    rw [ec]
    refine wpAny_bind (wpAny_pure ?_)
    cases c with
    | true =>
      simp only [Bool.not_true, Bool.false_eq_true, if_false]
      exact wpAny_pure ⟨rfl, rfl, fun u hu' => hall u (List.mem_cons_of_mem _ hu')⟩
    | false =>
      simp only [Bool.not_false, if_true]
      exact wpAny_pure (wpAny_pure (h false))
  · rintro ⟨r1, r2⟩ s' ⟨hr, rfl, _⟩
    simp only at hr
    subst hr
    exact wpAny_pure (h true)
theorem seen_k {k : List Key} {b : Addr} {Q : Bool → Shared → Prop} (hk : IsK P w s.heap k b) {ys : List Value} (hy : ∀ y ∈ ys, ∃ k' c, y = Value.ref c ∧ IsK P w s.heap k' c) (h : Q false s) :
    wpAny (model P w) A (searchCouldBeSeen (.ref b) ys) Q E s := by
  unfold searchCouldBeSeen
  refine wpAny_bind ?_
  refine wpAny_forIn_list _ (fun rest r s' => r.1 = none ∧ s' = s ∧ ∀ y ∈ rest, ∃ k' c, y = Value.ref c ∧ IsK P w s.heap k' c) _ ?_ ?_ _ _ ⟨rfl, rfl, hy⟩
  · rintro v rest r s' ⟨hr, rfl, hall⟩
    obtain ⟨k', c, rfl, hc⟩ := hall v List.mem_cons_self
    have rest' : ∀ y ∈ rest, ∃ k' c, y = Value.ref c ∧ IsK P w s'.heap k' c := fun u hu' => hall u (List.mem_cons_of_mem _ hu')
    dsimp only
    by_cases hv : (b == c || (carriedByValue (.ref b) && carriedByValue (.ref c))) = true
    · exact wp_if_pos hv (wpAny_pure ⟨rfl, rfl, rest'⟩)
    · refine wp_if_neg hv ?_
      refine wpAny_bind (wpAny_eqIsQuiet_tuple hk ?_)
      simp only [Bool.not_true, Bool.false_eq_true, if_false]
      refine wpAny_bind (wpAny_eqIsQuiet_tuple hc ?_)
      simp only [Bool.not_true, Bool.false_eq_true, if_false]
      refine wpAny_bind (ofAClass_k hk ?_)
      simp only [Bool.false_eq_true, if_false]
      refine wpAny_bind (ofAClass_k hc ?_)
      simp only [Bool.false_eq_true, if_false]
      exact wpAny_pure ⟨rfl, rfl, rest'⟩
  · rintro ⟨r1, r2⟩ s' ⟨hr, rfl, _⟩
    simp only at hr
    subst hr
    exact wpAny_pure h
end
end KS
set_option Elab.async false
set_option linter.all false
set_option maxRecDepth 100000
set_option maxHeartbeats 2000000
namespace KS
open PySem PySem.Spec PyProof.Rows L2
section
variable {P : Program} {w : World} {A : Around} {E : Value → Shared → Prop} {s : Shared}
abbrev Row := Addr × List Key
def rowE (P : Program) (w : World) (p : Row) : Int × Value := (kh P w p.2, .ref p.1)
/-- the set at a: the keys L, by their tuples, in the table's order; at most four -/
structure KSet (P : Program) (w : World) (h : Heap) (a : Addr) (L : List Row) (es : Array (Int × Value)) (ep : Nat) (t : SetTable) : Prop where
  ob : ∃ o, h.get? a = some o ∧ o.ExactSet ∧ o.data = .set es ep t
  rows : es.toList = L.map (rowE P w)
  tab : TabOk t (L.map fun p => kh P w p.2)
  nd : (L.map (·.2)).Nodup
  tup : ∀ p ∈ L, IsK P w h p.2 p.1
  led : w.params.followText "set-order" = true ∨ t.led = true
  m7 : t.mask = 7
  few : L.length ≤ 4
variable {a : Addr} {L : List Row} {es : Array (Int × Value)} {ep : Nat} {t : SetTable}
theorem KSet.size (R : KSet P w s.heap a L es ep t) : es.size = L.length := by
  have h := congrArg List.length R.rows
  rw [Array.length_toList, List.length_map] at h
  exact h
theorem KSet.place (R : KSet P w s.heap a L es ep t) : t.place.size = L.length := by
  have h := R.tab.sz
  rwa [List.length_map] at h
theorem KSet.fits (R : KSet P w s.heap a L es ep t) : t.fits es.size = true := by
  have h1 := R.place
  have h2 := R.size
  have h3 := R.few
  have h4 := R.m7
  unfold SetTable.fits SetTable.fill
  rw [R.tab.dm, Bool.and_eq_true, beq_iff_eq, decide_eq_true_eq]
  show t.place.size = es.size ∧ t.place.size + 0 ≤ t.mask
  omega
theorem KSet.entry (R : KSet P w s.heap a L es ep t) {i : Nat} {p : Row} (h : L[i]? = some p) : es[i]? = some (kh P w p.2, Value.ref p.1) := by
  rw [← Array.getElem?_toList, R.rows, List.getElem?_map, h]
  rfl
theorem KSet.gw (R : KSet P w s.heap a L es ep t) : ¬ t.gaveWay = true := by
  unfold SetTable.gaveWay
  rw [mask_odd R.tab.mok]
  decide
abbrev st0 (m : Nat) (h : Int) (c : Nat) : SetTable.Probe := nth m (runAt m (SetTable.bits h % (m + 1)) (SetTable.bits h)) c
theorem nth_dummy (m : Nat) : ∀ (n : Nat) (p : SetTable.Probe), p.dummy = none → (nth m p n).dummy = none
  | 0, _, h => h
  | n + 1, p, h => nth_dummy m n (adv m p) (by unfold adv; split <;> exact h)
/-- the search from the c-th step of the way on: K the first free place of the way -/
theorem search_go (R : KSet P w s.heap a L es ep t) {x : Addr} {k : List Key} (hx : IsK P w s.heap k x) (hu : A.units < cLine) {K : Nat} (hKf : K < 10 * SetTable.turns t.mask)
    (hK : way t.mask (kh P w k) K ∉ t.place.toList) (hKb : ∀ c, c < K → way t.mask (kh P w k) c ∈ t.place.toList) {Q : SetFound → Shared → Prop}
    (hin : k ∈ L.map (·.2) → Q (.there none) s) (hout : k ∉ L.map (·.2) → Q (.free (way t.mask (kh P w k) K) false) s) :
    ∀ (f c : Nat) (stand : Option SetTable.Probe), stand.getD (t.probeStart (kh P w k)) = st0 t.mask (kh P w k) c → c ≤ K → K - c < f →
      (∀ (i : Nat) (p : Row), L[i]? = some p → p.2 = k → ∃ c', c ≤ c' ∧ c' < K ∧ t.place.toList[i]? = some (way t.mask (kh P w k) c')) →
      wpAny (model P w) A (setSearchFrom a (.ref x) (kh P w k) true f stand) Q E s := by
  intro f
  induction f with
  | zero => intro c stand _ _ hf _; exact absurd hf (Nat.not_lt_zero _)
  | succ f ih =>
    intro c stand hst hc hf hre
    obtain ⟨o, ho, hex, hd⟩ := R.ob
    rw [setSearchFrom_succ]
    refine wpAny_bind (wpAny_setState_of ho hd R.fits ?_)
    dsimp only
    refine wp_if_neg R.gw ?_
    try refine wpAny_bind (wpAny_pure ?_)
    have sh : ∀ q, nth t.mask (st0 t.mask (kh P w k) c) q = st0 t.mask (kh P w k) (c + q) := fun q => (nth_add t.mask c _ q).symm
    have e1 : ∀ q, (nth t.mask (st0 t.mask (kh P w k) c) q).j = way t.mask (kh P w k) (c + q) := fun q => congrArg SetTable.Probe.j (sh q)
    have spec := go_spec t R.tab.ris R.tab.dm (fun i => (es[i]?.map (·.1)).getD 0) (kh P w k) (10 * SetTable.turns t.mask) (K - c) _ (nth_dummy t.mask c _ rfl) (by omega)
      (fun q hq => by rw [e1]; exact hKb (c + q) (by omega)) (by rw [e1, show c + (K - c) = K by omega]; exact hK)
    have hash : ∀ (i : Nat) (p : Row), L[i]? = some p → (fun i => (es[i]?.map (·.1)).getD 0) i = kh P w p.2 := fun i p hp => by
      show (es[i]?.map (·.1)).getD 0 = _
      rw [R.entry hp]
      rfl
    rcases spec with ⟨q, i, hq, hi, hh, hno, hpr⟩ | ⟨hno, hpr⟩
    · rw [show t.probe (fun i => (es[i]?.map (·.1)).getD 0) (kh P w k) (stand.getD (t.probeStart (kh P w k))) = some (.candidate (way t.mask (kh P w k) (c + q)) i (st0 t.mask (kh P w k) (c + (q + 1)))) by rw [hst, ← e1, ← sh]; exact hpr]
      dsimp only
      rw [e1] at hi
      have hil : i < L.length := by
        have h1 : i < t.place.toList.length := (List.getElem?_eq_some_iff.mp hi).1
        rw [Array.length_toList, R.place] at h1
        exact h1
      obtain ⟨p, hp⟩ : ∃ p, L[i]? = some p := ⟨_, List.getElem?_eq_getElem hil⟩
      have hmem : p ∈ L := List.mem_of_getElem? hp
      have hsl : t.slot (way t.mask (kh P w k) (c + q)) = .live i := slot_live R.tab.ris hi
      have rest : wpAny (model P w) A (searchRest a (.ref x) (kh P w k) true f es t (way t.mask (kh P w k) (c + q)) i (st0 t.mask (kh P w k) (c + (q + 1)))) Q E s := by
        unfold searchRest
        rw [R.entry hp]
        dsimp only
        refine wpAny_bind (wpAny_holding (wpAny_eqBool_tuple hu (R.tup p hmem) hx ?_))
        refine wpAny_bind (wpAny_setState_of ho hd R.fits ?_)
        dsimp only
        by_cases hkk : p.2 = k
        · exact wp_if_pos (by simp [hkk]) (wpAny_pure (hin (List.mem_map.mpr ⟨p, hmem, hkk⟩)))
        · refine wp_if_neg (by simp [hkk]) ?_
          try refine wpAny_bind (wpAny_pure ?_)
          rw [sameMem]
          dsimp only
          simp only [if_true, hsl, R.entry hp]
          refine wpAny_bind (wpAny_isSame_ref_self (wpAny_bind (wpAny_pure ?_)))
          simp only [if_true]
          refine wp_if_neg (by simp [hkk]) ?_
          refine ih (c + (q + 1)) _ rfl (by omega) (by omega) fun i0 p0 h0 hk0 => ?_
          obtain ⟨c', a1, a2, a3⟩ := hre i0 p0 h0 hk0
          refine ⟨c', ?_, a2, a3⟩
          rcases Nat.lt_trichotomy c' (c + q) with z | z | z
          · exact absurd ((hash i0 p0 h0).trans (congrArg (kh P w) hk0)) (hno (c' - c) i0 (by omega) (by rw [e1, show c + (c' - c) = c' by omega]; exact a3))
          · rw [z] at a3
            have s0 := slot_live R.tab.ris a3
            rw [hsl] at s0
            injection s0 with s0
            rw [← s0, hp] at h0
            exact absurd ((congrArg Prod.snd (Option.some.inj h0)).trans hk0) hkk
          · omega
      by_cases hl : t.led = true
      · refine wp_if_neg (by simp [hl]) ?_
        try refine wpAny_bind (wpAny_pure ?_)
        exact rest
      · refine wp_if_pos (by simp [hl]) ?_
        refine wpAny_bind (seen_k hx (fun y hy => ?_) ?_)
        · obtain ⟨e, he, ee⟩ := List.mem_map.mp hy
          have he1 : e ∈ es ∧ e.1 = kh P w k := by simpa using he
          have he2 : e ∈ es.toList := by simpa using he1.1
          rw [R.rows] at he2
          obtain ⟨p2, hp2, e2⟩ := List.mem_map.mp he2
          exact ⟨p2.2, p2.1, by rw [← ee, ← e2]; rfl, R.tup p2 hp2⟩
        · refine wp_if_neg (by decide) ?_
          try refine wpAny_bind (wpAny_pure ?_)
          exact rest
    · rw [show t.probe (fun i => (es[i]?.map (·.1)).getD 0) (kh P w k) (stand.getD (t.probeStart (kh P w k))) = some (.empty (way t.mask (kh P w k) K) none) by
          have e2 : way t.mask (kh P w k) K = (nth t.mask (st0 t.mask (kh P w k) c) (K - c)).j := by rw [e1, show c + (K - c) = K by omega]
          rw [hst, e2]
          exact hpr]
      dsimp only
      refine wpAny_pure (hout fun hm => ?_)
      obtain ⟨p0, h0, hk0⟩ := List.mem_map.mp hm
      obtain ⟨i0, hi0, e0⟩ := List.getElem_of_mem h0
      have h00 : L[i0]? = some p0 := by rw [List.getElem?_eq_getElem hi0, e0]
      obtain ⟨c', a1, a2, a3⟩ := hre i0 p0 h00 hk0
      exact hno (c' - c) i0 (by omega) (by rw [e1, show c + (c' - c) = c' by omega]; exact a3) ((hash i0 p0 h00).trans (congrArg (kh P w) hk0))
theorem search_k (R : KSet P w s.heap a L es ep t) {x : Addr} {k : List Key} (hx : IsK P w s.heap k x) (hu : A.units < cLine) {Q : SetFound → Shared → Prop} (hin : k ∈ L.map (·.2) → Q (.there none) s)
    (hout : ∀ K, k ∉ L.map (·.2) → way t.mask (kh P w k) K ∉ t.place.toList → (∀ c, c < K → way t.mask (kh P w k) c ∈ t.place.toList) → Q (.free (way t.mask (kh P w k) K) false) s) :
    wpAny (model P w) A (setSearch a (.ref x) (kh P w k) true) Q E s := by
  obtain ⟨K, hKf, hK, hKb⟩ := R.tab.first (by rw [List.length_map, R.m7]; exact Nat.le_trans R.few (by decide)) (kh P w k)
  have hbig : K < 100000 := by
    rw [R.m7] at hKf
    exact Nat.lt_trans hKf (by decide)
  unfold setSearch
  refine search_go R hx hu hKf hK hKb hin (fun hn => hout K hn hK hKb) 100000 0 none rfl (Nat.zero_le _) (by omega) fun i p hp hk => ?_
  have hi : (L.map fun p => kh P w p.2)[i]? = some (kh P w k) := by rw [List.getElem?_map, hp, ← hk]; rfl
  have hil : i < t.place.toList.length := by
    rw [Array.length_toList, R.place]
    exact (List.getElem?_eq_some_iff.mp hp).1
  have hj := List.getElem?_eq_getElem hil
  obtain ⟨c, hc, e⟩ := R.tab.before hK hi hj
  exact ⟨c, Nat.zero_le _, hc, by rw [hj, e]⟩
end
end KS
set_option Elab.async false
set_option linter.all false
set_option maxRecDepth 100000
set_option maxHeartbeats 2000000
namespace KS
open PySem PySem.Spec PyProof.Rows L2
section
variable {P : Program} {w : World} {A : Around} {E : Value → Shared → Prop} {s : Shared} {a : Addr} {L : List Row} {es : Array (Int × Value)} {ep : Nat} {t : SetTable}
theorem isK_same {h h' : Heap} {k : List Key} {a b : Addr} {o : Obj} {es : Array (Int × Value)} {ep : Nat} {t : SetTable} (hb : IsK P w h k b) (ho : h.get? a = some o) (hd : o.data = .set es ep t) (hs : Heap.SameBut a h h') : IsK P w h' k b := by
  obtain ⟨o', items, n, ho', hc, hd', hi⟩ := hb
  refine ⟨o', items, n, (hs.2 b fun z => ?_).trans ho', hc, hd', hi⟩
  subst z
  rw [ho] at ho'
  cases ho'
  rw [hd] at hd'
  cases hd'
theorem tab_plain {t : SetTable} {hs : List Int} (T : TabOk t hs) (b : Bool) : TabOk { t with plain := b } hs := ⟨T.ris, T.dm, T.sz, T.mok, T.bd, T.reach⟩
/-- a.add(x), x the tuple of k: at most four members behind it -/
theorem add_k (R : KSet P w s.heap a L es ep t) {x : Addr} {k : List Key} (hx : IsK P w s.heap k x) (hu : A.units < cLine) (hfew : L.length + 1 ≤ 4) {Q : Bool → Shared → Prop}
    (hQ : ∀ b h' L' es' ep' t', Heap.SameBut a s.heap h' → KSet P w h' a L' es' ep' t' → (k ∈ L.map (·.2) → L' = L) → (k ∉ L.map (·.2) → L'.Perm ((x, k) :: L)) → Q b { s with heap := h' }) :
    wpAny (model P w) A (setAddHashed a (.ref x) (kh P w k)) Q E s := by
  obtain ⟨o, ho, hex, hd⟩ := R.ob
  have hsl := R.size
  unfold setAddHashed
  refine wpAny_holding ?_
  rw [show (100000 : Nat) = 99999 + 1 from rfl, setAddHashedIn_succ]
  refine wpAny_bind (wpAny_setState_of ho hd R.fits ?_)
  dsimp only
  refine wp_if_neg (by simp [byScan, Value.scannable]) ?_
  try refine wpAny_bind (wpAny_pure ?_)
  refine wpAny_bind (search_k R hx hu (fun hm => ?_) fun K hm hK hb => ?_)
  · dsimp only
    exact wpAny_pure (hQ false s.heap L es ep t (Heap.SameBut.refl a s.heap) R (fun _ => rfl) fun z => absurd hm z)
  · dsimp only
    refine wpAny_bind (wpAny_setState_of ho hd R.fits ?_)
    dsimp only
    obtain ⟨q1, q2, q3, q4, q5, q6, q7, q8, q9⟩ := R.tab.put hK hb
    generalize hpt : t.put (way t.mask (kh P w k) K) = pt at q1 q3 q4 q5 q6 q7 q8 q9 ⊢
    obtain ⟨t1, p⟩ := pt
    dsimp only at q1 q3 q4 q5 q6 q7 q8 q9 ⊢
    subst q1
    have nofull : ∀ b : Bool, ({ t1 with plain := b } : SetTable).tooFull = false := fun b => by
      have h9 : ({ t1 with plain := b } : SetTable).fill = t1.fill := rfl
      unfold SetTable.tooFull
      rw [h9]
      refine decide_eq_false ?_
      have h := q9
      rw [List.length_map] at h
      have : ({ t1 with plain := b } : SetTable).mask = 7 := by show t1.mask = 7; rw [q4, R.m7]
      rw [this, h]
      omega
    -- the table behind, and the set
    have fin : ∀ b : Bool, wpAny (model P w) A (do
        storeSet a (SetTable.insertAt es (SetTable.below t.place (way t.mask (kh P w k) K)) (kh P w k, Value.ref x)) { t1 with plain := b }
        if (!false && ({ t1 with plain := b } : SetTable).tooFull) = true then setRelay a (SetTable.grown (es.size + 1))
        return true) Q E s := fun b => by
      have hin : (SetTable.insertAt es (SetTable.below t.place (way t.mask (kh P w k) K)) (kh P w k, Value.ref x)).toList = (L.take (SetTable.below t.place (way t.mask (kh P w k) K)) ++ (x, k) :: L.drop (SetTable.below t.place (way t.mask (kh P w k) K))).map (rowE P w) := by
        rw [SetTable.toList_insertAt, R.rows, List.map_append, List.map_cons, List.map_take, List.map_drop]
        rfl
      generalize hpp : SetTable.below t.place (way t.mask (kh P w k) K) = p at q2 q3 hin ⊢
      have pm : (L.take p ++ (x, k) :: L.drop p).Perm ((x, k) :: L) := by
        have h : (L.take p ++ (x, k) :: L.drop p).Perm ((x, k) :: (L.take p ++ L.drop p)) := List.perm_middle
        rwa [List.take_append_drop] at h
      have hlen : (L.take p ++ (x, k) :: L.drop p).length = L.length + 1 := pm.length_eq
      have hhs : (L.take p ++ (x, k) :: L.drop p).map (fun p => kh P w p.2) = (L.map fun p => kh P w p.2).take p ++ kh P w k :: (L.map fun p => kh P w p.2).drop p := by
        rw [List.map_append, List.map_cons, List.map_take, List.map_drop]
      rw [← hhs] at q3
      have nd1 : ((L.take p ++ (x, k) :: L.drop p).map (·.2)).Nodup := by
        refine (pm.map (·.2)).nodup_iff.mpr ?_
        rw [List.map_cons]
        exact List.nodup_cons.mpr ⟨hm, R.nd⟩
      have hes : (SetTable.insertAt es p (kh P w k, Value.ref x)).size = L.length + 1 := by
        have h := congrArg List.length hin
        rw [Array.length_toList, List.length_map, hlen] at h
        exact h
      generalize SetTable.insertAt es p (kh P w k, Value.ref x) = es1 at hin hes ⊢
      generalize L.take p ++ (x, k) :: L.drop p = L1 at pm hlen q3 nd1 hin
      refine wpAny_bind (wpAny_storeSet_of ho hd ?_ (by rw [hes, sizeLine_eq]; omega))
      have sb : Heap.SameBut a s.heap (s.heap.update a (Obj.putSet es1 { t1 with plain := b })) := Heap.SameBut.update ..
      have ho1 := store_at (es' := es1) (t' := ({ t1 with plain := b } : SetTable)) ho hd
      generalize s.heap.update a (Obj.putSet es1 { t1 with plain := b }) = h1 at sb ho1 ⊢
      refine wp_if_neg (by rw [nofull b]; decide) ?_
      try refine wpAny_bind (wpAny_pure ?_)
      refine wpAny_pure (hQ true h1 L1 es1 (ep + 1) { t1 with plain := b } sb ⟨⟨_, ho1, ⟨hex.1, hex.2.1, hex.2.2⟩, rfl⟩, hin, tab_plain q3 b, nd1, fun p hp => ?_, by rw [show ({ t1 with plain := b } : SetTable).led = t1.led from rfl, q5]; exact R.led, by rw [show ({ t1 with plain := b } : SetTable).mask = t1.mask from rfl, q4]; exact R.m7, by rw [hlen]; exact hfew⟩ (fun z => absurd z hm) fun _ => pm)
      rcases List.mem_cons.mp (pm.mem_iff.mp hp) with e | hp
      · rw [e]; exact isK_same hx ho hd sb
      · exact isK_same (R.tup p hp) ho hd sb
    have eta : ∀ b, t1.plain = b → ({ t1 with plain := b } : SetTable) = t1 := fun b e => by cases t1; cases e; rfl
    by_cases hp1 : t1.plain = true
    · refine wp_if_pos hp1 (wpAny_bind (hashBy_k hx fun c => ?_))
      cases c with
      | true =>
        have f := fin true
        rw [eta true hp1] at f
        exact f
      | false => exact fin false
    · refine wp_if_neg hp1 (wpAny_bind (wpAny_pure ?_))
      have f := fin false
      rw [eta false (by simpa using hp1)] at f
      exact f
end
end KS
set_option Elab.async false
set_option linter.all false
set_option maxRecDepth 100000
set_option maxHeartbeats 2000000
/-! Set comprehensions over any family of sets: O D i the set at D in the state i; Add says how adding goes on. (HandS.SetBool has it for truth values.) -/
namespace KS
open PySem PySem.Spec PyProof.Rows L2 PpSet
structure Fam (P : Program) (w : World) (K : PySem.W.Frag) (A : Around) where
  ι : Type
  O : Addr → ι → HO
  i0 : ι
  Add : ι → Hp → V → (ι → Prop) → Prop
  new : ∀ (H : Hp) (h : Heap), ObjOk P w H (h.push { cls := .type "set", dict := none, data := .set #[] 0 (.fresh 0 0 (!w.params.followText "set-order")) }) h.objs.size (O h.objs.size i0)
  add : ∀ (X : Cx) (pins : List (Addr × Obj)) (σ : L2.St) (H : Hp) (s : Shared) (E : Value → Shared → Prop) (D : Addr) (i : ι) (R : ι → Prop) (y : V) (z : Value) (Q : Value → Shared → Prop), X.prog = P → X.w = w → X.K = K → X.A = A →
    Inv X pins σ H s → H D = some (O D i) → RelV y z → Add i H y R → (∀ i' s', R i' → Inv X pins σ (upd H D (O D i')) s' → Q .none s') → wpAny (model P w) A (call (.builtin "set.add") [.ref D, z]) Q E s
section
variable {X : Cx}
/-- {elt for target in iter if ..}: D the new set -/
def tScG {P : Program} {w : World} {K : PySem.W.Frag} {A : Around} (F : Fam P w K A) (wi : TI) (g : TG) (tt : TT) (te : TE) (vs : List Nat) : TE := fun σ H Q => wi σ H fun J H1 => ∀ D, H1 D = none → ∃ W : Nat → Nat → Hp → Prop, (∃ m, W 0 m (upd H1 D (F.O D F.i0))) ∧ ∀ i m H, W i m H →
  (J.stop i H ∧ Q (.ref D) H) ∨ (J.go i H ∧ ∃ Nx : Hp → Prop, (∀ H', Nx H' → ∃ m', m' < m ∧ W (i + 1) m' H') ∧ ∀ x H', J.yld i H x H' → g x (wipe σ vs) H' fun σ2 H2 => wipe σ2 vs = wipe σ vs ∧ tt σ2 H2 fun b H3 =>
    if b = true then te σ2 H3 fun y H4 => ∃ st : F.ι, H4 D = some (F.O D st) ∧ F.Add st H4 y fun st' => Nx (upd H4 D (F.O D st')) else Nx H3)
theorem core {F : Fam X.prog X.w X.K X.A} {pins : List (Addr × Obj)} {s : Shared} {σ : L2.St} {H : Hp} {Q : VK} {elt tg iter : Expr} {ifs : List Expr} {scope : Scope} {own : List (PySem.Str × Nat)} {pos pos' : Pos} {wi : TI} {g : TG} {tt : TT} {te : TE} {use : Option (Value → Sem Unit)} {Qf : Value → Shared → Prop}
    (hc : X.calm = true) (hN : X.N.Nodup) (I : Inv X pins σ H s) (hi : PI X tg iter wi) (ok : BlkOk X.N X.env.scope scope own)
    (hg : ∀ (s : Shared) (H : Hp) (C : Addr) (cl : List (PySem.Str × Addr)) (fp : List Addr), PG (X.blk s H scope (compEnvC scope cl C X.env) fp) tg g) (ht : ∀ (s : Shared) (H : Hp) (C : Addr) (cl : List (PySem.Str × Addr)) (fp : List Addr), PTs (X.blk s H scope (compEnvC scope cl C X.env) fp) ifs tt)
    (he : ∀ (s : Shared) (H : Hp) (C : Addr) (cl : List (PySem.Str × Addr)) (fp : List Addr), PE (X.blk s H scope (compEnvC scope cl C X.env) fp) elt te) (hs : ∀ x, foldedSetIterable iter X.env x = pure x)
    (h : tScG F wi g tt te (own.map (·.2)) σ H Q)
    (hRR : ∀ D C s' m H', Inv X pins σ H' s' → Q (.ref D) H' → s'.heap.Ns C m → FpOk X pins H' C → compPost (model X.prog X.w) X.A X.xe use Qf (.ref D) C (.ok .next) s') :
    wpAny (model X.prog X.w) X.A (comprehension (.SetComp elt [⟨tg, iter, ifs, 0⟩] scope pos) scope X.env pos' (newSet (.type "set")) false (eval iter X.env) use) Qf X.xe s := by
  have hfree : ∀ y ∈ scope.names, y.2 = .free → ∃ c, X.env.cells.lookup y.1 = some c := fun y hy e => by
    rcases ok.free y hy e with k | k
    · exact I.ok.has _ (.inl k)
    · exact I.ok.has _ (.inr k)
  refine wpAny_comprehension_free (use := use) rfl hs (closure_ok hfree) ok.kind (fun y hy e => by rw [ok.uniq y hy, e])
    (thn (hi.run pins s σ H _ I h) fun xv s1 hx => thn hx fun itv s2 h2 => ?_)
  obtain ⟨it, fp, tn, J, H2, e, I2, T, st2, f2, q⟩ := h2
  subst e
  refine newSet_ok (newEnv_comp ?_)
  generalize hD : s2.heap.objs.size = D
  obtain ⟨W, ⟨m0, w0⟩, turn⟩ := q D (I2.hok.fresh (Nat.le_of_eq hD))
  generalize hs3 : ({ s2 with heap := s2.heap.push { cls := .type "set", dict := none, data := .set #[] 0 (.fresh 0 0 (!X.w.params.followText "set-order")) } } : Shared) = s3
  have I3 : Inv X pins σ (upd H2 D (F.O D F.i0)) s3 := by
    rw [← hs3]
    refine I2.laid (t' := s2.toks) (fun b o e => Heap.get?_push_of_some _ e) (Nat.le_of_eq hD) ?_
    rw [← hD]
    exact F.new _ _
  have h3 : s3.heap = s2.heap.push { cls := .type "set", dict := none, data := .set #[] 0 (.fresh 0 0 (!X.w.params.followText "set-order")) } := by rw [← hs3]
  have sz : ∀ b ∈ fp, b < s2.heap.objs.size := fun b hb => by
    obtain ⟨o, e, _⟩ := T.obj _ _ st2 b hb
    exact Heap.lt_size e
  have f3 : ∀ b ∈ fp, FpOk X pins (upd H2 D (F.O D F.i0)) b ∧ b < s3.heap.objs.size := fun b hb => by
    have hlt := sz b hb
    refine ⟨⟨?_, (f2 b hb).2⟩, by rw [h3, Heap.size_push]; exact Nat.lt_succ_of_lt hlt⟩
    rw [upd_ne (by rw [← hD]; exact Nat.ne_of_lt hlt)]
    exact (f2 b hb).1
  have st3 : tn 0 s3.heap := T.keep _ _ _ st2 fun b _ o e => by rw [h3]; exact Heap.get?_push_of_some _ e
  have I4 := block_start I3 ok hN f3
  generalize hH3 : upd H2 D (F.O D F.i0) = H3 at I3 I4 w0 f3
  show codeAny _ _ (.compStart (.SetComp elt [⟨tg, iter, ifs, 0⟩] scope pos) 0 (.ref it) (.ref D) (compEnvC scope (cellsFrom (s3.heap.objs.size + 1) scope.names (cloFrom X.env.cells scope.names [])) s3.heap.objs.size X.env)) (compPost (model X.prog X.w) X.A X.xe use Qf (.ref D) s3.heap.objs.size) { s3 with heap := pushCells (s3.heap.push { cls := .type "dict", data := .dict #[] }) scope.names }
  generalize hcl : cellsFrom (s3.heap.objs.size + 1) scope.names (cloFrom X.env.cells scope.names []) = cl at I4 ⊢
  have pg := hg s3 H3 s3.heap.objs.size cl fp
  have pt := ht s3 H3 s3.heap.objs.size cl fp
  have pe := he s3 H3 s3.heap.objs.size cl fp
  have nfp : ∀ b ∈ fp, H3 b = none := fun b hb => (f3 b hb).1.1
  generalize hce : compEnvC scope cl s3.heap.objs.size X.env = ce at I4 pg pt pe ⊢
  have cL : ce.locals = s3.heap.objs.size := by subst hce; rfl
  generalize hs4 : ({ s3 with heap := pushCells (s3.heap.push { cls := .type "dict", data := .dict #[] }) scope.names } : Shared) = s4 at I4 ⊢
  have st4 : tn 0 s4.heap := T.keep _ _ _ st3 fun b _ o e => by rw [← hs4]; exact pushCells_keeps _ _ _ _ (Heap.get?_push_of_some _ e)
  have stat : ∀ {σ' : L2.St} {H' : Hp} {s' : Shared}, Inv (X.blk s3 H3 scope ce fp) [] σ' H' s' → (∀ b ∈ fp, H' b = none) → ∀ b ∈ fp, FpOk (X.blk s3 H3 scope ce fp) [] H' b := fun {σ' H' s'} I' hn b hb =>
    ⟨hn b hb, (I'.ok.exf b hb).1, I'.ok.exfs b hb, .inl hb, fun x c e => (I'.ok.exf b hb).2 x c e, fun p hp => absurd (show p ∈ ([] : List (Addr × Obj)) ++ [] from hp) (by simp)⟩
  have loop : codeAny (model X.prog X.w) X.A (.compLoop (.SetComp elt [⟨tg, iter, ifs, 0⟩] scope pos) 0 (.ref it) (.ref D) ce) (compPost (model X.prog X.w) X.A X.xe use Qf (.ref D) s3.heap.objs.size) s4 := by
    refine compLoopS_any (fun n s' => ∃ i H', Inv (X.blk s3 H3 scope ce fp) [] (wipe σ (own.map (·.2))) H' s' ∧ tn i s'.heap ∧ (∀ b ∈ fp, H' b = none) ∧ W i n H') ?_ m0 ⟨0, H3, I4, st4, nfp, w0⟩
    rintro n s5 ⟨i, H5, I5, st5, n5, w5⟩
    rcases turn i n H5 w5 with ⟨stop, qq⟩ | ⟨go, Nx, hNx, step⟩
    · have td := T.done (X.blk s3 H3 scope ce fp) rfl rfl rfl hc i [] s5 _ H5 (fun _ _ => False) I5 (stat I5 n5) st5 stop
      refine thnF td fun r s6 ⟨hr, I6⟩ => ?_
      subst hr
      have I7 : Inv X pins σ H5 s6 := I3.call' (ch := fp) I6.os I6.base I6.hok I6.bare fun b hb => ⟨(f3 b hb).1.2.2.2.1, (f3 b hb).1.2.1, (f3 b hb).1.2.2.2.2.1, (f3 b hb).1.2.2.2.2.2⟩
      have nC : H5 s3.heap.objs.size = none := by
        have z : H5 ce.locals = none := I6.free
        rw [cL] at z
        exact z
      obtain ⟨m, hn, _⟩ := I6.loc
      have hn : s6.heap.Ns ce.locals m := hn
      rw [cL] at hn
      exact hRR D s3.heap.objs.size s6 m H5 I7 qq hn (I3.fpOk (Nat.le_refl _) nC)
    · have ti := T.item (X.blk s3 H3 scope ce fp) rfl rfl rfl hc i [] s5 _ H5 (fun _ _ => False) I5 (stat I5 n5) st5 go
      refine thnF ti fun r s6 ⟨u, hr, h6⟩ => ?_
      subst hr
      refine thnF h6 fun _ s7 ⟨x, H7, I7, r7, y7, st7, n7⟩ => ?_
      have I7' := I7.pinned (stat I7 n7) (T.obj _ _ st7)
      refine thnF (pg.run _ s7 _ H7 x u _ I7' r7 (step x H7 y7)) fun _ s8 ⟨σ8, H8, I8, hw8, q8⟩ => ?_
      refine thnF (pt.run _ s8 σ8 H8 _ I8 q8) fun b s9 ⟨H9, I9, q9⟩ => ?_
      have fin : ∀ {s' : Shared} {H' : Hp}, Inv (X.blk s3 H3 scope ce fp) ([] ++ pinsAt fp s7.heap) σ8 H' s' → Nx H' → ∃ m, m < n ∧ ∃ i H', Inv (X.blk s3 H3 scope ce fp) [] (wipe σ (own.map (·.2))) H' s' ∧ tn i s'.heap ∧ (∀ b ∈ fp, H' b = none) ∧ W i m H' := fun {s' H'} I' nx => by
        obtain ⟨m', hm, w'⟩ := hNx H' nx
        have pin' : ∀ b ∈ fp, ∀ o, s7.heap.get? b = some o → s'.heap.get? b = some o ∧ H' b = none := fun b hb o e =>
          let z := I'.pin (b, o) (List.mem_append_right _ (List.mem_append_right _ (mem_pinsAt hb e)))
          ⟨z.1, z.2.1⟩
        have hl : (wipe σ (own.map (·.2))).length = σ8.length := by rw [← hw8, wipe_length]
        refine ⟨m', hm, i + 1, H', (I'.unpinned (pins := [])).weak hl (fun j v e => ?_), T.keep _ _ _ st7 fun b hb o e => (pin' b hb o e).1, fun b hb => ?_, w'⟩
        · rw [← hw8] at e
          exact (wipe_some e).1
        · obtain ⟨o, e, _⟩ := T.obj _ _ st7 b hb
          exact (pin' b hb o e).2
      cases b with
      | false =>
        simp only [Bool.false_eq_true, if_false] at q9 ⊢
        exact fin I9 q9
      | true =>
        simp only [if_true] at q9 ⊢
        refine thnF (pe.run _ s9 σ8 H9 _ I9 q9) fun z s10 ⟨yv, H10, I10, r10, st, hD10, ha10⟩ => ?_
        exact F.add (X.blk s3 H3 scope ce fp) _ _ _ _ _ _ _ _ _ _ _ rfl rfl rfl rfl I10 hD10 r10 ha10 fun st' s11 nx I11 => fin I11 nx
  exact codeAny_compStart_set loop (T.self X.A 0 _ _ _ st4 loop)
theorem pe_scG {F : Fam X.prog X.w X.K X.A} {elt tg iter : Expr} {ifs : List Expr} {scope : Scope} {own : List (PySem.Str × Nat)} {pos : Pos} {wi : TI} {g : TG} {tt : TT} {te : TE} (hc : X.calm = true) (hN : X.N.Nodup) (hi : PI X tg iter wi) (ok : BlkOk X.N X.env.scope scope own)
    (hg : ∀ (s : Shared) (H : Hp) (C : Addr) (cl : List (PySem.Str × Addr)) (fp : List Addr), PG (X.blk s H scope (compEnvC scope cl C X.env) fp) tg g) (ht : ∀ (s : Shared) (H : Hp) (C : Addr) (cl : List (PySem.Str × Addr)) (fp : List Addr), PTs (X.blk s H scope (compEnvC scope cl C X.env) fp) ifs tt)
    (he : ∀ (s : Shared) (H : Hp) (C : Addr) (cl : List (PySem.Str × Addr)) (fp : List Addr), PE (X.blk s H scope (compEnvC scope cl C X.env) fp) elt te) (hs : ∀ x, foldedSetIterable iter X.env x = pure x := by intro _; rfl) :
    PE X (.SetComp elt [⟨tg, iter, ifs, 0⟩] scope pos) (tScG F wi g tt te (own.map (·.2))) := by
  refine ⟨fun pins s σ H Q I h => ?_⟩
  rw [eval_SetComp]
  refine core hc hN I hi ok hg ht he hs h fun D C s' m H' I' q hn f => ⟨m, hn, fun h'' sb => ?_⟩
  obtain ⟨f0, f1, f2, f3, f4, f5⟩ := f
  exact ⟨.ref D, H', I'.turned (t' := s'.toks) (fun b o hb e => (sb.2 b hb).trans e) f0 f1 f3 f4 f5, rfl, q⟩
end
end KS
set_option Elab.async false
set_option linter.all false
set_option maxRecDepth 100000
set_option maxHeartbeats 4000000
namespace PD
open PySem PySem.Spec PyProof.Rows L2
section
variable {C : Cn} {b : Nat} {δ : List Sl} {F : Fin} {pos p0 p1 apos : Pos} {e e1 e2 c tg iter : Expr} {rest ss els : List Stmt} {es : List Expr}
/-- an if, what holds behind it told once -/
theorem sv_ifJ (J : Nat → List Sl → Prop) (h : ET C b δ c (fun b1 k => if k = true then SV C b1 δ ss { F with N := J } else SV C b1 δ els { F with N := J })) (k : ∀ b' δ', J b' δ' → SV C b' δ' rest F) : SV C b δ (.If c ss els pos :: rest) F := by
  refine sv_if fun os σ H st Q q => h os σ H st Q fun kk H' b' f j hk => q kk H' b' f j ?_
  cases kk with
  | true => exact SV.imp (F' := { F with N := fun b2 δ2 => SV C b2 δ2 rest F }) hk k (fun _ _ z => z) (fun _ _ z => z) (fun _ _ z => z)
  | false => exact SV.imp (F' := { F with N := fun b2 δ2 => SV C b2 δ2 rest F }) hk k (fun _ _ z => z) (fun _ _ z => z) (fun _ _ z => z)
end
end PD
set_option Elab.async false
set_option linter.all false
set_option maxRecDepth 100000
set_option maxHeartbeats 2000000
/-! enumerate of a tuple: as a list, as what is walked -/
namespace EN
open PySem PySem.Spec PyProof.Rows L2
section
variable {prog : Program} {w : World} {A : Around} {E : Value → Shared → Prop} {s : Shared}
theorem alive {M : Model} {a : Addr} {Q : Option Obj → Shared → Prop} (h : Q (s.heap.get? a) s) : wpAny M A (loadIfAlive a) Q E s := fun _ _ _ => h
/-- an enumerate whose own tuple is out and kept by somebody -/
abbrev Gone (h : Heap) (e it : Addr) (c : Int) (T : Addr) (b : Bool) (item : Value) : Prop :=
  h.get? e = some { cls := .type "enumerate", dict := none, data := .fields #[rawInt T, .bool b, .ref it, rawInt c, .none, item], slots := #[] }
theorem next_gone {e it : Addr} {fp : List Addr} {n i : Nat} {c : Int} {P : Nat → Value → Prop} {St : Nat → Heap → Prop} {item : Value} {T : Addr} {b : Bool} {o : Obj} {Q : Value → Shared → Prop}
    (D : Draws prog w A it fp n P St) (he : Gone s.heap e it c T b item) (hT : s.heap.get? T = some o) (hTe : T ≠ e) (hTi : T ≠ it) (hst : St i s.heap) (hlt : i < n) (hne : e ≠ it) (hef : e ∉ fp)
    (hQ : ∀ x h' tk b', P i x → Gone h' e it (c + 1) T b' item → St (i + 1) h' →
      h'.get? s.heap.objs.size = some { cls := .type "tuple", data := .seq #[.int c tk, x] } → h'.objs.size = s.heap.objs.size + 1 →
      (∀ b o, b ≠ e → b ≠ it → s.heap.get? b = some o → h'.get? b = some o) → Q (.ref s.heap.objs.size) { s with heap := h', toks := tk + 1 }) :
    wpAny (model prog w) A (Builtin.«enumerate.__next__» ⟨[.ref e], []⟩) (fun fin s' => ∃ v, fin = .done (.ret v) ∧ Q v s') E s := by
  obtain ⟨hp, g, d, tk₀, os⟩ := s
  show wpAny _ _ (field (.ref e) 2 >>= _) _ _ _
  refine wpAny_bind (wpAny_field he rfl (x := .ref it) rfl ?_)
  refine wpAny_bind (D.item i _ _ _ hlt hst fun x h1 tk hx st1 sb1 => ?_)
  have e1 : Gone h1 e it c T b item := (sb1.2 e hne).trans he
  show wpAny _ _ (field (.ref e) 3 >>= _) _ _ ⟨h1, g, d, tk, os⟩
  refine wpAny_bind (wpAny_field e1 rfl (x := rawInt c) rfl ?_)
  show wpAny _ _ (field (.ref e) 4 >>= _) _ _ ⟨h1, g, d, tk, os⟩
  refine wpAny_bind (wpAny_field e1 rfl (x := .none) rfl ?_)
  show wpAny _ _ (mkInt c >>= _) _ _ ⟨h1, g, d, tk, os⟩
  refine wpAny_bind (wpAny_mkInt ?_)
  show wpAny _ _ (setField (.ref e) 3 (rawInt (c + 1)) >>= _) _ _ ⟨h1, g, d, tk + 1, os⟩
  refine wpAny_bind (wpAny_setField_rec e1 (by simp) fun h2 e2 sb2 => ?_)
  replace sb2 : Heap.SameBut e h1 h2 := sb2
  replace e2 : Gone h2 e it (c + 1) T b item := e2
  show wpAny _ _ (setField (.ref e) 4 .none >>= _) _ _ ⟨h2, g, d, tk + 1, os⟩
  refine wpAny_bind (wpAny_setField_rec e2 (by simp) fun h3 e3 sb3 => ?_)
  replace sb3 : Heap.SameBut e h2 h3 := sb3
  replace e3 : Gone h3 e it (c + 1) T b item := e3
  show wpAny _ _ (newTuple [.int c tk, x] >>= _) _ _ ⟨h3, g, d, tk + 1, os⟩
  refine wpAny_bind (wpAny_newTuple ?_)
  have e4 : Gone (h3.push { cls := .type "tuple", data := .seq #[.int c tk, x] }) e it (c + 1) T b item := Heap.get?_push_of_some _ e3
  have z3 : h3.objs.size = hp.objs.size := by rw [sb3.1, sb2.1, sb1.1]
  have n4 : (h3.push { cls := .type "tuple", data := .seq #[.int c tk, x] }).get? hp.objs.size = some { cls := .type "tuple", data := .seq #[.int c tk, x] } := by rw [← z3]; exact Heap.get?_push_size _ rfl
  have z4 : (h3.push { cls := .type "tuple", data := .seq #[.int c tk, x] }).objs.size = hp.objs.size + 1 := by rw [Heap.size_push, z3]
  have k3 : ∀ b o, b ≠ e → b ≠ it → hp.get? b = some o → h3.get? b = some o := fun b o he hi hb => sb3.extBut b o he (sb2.extBut b o he (sb1.extBut b o hi hb))
  have k4 : ∀ b o, b ≠ e → b ≠ it → hp.get? b = some o → (h3.push { cls := .type "tuple", data := .seq #[.int c tk, x] }).get? b = some o := fun b o he hi hb => Heap.get?_push_of_some _ (k3 b o he hi hb)
  have st4 : St (i + 1) (h3.push { cls := .type "tuple", data := .seq #[.int c tk, x] }) := D.frame _ _ _ st1 fun b hb o y => by
    have hbe : b ≠ e := fun q => hef (q ▸ hb)
    exact Heap.get?_push_of_some _ (sb3.extBut b o hbe (sb2.extBut b o hbe y))
  rw [z3]
  generalize (h3.push { cls := .type "tuple", data := .seq #[.int c tk, x] }) = h4 at e4 n4 z4 k4 st4 ⊢
  have hel : e < hp.objs.size := Heap.lt_size he
  show wpAny _ _ (Builtin.SmallTypes.ownedTupleIsFree (.ref e) >>= _) _ _ ⟨h4, g, d, tk + 1, os⟩
  refine wpAny_bind ?_
  unfold Builtin.SmallTypes.ownedTupleIsFree
  refine wpAny_bind (wpAny_field e4 rfl (x := rawInt T) rfl ?_)
  show wpAny _ _ (loadIfAlive ((T : Int)).toNat >>= _) _ _ _
  refine wpAny_bind (alive ?_)
  rw [Int.toNat_natCast, show (Shared.heap ⟨h4, g, d, tk + 1, os⟩).get? T = some o from k4 T o hTe hTi hT]
  dsimp only
  simp only [Option.isNone_some, Bool.false_eq_true, if_false]
  refine wpAny_bind (wpAny_field e4 rfl (x := .bool b) rfl ?_)
  have fin : ∀ h' b', Gone h' e it (c + 1) T b' item → (∀ a u, a ≠ e → h4.get? a = some u → h'.get? a = some u) → h'.objs.size = h4.objs.size → Q (.ref hp.objs.size) ⟨h', g, d, tk + 1, os⟩ := fun h' b' e' k' z' =>
    hQ x h' tk b' hx e' (D.frame _ _ _ st4 fun a ha u y => k' a u (fun q => hef (q ▸ ha)) y) (k' _ _ (Nat.ne_of_gt hel) n4) (by rw [z', z4]) fun a u h1 h2 h3 => k' a u h1 (k4 a u h1 h2 h3)
  cases b with
  | true =>
    have t1 : (Value.bool true != Value.bool true) = false := by decide
    rw [if_neg (by rw [t1]; exact Bool.false_ne_true)]
    refine wpAny_pure ?_
    simp only [Bool.false_eq_true, if_false]
    exact wpAny_pure ⟨_, rfl, fin h4 true e4 (fun a u _ y => y) rfl⟩
  | false =>
    have t1 : (Value.bool false != Value.bool true) = true := by decide
    rw [if_pos t1]
    refine wpAny_bind (wpAny_setField_rec e4 (by simp) fun h5 e5 sb5 => ?_)
    replace sb5 : Heap.SameBut e h4 h5 := sb5
    refine wpAny_pure ?_
    simp only [Bool.false_eq_true, if_false]
    exact wpAny_pure ⟨_, rfl, fin h5 true e5 (fun a u hn y => (sb5.2 a hn).trans y) sb5.1⟩
/-- an enumerate at the count c, its own tuple free or kept by somebody -/
def En (h : Heap) (e it : Addr) (c : Int) : Prop :=
  (∃ old, IsEnum h e it c old) ∨ ∃ T b item o, Gone h e it c T b item ∧ h.get? T = some o ∧ T ≠ e ∧ T ≠ it
theorem En.ty {e it : Addr} {c : Int} (h : En s.heap e it c) : s.TypeIs (.ref e) "enumerate" := by
  rcases h with ⟨old, h⟩ | ⟨T, b, i, o, h, _⟩
  · exact ⟨_, h, rfl⟩
  · exact ⟨_, h, rfl⟩
theorem En.keep {h h' : Heap} {e it : Addr} {c : Int} (x : En h e it c) (S : Addr) (hS : S ≠ e) (hT : ∀ T, h.get? T ≠ none → T ≠ S → ∀ o, h.get? T = some o → h'.get? T = some o) (hL : ∃ o, h'.get? S = some o) : En h' e it c := by
  rcases x with ⟨old, x⟩ | ⟨T, b, i, o, x, t, h1, h2⟩
  · exact .inl ⟨old, hT e (by rw [x]; simp) (Ne.symm hS) _ x⟩
  · have hx := hT e (by rw [x]; simp) (Ne.symm hS) _ x
    by_cases z : T = S
    · obtain ⟨o', e'⟩ := hL
      exact .inr ⟨T, b, i, o', hx, by rw [z]; exact e', h1, h2⟩
    · exact .inr ⟨T, b, i, o, hx, hT T (by rw [t]; simp) z _ t, h1, h2⟩
theorem next_item {e it : Addr} {fp : List Addr} {n i : Nat} {c : Int} {P : Nat → Value → Prop} {St : Nat → Heap → Prop} {Q : Option Value → Shared → Prop}
    (D : Draws prog w A.in1 it fp n P St) (he : En s.heap e it c) (hst : St i s.heap) (hlt : i < n) (hne : e ≠ it) (hef : e ∉ fp)
    (hQ : ∀ x h' tk, P i x → En h' e it (c + 1) → St (i + 1) h' →
      h'.get? s.heap.objs.size = some { cls := .type "tuple", data := .seq #[.int c tk, x] } → h'.objs.size = s.heap.objs.size + 1 →
      (∀ b o, b ≠ e → b ≠ it → s.heap.get? b = some o → h'.get? b = some o) → Q (some (.ref s.heap.objs.size)) { s with heap := h', toks := tk + 1 }) :
    wpAny (model prog w) A (pyNext (.ref e)) Q E s := by
  have hty := he.ty
  have hel : e < s.heap.objs.size := by obtain ⟨o, h, _⟩ := hty; exact Heap.lt_size h
  have hil : it < s.heap.objs.size := by obtain ⟨o, h⟩ := D.live _ _ hst; exact Heap.lt_size h
  rcases he with ⟨old, he⟩ | ⟨T, b, item, o, he, hT, h1, h2⟩
  · refine wpAny_pyNext_enum_itemC D he hst hlt hne hef fun x h' tk hx ho st' ht hz hk => hQ x h' tk hx ?_ st' ht hz hk
    exact .inr ⟨_, _, _, _, ho, ht, Nat.ne_of_gt hel, Nat.ne_of_gt hil⟩
  · unfold pyNext
    refine wpAny_bind (wpAny_attempt (wpAny_callSpecial?_slot (name := Str.ofString "__next__") hty PySem.F.slot_enumerate_next
      (wpAny_call_entry PySem.F.slot_enumerate_next hty PySem.F.entry_enumerate_next
        (next_gone D he hT h1 h2 hst hlt hne hef fun x h' tk b' hx ho st' ht hz hk => wpAny_pure (hQ x h' tk hx (.inr ⟨T, b', item, o, ho, hk _ _ h1 h2 hT, h1, h2⟩) st' ht hz hk)) (PySem.F.args_enumerate_next_1 _))))
theorem next_end {e it : Addr} {fp : List Addr} {n : Nat} {c : Int} {P : Nat → Value → Prop} {St : Nat → Heap → Prop} {Q : Option Value → Shared → Prop}
    (D : Draws prog w A.in1 it fp n P St) (he : En s.heap e it c) (hst : St n s.heap)
    (hQ : ∀ h', Heap.ExtBut it s.heap h' → Q none { s with heap := h' }) : wpAny (model prog w) A (pyNext (.ref e)) Q E s := by
  have hty := he.ty
  rcases he with ⟨old, he⟩ | ⟨T, b, item, o, he, hT, h1, h2⟩
  · exact wpAny_pyNext_enum_endD D he hst hQ
  · unfold pyNext
    refine wpAny_bind (wpAny_attempt (wpAny_callSpecial?_slot (name := Str.ofString "__next__") hty PySem.F.slot_enumerate_next
      (wpAny_call_entry PySem.F.slot_enumerate_next hty PySem.F.entry_enumerate_next ?_ (PySem.F.args_enumerate_next_1 _))))
    show wpAny _ _ (field (.ref e) 2 >>= _) _ _ _
    refine wpAny_bind (wpAny_field he rfl (x := .ref it) rfl ?_)
    refine wpAny_bind (D.done _ _ _ hst fun h' x he' hx' => ?_)
    obtain ⟨o, ho, hc⟩ := hx'
    refine wpAny_bind (wpAny_isInstance (T := "StopIteration") (b := true) ⟨o, ho, hc⟩ isSubtype_stop ?_)
    exact wpAny_pure (hQ _ he')
/-- what has been collected: pairs of a count and an item -/
def Got (h : Heap) (P : Nat → Value → Prop) (lo : Addr) (acc : Array Value) (i : Nat) : Prop :=
  acc.size = i ∧ ∀ j, j < i → ∃ T t x, (lo ≤ T ∧ acc[j]? = some (.ref T)) ∧ h.get? T = some { cls := .type "tuple", data := .seq #[.int (j : Nat) t, x] } ∧ P j x
theorem Got.keep {h h' : Heap} {P : Nat → Value → Prop} {lo : Addr} {acc : Array Value} {i : Nat} (g : Got h P lo acc i) (k : ∀ T xs, h.get? T = some { cls := .type "tuple", data := .seq xs } → h'.get? T = some { cls := .type "tuple", data := .seq xs }) : Got h' P lo acc i :=
  ⟨g.1, fun j hj => let ⟨T, t, x, h1, h2, h3⟩ := g.2 j hj; ⟨T, t, x, h1, k _ _ h2, h3⟩⟩
theorem Got.push {h : Heap} {P : Nat → Value → Prop} {lo : Addr} {acc : Array Value} {i : Nat} (g : Got h P lo acc i) {T : Addr} (hl : lo ≤ T) {t : Tok} {x : Value} (e : h.get? T = some { cls := .type "tuple", data := .seq #[.int (i : Nat) t, x] }) (p : P i x) : Got h P lo (acc.push (.ref T)) (i + 1) := by
  refine ⟨by rw [Array.size_push, g.1], fun j hj => ?_⟩
  by_cases z : j = i
  · subst z
    exact ⟨T, t, x, ⟨hl, by rw [Array.getElem?_push, if_pos g.1.symm]⟩, e, p⟩
  · obtain ⟨T', t', x', h1, h2, h3⟩ := g.2 j (by omega)
    exact ⟨T', t', x', ⟨h1.1, by rw [Array.getElem?_push, if_neg (by rw [g.1]; exact z)]; exact h1.2⟩, h2, h3⟩
abbrev LstAt (h : Heap) (S : Addr) (acc : Array Value) (c : Nat) : Prop := h.get? S = some { cls := .type "list", dict := none, data := .seq acc c, slots := #[] }
theorem loop {lo e it S : Addr} {fp : List Addr} {n : Nat} {P : Nat → Value → Prop} {St : Nat → Heap → Prop} {R : Result → Shared → Prop} {res : Value}
    (D : Draws prog w A.in1.in1 it fp n P St) (hne : e ≠ it) (hef : e ∉ fp) (hSe : S ≠ e) (hSi : S ≠ it) (hSf : S ∉ fp) (hn : n ≤ sizeLine) (hIt : ∀ i h, St i h → ∀ xs, h.get? it ≠ some { cls := .type "tuple", data := .seq xs }) :
    ∀ (k i : Nat) (s : Shared) (acc : Array Value) (c : Nat), n - i = k → i ≤ n → En s.heap e it (i : Nat) → St i s.heap → LstAt s.heap S acc c → Got s.heap P lo acc i → lo ≤ s.heap.objs.size →
    (∀ h' tk acc' c', (∀ b o, b ≠ S → b ≠ e → b ≠ it → s.heap.get? b = some o → h'.get? b = some o) → LstAt h' S acc' c' → Got h' P lo acc' n → R (.ok (.ret res)) { s with heap := h', toks := tk }) →
    codeAny (model prog w) A (.builtin "list.extend.loop" ⟨[.ref S, .ref e, res], []⟩) R s := by
  intro k
  induction k with
  | zero =>
    intro i s acc c hk hi he hst hS hg hlo hR
    have hin : i = n := by omega
    subst hin
    refine codeAny_builtin PySem.F.entry_extend_loop ?_
    rw [Around.under_plainId PySem.F.plain_extend_loop _]
    show wpAny _ A.in1 (pyNext (.ref e) >>= _) _ _ s
    refine wpAny_bind (next_end D he hst fun h' xb => ?_)
    refine wpAny_pure (hR h' s.toks acc c (fun b o _ _ hb h => xb b o hb h) (xb S _ hSi hS) (hg.keep fun T xs h => xb T _ (fun z => ?_) h))
    subst z
    exact hIt _ _ hst _ h
  | succ k ih =>
    intro i s acc c hk hi he hst hS hg hlo hR
    have hlt : i < n := by omega
    refine codeAny_builtin PySem.F.entry_extend_loop ?_
    rw [Around.under_plainId PySem.F.plain_extend_loop _]
    show wpAny _ A.in1 (pyNext (.ref e) >>= _) _ _ s
    refine wpAny_bind (next_item D he hst hlt hne hef fun x h' tk hx he' hst' ht hz hk' => ?_)
    have hS' : LstAt h' S acc c := hk' S _ hSe hSi hS
    have hNe : ∀ {b : Addr} {o : Obj}, s.heap.get? b = some o → b ≠ s.heap.objs.size := fun h => Nat.ne_of_lt (Heap.lt_size h)
    have hg' : Got h' P lo (acc.push (.ref s.heap.objs.size)) (i + 1) := Got.push (hg.keep fun T xs h => hk' T _ (fun z => ?_) (fun z => ?_) h) hlo ht hx
    · show wpAny _ A.in1 (updateSeq S (·.push (.ref s.heap.objs.size)) >>= _) _ _ _
      refine wpAny_bind (wpAny_updateSeq hS' rfl (wpAny_pure ⟨plainId_quiet PySem.F.plain_extend_loop _, ?_⟩) (by rw [hg.1]; omega) (by show (acc.push _).size ≤ sizeLine + 1; rw [Array.size_push, hg.1]; omega))
      have hS2 := Heap.get?_update_self (Obj.mapSeq (·.push (Value.ref s.heap.objs.size))) hS' rfl
      have oth : ∀ b o, b ≠ S → h'.get? b = some o → (h'.update S (Obj.mapSeq (·.push (Value.ref s.heap.objs.size)))).get? b = some o := fun b o hb e => (Heap.get?_update_other _ _ (Ne.symm hb)).trans e
      have nS : ∀ T xs, h'.get? T = some { cls := .type "tuple", data := .seq xs } → T ≠ S := fun T xs h z => by
        rw [z, hS'] at h
        simp at h
      refine ih (i + 1) _ (acc.push (.ref s.heap.objs.size)) _ (by omega) hlt ?_ (D.frame _ _ _ hst' fun b hb o y => oth b o (fun z => hSf (z ▸ hb)) y) hS2 (hg'.keep fun T xs h => oth T _ (nS T xs h) h) (by show lo ≤ (h'.update S _).objs.size; rw [Heap.size_update, hz]; exact Nat.le_succ_of_le hlo) fun h'' tk' acc' c' kk hl hgo => ?_
      · have e1 : ((i + 1 : Nat) : Int) = (i : Int) + 1 := by omega
        rw [e1]
        exact he'.keep S hSe (fun T _ hT o h => oth T o hT h) ⟨_, hS2⟩
      · exact hR h'' tk' acc' c' (fun b o hb h1 h2 h => kk b o hb h1 h2 (oth b o hb (hk' b o h1 h2 h))) hl hgo
    · obtain ⟨o, h1, h2⟩ := he.ty
      rw [z] at h
      rw [h] at h1
      cases h1
      simp at h2
    · subst z
      exact hIt _ _ hst _ h
theorem no_len : typeLookup (.type "enumerate") "__len__" = pure none := by rw [typeLookup_type, builtinLookup_eq_fast]; kernel_rfl
theorem no_hint : typeLookup (.type "enumerate") "__length_hint__" = pure none := by rw [typeLookup_type, builtinLookup_eq_fast]; kernel_rfl
theorem extend_en {lo e it S : Addr} {fp : List Addr} {n : Nat} {P : Nat → Value → Prop} {St : Nat → Heap → Prop} {R : Result → Shared → Prop} {res old : Value} {c0 : Nat}
    (D : Draws prog w A.in1.in1 it fp n P St) (hne : e ≠ it) (hef : e ∉ fp) (hSe : S ≠ e) (hSi : S ≠ it) (hSf : S ∉ fp) (hn : n ≤ sizeLine) (hIt : ∀ i h, St i h → ∀ xs, h.get? it ≠ some { cls := .type "tuple", data := .seq xs })
    (he : IsEnum s.heap e it 0 old) (hst : St 0 s.heap) (hS : LstAt s.heap S #[] c0) (hlo : lo ≤ s.heap.objs.size)
    (hR : ∀ h' tk acc' c', (∀ b o, b ≠ S → b ≠ e → b ≠ it → s.heap.get? b = some o → h'.get? b = some o) → LstAt h' S acc' c' → Got h' P lo acc' n → R (.ok (.ret res)) { s with heap := h', toks := tk }) :
    wpAny (model prog w) A.in1 (Builtin.List.listExtendWith (.ref S) (.ref e) res)
      (fun fin s' => match fin with | .done f => R (.ok f) s' | .again c' => c'.quiet = true ∧ codeAny (model prog w) A c' R s') (fun e s' => R (.error e) s') s := by
  have hT : s.TypeIs (.ref e) "enumerate" := ⟨_, he, rfl⟩
  unfold Builtin.List.listExtendWith
  refine wpAny_bind (wpAny_typeOf hT ?_)
  have h1 : Builtin.List.listSameRef (.ref S) (.ref e) = false := by simp [Builtin.List.listSameRef, hSe]
  have h2 : (Value.type "enumerate" == Value.type "list") = false := by decide
  have h3 : (Value.type "enumerate" == Value.type "tuple") = false := by decide
  simp only [h1, h2, h3, Bool.or_false, Bool.false_eq_true, if_false]
  refine wpAny_bind (wpAny_pyIter_enum he ?_)
  refine wpAny_bind (wpAny_holding ?_)
  unfold Builtin.List.listLengthHint
  refine wpAny_bind (wpAny_specialOf hT no_len ?_)
  show wpAny _ A.in1 (specialOf (Value.ref e) (Str.ofString "__length_hint__") >>= _) _ _ _
  refine wpAny_bind (wpAny_specialOf hT no_hint ?_)
  refine wpAny_pure ?_
  show wpAny _ A.in1 (rule "list.extend.makes-room" >>= fun _ => Builtin.List.listTouch (.ref S) >>= fun _ => again (.builtin "list.extend.loop" ⟨[.ref S, .ref e, res], []⟩)) _ _ _
  refine wpAny_bind (wpAny_rule ?_)
  refine wpAny_bind ?_
  show wpAny _ A.in1 (updateSeq S (·.push .none) >>= fun _ => updateSeq S (·.pop)) _ _ _
  refine wpAny_bind (wpAny_updateSeq hS rfl ?_)
  have hS2 := Heap.get?_update_self (Obj.mapSeq (·.push Value.none)) hS rfl
  refine wpAny_updateSeq hS2 rfl ?_
  have hS3 := Heap.get?_update_self (Obj.mapSeq (·.pop)) hS2 rfl
  have oth : ∀ b o, b ≠ S → s.heap.get? b = some o → ((s.heap.update S (Obj.mapSeq (·.push Value.none))).update S (Obj.mapSeq (·.pop))).get? b = some o :=
    fun b o hb e => (Heap.get?_update_other _ _ (Ne.symm hb)).trans ((Heap.get?_update_other _ _ (Ne.symm hb)).trans e)
  refine wpAny_pure ⟨plainId_quiet PySem.F.plain_extend_loop _, loop D hne hef hSe hSi hSf hn hIt n 0 _ _ _ rfl (Nat.zero_le _) (.inl ⟨old, oth e _ (Ne.symm hSe) he⟩) (D.frame _ _ _ hst fun b hb o y => oth b o (fun z => hSf (z ▸ hb)) y) hS3 ⟨rfl, fun j hj => absurd hj (Nat.not_lt_zero _)⟩ (by show lo ≤ ((s.heap.update S _).update S _).objs.size; rw [Heap.size_update, Heap.size_update]; exact hlo) fun h' tk acc' c' k hl hg => ?_⟩
  exact hR h' tk acc' c' (fun b o hb h1 h2 h => k b o hb h1 h2 (oth b o hb h)) hl hg
theorem call_list_en {e it : Addr} {fp : List Addr} {n : Nat} {P : Nat → Value → Prop} {St : Nat → Heap → Prop} {Q : Value → Shared → Prop} {old : Value}
    (D : Draws prog w A.in1.in1.in1 it fp n P St) (hne : e ≠ it) (hef : e ∉ fp) (hfp : ∀ b ∈ fp, b < s.heap.objs.size) (hn : n ≤ sizeLine) (hIt : ∀ i h, St i h → ∀ xs, h.get? it ≠ some { cls := .type "tuple", data := .seq xs })
    (he : IsEnum s.heap e it 0 old) (hst : St 0 s.heap)
    (hQ : ∀ h' tk acc' c', (∀ b o, b ≠ e → b ≠ it → s.heap.get? b = some o → h'.get? b = some o) → LstAt h' s.heap.objs.size acc' c' → Got h' P s.heap.objs.size acc' n → Q (.ref s.heap.objs.size) { s with heap := h', toks := tk }) :
    wpAny (model prog w) A (call (.type "list") [.ref e]) Q E s := by
  have hel : e < s.heap.objs.size := Heap.lt_size he
  have hil : it < s.heap.objs.size := by obtain ⟨o, h⟩ := D.live _ _ hst; exact Heap.lt_size h
  refine callType_codes (Q₁ := fun obj s₁ => obj = .ref s.heap.objs.size ∧ s₁ = { s with heap := s.heap.push { cls := .type "list", data := .seq #[] } }) PySem.F.called_list (PySem.F.typeCall_list_1 _) PySem.F.entry_list_init
    (code_list_new _ ⟨rfl, rfl⟩) fun obj s₁ h₁ => ?_
  obtain ⟨rfl, rfl⟩ := h₁
  have hS : (s.heap.push { cls := .type "list", data := .seq #[] }).get? s.heap.objs.size = some { cls := .type "list", data := .seq #[] } := Heap.get?_push_size _ rfl
  refine ⟨⟨_, hS, rfl⟩, PySem.F.args_list_init_2 _ _, ?_⟩
  show wpAny _ _ (do let old ← Builtin.List.listItems (.ref s.heap.objs.size); Builtin.List.listUpdate (.ref s.heap.objs.size) (fun _ => #[]); letGo old.toList.reverse; Builtin.List.listExtendWith (.ref s.heap.objs.size) (.ref e) .none) _ _ _
  refine wpAny_bind ?_
  unfold Builtin.List.listItems
  refine wpAny_bind (wpAny_seqItems hS rfl (wpAny_pure ?_))
  show wpAny _ _ (updateSeq s.heap.objs.size (fun _ => #[]) >>= fun _ => letGo (#[] : Array Value).toList.reverse >>= fun _ => Builtin.List.listExtendWith (.ref s.heap.objs.size) (.ref e) .none) _ _ _
  refine wpAny_bind (wpAny_updateSeq hS rfl ?_)
  have hS2 := Heap.get?_update_self (Obj.mapSeq (fun _ => (#[] : Array Value))) hS rfl
  have oth : ∀ b o, s.heap.get? b = some o → ((s.heap.push { cls := .type "list", data := .seq #[] }).update s.heap.objs.size (Obj.mapSeq (fun _ => (#[] : Array Value)))).get? b = some o := fun b o h =>
    (Heap.get?_update_other _ _ (Nat.ne_of_gt (Heap.lt_size h))).trans (Heap.get?_push_of_some _ h)
  refine wpAny_bind (wpAny_letGo ?_)
  refine extend_en (A := A.in1) D hne hef (Nat.ne_of_gt hel) (Nat.ne_of_gt hil) (fun z => Nat.lt_irrefl _ (hfp _ z)) hn hIt (oth e _ he) (D.frame _ _ _ hst fun b hb o y => oth b o y) hS2 (by show s.heap.objs.size ≤ ((s.heap.push _).update _ _).objs.size; rw [Heap.size_update, Heap.size_push]; exact Nat.le_succ _) fun h' tk acc' c' k hl hg => ?_
  exact ⟨rfl, hQ h' tk acc' c' (fun b o h1 h2 h => k b o (Nat.ne_of_lt (Heap.lt_size h)) h1 h2 (oth b o h)) hl hg⟩
end
end EN
set_option Elab.async false
set_option linter.all false
set_option maxRecDepth 100000
set_option maxHeartbeats 2000000
namespace EN
open PySem PySem.Spec PyProof.Rows L2
set_option maxHeartbeats 2000000 in
theorem meets_new {v : Value} {o : Obj} {H : Heap → Prop} (B : Begins v o H) :
    Meets (Builtin.«enumerate.__new__» ⟨[.type "enumerate", v], []⟩) (fun _ R s => H s.heap ∧
      R (.ok (.ret (.ref (s.heap.push o).objs.size))) { s with heap := (s.heap.push o).push { cls := .type "enumerate", data := .fields #[.none, .bool false, .ref s.heap.objs.size, rawInt 0, .none, .none] } }) :=
  .of_wp fun prog w A R s h => by
    obtain ⟨hp, g, d, tk, os⟩ := s; obtain ⟨h1, h⟩ := h
    have hsub := sub_enumerate
    have q1 : ∀ {A' : Around} {E : Value → Shared → Prop} {Q : Value → Shared → Prop}, Q (.ref hp.objs.size) ⟨hp.push o, g, d, tk, os⟩ → wpAny (model prog w) A' (pyIter v) Q E ⟨hp, g, d, tk, os⟩ :=
      fun q => B.iter prog w _ _ ⟨hp, g, d, tk, os⟩ _ h1 q
    wp_walk using q1
    refine wpAny_stack_any fun st => wpAny_pure ?_
    split
    · rename_i c _ _ _ _ _
      cases (c == Value.type "enumerate")
      · wp_walk using q1
        exact ⟨_, rfl, h⟩
      · wp_walk using q1
        exact ⟨_, rfl, h⟩
    · wp_walk using q1
      exact ⟨_, rfl, h⟩
section
variable {prog : Program} {w : World} {A : Around} {E : Value → Shared → Prop} {s : Shared}
/-- enumerate(v): its two new cells -/
theorem call_en {v : Value} {o : Obj} {H : Heap → Prop} {Q : Value → Shared → Prop} (B : Begins v o H) (h1 : H s.heap)
    (h : ∀ h', IsEnum h' (s.heap.objs.size + 1) s.heap.objs.size 0 .none → h'.get? s.heap.objs.size = some o → h'.objs.size = s.heap.objs.size + 2 →
      (∀ b u, s.heap.get? b = some u → h'.get? b = some u) → Q (.ref (s.heap.objs.size + 1)) { s with heap := h' }) :
    wpAny (model prog w) A (call (.type "enumerate") [v]) Q E s := by
  refine callType_new PySem.F.called_enumerate (by decide) (PySem.F.typeCall_enumerate_1 _) (PySem.F.newCall_enumerate_1 _) (fun obj => PySem.F.args_object_init_2 obj _) PySem.F.entry_enumerate_new (meets_new B) ⟨h1, ?_⟩
  have hz : (s.heap.push o).objs.size = s.heap.objs.size + 1 := Heap.size_push ..
  show _ ∧ _
  rw [hz]
  have he : IsEnum ((s.heap.push o).push { cls := .type "enumerate", data := .fields #[.none, .bool false, .ref s.heap.objs.size, rawInt 0, .none, .none] }) (s.heap.objs.size + 1) s.heap.objs.size 0 .none := by
    have := Heap.get?_push_size (s.heap.push o) (o := { cls := .type "enumerate", data := .fields #[.none, .bool false, .ref s.heap.objs.size, rawInt 0, .none, .none] }) rfl
    rw [hz] at this; exact this
  exact ⟨⟨_, he, rfl⟩, h _ he (Heap.get?_push_of_some _ (Heap.get?_push_size _ B.free)) (by rw [Heap.size_push, hz]) fun b u x => Heap.get?_push_of_some _ (Heap.get?_push_of_some _ x)⟩
end
end EN
set_option Elab.async false
set_option linter.all false
set_option maxRecDepth 100000
set_option maxHeartbeats 2000000
namespace EN
open PySem PySem.Spec PyProof.Rows L2
/-! ### many new objects at once -/
def upds (H N : Hp) : Hp := fun b => match N b with | some o => some o | none => H b
theorem upds_new {H N : Hp} {b : Addr} {o : HO} (h : N b = some o) : upds H N b = some o := by unfold upds; rw [h]
theorem upds_old {H N : Hp} {b : Addr} (h : N b = none) : upds H N b = H b := by unfold upds; rw [h]
section
variable {X : Cx} {pins : List (Addr × Obj)} {σ : L2.St} {H : Hp} {s : Shared}
theorem lays {N : Hp} {h' : Heap} {t' : Nat} (I : Inv X pins σ H s) (k : ∀ b u, s.heap.get? b = some u → h'.get? b = some u) (hN : ∀ b o, N b = some o → s.heap.objs.size ≤ b)
    (new : ∀ b o, N b = some o → ObjOk X.prog X.w (upds H N) h' b o) : Inv X pins σ (upds H N) { s with heap := h', toks := t' } := by
  have lt0 : ∀ {b : Addr}, b < s.heap.objs.size → N b = none := fun {b} hb => by
    cases e : N b with
    | none => rfl
    | some o => exact absurd (hN b o e) (Nat.not_le_of_lt hb)
  have old : ∀ {b : Addr} {o : HO}, H b = some o → N b = none := fun {b o} e => lt0 (I.hok.lt e)
  refine I.un ⟨fun b u q _ _ _ => k b u q, fun b u q _ _ _ => ⟨u.slots, k b u q⟩, fun b u q n _ => by rw [upds_old (lt0 (Heap.lt_size q))]; exact n, fun b u q _ => ⟨u, k b u q⟩,
    fun b xs q => by rw [upds_old (old q)]; exact q, fun b u xs q => by rw [upds_old (old q)]; exact q, fun b ps q => ⟨#[], by rw [upds_old (old q), q]; simp⟩⟩ fun b u e => ?_
  cases hb : N b with
  | some o1 =>
    rw [upds_new hb] at e
    cases e
    exact new b _ hb
  | none =>
    rw [upds_old hb] at e
    exact (I.hok b u e).stay (fun c v _ q => k c v q) (fun c q => by rw [upds_old (old q)]; exact q) fun c xs q => by rw [upds_old (old q)]; exact q
end
def adr : Value → Addr
  | .ref a => a
  | _ => 0
theorem vals_adr : ∀ {l : List Value}, (∀ v ∈ l, ∃ T, v = .ref T) → Vals (l.map fun v => V.ref (adr v)) l
  | [], _ => .nil
  | v :: l, h => by
    obtain ⟨T, rfl⟩ := h v List.mem_cons_self
    exact .cons rfl (vals_adr fun u hu => h u (List.mem_cons_of_mem _ hu))
/-- the list and its pairs -/
def news (p : Addr) (ts : List Addr) (xs : List V) : Hp := fun b =>
  if b = p then some (.lst (ts.map V.ref)) else match ts.findIdx? (fun T => decide (T = b)) with
    | some j => match xs[j]? with | some x => some (.tup [.int (j : Nat), x]) | none => none
    | none => none
theorem news_at {p : Addr} {ts : List Addr} {xs : List V} {b : Addr} {o : HO} (h : news p ts xs b = some o) : (b = p ∧ o = .lst (ts.map V.ref)) ∨ ∃ (j : Nat) (x : V), ts[j]? = some b ∧ xs[j]? = some x ∧ o = .tup [.int (j : Nat), x] := by
  unfold news at h
  split at h
  · rename_i e
    cases h
    exact .inl ⟨e, rfl⟩
  · split at h
    · rename_i j e
      split at h
      · rename_i x ex
        cases h
        obtain ⟨hj, pj, _⟩ := List.findIdx?_eq_some_iff_getElem.mp e
        exact .inr ⟨j, x, by rw [List.getElem?_eq_getElem hj, of_decide_eq_true pj], ex, rfl⟩
      · cases h
    · cases h
theorem news_tup {p : Addr} {ts : List Addr} {xs : List V} {b : Addr} {j : Nat} (hp : b ≠ p) (hl : ts.length = xs.length) (hj : ts[j]? = some b) : ∃ (j' : Nat) (x : V), ts[j']? = some b ∧ xs[j']? = some x ∧ news p ts xs b = some (.tup [.int (j' : Nat), x]) := by
  unfold news
  rw [if_neg hp]
  cases e : ts.findIdx? (fun T => decide (T = b)) with
  | none =>
    have := List.findIdx?_eq_none_iff.mp e b (List.mem_of_getElem? hj)
    simp at this
  | some j' =>
    obtain ⟨hj', pj, _⟩ := List.findIdx?_eq_some_iff_getElem.mp e
    have hx : j' < xs.length := by rw [← hl]; exact hj'
    refine ⟨j', xs[j'], by rw [List.getElem?_eq_getElem hj', of_decide_eq_true pj], List.getElem?_eq_getElem hx, ?_⟩
    simp only [List.getElem?_eq_getElem hx]
/-- list(enumerate(a tuple)): a new list of new pairs -/
def tListEn (K : PySem.W.Frag) (te : TE) : TE := fun σ H Q => te σ H fun v H1 => ∃ t xs, v = .ref t ∧ SqT K H1 t xs ∧ ∀ (p : Addr) (ts : List Addr) (H2 : Hp), (∀ a o, H1 a = some o → H2 a = some o) → H1 p = none → H2 p = some (.lst (ts.map V.ref)) → ts.length = xs.length →
  (∀ (j : Nat) (T : Addr), ts[j]? = some T → ∃ x, xs[j]? = some x ∧ H2 T = some (.tup [.int (j : Nat), x])) → Q (.ref p) H2
section
variable {X : Cx}
theorem pe_listEn {e : Expr} {te : TE} {p p2 pos pos2 : Pos} (hc : X.calm = true) (hg : Gl X "list") (hm : X.mg "list" = none) (hg2 : Gl X "enumerate") (hm2 : X.mg "enumerate" = none) (he : PE X e te)
    (hs : starEach [e] X.env = (false, eval e X.env) :: starEach [] X.env := by rfl)
    (hs2 : starEach [.Call (.Name "enumerate" p2) [e] [] pos2] X.env = (false, eval (.Call (.Name "enumerate" p2) [e] [] pos2) X.env) :: starEach [] X.env := by rfl) :
    PE X (.Call (.Name "list" p) [.Call (.Name "enumerate" p2) [e] [] pos2] [] pos) (tListEn X.K te) := by
  refine ⟨fun pins s σ H Q I h => ?_⟩
  refine Call_ (ld_blt I hg hm boot_list (PyProof.Rows.callWith_type1 (args_cons (Call_ (ld_blt I hg2 hm2 PyProof.Rows.boot_enumerate (PyProof.Rows.callWith_type1 (args_cons (thn (he.run pins s σ H _ I h) fun u s1 ⟨v, H1, I1, r1, q1⟩ => args_nil ?_) hs) hs rfl))) hs2) hs2 rfl))
  obtain ⟨t, xs, ev, hq, q⟩ := q1
  subst ev
  obtain rfl : u = Value.ref t := r1
  obtain ⟨its, rv, p', hz⟩ := I1.tuple hq
  refine call_en (begins_tuple t its.toArray) p' fun h2 hen hit hsz hk => args_nil ?_
  have I2 : Inv X pins σ H1 { s1 with heap := h2 } := I1.kept (t' := s1.toks) hk
  have hlt : t < s1.heap.objs.size := p'.lt
  have hn : its.toArray.size = xs.length := by rw [List.size_toArray, ← rv.length]
  have D := Draws.tuple (prog := X.prog) (w := X.w) (A := X.A.in1.in1.in1) (by simpa using I1.ok.hd hc) s1.heap.objs.size t (Nat.ne_of_lt hlt) its.toArray
  refine call_list_en (s := { s1 with heap := h2 }) D (Nat.succ_ne_self _) (fun z => ?_) (fun b hb => ?_) (by rw [hn]; exact hz) (fun i h st xs' z => ?_) hen ⟨⟨_, hit, rfl, rfl⟩, let ⟨o, ho, r⟩ := p'; ⟨o, hk _ _ ho, r⟩⟩ fun h' tk acc c hk' hl hg => ?_
  · rcases List.mem_cons.mp z with z | z
    · exact Nat.succ_ne_self _ z
    · rw [← List.mem_singleton.mp z] at hlt
      exact Nat.not_succ_lt_self hlt
  · show b < h2.objs.size
    rw [hsz]
    rcases List.mem_cons.mp hb with z | z
    · rw [z]; exact Nat.lt_add_of_pos_right (by decide)
    · rw [List.mem_singleton.mp z]; exact Nat.lt_trans hlt (Nat.lt_add_of_pos_right (by decide))
  · obtain ⟨⟨o, ho, hcl, _⟩, _⟩ := st
    rw [z] at ho
    cases ho
    simp at hcl
  · obtain ⟨hsz2, hall⟩ := hg
    have hlen : (acc.toList.map adr).length = xs.length := by rw [List.length_map, Array.length_toList, hsz2, hn]
    have at_ : ∀ (j : Nat) (T : Addr), (acc.toList.map adr)[j]? = some T → ∃ t u x, h2.objs.size ≤ T ∧ its[j]? = some u ∧ xs[j]? = some x ∧ RelV x u ∧ h'.get? T = some { cls := .type "tuple", data := .seq #[.int (j : Nat) t, u] } := fun j T hT => by
      obtain ⟨hj, _⟩ := List.getElem?_eq_some_iff.mp hT
      have hjx : j < xs.length := by rw [← hlen]; exact hj
      obtain ⟨T', t', u, ⟨hlo, ha⟩, hh, hu⟩ := hall j (by rw [hn]; exact hjx)
      have eT : T' = T := by
        rw [List.getElem?_map, Array.getElem?_toList, ha] at hT
        exact Option.some.inj hT
      subst eT
      have hu' : its[j]? = some u := by simpa using hu
      obtain ⟨u', hu2, ru⟩ := rv.get (i := j) (x := xs[j]) (List.getElem?_eq_getElem hjx)
      rw [hu'] at hu2
      cases hu2
      exact ⟨t', u, xs[j], hlo, hu', List.getElem?_eq_getElem hjx, ru, hh⟩
    have hP : ∀ (j : Nat) (T : Addr), (acc.toList.map adr)[j]? = some T → T ≠ h2.objs.size := fun j T hT z => by
      obtain ⟨t, u, x, _, _, _, _, hh⟩ := at_ j T hT
      rw [z, show h'.get? h2.objs.size = _ from hl] at hh
      simp at hh
    have k1 : ∀ b u, s1.heap.get? b = some u → h'.get? b = some u := fun b u e => hk' b u (fun z => ?_) (fun z => ?_) (hk b u e)
    · have I3 : Inv X pins σ (upds H1 (news h2.objs.size (acc.toList.map adr) xs)) { s1 with heap := h', toks := tk } := lays I1 k1 (fun b o e => ?_) fun b o e => ?_
      · refine ⟨.ref h2.objs.size, _, I3, rfl, q h2.objs.size (acc.toList.map adr) _ (fun a o e => ?_) (I1.hok.fresh (by rw [hsz]; exact Nat.le_add_right _ _)) (upds_new (by unfold news; rw [if_pos rfl])) hlen fun j T hT => ?_⟩
        · have : news h2.objs.size (acc.toList.map adr) xs a = none := by
            cases e2 : news h2.objs.size (acc.toList.map adr) xs a with
            | none => rfl
            | some o2 =>
              have ha := I1.hok.lt e
              rcases news_at e2 with ⟨e3, _⟩ | ⟨j, x, hT, _, _⟩
              · rw [e3, hsz] at ha
                exact absurd ha (Nat.not_lt_of_le (Nat.le_add_right _ _))
              · obtain ⟨_, _, _, hlo, _⟩ := at_ j a hT
                rw [hsz] at hlo
                exact absurd (Nat.lt_of_lt_of_le ha (Nat.le_trans (Nat.le_add_right _ 2) hlo)) (Nat.lt_irrefl _)
          rw [upds_old this]
          exact e
        · obtain ⟨j', x, h1, h2', h3⟩ := news_tup (hP j T hT) hlen hT
          obtain ⟨t1, u1, x1, _, i1, y1, _, g1⟩ := at_ j T hT
          obtain ⟨t2, u2, x2, _, i2, y2, _, g2⟩ := at_ j' T h1
          rw [g1] at g2
          have ej : (j : Int) = (j' : Int) := by
            simp at g2
            omega
          have ej2 : j = j' := by omega
          subst ej2
          exact ⟨x, h2', upds_new h3⟩
      · rcases news_at e with ⟨e1, _⟩ | ⟨j, x, hT, _, _⟩
        · rw [e1, hsz]; exact Nat.le_add_right _ _
        · obtain ⟨_, _, _, hlo, _⟩ := at_ j b hT
          rw [hsz] at hlo
          exact Nat.le_trans (Nat.le_add_right _ 2) hlo
      · rcases news_at e with ⟨e1, e2⟩ | ⟨j, x, hT, hx, e2⟩
        · subst e1 e2
          refine ⟨by rw [List.length_map, hlen]; exact hz, acc.toList, c, ?_, ?_⟩
          · rw [List.map_map]
            refine vals_adr fun v hv => ?_
            obtain ⟨j, hj⟩ := List.mem_iff_getElem?.mp hv
            have hjn : j < its.toArray.size := by rw [← hsz2, ← Array.length_toList]; exact (List.getElem?_eq_some_iff.mp hj).1
            obtain ⟨T, _, _, ⟨_, ha⟩, _⟩ := hall j hjn
            rw [Array.getElem?_toList, ha] at hj
            exact ⟨T, (Option.some.inj hj).symm⟩
          · rw [Array.toArray_toList]
            exact hl
        · subst e2
          obtain ⟨t, u, x', _, _, hx', ru, hh⟩ := at_ j b hT
          rw [hx] at hx'
          cases hx'
          exact ⟨by show 2 ≤ sizeLine; decide, [.int (j : Nat) t, u], .cons ⟨_, rfl⟩ (.cons ru .nil), ⟨_, hh, rfl, _, rfl⟩⟩
    · rw [z] at e
      exact absurd (Heap.lt_size e) (Nat.not_lt_of_le (Nat.le_add_right _ 1))
    · rw [z] at e
      exact absurd (Heap.lt_size e) (Nat.lt_irrefl _)
end
end EN
set_option Elab.async false
set_option linter.all false
set_option maxRecDepth 100000
set_option maxHeartbeats 4000000
namespace PD
open PySem PySem.Spec PyProof.Rows L2
/-! ### enumerate, reversed -/
def enumD : Nat → List D → List D
  | _, [] => []
  | k, d :: ds => .tup [.int (k : Nat), d] :: enumD (k + 1) ds
theorem enumD_len : ∀ (ds : List D) (k : Nat), (enumD k ds).length = ds.length
  | [], _ => rfl
  | d :: ds, k => by simp [enumD, enumD_len ds (k + 1)]
theorem enumD_get : ∀ (ds : List D) (k j : Nat), (enumD k ds)[j]? = (ds[j]?).map fun d => D.tup [.int ((k + j : Nat) : Nat), d]
  | [], _, _ => by simp [enumD]
  | d :: ds, k, 0 => by simp [enumD]
  | d :: ds, k, j + 1 => by
    simp only [enumD, List.getElem?_cons_succ]
    rw [enumD_get ds (k + 1) j]
    rw [show k + 1 + j = k + (j + 1) by omega]
theorem RpA.ofGet {K : PySem.W.Frag} {H : Hp} : ∀ {vs : List V} {ds : List D}, vs.length = ds.length → (∀ (i : Nat) (v : V) (d : D), vs[i]? = some v → ds[i]? = some d → Rp K H v d) → RpA K H vs ds
  | [], [], _, _ => .nil
  | v :: vs, d :: ds, hl, h => .cons (h 0 v d rfl rfl) (RpA.ofGet (by simpa using hl) fun i v' d' h1 h2 => h (i + 1) v' d' (by simpa using h1) (by simpa using h2))
  | [], _ :: _, hl, _ => by simp at hl
  | _ :: _, [], hl, _ => by simp at hl
section
variable {C : Cn} {b : Nat} {δ : List Sl} {P : Nat → Res → Prop} {pos p0 p1 pos2 : Pos} {e : Expr}
theorem ev_listEn (B : Blt C.X) (hc : C.X.calm = true) (h : EV C b δ e (fun b1 r => ∃ ds, r = .va (.tup ds) ∧ P b1 (.ow (enumD 0 ds)))) (hg : Gl C.X "list" := by rfl) (hg2 : Gl C.X "enumerate" := by rfl)
    (hs : starEach [e] C.X.env = (false, eval e C.X.env) :: starEach [] C.X.env := by rfl)
    (hs2 : starEach [.Call (.Name "enumerate" p1) [e] [] pos2] C.X.env = (false, eval (.Call (.Name "enumerate" p1) [e] [] pos2) C.X.env) :: starEach [] C.X.env := by rfl) :
    EV C b δ (.Call (.Name "list" p0) [.Call (.Name "enumerate" p1) [e] [] pos2] [] pos) P := by
  intro os σ H st Q q
  refine WE.of (EN.pe_listEn hc hg B.list hg2 B.enumerate peW hs hs2) ?_
  refine h os σ H st _ fun v H1 b1 r f1 j1 rv hr => ?_
  obtain ⟨ds, rfl, hq⟩ := hr
  cases rv with | va rv => ?_
  cases rv with | @tup t xs _ hx ra => ?_
  refine ⟨t, xs, rfl, hx.sq, fun p ts H2 k hp hl hn hall => ?_⟩
  have f2 : Fr C.Z.S H1 H2 := Fr.of k
  have j2 : C.Z.J b1 H2 := C.Z.stay _ _ _ j1 (Fr.of k)
  have ns : ¬ C.Z.S p := fun z => C.Z.there _ _ _ j1 z hp
  refine q _ H2 b1 _ (f1.trans f2) j2 (.ow (f1.back hp) hl ns (RpA.ofGet ?_ fun i v d hv hd => ?_)) hq
  · rw [List.length_map, enumD_len, hn, ra.len]
  · rw [enumD_get] at hd
    rw [List.getElem?_map] at hv
    cases eT : ts[i]? with
    | none => rw [eT] at hv; cases hv
    | some T =>
      rw [eT] at hv
      cases hv
      obtain ⟨x, hx1, hT⟩ := hall i T eT
      obtain ⟨d1, hd1, rx⟩ := ra.getV hx1
      rw [hd1] at hd
      cases hd
      rw [Nat.zero_add]
      exact .tup (.h hT) (.cons (.int _) (.cons (rx.fr f2) .nil))
theorem eic_rev {P : Nat → List D → Prop} {tg : Expr} (B : Blt C.X) (h : EV C b δ e (fun b1 r => ∃ ds, r.seq = some ds ∧ P b1 ds.reverse)) (hg : Gl C.X "reversed" := by rfl)
    (hs : starEach [e] C.X.env = (false, eval e C.X.env) :: starEach [] C.X.env := by rfl) : EIc C b δ tg (.Call (.Name "reversed" p0) [e] [] pos) P := by
  intro os σ H st R k
  refine WI.of (RT.pi_revA hg B.reversed peW hs) ?_
  refine h os σ H st _ fun v H1 b1 r f1 j1 rv hr => ?_
  obtain ⟨ds, hr, q⟩ := hr
  obtain ⟨p, xs, rfl, e1, ra⟩ := rv.seq_ hr
  have hl := ra.len
  refine ⟨p, xs, rfl, .inl ⟨e1.sq, k _ H1 b1 ds.reverse f1 j1 ⟨fun H' f i hi => ?_, fun H' f i hi => ?_⟩ q⟩⟩
  · have e' := (e1.fr f).sq (K := C.K)
    have hi' : i < xs.length := by rw [hl]; simpa using hi
    have hj : xs.length - 1 - i < xs.length := by omega
    refine ⟨⟨hi', xs, xs[xs.length - 1 - i], e', List.getElem?_eq_getElem hj⟩, fun x H2 y => ?_⟩
    obtain ⟨rfl, y⟩ := y
    obtain ⟨d, h1, h2⟩ := (ra.fr f).getV (y xs e')
    refine ⟨Fr.refl, d, ?_, h2⟩
    rw [List.getElem?_reverse (by rw [← hl]; exact hi'), ← hl]
    exact h1
  · show xs.length ≤ i
    rw [hl]
    simpa using hi
end
end PD
set_option Elab.async false
set_option linter.all false
set_option maxRecDepth 100000
set_option maxHeartbeats 2000000
namespace KS
open PySem PySem.Spec PyProof.Rows L2
/-! ### sets of texts -/
def textFam (P : Program) (w : World) (K : PySem.W.Frag) (A : Around) : Fam P w K A where
  ι := (Key → Bool) × Nat
  O := fun D i => SetK P w D i.1 i.2
  i0 := (fun _ => false, 0)
  Add := fun i _ y R => ∃ x : Str, y = .str x ∧ i.2 + 1 < scanBound ∧ R (fun j => i.1 j || decide (j = .inr x), if i.1 (.inr x) = true then i.2 else i.2 + 1)
  new := fun H h => setK_new ⟨_, #[], 0, _, Heap.get?_push_size _ rfl, ⟨rfl, rfl, rfl⟩, rfl, (fun e he => by simp at he), (fun k => by simp), (by decide), (by rfl), rfl⟩
  add := by
    intro X pins σ H s E D i R y z Q hP hw hK hA I hD r ha h
    subst hP hw hK hA
    obtain ⟨x, rfl, room, hR⟩ := ha
    have ry : RelV (kV (.inr x)) z := r
    refine call_set_add (kV_is ry) (key_scan ry) (setK_get I hD) room fun h' sb new => ?_
    have he : ∃ u, h'.get? D = some u := by
      have ⟨o, _, _, _, ho, _⟩ := new
      exact ⟨o, ho⟩
    exact h _ _ hR (I.write (e := D) (t' := s.toks + 1) (by rw [hD]; trivial) (.inl rfl) (fun b u hb hu => (sb.2 b hb).trans hu) he (setK_new new))
/-! ### sets of tuples of texts and ints -/
/-- the set, without the tuples themselves -/
def KS0 (P : Program) (w : World) (h : Heap) (a : Addr) (L : List Row) : Prop := ∃ es ep t, (∃ o, h.get? a = some o ∧ o.ExactSet ∧ o.data = .set es ep t) ∧ es.toList = L.map (rowE P w) ∧ TabOk t (L.map fun p => kh P w p.2) ∧ (L.map (·.2)).Nodup ∧
  (w.params.followText "set-order" = true ∨ t.led = true) ∧ t.mask = 7 ∧ L.length ≤ 4
theorem KSet.zero {P : Program} {w : World} {h : Heap} {a : Addr} {L : List Row} {es : Array (Int × Value)} {ep : Nat} {t : SetTable} (R : KSet P w h a L es ep t) : KS0 P w h a L := ⟨es, ep, t, R.ob, R.rows, R.tab, R.nd, R.led, R.m7, R.few⟩
theorem KS0.full {P : Program} {w : World} {h : Heap} {a : Addr} {L : List Row} (R : KS0 P w h a L) (ht : ∀ p ∈ L, IsK P w h p.2 p.1) : ∃ es ep t, KSet P w h a L es ep t := by
  obtain ⟨es, ep, t, h1, h2, h3, h4, h5, h6, h7⟩ := R
  exact ⟨es, ep, t, h1, h2, h3, h4, ht, h5, h6, h7⟩
def KSO (P : Program) (w : World) (a : Addr) (L : List Row) : HO := .ext fun h => KS0 P w h a L
theorem kso_new {P : Program} {w : World} {H : Hp} {h : Heap} {a : Addr} {L : List Row} (R : KS0 P w h a L) : ObjOk P w H h a (KSO P w a L) := by
  have ⟨_, _, _, ⟨o, ho, _⟩, _⟩ := R
  refine ⟨R, ⟨o, ho⟩, fun h1 h2 q k => ?_⟩
  obtain ⟨es, ep, t, ⟨o, ho, r⟩, q⟩ := q
  exact ⟨es, ep, t, ⟨o, k o ho, r⟩, q⟩
theorem isK_of {X : Cx} {pins : List (Addr × Obj)} {σ : L2.St} {H : Hp} {s : Shared} {b : Addr} {k : List Key} (I : Inv X pins σ H s) (h : SqT X.K H b (k.map kV)) : IsK X.prog X.w s.heap k b := by
  obtain ⟨its, rv, ⟨o, ho, hc, n, hd⟩, _⟩ := I.tuple h
  refine ⟨o, its.toArray, n, ho, hc, hd, ?_⟩
  have conv : ∀ {ks : List Key} {us : List Value}, Vals (ks.map kV) us → ItemsAre (mixKind X.prog X.w) ks us := by
    intro ks
    induction ks with
    | nil => intro us r; cases r; exact .nil
    | cons k ks ih =>
      intro us r
      cases r with
      | cons r t => exact .cons (kV_is r) (ih t)
  rw [List.toList_toArray]
  exact conv rv
def keyFam (P : Program) (w : World) (K : PySem.W.Frag) (A : Around) (hu : A.units + 1 < cLine) : Fam P w K A where
  ι := List Row
  O := fun D L => KSO P w D L
  i0 := []
  Add := fun L H y R => ∃ a k, y = .ref a ∧ SqT K H a (k.map kV) ∧ (∀ p ∈ L, SqT K H p.1 (p.2.map kV)) ∧ L.length + 1 ≤ 4 ∧ ∀ L', (k ∈ L.map (·.2) → L' = L) → (k ∉ L.map (·.2) → L'.Perm ((a, k) :: L)) → R L'
  new := fun H h => kso_new ⟨#[], 0, _, ⟨_, Heap.get?_push_size _ rfl, ⟨rfl, rfl, rfl⟩, rfl⟩, rfl, ⟨List.Pairwise.nil, rfl, rfl, .inl rfl, fun x hx => (by cases hx), fun i h j hi => (by simp at hi)⟩, List.nodup_nil, by
    show _ ∨ (!w.params.followText "set-order") = true
    cases w.params.followText "set-order"
    · exact .inr rfl
    · exact .inl rfl, rfl, by decide⟩
  add := by
    intro X pins σ H s E D L R y z Q hP hw hK hA I hD r ha h
    subst hP hw hK hA
    obtain ⟨a, k, rfl, hq, hL, hl, hR⟩ := ha
    cases r
    have hx := isK_of I hq
    have R0 : KS0 X.prog X.w s.heap D L := (I.hok D _ hD).1
    obtain ⟨es, ep, t, hS⟩ := R0.full fun p hp => isK_of I (hL p hp)
    obtain ⟨o, ho, hex, hd⟩ := hS.ob
    refine wpAny_call_entry PySem.F.slot_set_add ⟨o, ho, hex.1⟩ PySem.F.entry_set_add ?_ (PySem.F.args_set_add_2 _ _)
    unfold Builtin.«set.add» Builtin.Frozenset.oneOther
    simp only [List.isEmpty_nil, bind_assoc]
    unfold Builtin.Frozenset.addrOf setAdd
    refine wpAny_bind (wpAny_pure ?_)
    try dsimp only
    refine wpAny_bind (wpAny_pure ?_)
    try dsimp only
    refine wpAny_bind ?_
    refine wpAny_holding ?_
    refine wpAny_bind (wpAny_pyHash_tuple (A := X.A.in1) hu hx ?_)
    refine add_k (A := X.A.in1) (s := { s with toks := s.toks + (k.length + 1) }) hS hx hu hl fun b h' L' es' ep' t' sb hS' c1 c2 => ?_
    show wpAny _ _ (ret Value.none) _ _ _
    have he : ∃ u, h'.get? D = some u := let ⟨o, ho, _⟩ := hS'.ob; ⟨o, ho⟩
    exact wpAny_pure ⟨_, rfl, h L' _ (hR L' c1 c2) (I.write (e := D) (t' := s.toks + (k.length + 1)) (by rw [hD]; trivial) (.inl rfl) (fun b u hb hu => (sb.2 b hb).trans hu) he (kso_new hS'.zero))⟩
end KS
set_option Elab.async false
set_option linter.all false
set_option maxRecDepth 100000
set_option maxHeartbeats 4000000
namespace PD
open PySem PySem.Spec PyProof.Rows L2 KS
/-! ### how many different ones -/
def cntR [DecidableEq α] : List α → Nat
  | [] => 0
  | x :: xs => if x ∈ xs then cntR xs else cntR xs + 1
def cnt [DecidableEq α] (xs : List α) : Nat := cntR xs.reverse
theorem cnt_snoc [DecidableEq α] (xs : List α) (x : α) : cnt (xs ++ [x]) = if x ∈ xs then cnt xs else cnt xs + 1 := by
  unfold cnt
  rw [List.reverse_append]
  simp [cntR]
theorem cntR_le [DecidableEq α] : ∀ xs : List α, cntR xs ≤ xs.length
  | [] => Nat.le_refl _
  | x :: xs => by
    have := cntR_le xs
    unfold cntR
    split <;> simp <;> omega
theorem cnt_le [DecidableEq α] (xs : List α) : cnt xs ≤ xs.length := by
  have := cntR_le xs.reverse
  rw [List.length_reverse] at this
  exact this
theorem cntR_nodup [DecidableEq α] : ∀ xs : List α, cntR xs = xs.length ↔ xs.Nodup
  | [] => by simp [cntR]
  | x :: xs => by
    have h1 := cntR_le xs
    have h2 := cntR_nodup xs
    unfold cntR
    rw [List.nodup_cons, List.length_cons]
    by_cases h : x ∈ xs
    · rw [if_pos h]
      exact ⟨fun z => by omega, fun z => absurd h z.1⟩
    · rw [if_neg h]
      exact ⟨fun z => ⟨h, h2.mp (by omega)⟩, fun z => by rw [h2.mpr z.2]⟩
theorem cnt_nodup [DecidableEq α] (xs : List α) : cnt xs = xs.length ↔ xs.Nodup := by
  have := cntR_nodup xs.reverse
  rw [List.length_reverse, (List.reverse_perm xs).nodup_iff] at this
  exact this
/-! ### len of a set -/
def LenO (P : Program) (w : World) (H : Hp) (a : Addr) (n : Nat) : Prop := (∃ S, H a = some (SetK P w a S n)) ∨ ∃ L, H a = some (KSO P w a L) ∧ n = L.length
theorem cr_lenO {X : Cx} : CallR X (.builtin "len") (fun xs H Q => ∃ a n, xs = [V.ref a] ∧ LenO X.prog X.w H a n ∧ n < 4096 ∧ Q (.int (n : Nat)) H) := by
  intro pins s σ H xs us Q I r h
  obtain ⟨a, n, rfl, hl, hn, q⟩ := h
  cases r with
  | cons r rr =>
    cases rr
    cases r
    have fin : ∀ {o : Obj} {es : Array (Int × Value)} {ep : Nat} {t : SetTable}, s.heap.get? a = some o → o.ExactSet → o.data = .set es ep t → t.fits es.size = true → es.size = n → wpAny (model X.prog X.w) X.A (call (.builtin "len") [.ref a]) (EP X pins σ Q) X.xe s := fun ho hex hd hf hs =>
      call_len_set ho hex hd hf (by rw [hs]; omega) ⟨.int (n : Nat), H, I.tok _, ⟨_, by rw [hs]⟩, q⟩
    rcases hl with ⟨S, e⟩ | ⟨L, e, rfl⟩
    · obtain ⟨o, es, ep, t, ho, hex, hd, _, _, _, hf, hs⟩ := setK_get I e
      exact fin ho hex hd hf hs
    · obtain ⟨es, ep, t, ⟨o, ho, hex, hd⟩, hr, tab, _, _, m7, few⟩ := (I.hok a _ e).1
      have hsz : es.size = L.length := by
        have h := congrArg List.length hr
        rwa [Array.length_toList, List.length_map] at h
      refine fin ho hex hd ?_ hsz
      have hp := tab.sz
      rw [List.length_map] at hp
      unfold SetTable.fits SetTable.fill
      rw [tab.dm, Bool.and_eq_true, beq_iff_eq, decide_eq_true_eq]
      show t.place.size = es.size ∧ t.place.size + 0 ≤ t.mask
      omega

/-- the tuples stay -/
def Tk (H H' : Hp) : Prop := (∀ a xs, H a = some (.tup xs) → H' a = some (.tup xs)) ∧ ∀ a o u, H a = some (.frz o u) → H' a = some (.frz o u)
theorem Tk.fr {M : Addr → Prop} {H H' : Hp} (f : Fr M H H') : Tk H H' := ⟨fun _ _ e => f.tup e, fun _ _ _ e => f.frz e⟩
theorem Tk.sq {K : PySem.W.Frag} {H H' : Hp} {a : Addr} {xs : List V} (t : Tk H H') (h : SqT K H a xs) : SqT K H' a xs := by
  rcases h with (h | ⟨o, h⟩) | h
  · exact .inl (.inl (t.1 _ _ h))
  · exact .inl (.inr ⟨o, t.2 _ _ _ h⟩)
  · exact .inr h
theorem Tk.upd {H : Hp} {D : Addr} {φ ψ : Heap → Prop} (h : H D = some (.ext φ)) : Tk H (upd H D (.ext ψ)) := by
  refine ⟨fun a xs e => ?_, fun a o u e => ?_⟩
  · rw [upd_ne (ne_of e h (by intro z; cases z))]; exact e
  · rw [upd_ne (ne_of e h (by intro z; cases z))]; exact e
/-- a family told by data: what is known of a set when the things ks have been put in -/
structure FamD (C : Cn) where
  F : Fam C.X.prog C.X.w C.X.K C.X.A
  α : Type
  dec : DecidableEq α
  D : α → D
  Rel : Hp → List α → F.ι → Prop
  fr : ∀ {H H' ks st}, Tk H H' → Rel H ks st → Rel H' ks st
  zero : ∀ H, Rel H [] F.i0
  most : Nat
  step : ∀ {H ks st v k}, Rel H ks st → Rp C.K H v (D k) → ks.length < most → F.Add st H v fun st' => ∀ H', Tk H H' → Rel H' (ks ++ [k]) st'
  mono : ∀ {H st v} {R R' : F.ι → Prop}, F.Add st H v R → (∀ i, R i → R' i) → F.Add st H v R'
  len : ∀ {H ks st a}, Rel H ks st → H a = some (F.O a st) → LenO C.X.prog C.X.w H a (cnt ks)
  ext : ∀ a st, ∃ φ, F.O a st = .ext φ ∧ NC φ
section
variable {C : Cn} {b : Nat} {δ : List Sl} {P : Nat → Res → Prop} {tg iter elt e : Expr} {pos p0 : Pos} {scope : Scope}
/-- len({elt for tg in iter}) -/
theorem ev_lenSC (G : FamD C) (p : Pat) (own : List (Str × Nat)) (g : D → G.α) (hc : C.X.calm = true) (hN : C.X.N.Nodup) (ok : BlkOk C.X.N C.X.env.scope scope own)
    (hg : ∀ (s : Shared) (H : Hp) (Cc : Addr) (cl : List (Str × Addr)) (fp : List Addr), PG (C.X.blk s H scope (compEnvC scope cl Cc C.X.env) fp) tg (gPat C.X.K p))
    (hp : ∀ i ∈ p.slots, i ∈ own.map (·.2)) (B : Blt C.X)
    (h : EIc C b δ tg iter (fun b1 ds => ds.length ≤ G.most ∧ ds.length < 4096 ∧ (∀ d ∈ ds, ∃ δ', bindP p d (wipeD δ (own.map (·.2))) = some δ' ∧
      ∀ (s : Shared) (H : Hp) (Cc : Addr) (cl : List (Str × Addr)) (fp : List Addr), EV (C.blk s H scope (compEnvC scope cl Cc C.X.env) fp) b1 δ' elt (fun b4 r => b4 = b1 ∧ r = .va (G.D (g d)))) ∧ P b1 (.va (.int ((@cnt _ G.dec (ds.map g) : Nat))))))
    (hgl : Gl C.X "len" := by rfl) (hs : ∀ x, foldedSetIterable iter C.X.env x = pure x := by intro _; rfl)
    (hsx : starEach [.SetComp elt [⟨tg, iter, [], 0⟩] scope pos] C.X.env = (false, eval (.SetComp elt [⟨tg, iter, [], 0⟩] scope pos) C.X.env) :: starEach [] C.X.env := by rfl)
    (hpl : (backTo p1 (starEach [] C.X.env)).any (·.1) = false := by rfl) : EV C b δ (.Call (.Name "len" p0) [.SetComp elt [⟨tg, iter, [], 0⟩] scope pos] [] p1) P := by
  intro os σ H st Q q
  refine WE.of (pe_callB cr_lenO hgl B.len PySem.boot_len (pa_cons (pe_scG (F := G.F) hc hN piW ok hg (fun s H Cc cl fp => ptsWb s H Cc cl fp) (fun s H Cc cl fp => peWb s H Cc cl fp) hs) pa_nil hsx) (by decide) (by decide) hsx hpl) ?_
  refine h os σ H st _ fun J H1 b1 ds f1 j1 W hh => ?_
  obtain ⟨hl, hl2, step, last⟩ := hh
  intro D0 hD
  have nsD : ¬ C.Z.S D0 := snew j1 hD
  refine ⟨fun i m H2 => m = ds.length - i ∧ i ≤ ds.length ∧ ∃ si, Fr C.Z.S H1 H2 ∧ C.Z.J b1 H2 ∧ H2 D0 = some (G.F.O D0 si) ∧ G.Rel H2 ((ds.take i).map g) si, ⟨ds.length, ?_⟩, ?_⟩
  · exact ⟨by omega, Nat.zero_le _, G.F.i0, Fr.new hD, jnew j1 hD, upd_same, by rw [List.take_zero]; exact G.zero _⟩
  · rintro i m H2 ⟨rfl, hi, si, f2, j2, hD2, rel⟩
    by_cases hlt : i < ds.length
    · obtain ⟨go, item⟩ := W.go H2 f2 i hlt
      refine .inr ⟨go, fun H' => ∃ si, Fr C.Z.S H1 H' ∧ C.Z.J b1 H' ∧ H' D0 = some (G.F.O D0 si) ∧ G.Rel H' ((ds.take (i + 1)).map g) si, fun H' z => ⟨ds.length - (i + 1), by omega, rfl, hlt, z⟩, fun x H3 y => ?_⟩
      obtain ⟨f3, d, hd, rx⟩ := item x H3 y
      have f3' : Fr C.Z.S H2 H3 := f3.wide fun _ z => z.elim
      have j3 : C.Z.J b1 H3 := C.Z.stay _ _ _ j2 (f3.wide fun _ z => z.elim)
      have etk : ds.take (i + 1) = ds.take i ++ [d] := by
        rw [List.take_succ, hd]
        rfl
      have st3 : Sts C os b1 (wipeD δ (own.map (·.2))) (wipe σ (own.map (·.2))) H3 := (st.on (f1.trans (f2.trans f3')) j3).wipe _
      obtain ⟨δ', hb, hstep⟩ := step d (List.mem_of_getElem? hd)
      obtain ⟨σ', st4, hw, hgo⟩ := bind_ok p rx st3 hb
      refine hgo _ ⟨by rw [hw _ hp, wipe_wipe], ?_⟩
      show WTsb C.X scope [] σ' H3 _
      intro s0 H0 Cc cl fp
      have ctx : ∀ s H Cc cl fp {b' δ' σ' H'}, Sts C os b' δ' σ' H' → Sts (C.blk s H scope (compEnvC scope cl Cc C.X.env) fp) os b' δ' σ' H' := fun s H Cc cl fp b' δ' σ' H' z => ⟨z.fr, z.j, z.new, z.sl⟩
      refine WTs.of pts_nil ?_
      show WEb C.X scope elt σ' H3 _
      intro s5 H5 Cc5 cl5 fp5
      refine hstep s5 H5 Cc5 cl5 fp5 os σ' H3 (ctx s5 H5 Cc5 cl5 fp5 st4) _ fun v H6 b4 r f6 j6 rv hy => ?_
      obtain ⟨rfl, rfl⟩ := hy
      cases rv with | va rv => ?_
      have f6' : Fr C.Z.S H3 H6 := f6
      have D6 : H6 D0 = some (G.F.O D0 si) := f6'.keep nsD (f3'.keep nsD hD2)
      refine ⟨si, D6, G.mono (G.step (k := g d) (G.fr (Tk.fr (f3'.trans f6')) rel) rv (by rw [List.length_map, List.length_take]; omega)) fun st' hr => ⟨st', ?_, ?_, upd_same, ?_⟩⟩
      · intro a o ea
        have ne : a ≠ D0 := ne_of_none ea hD
        rcases (f2.trans (f3'.trans f6')) a o ea with z | z
        · exact .inl (by rw [upd_ne ne]; exact z)
        · obtain ⟨m, q, z1, z2⟩ := z
          exact .inr ⟨m, q, by rw [upd_ne ne]; exact z1, z2⟩
      · obtain ⟨φ, e1, nc⟩ := G.ext D0 si
        obtain ⟨ψ, e2, _⟩ := G.ext D0 st'
        exact C.Z.stay _ _ _ j6 (by rw [e2]; rw [e1] at D6; exact Fr.putL nsD D6 (.e nc))
      · obtain ⟨φ, e1, _⟩ := G.ext D0 si
        obtain ⟨ψ, e2, _⟩ := G.ext D0 st'
        rw [etk, List.map_append]
        refine hr _ ?_
        rw [e2]
        rw [e1] at D6
        exact Tk.upd D6
    · have e : i = ds.length := by omega
      subst e
      rw [List.take_length] at rel
      have hcl := @cnt_le _ G.dec (ds.map g)
      rw [List.length_map] at hcl
      exact .inl ⟨W.stop H2 f2 _ (Nat.le_refl _), D0, @cnt _ G.dec (ds.map g), rfl, G.len rel hD2, by omega, q _ H2 b1 _ (f1.trans f2) j2 (.va (.int _)) last⟩
end
end PD
set_option Elab.async false
set_option linter.all false
set_option maxRecDepth 100000
set_option maxHeartbeats 4000000
namespace PD
open PySem PySem.Spec PyProof.Rows L2 KS
theorem rp_strs {K : PySem.W.Frag} {H : Hp} : ∀ {k : List Str} {xs : List V}, RpA K H xs (k.map D.str) → xs = (k.map (Sum.inr (α := Int))).map kV
  | [], _, .nil => rfl
  | x :: k, _, .cons a r => by
    cases a
    rw [rp_strs r]
    rfl
def textD (C : Cn) : FamD C where
  F := textFam C.X.prog C.X.w C.X.K C.X.A
  α := Str
  dec := inferInstance
  D := D.str
  Rel := fun _ xs st => (∀ x, st.1 (.inr x) = true ↔ x ∈ xs) ∧ st.2 = cnt xs
  fr := fun _ h => h
  zero := fun _ => ⟨fun x => by simp [textFam], rfl⟩
  most := 4000
  step := by
    intro H ks st v k h r hl
    cases r
    have := cnt_le ks
    refine ⟨k, rfl, by rw [h.2]; show cnt ks + 1 < 4096; omega, fun H' _ => ⟨fun x => ?_, ?_⟩⟩
    · simp only [Bool.or_eq_true, decide_eq_true_eq, List.mem_append, List.mem_singleton]
      rw [h.1 x]
      exact or_congr Iff.rfl ⟨fun z => Sum.inr.inj z, fun z => by rw [z]⟩
    · rw [cnt_snoc]
      by_cases hk : k ∈ ks
      · simp only [if_pos hk, (h.1 k).mpr hk, if_true]
        exact h.2
      · have e : st.1 (.inr k) = false := by
          cases q : st.1 (.inr k) with
          | false => rfl
          | true => exact absurd ((h.1 k).mp q) hk
        simp only [if_neg hk, e, Bool.false_eq_true, if_false]
        rw [h.2]
  mono := fun h k => let ⟨x, h1, h2, h3⟩ := h; ⟨x, h1, h2, k _ h3⟩
  len := fun {H ks st a} h e => .inl ⟨st.1, by rw [← h.2]; exact e⟩
  ext := fun a st => ⟨_, rfl, nc_of (a := a) fun hp z => by
    obtain ⟨o, _, _, _, e, _, e2, _⟩ := z
    exact ⟨o, e, fun vs q => by rw [e2] at q; cases q⟩⟩
def KRel (K : PySem.W.Frag) (H : Hp) (ks : List (List Str)) (L : List KS.Row) : Prop := (∀ p ∈ L, SqT K H p.1 (p.2.map kV)) ∧ (∀ k : List Str, k.map (Sum.inr (α := Int)) ∈ L.map (·.2) ↔ k ∈ ks) ∧ L.length = cnt ks
theorem KRel.fr {K : PySem.W.Frag} {H H' : Hp} {ks : List (List Str)} {L : List KS.Row} (t : Tk H H') (h : KRel K H ks L) : KRel K H' ks L := ⟨fun p hp => t.sq (h.1 p hp), h.2⟩
theorem inr_inj : ∀ {x y : List Str}, x.map (Sum.inr (α := Int)) = y.map Sum.inr → x = y
  | [], [], _ => rfl
  | [], _ :: _, e => by cases e
  | _ :: _, [], e => by cases e
  | a :: x, b :: y, e => by
    rw [List.map_cons, List.map_cons, List.cons.injEq] at e
    rw [Sum.inr.inj e.1, inr_inj e.2]
theorem KRel.step {K : PySem.W.Frag} {H H' : Hp} {ks : List (List Str)} {L L' : List KS.Row} {a : Addr} {k : List Str} (h : KRel K H ks L) (hq : SqT K H a ((k.map (Sum.inr (α := Int))).map kV)) (tk : Tk H H')
    (c1 : k.map (Sum.inr (α := Int)) ∈ L.map (·.2) → L' = L) (c2 : k.map (Sum.inr (α := Int)) ∉ L.map (·.2) → L'.Perm ((a, k.map Sum.inr) :: L)) : KRel K H' (ks ++ [k]) L' := by
  by_cases hk : k ∈ ks
  · have hm := (h.2.1 k).mpr hk
    rw [c1 hm]
    refine ⟨fun p hp => tk.sq (h.1 p hp), fun x => ?_, by rw [cnt_snoc, if_pos hk]; exact h.2.2⟩
    rw [h.2.1 x, List.mem_append, List.mem_singleton]
    exact ⟨.inl, fun z => z.elim id fun e => by rw [e]; exact hk⟩
  · have hm : k.map (Sum.inr (α := Int)) ∉ L.map (·.2) := fun z => hk ((h.2.1 k).mp z)
    have pm := c2 hm
    refine ⟨fun p hp => ?_, fun x => ?_, by rw [cnt_snoc, if_neg hk, pm.length_eq, List.length_cons, h.2.2]⟩
    · rcases List.mem_cons.mp (pm.mem_iff.mp hp) with e | hp
      · rw [e]; exact tk.sq hq
      · exact tk.sq (h.1 p hp)
    · rw [(pm.map (·.2)).mem_iff, List.map_cons, List.mem_cons, h.2.1 x, List.mem_append, List.mem_singleton]
      constructor
      · rintro (e | z)
        · exact .inr (inr_inj e)
        · exact .inl z
      · rintro (z | e)
        · exact .inr z
        · exact .inl (by rw [e])
def keyD (C : Cn) (hu : C.X.A.units + 1 < cLine) : FamD C where
  F := keyFam C.X.prog C.X.w C.X.K C.X.A hu
  α := List Str
  dec := inferInstance
  D := fun k => .tup (k.map D.str)
  Rel := fun H ks L => KRel C.K H ks L
  fr := fun t h => KRel.fr t h
  zero := fun _ => ⟨fun p hp => (nomatch hp), fun k => ⟨fun z => (nomatch z), fun z => (nomatch z)⟩, rfl⟩
  most := 4
  step := by
    intro H ks L v k h r hl
    cases r with
    | @tup a xs _ hq ra =>
      have ex := rp_strs ra
      subst ex
      have := cnt_le ks
      have hL : List.length (show List KS.Row from L) = cnt ks := h.2.2
      exact ⟨a, k.map Sum.inr, rfl, hq.sq, h.1, by show List.length (show List KS.Row from L) + 1 ≤ 4; omega, fun L' c1 c2 H' tk => KRel.step h hq.sq tk c1 c2⟩
  mono := fun h k => let ⟨a, x, h1, h2, h3, h4, h5⟩ := h; ⟨a, x, h1, h2, h3, h4, fun L' c1 c2 => k _ (h5 L' c1 c2)⟩
  len := fun {H ks L a} h e => .inr ⟨L, e, h.2.2.symm⟩
  ext := fun a st => ⟨_, rfl, nc_of (a := a) fun hp z => by
    obtain ⟨es, ep, t, ⟨o, e, _, e2⟩, _⟩ := z
    exact ⟨o, e, fun vs q => by rw [e2] at q; cases q⟩⟩
end PD
set_option Elab.async false
set_option linter.all false
set_option maxRecDepth 100000
set_option maxHeartbeats 3200000
/-! set(a list of texts) -/
namespace ST
open PySem PySem.Spec PyProof.Rows L2 PD
def memF (ys : List Str) : Key → Bool
  | .inr x => decide (x ∈ ys)
  | .inl _ => false
theorem memF_snoc (ys : List Str) (x : Str) (k : Key) : (memF ys k || decide (k = .inr x)) = memF (ys ++ [x]) k := by
  cases k with
  | inl i => simp [memF]
  | inr y =>
    show (decide (y ∈ ys) || decide ((Sum.inr y : Key) = .inr x)) = decide (y ∈ ys ++ [x])
    rw [← Bool.decide_or]
    refine decide_eq_decide.mpr ?_
    rw [List.mem_append, List.mem_singleton]
    exact or_congr Iff.rfl ⟨fun z => Sum.inr.inj z, fun z => by rw [z]⟩
theorem strs_at {ys : List Str} {us : List Value} (r : Vals (ys.map V.str) us) : ∀ (i : Nat) (v : Value), us[i]? = some v → ∃ x t, ys[i]? = some x ∧ v = .str x t := by
  induction ys generalizing us with
  | nil => cases r; intro i v h; simp at h
  | cons y ys ih =>
    cases r with
    | cons r t =>
      obtain ⟨k, rfl⟩ := r
      intro i v h
      cases i with
      | zero => simp at h; exact ⟨y, k, rfl, h.symm⟩
      | succ i => simpa using ih t i v (by simpa using h)
section
variable {prog : Program} {w : World} {A : Around} {R : Result → Shared → Prop} {I : Addr} {fp wr : List Addr} {G : Array GenState → Array GenState → Prop} {n : Nat} {Pv : Nat → Value → Prop} {St : Nat → Shared → Prop}
theorem loopT (W : WalksS prog w A.in1 I fp wr G n Pv St) (S : Addr) (hSf : S ∉ fp) (xs : List Str) (hn : n = xs.length) (hval : ∀ i v, Pv i v → ∃ x t, xs[i]? = some x ∧ v = .str x t) (hb : n + 1 < scanBound) :
    ∀ (k i : Nat) (s : Shared), n - i = k → i ≤ n → St i s → s.heap.SetOf (mixKind prog w) S (memF (xs.take i)) (cnt (xs.take i)) →
      (∀ s', Moved (S :: wr) G s s' → s'.heap.SetOf (mixKind prog w) S (memF xs) (cnt xs) → R (.ok (.ret .none)) s') →
      codeAny (model prog w) A (.builtin "set.update.loop" ⟨[.ref S, .ref I], []⟩) R s := by
  have hSw : S ∉ wr := fun h => hSf (W.sub _ h)
  have hsub : ∀ b ∈ wr, b ∈ S :: wr := fun b hb => List.mem_cons_of_mem _ hb
  have moved : ∀ {s s' : Shared} {i : Nat}, Moved wr G s s' → s.heap.SetOf (mixKind prog w) S (memF (xs.take i)) (cnt (xs.take i)) → s'.heap.SetOf (mixKind prog w) S (memF (xs.take i)) (cnt (xs.take i)) := fun hm hS => by
    obtain ⟨o, es, ep, t, ho, rest⟩ := hS
    exact ⟨o, es, ep, t, hm.heap S _ hSw ho, rest⟩
  intro k
  induction k with
  | zero =>
    intro i s hk hi hst hS hR
    have hin : i = n := by omega
    subst hin
    refine codeAny_builtin PyProof.Rows.F.entry_set_update_loop ?_
    rw [Around.under_plainId PyProof.Rows.F.plain_set_update_loop _]
    show wpAny _ A.in1 (pyNext (.ref I) >>= _) _ _ s
    refine wpAny_bind (W.done s _ _ hst fun s' hm => ?_)
    show wpAny _ A.in1 (ret Value.none) _ _ s'
    have hS' := moved hm hS
    rw [hn, List.take_length] at hS'
    exact wpAny_pure (hR s' (hm.mono hsub) hS')
  | succ k ih =>
    intro i s hk hi hst hS hR
    have hlt : i < n := by omega
    refine codeAny_builtin PyProof.Rows.F.entry_set_update_loop ?_
    rw [Around.under_plainId PyProof.Rows.F.plain_set_update_loop _]
    show wpAny _ A.in1 (pyNext (.ref I) >>= _) _ _ s
    refine wpAny_bind (W.item i s _ _ hlt hst fun v s' hP hst' hm => ?_)
    obtain ⟨x, t, hx, rfl⟩ := hval i v hP
    have hS' := moved hm hS
    show wpAny _ A.in1 (holding [Value.str x t] (setAdd S (.str x t)) >>= _) _ _ s'
    refine wpAny_bind (wpAny_holding ?_)
    unfold setAdd
    refine wpAny_holding ?_
    have hkey : (mixKind prog w).is (.inr x) (.str x t) = true := mixKind_str prog w x t
    refine wpAny_bind ((mixKind prog w).pyHash hkey ?_)
    have hcl := cnt_le (xs.take i)
    have htl : (xs.take i).length ≤ i := by rw [List.length_take]; omega
    refine wpAny_setAddHashed_of (knd := mixKind prog w) (s := { s' with toks := s'.toks + 1 }) hkey rfl hS' (by omega) fun h' hsb hS2 => ?_
    have etk : xs.take (i + 1) = xs.take i ++ [x] := by
      rw [List.take_succ, hx]
      rfl
    have hS3 : h'.SetOf (mixKind prog w) S (memF (xs.take (i + 1))) (cnt (xs.take (i + 1))) := by
      have e1 : (fun k' => memF (xs.take i) k' || decide (k' = .inr x)) = memF (xs.take (i + 1)) := funext fun k' => by rw [etk, ← memF_snoc]
      have e2 : (if memF (xs.take i) (.inr x) = true then cnt (xs.take i) else cnt (xs.take i) + 1) = cnt (xs.take (i + 1)) := by
        rw [etk, cnt_snoc]
        by_cases h : x ∈ xs.take i
        · rw [if_pos h, if_pos (show memF (xs.take i) (.inr x) = true from decide_eq_true h)]
        · rw [if_neg h, if_neg (show ¬ memF (xs.take i) (.inr x) = true from fun z => h (of_decide_eq_true z))]
      rw [← e1, ← e2]
      exact hS2
    refine wpAny_pure ⟨plainId_quiet PyProof.Rows.F.plain_set_update_loop _, ih (i + 1) _ (by omega) hlt (W.frame _ s' _ _ hst' (Nat.le_succ _) fun b hb o e => ?_) hS3 fun s'' hm'' hS'' => ?_⟩
    · rw [hsb.2 b (fun h : b = S => hSf (by rw [← h]; exact hb))]; exact e
    · refine hR s'' (Moved.trans W.gtrans ((hm.mono hsub).then_heap (Nat.le_succ _) fun b o hb e => ?_) hm'') hS''
      rw [hsb.2 b (fun h : b = S => hb (by rw [h]; exact List.mem_cons_self))]; exact e
end
section
variable {prog : Program} {w : World} {A : Around} {E : Value → Shared → Prop} {s : Shared}
/-- set(xs), xs a list of texts -/
theorem call_set_texts {l : Addr} {items : Array Value} {xs : List Str} {Q : Value → Shared → Prop} (hh : A.handled = none) (hl : s.heap.IsList l items) (hr : Vals (xs.map V.str) items.toList) (hb : xs.length + 1 < scanBound)
    (h : ∀ (h' : Heap) (tk : Nat), h'.SetOf (mixKind prog w) s.heap.objs.size (memF xs) (cnt xs) → (∀ b o, b < s.heap.objs.size → s.heap.get? b = some o → h'.get? b = some o) → Q (.ref s.heap.objs.size) { s with heap := h', toks := tk }) :
    wpAny (model prog w) A (call (.type "set") [.ref l]) Q E s := by
  have hsz : items.size = xs.length := by rw [← Array.length_toList, ← hr.length, List.length_map]
  obtain ⟨c, tl, hmro⟩ := PySem.F.called_set.mro
  have hmade := PySem.F.called_set.made
  have hsub := PySem.F.called_set.sub
  refine wpAny_call (codeAny_of_tree ?_)
  show wpAny _ _ (callAny (.type "set") _) _ _ _
  refine wpAny_pure ⟨Code.quiet_builtin _ (by decide +kernel), codeAny_builtin PySem.F.entry_type_call ?_⟩
  rw [Around.under_plain (weight_type_call_type "set" [.ref l] []) rfl]
  have h1 := PySem.F.called_set.notType
  have h2 := PySem.F.called_set.canCreate
  have hct := PySem.F.typeCall_set_1 (.ref l)
  repeat (any_goals (first | assumption | wp_step))
  refine codeAny_mono (code_set_new_1 (.ref l) (E := E) (Q₁ := fun obj s₁ => ∃ led : Bool, obj = .ref s.heap.objs.size ∧ s₁ = { s with heap := s.heap.push { cls := .type "set", dict := none, data := .set #[] 0 (.fresh 0 0 led) } }) fun led => ⟨led, rfl, rfl⟩) fun r s₁ hr' => ?_
  cases r with
  | error e => exact hr'
  | ok fl =>
    cases fl with
    | ret obj =>
      obtain ⟨led, rfl, rfl⟩ := hr'
      have hS : (s.heap.push { cls := .type "set", dict := none, data := .set #[] 0 (.fresh 0 0 led) }).get? s.heap.objs.size = some { cls := .type "set", dict := none, data := .set #[] 0 (.fresh 0 0 led) } := Heap.get?_push_size _ rfl
      have hT : Shared.TypeIs { s with heap := s.heap.push { cls := .type "set", dict := none, data := .set #[] 0 (.fresh 0 0 led) } } (.ref s.heap.objs.size) "set" := ⟨_, hS, rfl⟩
      have hli := PySem.F.called_set.init.lookup
      have hbi := PySem.F.called_set.init.bind (.ref s.heap.objs.size)
      repeat (any_goals (first | assumption | wp_step))
      refine codeAny_mono (codeAny_call_builtin (R := wants (fun r s₂ => r = .none ∧ ∃ h' tk, s₂ = { s with heap := h', toks := tk } ∧ h'.SetOf (mixKind prog w) s.heap.objs.size (memF xs) (cnt xs) ∧
          (∀ b o, b < s.heap.objs.size → s.heap.get? b = some o → h'.get? b = some o)) E) PySem.F.called_set.init.plain PySem.F.entry_set_init (check_set_init_1 hT ?_)) fun r₂ s₂ hr₂ => ?_
      · obtain ⟨⟨ocls, odict, odata, oslots⟩, hol, hcl, nl, hdl⟩ := hl
        simp only at hcl hdl
        subst hcl; subst hdl
        have hol' : (s.heap.push { cls := .type "set", dict := none, data := .set #[] 0 (.fresh 0 0 led) }).get? l = some { cls := .type "list", dict := odict, data := .seq items nl, slots := oslots } := Heap.get?_push_of_some _ hol
        have hsls := PySem.F.sub_list_set
        have hslf := PySem.F.sub_list_frozenset
        have hne : (Value.type "list" == Value.type "dict") = false := by decide
        have hl1 : (s.heap.push { cls := .type "set", dict := none, data := .set #[] 0 (.fresh 0 0 led) }).IsList l items := ⟨_, hol', rfl, nl, rfl⟩
        unfold Builtin.«set.__init__» noKeywords Builtin.Frozenset.updateFrom
        generalize hPI : pyIter = PI
        wp_walk
        subst hPI
        refine wpAny_pyIter_list hl1 ?_
        refine wpAny_bind (wpAny_runValue ?_)
        have hlS : l < s.heap.objs.size := Heap.lt_size hol
        have hh3 : A.in1.in1.in1.handled = none := by simp [hh]
        have hneI : l ≠ (s.heap.push { cls := .type "set", dict := none, data := .set #[] 0 (.fresh 0 0 led) }).objs.size := by
          rw [Heap.size_push]; exact Nat.ne_of_lt (Nat.lt_succ_of_lt hlS)
        have hSf : s.heap.objs.size ∉ [(s.heap.push { cls := .type "set", dict := none, data := .set #[] 0 (.fresh 0 0 led) }).objs.size, l] := by
          rw [Heap.size_push]; simp only [List.mem_cons, List.mem_singleton, List.not_mem_nil, or_false, not_or]
          exact ⟨Nat.ne_of_lt (Nat.lt_succ_self _), Nat.ne_of_gt hlS⟩
        refine loopT ((Walks.list hh3 _ l hneI items).toS) s.heap.objs.size hSf xs hsz (fun i v hv => strs_at hr i v (by rw [Array.getElem?_toList]; exact hv)) (by rw [hsz]; exact hb) (items.size - 0) 0 _ (by omega) (Nat.zero_le _)
          ⟨⟨_, Heap.get?_push_size _ rfl, rfl, rfl⟩, (hl1.push _)⟩ ⟨_, #[], 0, _, Heap.get?_push_of_some _ hS, ⟨rfl, rfl, rfl⟩, rfl, (fun e he => by simp at he), (fun k => ?_), (by decide), (by rfl), rfl⟩ fun s' hm hS' => ?_
        · rw [List.take_zero]
          cases k <;> simp [memF]
        · rw [Moved.eq_with hm]
          show wpAny _ _ _ _ _ _
          refine wpAny_pure ?_
          show wpAny _ _ (ret Value.none) _ _ _
          refine wpAny_pure ⟨rfl, s'.heap, s'.toks, rfl, hS', fun b o hb e => ?_⟩
          have hb1 : b ≠ s.heap.objs.size := Nat.ne_of_lt hb
          have hb2 : b ≠ (s.heap.push { cls := .type "set", dict := none, data := .set #[] 0 (.fresh 0 0 led) }).objs.size := by
            rw [Heap.size_push]; exact Nat.ne_of_lt (Nat.lt_succ_of_lt hb)
          exact hm.heap b o (by simp only [List.mem_cons, List.mem_singleton, List.not_mem_nil, or_false, not_or]; exact ⟨hb1, hb2⟩) (Heap.get?_push_of_some _ (Heap.get?_push_of_some _ e))
      · cases r₂ with
        | error e => exact hr₂
        | ok fl₂ =>
          cases fl₂ with
          | ret r =>
            obtain ⟨rfl, h', tk, rfl, hS', hk'⟩ := hr₂
            repeat (any_goals (first | assumption | wp_step))
            exact h _ _ hS' hk'
          | _ => exact hr₂.elim
    | _ => exact hr'.elim
end
end ST
set_option Elab.async false
set_option linter.all false
set_option maxRecDepth 100000
set_option maxHeartbeats 4000000
namespace PD
open PySem PySem.Spec PyProof.Rows L2 KS
theorem cr_setT {X : Cx} (hc : X.calm = true) : CallR X (.type "set") (fun xs H Q => ∃ (l : Addr) (ys : List Str), xs = [V.ref l] ∧ SqL X.K H l (ys.map V.str) ∧ ys.length + 1 < scanBound ∧ ∀ p, H p = none → Q (.ref p) (upd H p (SetK X.prog X.w p (ST.memF ys) (cnt ys)))) := by
  intro pins s σ H xs us Q I r h
  obtain ⟨l, ys, rfl, hq, hl, q⟩ := h
  cases r with
  | cons r rr =>
    cases rr
    cases r
    obtain ⟨its, rv, pl, hz⟩ := I.list hq
    refine ST.call_set_texts (I.ok.hd hc) pl.isList (xs := ys) (by rw [List.toList_toArray]; exact rv) hl fun h' tk hS hk => ?_
    have k1 : ∀ b o, s.heap.get? b = some o → h'.get? b = some o := fun b o e => hk b o (Heap.lt_size e) e
    exact ⟨.ref _, upd H s.heap.objs.size (SetK X.prog X.w s.heap.objs.size (ST.memF ys) (cnt ys)), I.laid (t' := tk) k1 (Nat.le_refl _) (setK_new hS), rfl, q _ (I.hok.fresh (Nat.le_refl _))⟩
theorem rp_text {K : PySem.W.Frag} {H : Hp} : ∀ {k : List Str} {xs : List V}, RpA K H xs (k.map D.str) → xs = k.map V.str
  | [], _, .nil => rfl
  | x :: k, _, .cons a r => by
    cases a
    rw [rp_text r]
    rfl
section
variable {C : Cn} {b : Nat} {δ : List Sl} {P : Nat → Res → Prop} {pos p0 p1 p2 : Pos} {e : Expr}
/-- len(set(a list of texts)) -/
theorem ev_lenSet (B : Blt C.X) (hc : C.X.calm = true) (h : EV C b δ e (fun b1 r => ∃ xs : List Str, r.seq = some (xs.map D.str) ∧ xs.length ≤ 4000 ∧ P b1 (.va (.int ((cnt xs : Nat)))))) (hgl : Gl C.X "len" := by rfl) (hgs : Gl C.X "set" := by rfl)
    (hs : starEach [e] C.X.env = (false, eval e C.X.env) :: starEach [] C.X.env := by rfl)
    (hsx : starEach [.Call (.Name "set" p0) [e] [] p1] C.X.env = (false, eval (.Call (.Name "set" p0) [e] [] p1) C.X.env) :: starEach [] C.X.env := by rfl)
    (hpl : (backTo p1 (starEach [] C.X.env)).any (·.1) = false := by rfl) (hpl2 : (backTo pos (starEach [] C.X.env)).any (·.1) = false := by rfl) :
    EV C b δ (.Call (.Name "len" p2) [.Call (.Name "set" p0) [e] [] p1] [] pos) P := by
  intro os σ H st Q q
  refine WE.of (pe_callB cr_lenO hgl B.len PySem.boot_len (pa_cons (pe_callTy (cr_setT hc) hgs B.set (by decide +kernel) (pa_cons peW pa_nil hs) (by decide) (by decide) hs hpl) pa_nil hsx) (by decide) (by decide) hsx hpl2) ?_
  refine h os σ H st _ fun v H1 b1 r f1 j1 rv hr => ?_
  obtain ⟨xs, hr, hl, hq⟩ := hr
  obtain ⟨p, vs, rfl, e1, ra⟩ := rv.seq_ hr
  obtain rfl := rp_text ra
  refine ⟨p, xs, rfl, e1.sq, by show xs.length + 1 < 4096; omega, fun a ha => ?_⟩
  have hcl := cnt_le xs
  have fn : Fr C.Z.S H1 (upd H1 a (SetK C.X.prog C.X.w a (ST.memF xs) (cnt xs))) := Fr.new ha
  exact ⟨a, cnt xs, rfl, .inl ⟨_, upd_same⟩, by omega, q _ _ b1 _ (f1.trans fn) (jnew j1 ha) (.va (.int _)) hq⟩
end
end PD
set_option Elab.async false
set_option linter.all false
set_option maxRecDepth 100000
set_option maxHeartbeats 3200000
/-! set(a list of at most four nested tuples) -/
namespace KN
open PySem PySem.Spec PyProof.Rows L2 PD
section
variable {prog : Program} {w : World} {A : Around} {E : Value → Shared → Prop} {s : Shared}
/-- set's __new__: the table knows where it stands -/
theorem set_born (arg : Value) {Q1 : Value → Shared → Prop}
    (h : ∀ led : Bool, (w.params.followText "set-order" = true ∨ led = true) → Q1 (.ref s.heap.objs.size) { s with heap := s.heap.push { cls := .type "set", dict := none, data := .set #[] 0 (.fresh 0 0 led) } }) :
    codeAny (model prog w) A (.call (.builtin "set.__new__") ⟨[.type "set", arg], []⟩) (wants Q1 E) s := by
  refine codeAny_of_tree ?_
  show wpAny _ A.in1 (checkBuiltinCall "set.__new__" ⟨[.type "set", arg], []⟩ >>= fun _ => again (.builtin "set.__new__" ⟨[.type "set", arg], []⟩)) _ _ s
  refine wpAny_bind (wpAny_of_eq (PySem.F.newCall_set_1 arg) (wpAny_pure ⟨plainId_quiet PySem.F.plain_set_new _, codeAny_builtin PySem.F.entry_set_new ?_⟩))
  rw [Around.under_plainId PySem.F.plain_set_new _]
  unfold Builtin.«set.__new__» Builtin.Frozenset.newClass
  have sub1 := sub_set_self
  obtain ⟨h0, g0, d0, k0, o0⟩ := s
  dsimp only
  wp_walk
  refine wpAny_askSetting (wpAny_pure ?_)
  dsimp only
  simp only [newObj]
  refine wpAny_bind (wpAny_alloc (wpAny_pure ?_))
  refine wpAny_pure (h _ ?_)
  show w.params.followText "set-order" = true ∨ (!w.params.followText "set-order") = true
  cases w.params.followText "set-order" <;> decide
end
end KN
set_option Elab.async false
set_option linter.all false
set_option maxRecDepth 100000
set_option maxHeartbeats 2000000
namespace EN
open PySem PySem.Spec PyProof.Rows L2
/-- the tuple at t, each item in a new pair -/
def IteT (K : PySem.W.Frag) (t : Addr) (n : Nat) : It :=
  ⟨fun i H => i < n ∧ ∃ (xs : List V) (x : V), SqT K H t xs ∧ xs[i]? = some x, fun i H v H' => ∃ T x, v = .ref T ∧ H T = none ∧ H' = upd H T (.tup [.int (i : Nat), x]) ∧ ∀ xs, SqT K H t xs → xs[i]? = some x, fun i H => n ≤ i ∧ ∃ xs : List V, SqT K H t xs ∧ xs.length = n⟩
theorem turn_enT {P : Program} {w : World} {K : PySem.W.Frag} {elts : List Expr} {kk : Nat} {tpos : Pos} (t e it : Addr) (n : Nat) :
    Turn P w K (.Tuple elts kk tpos) (IteT K t n) [e, it] e (fun i h => i ≤ n ∧ (∃ old, IsEnum h e it ((i : Nat) : Int) old) ∧ h.IsTupleIter it t i ∧ e ≠ it ∧ t ≠ it ∧ t ≠ e) where
  mem := by simp
  obj := fun i h st b hb => by
    obtain ⟨_, ⟨old, he⟩, ⟨o, ho, hc, hd⟩, _⟩ := st
    have e' : b = e ∨ b = it := by simpa using hb
    rcases e' with z | z
    · rw [z]; exact ⟨_, he, fun v q => nomatch q⟩
    · rw [z]; exact ⟨o, ho, fun v q => by rw [hd] at q; cases q⟩
  keep := fun i h h' st k => let ⟨hn, ⟨old, he⟩, hi, hne⟩ := st; ⟨hn, ⟨old, k e (by simp) _ he⟩, hi.at fun o q => k it (by simp) o q, hne⟩
  item := by
    intro X hP hw hK hc i pins s σ H E I hf st hg
    subst hP hw hK
    obtain ⟨hin, ⟨old, he⟩, hit, hne, ht1, ht2⟩ := st
    obtain ⟨hlt, xs, x, hq, hx⟩ := hg
    obtain ⟨its, rv, p, hz⟩ := I.tuple hq
    obtain ⟨u, hu, ru⟩ := rv.get hx
    have hel : e < s.heap.objs.size := Heap.lt_size he
    have hil : it < s.heap.objs.size := by obtain ⟨_, q, _⟩ := hit; exact Heap.lt_size q
    have D := Draws.tuple (prog := X.prog) (w := X.w) (A := X.A.in1) (by simpa using I.ok.hd hc) it t ht1 its.toArray
    refine wpAny_pyNext_enum_itemC D he ⟨hit, p⟩ (by have := (List.getElem?_eq_some_iff.mp hu).1; simpa using this) hne (fun z => ?_) fun u' h' tk hu' ho st' hT hsz hk => ?_
    · rcases List.mem_cons.mp z with z | z
      · exact hne z
      · exact ht2 (List.mem_singleton.mp z).symm
    · have eu : u' = u := by
        rw [show its.toArray[i]? = its[i]? by simp, hu] at hu'
        exact (Option.some.inj hu').symm
      subst eu
      refine ⟨_, rfl, wpAny_letOwnedTupleGo_enum (s := { s with heap := h', toks := tk + 1 }) ho fun h'' he' sb => ?_⟩
      have hT2 : h''.get? s.heap.objs.size = some { cls := .type "tuple", data := .seq #[.int i tk, u'] } := (sb.2 _ (Nat.ne_of_gt hel)).trans hT
      have new : ObjOk X.prog X.w (upd H s.heap.objs.size (.tup [.int (i : Nat), x])) h'' s.heap.objs.size (.tup [.int (i : Nat), x]) :=
        ⟨by show 2 ≤ sizeLine; decide, [.int i tk, u'], .cons ⟨_, rfl⟩ (.cons ru .nil), ⟨_, hT2, rfl, _, rfl⟩⟩
      have I1 : Inv X pins σ (upd H s.heap.objs.size (.tup [.int (i : Nat), x])) { s with heap := h'', toks := tk + 1 } :=
        I.turnedNew (ch := [e, it]) (fun b ob hb q => (sb.2 b (fun z => hb (by simp [z]))).trans (hk b ob (fun z => hb (by simp [z])) (fun z => hb (by simp [z])) q)) hf (Nat.le_refl _) new
      refine ⟨.ref s.heap.objs.size, _, I1, rfl, ⟨_, x, rfl, I.hok.fresh (Nat.le_refl _), rfl, fun ys hy => by rw [I.tuple_inj hy hq]; exact hx⟩, ⟨hlt, ⟨u', ?_⟩, st'.1.at fun o q => (sb.2 it (Ne.symm hne)).trans q, hne, ht1, ht2⟩, fun b hb => ?_⟩
      · have e1 : ((i + 1 : Nat) : Int) = (i : Int) + 1 := by omega
        rw [e1]; exact he'
      · have hb' : b < s.heap.objs.size := by
          have e' : b = e ∨ b = it := by simpa using hb
          rcases e' with z | z
          · rw [z]; exact hel
          · rw [z]; exact hil
        rw [upd_ne (Nat.ne_of_lt hb')]
        exact (hf b hb).1
  done := by
    intro X hP hw hK hc i pins s σ H E I hf st hg
    subst hP hw hK
    obtain ⟨hin, ⟨old, he⟩, hit, hne, ht1, ht2⟩ := st
    obtain ⟨hge, xs, hq, hx⟩ := hg
    obtain ⟨its, rv, p, hz⟩ := I.tuple hq
    obtain ⟨f0, f1, f2, f3, f4, f5⟩ := hf it (by simp)
    have D := Draws.tuple (prog := X.prog) (w := X.w) (A := X.A.in1) (by simpa using I.ok.hd hc) it t ht1 its.toArray
    have hl := rv.length
    have ei : i = its.toArray.size := by rw [List.size_toArray]; omega
    subst ei
    exact wpAny_pyNext_enum_endD D he ⟨hit, p⟩ fun h' eb => ⟨rfl, I.turned (t' := s.toks) (fun b o hb q => eb b o hb q) f0 f1 f3 f4 f5⟩
  self := fun A i s Q E st h => let ⟨_, ⟨_, he⟩, _⟩ := st; wpAny_pyIter_enum he h
/-- enumerate(a tuple), walked -/
def iEnT (K : PySem.W.Frag) (te : TE) : TI := fun σ H R => te σ H fun v H1 => ∃ t xs, v = .ref t ∧ SqT K H1 t xs ∧ R (IteT K t xs.length) H1
theorem pi_enT {X : Cx} {e : Expr} {te : TE} {p pos tpos : Pos} {elts : List Expr} {kk : Nat} (hg : Gl X "enumerate") (hm : X.mg "enumerate" = none) (he : PE X e te) (hs : starEach [e] X.env = (false, eval e X.env) :: starEach [] X.env := by rfl) :
    PI X (.Tuple elts kk tpos) (.Call (.Name "enumerate" p) [e] [] pos) (iEnT X.K te) := by
  refine ⟨fun pins s σ H R I h => ?_⟩
  refine Call_ (ld_blt I hg hm boot_enumerate (PyProof.Rows.callWith_type1 (args_cons (thn (he.run pins s σ H _ I h) fun u s1 ⟨v, H1, I1, r1, q1⟩ => args_nil ?_) hs) hs rfl))
  obtain ⟨t, xs, ev, hq, q⟩ := q1
  subst ev
  obtain rfl : u = Value.ref t := r1
  obtain ⟨its, rv, p', hz⟩ := I1.tuple hq
  refine call_en (begins_tuple t its.toArray) p' fun h' hen hit hsz hk => wpAny_pyIter_enum hen ?_
  have I2 : Inv X pins σ H1 { s1 with heap := h' } := I1.kept (t' := s1.toks) hk
  have hlt : t < s1.heap.objs.size := p'.lt
  refine ⟨s1.heap.objs.size + 1, [s1.heap.objs.size + 1, s1.heap.objs.size], _, _, H1, rfl, I2, turn_enT t (s1.heap.objs.size + 1) s1.heap.objs.size xs.length, ⟨Nat.zero_le _, ⟨.none, hen⟩, ⟨_, hit, rfl, rfl⟩, Nat.succ_ne_self _, Nat.ne_of_lt hlt, Nat.ne_of_lt (Nat.lt_succ_of_lt hlt)⟩, fun b hb => ?_, q⟩
  have hle : s1.heap.objs.size ≤ b := by
    rcases List.mem_cons.mp hb with z | z
    · rw [z]; exact Nat.le_add_right _ _
    · rw [List.mem_singleton.mp z]; exact Nat.le_refl _
  exact I1.fpOk hle (I1.hok.fresh hle)
end EN
set_option Elab.async false
set_option linter.all false
set_option maxRecDepth 100000
set_option maxHeartbeats 4000000
namespace PD
open PySem PySem.Spec PyProof.Rows L2
section
variable {C : Cn} {b : Nat} {δ : List Sl} {P : Nat → List D → Prop} {elts : List Expr} {kk : Nat} {tpos pos p0 : Pos} {e : Expr}
/-- for i, x in enumerate(a tuple) -/
theorem ei_enum (B : Blt C.X) (h : EV C b δ e (fun b1 r => ∃ ds, r = .va (.tup ds) ∧ P b1 (enumD 0 ds))) (hg : Gl C.X "enumerate" := by rfl) (hs : starEach [e] C.X.env = (false, eval e C.X.env) :: starEach [] C.X.env := by rfl) :
    EI C b δ (.Tuple elts kk tpos) (.Call (.Name "enumerate" p0) [e] [] pos) P := by
  intro os σ H st R k
  refine WI.of (EN.pi_enT hg B.enumerate peW hs) ?_
  refine h os σ H st _ fun v H1 b1 r f1 j1 rv hr => ?_
  obtain ⟨ds, rfl, q⟩ := hr
  cases rv with | va rv => ?_
  cases rv with | @tup t xs _ hx ra => ?_
  have hl := ra.len
  refine ⟨t, xs, rfl, hx.sq, k _ H1 b1 (enumD 0 ds) f1 j1 ⟨fun os' H' g i hi => ?_, fun os' H' g i hi => ?_⟩ q⟩
  · have hx' := g.keepT hx.sq
    rw [enumD_len] at hi
    have hi' : i < xs.length := by rw [hl]; exact hi
    refine ⟨⟨hi', xs, xs[i], hx', List.getElem?_eq_getElem hi'⟩, fun x H2 y => ?_⟩
    obtain ⟨T, y1, rfl, hT, rfl, hy⟩ := y
    have fn : Fr (fun _ => False) H' (upd H' T (.tup [.int (i : Nat), y1])) := Fr.new hT
    obtain ⟨d, h1, h2⟩ := (ra.fr g.fr).getV (hy xs hx')
    refine ⟨fn, .tup [.int (i : Nat), d], ?_, .tup (.h upd_same) (.cons (.int _) (.cons (h2.fr fn) .nil))⟩
    rw [enumD_get, h1, Nat.zero_add]
    rfl
  · rw [enumD_len] at hi
    exact ⟨by rw [hl]; exact hi, xs, g.keepT hx.sq, rfl⟩
end
end PD
set_option Elab.async false
set_option linter.all false
set_option maxRecDepth 100000
set_option maxHeartbeats 4000000
namespace PD
open PySem PySem.Spec PyProof.Rows L2
def Res.seqU : Res → Option (List D)
  | .ow ds => some ds
  | .li ds => some ds
  | .rd ds => some ds
  | _ => none
theorem RV.seqU_ {K : PySem.W.Frag} {Z : Vol} {os : List Addr} {H H' : Hp} {v : V} {r : Res} {ds : List D} (h : RV K Z os H H' v r) (e : r.seqU = some ds) : ∃ p xs, v = .ref p ∧ H' p = some (.lst xs) ∧ RpA K H' xs ds := by
  cases h with
  | va h => cases e
  | ow n e1 ns r => cases e; exact ⟨_, _, rfl, e1, r⟩
  | li e1 ns no r => cases e; exact ⟨_, _, rfl, e1, r⟩
  | rd e1 ns no r => cases e; exact ⟨_, _, rfl, e1, r⟩
  | od n ns e1 => cases e
  | ro ns no e1 => cases e
section
variable {C : Cn} {b : Nat} {δ : List Sl} {P : Nat → Res → Prop} {pos p0 p1 p2 p3 : Pos} {e e1 e2 : Expr} {j : Nat}
theorem ev_sub (h : EV C b δ e1 (fun b1 r1 => EV C b1 δ e2 fun b2 r2 => ∃ i j, r1 = .va (.int i) ∧ r2 = .va (.int j) ∧ P b2 (.va (.int (i - j))))) : EV C b δ (.BinOp e1 .Sub e2 pos) P := by
  refine ev_bin op_sub (h.imp fun b1 r1 h2 => h2.imp fun b2 r2 ⟨i, j, e1, e2, hq⟩ => ?_)
  subst e1 e2
  intro os H H' x y jj rx ry Q q
  cases rx with | va rx => ?_
  cases ry with | va ry => ?_
  cases rx; cases ry
  exact ⟨i, j, rfl, rfl, q _ H' _ Fr.refl jj (.va (.int _)) hq⟩
theorem ev_mul (h : EV C b δ e1 (fun b1 r1 => EV C b1 δ e2 fun b2 r2 => ∃ i j, r1 = .va (.int i) ∧ r2 = .va (.int j) ∧ CMul i j ∧ P b2 (.va (.int (i * j))))) : EV C b δ (.BinOp e1 .Mult e2 pos) P := by
  refine ev_bin op_mul (h.imp fun b1 r1 h2 => h2.imp fun b2 r2 ⟨i, j, e1, e2, hc, hq⟩ => ?_)
  subst e1 e2
  intro os H H' x y jj rx ry Q q
  cases rx with | va rx => ?_
  cases ry with | va ry => ?_
  cases rx; cases ry
  exact ⟨i, j, rfl, rfl, hc, q _ H' _ Fr.refl jj (.va (.int _)) hq⟩
theorem ev_fdiv (h : EV C b δ e1 (fun b1 r1 => EV C b1 δ e2 fun b2 r2 => ∃ i j, r1 = .va (.int i) ∧ r2 = .va (.int j) ∧ CDiv i j ∧ P b2 (.va (.int (i / j))))) : EV C b δ (.BinOp e1 .FloorDiv e2 pos) P := by
  refine ev_bin op_fdiv (h.imp fun b1 r1 h2 => h2.imp fun b2 r2 ⟨i, j, e1, e2, hc, hq⟩ => ?_)
  subst e1 e2
  intro os H H' x y jj rx ry Q q
  cases rx with | va rx => ?_
  cases ry with | va ry => ?_
  cases rx; cases ry
  exact ⟨i, j, rfl, rfl, hc, q _ H' _ Fr.refl jj (.va (.int _)) hq⟩
theorem ev_mod (h : EV C b δ e1 (fun b1 r1 => EV C b1 δ e2 fun b2 r2 => ∃ i j, r1 = .va (.int i) ∧ r2 = .va (.int j) ∧ 0 < j ∧ P b2 (.va (.int (i % j))))) : EV C b δ (.BinOp e1 .Mod e2 pos) P := by
  refine ev_bin op_mod (h.imp fun b1 r1 h2 => h2.imp fun b2 r2 ⟨i, j, e1, e2, hc, hq⟩ => ?_)
  subst e1 e2
  intro os H H' x y jj rx ry Q q
  cases rx with | va rx => ?_
  cases ry with | va ry => ?_
  cases rx; cases ry
  exact ⟨i, j, rfl, rfl, hc, q _ H' _ Fr.refl jj (.va (.int _)) hq⟩
/-- xs + ys of lists (not frozen) -/
theorem ev_catL (h : EV C b δ e1 (fun b1 r1 => EV C b1 δ e2 fun b2 r2 => ∃ ds es, r1.seqU = some ds ∧ r2.seqU = some es ∧ ds.length + es.length ≤ 16000000 ∧ P b2 (.ow (ds ++ es)))) : EV C b δ (.BinOp e1 .Add e2 pos) P := by
  refine ev_bin op_cat (h.imp fun b1 r1 h2 => h2.imp fun b2 r2 ⟨ds, es, e1, e2, hc, hq⟩ => ?_)
  intro os H H' u v jj rx ry Q q
  obtain ⟨p, xs, rfl, ex, rax⟩ := rx.seqU_ e1
  obtain ⟨r, ys, rfl, ey, ray⟩ := ry.seqU_ e2
  refine ⟨p, r, xs, ys, rfl, rfl, ex, ey, by rw [rax.len, ray.len]; exact sz1 hc, fun a ha => ?_⟩
  have fn : Fr C.Z.S H' (upd H' a (.lst (xs ++ ys))) := Fr.new ha
  refine q _ _ _ fn (jnew jj ha) (.ow ha upd_same (snew jj ha) ((rax.append ray).fr fn)) hq
/-- xs[::-1] of a list -/
theorem ev_revL {k : Nat} (h : EV C b δ e (fun b1 r => ∃ ds, r.seq = some ds ∧ P b1 (.ow ds.reverse))) : EV C b δ (.Subscript e (.Slice none none (some (.UnaryOp .USub (.Constant (.int 1) k p1) p2)) p3) pos) P := by
  intro os σ H st Q q
  refine WE.of (pe_revL peW) ?_
  refine h os σ H st _ fun v H1 b1 r f1 j1 rv hr => ?_
  obtain ⟨ds, hr, hq⟩ := hr
  obtain ⟨p, xs, rfl, e1, ra⟩ := rv.seq_ hr
  refine ⟨p, xs, rfl, e1.sq, fun a ha => ?_⟩
  have fn : Fr C.Z.S H1 (upd H1 a (.lst xs.reverse)) := Fr.new ha
  exact q _ _ b1 _ (f1.trans fn) (jnew j1 ha) (.ow (f1.back ha) upd_same (snew j1 ha) (ra.reverse.fr fn)) hq
end
end PD
set_option Elab.async false
set_option linter.all false
set_option maxRecDepth 100000
set_option maxHeartbeats 4000000
namespace PD
open PySem PySem.Spec PyProof.Rows L2
/-! ### what nobody changes any more -/
/-- a list, a dict -/
def Fz : HO → Prop
  | .lst _ => True
  | .dK _ => True
  | .dT _ => True
  | _ => False
theorem Fz.lk {u : HO} (h : Fz u) (o : Obj) : Lk u (.frz o u) := by
  cases u with
  | lst xs => exact .lf
  | dK k => exact .kf
  | dT k => exact .tf
  | _ => cases h
theorem inv_frz {X : Cx} {pins : List (Addr × Obj)} {σ : L2.St} {H : Hp} {s : Shared} {p : Addr} {u : HO} (I : Inv X pins σ H s) (e : H p = some u) (hu : Fz u) : ∃ o, Inv X pins σ (upd H p (.frz o u)) s := by
  have ok := I.hok p u e
  obtain ⟨o, ho⟩ : ∃ o, s.heap.get? p = some o := by
    cases u with
    | lst xs => obtain ⟨_, _, _, _, h⟩ := ok; exact ⟨_, h⟩
    | dK k => obtain ⟨_, _, _, _, o, _, _, h, _⟩ := ok; exact ⟨o, h⟩
    | dT k => obtain ⟨_, _, _, _, o, _, _, h, _⟩ := ok; exact ⟨o, h⟩
    | _ => cases hu
  have ne : ∀ b w, H b = some w → ¬ Fz w → b ≠ p := fun b w h n z => by
    rw [z, e] at h
    cases h
    exact n hu
  have nn : ∀ b, H b = none → b ≠ p := fun b h z => by rw [z, e] at h; cases h
  refine ⟨o, I.step (h' := s.heap) (g' := s.gens) (d' := s.drawn) (t' := s.toks) (ch := []) (fun _ z => (nomatch z)) (fun b o _ _ _ h _ => h) (fun b o _ _ _ h _ => ⟨o.slots, h⟩) (fun b o _ _ h => by rw [upd_ne (nn b h)]; exact h)
    (fun b o _ h => ⟨o, h⟩) (fun b xs h => by rw [upd_ne (ne b _ h (fun z => z))]; exact h) (fun b o u h => by rw [upd_ne (ne b _ h (fun z => z))]; exact h) (fun b ps h => ⟨#[], by rw [upd_ne (ne b _ h (fun z => z)), h]; simp⟩) (fun m h => h) (fun b w h => ?_) I.bare⟩
  have st : ∀ {b w}, H b = some w → ObjOk X.prog X.w (upd H p (.frz o u)) s.heap b w := fun {b w} h => (I.hok b w h).stay (fun _ _ _ q => q) (fun c q => by rw [upd_ne (ne c _ q (fun z => z))]; exact q) fun c xs q => by rw [upd_ne (ne c _ q (fun z => z))]; exact q
  by_cases hb : b = p
  · subst hb
    rw [upd_same] at h
    cases h
    exact ⟨ho, st e⟩
  · rw [upd_ne hb] at h
    exact st h
theorem WE.ghost {X : Cx} {e : Expr} {σ : L2.St} {H : Hp} {Q0 Q : VK} (h : WE X e σ H Q0) (g : ∀ pins s v H', Inv X pins σ H' s → Q0 v H' → ∃ H2, Inv X pins σ H2 s ∧ Q v H2) : WE X e σ H Q := fun pins s I =>
  thn (h pins s I) fun u s' ⟨v, H', I', r, q⟩ => by
    obtain ⟨H2, I2, q2⟩ := g pins s' v H' I' q
    exact ⟨v, H2, I2, r, q2⟩
theorem WSs.ghost {X : Cx} {ss : List Stmt} {σ : L2.St} {H : Hp} {D : Ends} (g : ∀ pins s, Inv X pins σ H s → ∃ H2, Inv X pins σ H2 s ∧ WSs X ss D σ H2) : WSs X ss D σ H := fun pins s I => by
  obtain ⟨H2, I2, h⟩ := g pins s I
  exact h pins s I2
section
variable {C : Cn} {b : Nat} {δ : List Sl} {P : Nat → Res → Prop} {F : Fin} {e : Expr} {ss : List Stmt}
theorem dco_frz {K : PySem.W.Frag} {H : Hp} {p : Addr} {c : Dc} (h : DcO K H p c) : ∃ u, H p = some u ∧ Fz u ∧ ∀ o, Rp K (upd H p (.frz o u)) (.ref p) c.d := by
  cases h with
  | k e1 l ra => exact ⟨_, e1, trivial, fun o => .dicK upd_same l (ra.fr (Fr.putL (M := fun _ => True) trivial e1 .kf))⟩
  | t e1 l ra => exact ⟨_, e1, trivial, fun o => .dicT upd_same l (ra.fr (Fr.putL (M := fun _ => True) trivial e1 .tf))⟩
theorem ev_frzD (h : EV C b δ e (fun b1 r => ∃ c, r = .od c ∧ P b1 (.va c.d))) : EV C b δ e P := by
  intro os σ H st Q k
  refine WE.ghost (Q0 := fun v H1 => ∃ b1 p c, v = .ref p ∧ Fr C.Z.S H H1 ∧ C.Z.J b1 H1 ∧ H p = none ∧ ¬ C.Z.S p ∧ DcO C.K H1 p c ∧ P b1 (.va c.d)) (h os σ H st _ fun v H1 b1 r f1 j1 rv hr => ?_) fun pins s v H1 I q => ?_
  · obtain ⟨c, rfl, q⟩ := hr
    cases rv with
    | od n ns e1 => exact ⟨b1, _, c, rfl, f1, j1, n, ns, e1, q⟩
  · obtain ⟨b1, p, c, rfl, f1, j1, n, ns, dc, q⟩ := q
    obtain ⟨u, e1, hu, rp⟩ := dco_frz dc
    obtain ⟨o, I2⟩ := inv_frz I e1 hu
    have fp : Fr (fun a => ¬ C.Z.S a) H1 (upd H1 p (.frz o u)) := Fr.putL ns e1 (hu.lk o)
    refine ⟨_, I2, k _ _ b1 _ (fun a u ea => ?_) (C.Z.stay _ _ _ j1 fp) (.va (rp o)) q⟩
    rw [upd_ne (ne_of_none ea n)]
    exact f1 a u ea
/-- a dict of one's own is from now on data -/
theorem sv_frzD (i : Nat) {c : Dc} (hi : δ[i]? = some (.od c)) (h : SV C b (δ.set i (.va c.d)) ss F) : SV C b δ ss F := by
  intro os σ H st D ed
  obtain ⟨o, nd, sub, sl⟩ := id st.sl
  obtain ⟨w, o1, e, a, ho⟩ := sl.at hi
  cases a with
  | @od p _ dc =>
    obtain ⟨u, e1, hu, rp⟩ := dco_frz dc
    refine WSs.ghost fun pins s I => ?_
    obtain ⟨ob, I2⟩ := inv_frz I e1 hu
    have hp := sub p (ho p (by simp))
    have z := st.putG (s' := .va c.d) (q := []) hi e e1 (hu.lk ob) hp (fun o1 z => by cases z; simp) (.inr rfl) (.va (rp ob))
    exact ⟨_, I2, h os σ _ z.1 D (ed.on z.2)⟩
end

/-! ### dicts as data -/
section
variable {κ : Type} [DecidableEq κ]
def valD (kvs : List (κ × D)) (k : κ) : Option D := (kvs.find? fun kv => decide (kv.1 = k)).map (·.2)
def putD (kvs : List (κ × D)) (k : κ) (d : D) : List (κ × D) :=
  if (kvs.any fun kv => decide (kv.1 = k)) = true then kvs.map (fun kv => if kv.1 = k then (kv.1, d) else kv) else kvs ++ [(k, d)]
theorem val_rel {K : PySem.W.Frag} {H : Hp} (k : κ) : ∀ {kv : List (κ × V)} {ds : List (κ × D)}, kv.map (·.1) = ds.map (·.1) → RpA K H (kv.map (·.2)) (ds.map (·.2)) →
    (valD ds k = none → valV kv k = none) ∧ ∀ d, valD ds k = some d → ∃ v, valV kv k = some v ∧ Rp K H v d
  | [], [], _, _ => ⟨fun _ => rfl, fun d h => by cases h⟩
  | [], _ :: _, h, _ => by cases h
  | _ :: _, [], h, _ => by cases h
  | (k1, v1) :: kv, (k2, d2) :: ds, h, r => by
    simp only [List.map_cons, List.cons.injEq] at h
    obtain ⟨h1, h2⟩ := h
    subst h1
    cases r with
    | cons r1 r2 =>
      obtain ⟨g1, g2⟩ := val_rel k h2 r2
      by_cases e : k1 = k
      · refine ⟨fun z => ?_, fun d z => ⟨v1, by simp [valV, List.find?_cons, e], ?_⟩⟩
        · simp [valD, List.find?_cons, e] at z
        · simp [valD, List.find?_cons, e] at z
          rw [← z]
          exact r1
      · have a1 : valD ((k1, d2) :: ds) k = valD ds k := by simp [valD, List.find?_cons, e]
        have a2 : valV ((k1, v1) :: kv) k = valV kv k := by simp [valV, List.find?_cons, e]
        rw [a1, a2]
        exact ⟨g1, g2⟩
theorem any_rel (k : κ) : ∀ {kv : List (κ × V)} {ds : List (κ × D)}, kv.map (·.1) = ds.map (·.1) → (kv.any fun p => decide (p.1 = k)) = (ds.any fun p => decide (p.1 = k))
  | [], [], _ => rfl
  | [], _ :: _, h => by cases h
  | _ :: _, [], h => by cases h
  | (k1, v1) :: kv, (k2, d2) :: ds, h => by
    simp only [List.map_cons, List.cons.injEq] at h
    obtain ⟨h1, h2⟩ := h
    subst h1
    simp only [List.any_cons, any_rel k h2]
theorem put_rel {K : PySem.W.Frag} {H : Hp} (k : κ) {v : V} {d : D} (rv : Rp K H v d) {kv : List (κ × V)} {ds : List (κ × D)} (h : kv.map (·.1) = ds.map (·.1)) (r : RpA K H (kv.map (·.2)) (ds.map (·.2))) :
    (putK kv k v).map (·.1) = (putD ds k d).map (·.1) ∧ RpA K H ((putK kv k v).map (·.2)) ((putD ds k d).map (·.2)) := by
  unfold putK putD
  rw [any_rel k h]
  split
  · rename_i hx
    clear hx
    induction kv generalizing ds with
    | nil =>
      cases ds with
      | nil => exact ⟨rfl, .nil⟩
      | cons _ _ => cases h
    | cons p kv ih =>
      cases ds with
      | nil => cases h
      | cons q ds =>
        simp only [List.map_cons, List.cons.injEq] at h
        obtain ⟨h1, h2⟩ := h
        cases r with
        | cons r1 r2 =>
          obtain ⟨i1, i2⟩ := ih h2 r2
          obtain ⟨k1, v1⟩ := p
          obtain ⟨k2, d2⟩ := q
          cases (show k1 = k2 from h1)
          by_cases e : k1 = k
          · simp only [List.map_cons, if_pos e]
            exact ⟨by rw [i1], .cons rv i2⟩
          · simp only [List.map_cons, if_neg e]
            exact ⟨by rw [i1], .cons r1 i2⟩
  · rw [List.map_append, List.map_append, List.map_append, List.map_append, h]
    exact ⟨rfl, r.append (.cons rv .nil)⟩
end
end PD
set_option Elab.async false
set_option linter.all false
set_option maxRecDepth 100000
set_option maxHeartbeats 4000000
namespace PD
open PySem PySem.Spec PyProof.Rows L2
/-! ### a dict looked into -/
/-- what the module's own tuples are: never such a key -/
structure KC (K : PySem.W.Frag) : Prop where
  at_ : ∀ o its n, K.lookup (He.ga K "_TAKEN_BACK") = some o → o.cls = .type "tuple" → o.data = .seq its n → ∀ xs, Vals xs its.toList → xs = [.str "at", .str ""]
theorem rp_keys {K : PySem.W.Frag} {H : Hp} : ∀ {k : List Key} {xs : List V}, RpA K H xs (k.map kD) → xs = k.map kV
  | [], _, .nil => rfl
  | .inl i :: k, _, .cons a r => by
    cases a
    rw [rp_keys r]
    rfl
  | .inr x :: k, _, .cons a r => by
    cases a
    rw [rp_keys r]
    rfl
/-- the key is no tuple of the module's own -/
def Kn (k : List Key) : Prop := k ≠ [.inr "at", .inr ""]
theorem rp_key {K : PySem.W.Frag} {H : Hp} {v : V} {k : List Key} (kc : KC K) (hk : Kn k) (r : Rp K H v (.tup (k.map kD))) : ∃ a, v = .ref a ∧ H a = some (.tup (k.map kV)) := by
  cases r with
  | @tup a xs _ h ra =>
    have e := rp_keys ra
    subst e
    cases h with
    | h e => exact ⟨a, rfl, e⟩
    | c ca e1 e2 e3 e4 e5 =>
      cases ca
      have z := kc.at_ _ _ _ e1 e2 e3 _ e5
      exact absurd (by
        cases k with
        | nil => cases z
        | cons k1 k =>
          cases k with
          | nil => simp at z
          | cons k2 k =>
            cases k with
            | cons _ _ => simp at z
            | nil =>
              simp only [List.map_cons, List.map_nil, List.cons.injEq, and_true] at z
              cases k1 with
              | inl i => cases z.1
              | inr x =>
                cases k2 with
                | inl i => cases z.2
                | inr y =>
                  cases z.1
                  cases z.2
                  rfl) hk
theorem rp_kd {K : PySem.W.Frag} {H : Hp} {v : V} {k : Key} (r : Rp K H v (kD k)) : v = kV k := by
  cases k with
  | inl i => cases r; rfl
  | inr x => cases r; rfl
/-- a dict as data or of one's own, asked for a key: what it holds -/
inductive Ask : Res → D → Option D → Prop
  | dk {kvs : List (Key × D)} {k : Key} : Ask (.va (.dk kvs)) (kD k) (valD kvs k)
  | dt {kvs : List (List Key × D)} {k : List Key} : Kn k → Ask (.va (.dt kvs)) (.tup (k.map kD)) (valD kvs k)
  | rk {kvs : List (Key × D)} {k : Key} : Ask (.ro (.k kvs)) (kD k) (valD kvs k)
  | rt {kvs : List (List Key × D)} {k : List Key} : Kn k → Ask (.ro (.t kvs)) (.tup (k.map kD)) (valD kvs k)
  | ok {kvs : List (Key × D)} {k : Key} : Ask (.od (.k kvs)) (kD k) (valD kvs k)
  | ot {kvs : List (List Key × D)} {k : List Key} : Kn k → Ask (.od (.t kvs)) (.tup (k.map kD)) (valD kvs k)
theorem Ask.str {kvs : List (Key × D)} {x : Str} : Ask (.va (.dk kvs)) (.str x) (valD kvs (.inr x)) := .dk (k := .inr x)
theorem Ask.strR {kvs : List (Key × D)} {x : Str} : Ask (.ro (.k kvs)) (.str x) (valD kvs (.inr x)) := .rk (k := .inr x)
/-- the dict at a, seen from H' on -/
theorem ask_ok {K : PySem.W.Frag} {Z : Vol} {os : List Addr} {H H1 : Hp} {v y : V} {r : Res} {d : D} {o : Option D} (kc : KC K) (h : Ask r d o) (rv : RV K Z os H H1 v r) (ry : Rp K H1 y d) :
    ∃ a, v = .ref a ∧ (o = none → DGet H1 a y none) ∧ ∀ d', o = some d' → ∃ w, DGet H1 a y (some w) ∧ Rp K H1 w d' := by
  have kk : ∀ {a : Addr} {kv : List (Key × V)} {kvs : List (Key × D)} {k : Key}, Rd H1 a (.dK kv) → kv.map (·.1) = kvs.map (·.1) → RpA K H1 (kv.map (·.2)) (kvs.map (·.2)) → Rp K H1 y (kD k) →
      (valD kvs k = none → DGet H1 a y none) ∧ ∀ d', valD kvs k = some d' → ∃ w, DGet H1 a y (some w) ∧ Rp K H1 w d' := fun {a kv kvs k} e l ra ry => by
    have z := rp_kd ry
    subst z
    obtain ⟨g1, g2⟩ := val_rel k l ra
    refine ⟨fun q => .inl ⟨kv, k, e, rfl, (g1 q).symm⟩, fun d' q => ?_⟩
    obtain ⟨w, q1, q2⟩ := g2 d' q
    exact ⟨w, .inl ⟨kv, k, e, rfl, q1.symm⟩, q2⟩
  have tt : ∀ {a : Addr} {kv : List (List Key × V)} {kvs : List (List Key × D)} {k : List Key}, Kn k → Rd H1 a (.dT kv) → kv.map (·.1) = kvs.map (·.1) → RpA K H1 (kv.map (·.2)) (kvs.map (·.2)) → Rp K H1 y (.tup (k.map kD)) →
      (valD kvs k = none → DGet H1 a y none) ∧ ∀ d', valD kvs k = some d' → ∃ w, DGet H1 a y (some w) ∧ Rp K H1 w d' := fun {a kv kvs k} hk e l ra ry => by
    obtain ⟨t, rfl, ht⟩ := rp_key kc hk ry
    obtain ⟨g1, g2⟩ := val_rel k l ra
    refine ⟨fun q => .inr ⟨kv, k, t, e, rfl, ht, (g1 q).symm⟩, fun d' q => ?_⟩
    obtain ⟨w, q1, q2⟩ := g2 d' q
    exact ⟨w, .inr ⟨kv, k, t, e, rfl, ht, q1.symm⟩, q2⟩
  cases h with
  | dk =>
    cases rv with
    | va rv => cases rv with | dicK e l ra => exact ⟨_, rfl, kk (.inr ⟨_, e⟩) l ra ry⟩
  | dt hk =>
    cases rv with
    | va rv => cases rv with | dicT e l ra => exact ⟨_, rfl, tt hk (.inr ⟨_, e⟩) l ra ry⟩
  | rk =>
    cases rv with
    | ro _ _ e => cases e with | k e l ra => exact ⟨_, rfl, kk (.inl e) l ra ry⟩
  | rt hk =>
    cases rv with
    | ro _ _ e => cases e with | t e l ra => exact ⟨_, rfl, tt hk (.inl e) l ra ry⟩
  | ok =>
    cases rv with
    | od _ _ e => cases e with | k e l ra => exact ⟨_, rfl, kk (.inl e) l ra ry⟩
  | ot hk =>
    cases rv with
    | od _ _ e => cases e with | t e l ra => exact ⟨_, rfl, tt hk (.inl e) l ra ry⟩
section
variable {C : Cn} {b : Nat} {δ : List Sl} {P : Nat → Res → Prop} {Pt : Nat → Bool → Prop} {F : Fin} {e e1 e2 e3 o i value : Expr} {pos p0 p1 apos : Pos} {rest ss : List Stmt}
/-- a dict of one's own, at its name -/
theorem ev_varD (i : Nat) {x : Str} {c : Dc} (h : δ[i]? = some (.od c)) (q : P b (.ro c)) (hN : C.X.N[i]? = some x := by rfl)
    (hv : Vis C.X.env.scope x := by first | exact Or.inl rfl | exact Or.inr (Or.inl rfl) | exact Or.inr (Or.inr rfl)) (hd : (x == ("__debug__" : Str)) = false := by decide) (hcd : (x == ("__classdict__" : Str)) = false := by decide) : EV C b δ (.Name x pos) P := by
  intro os σ H st Q k
  obtain ⟨o, _, sub, sl⟩ := st.sl
  obtain ⟨w, o1, e, a, ho⟩ := sl.at h
  cases a with
  | od e1 =>
    have hp := sub _ (ho _ List.mem_cons_self)
    exact WE.of (pe_var hN hv hd hcd) ⟨_, e, k _ H b _ Fr.refl st.j (.ro (st.new _ hp).2.1 hp e1) q⟩
theorem ev_dnewK (q : P b (.od (.k []))) : EV C b δ (.Dict [] [] pos) P := fun os σ H st Q k => WE.of pe_dnewK fun p hp =>
  k _ _ b _ (Fr.new hp) (jnew st.j hp) (.od hp (snew st.j hp) (.k (kv := []) (by exact upd_same) rfl .nil)) q
theorem ev_dnewT (q : P b (.od (.t []))) : EV C b δ (.Dict [] [] pos) P := fun os σ H st Q k => WE.of pe_dnewT fun p hp =>
  k _ _ b _ (Fr.new hp) (jnew st.j hp) (.od hp (snew st.j hp) (.t (kv := []) (by exact upd_same) rfl .nil)) q
/-- d[i], there -/
theorem ev_dget (kc : KC C.K) (hu : C.X.A.units + 1 < cLine) (h : EV C b δ o (fun b1 r1 => EV C b1 δ i fun b2 r2 => ∃ d d', r2 = .va d ∧ Ask r1 d (some d') ∧ P b2 (.va d'))) (hs : NoSl i := by intro _ _; rfl) : EV C b δ (.Subscript o i pos) P := by
  intro os σ H st Q q
  refine WE.of (pe_dget hu peW peW hs) ?_
  refine h os σ H st _ fun v1 H1 b1 r1 f1 j1 rv1 h2 => ?_
  refine h2 os σ H1 (st.on f1 j1) _ fun v2 H2 b2 r2 f2 j2 rv2 h3 => ?_
  obtain ⟨d, d', rfl, ha, hp⟩ := h3
  cases rv2 with | va rv2 => ?_
  obtain ⟨a, rfl, _, g⟩ := ask_ok kc ha (rv1.on f2) rv2
  obtain ⟨w, g1, g2⟩ := g d' rfl
  exact ⟨a, w, rfl, g1, q _ H2 b2 _ (f1.trans f2) j2 (.va g2) hp⟩
end
end PD
set_option Elab.async false
set_option linter.all false
set_option maxRecDepth 100000
set_option maxHeartbeats 4000000
namespace PD
open PySem PySem.Spec PyProof.Rows L2
section
variable {C : Cn} {b : Nat} {δ : List Sl} {P : Nat → Res → Prop} {Pt : Nat → Bool → Prop} {F : Fin} {e e1 e2 e3 o i value : Expr} {pos p0 p1 pos' apos : Pos} {rest ss : List Stmt}
/-- an own dict, asked: none or some -/
theorem ask_get {K : PySem.W.Frag} {Z : Vol} {os : List Addr} {H H1 : Hp} {v y : V} {r : Res} {d : D} {od : Option D} (kc : KC K) (h : Ask r d od) (rv : RV K Z os H H1 v r) (ry : Rp K H1 y d) :
    ∃ a ov, v = .ref a ∧ DGet H1 a y ov ∧ ov.isSome = od.isSome ∧ ∀ z dz, Rp K H1 z dz → Rp K H1 (ov.getD z) (od.getD dz) := by
  obtain ⟨a, rfl, g1, g2⟩ := ask_ok kc h rv ry
  cases od with
  | none => exact ⟨a, none, rfl, g1 rfl, rfl, fun z dz q => q⟩
  | some d' =>
    obtain ⟨w, g, q⟩ := g2 d' rfl
    exact ⟨a, some w, rfl, g, rfl, fun _ _ _ => q⟩
/-- a dict -/
def Res.isDc : Res → Bool
  | .va (.dk _) => true
  | .va (.dt _) => true
  | .od _ => true
  | .ro _ => true
  | _ => false
theorem isDc_ok {K : PySem.W.Frag} {Z : Vol} {os : List Addr} {H H1 : Hp} {v : V} {r : Res} (rv : RV K Z os H H1 v r) (h : r.isDc = true) : ∃ a, v = .ref a ∧ IsD H1 a := by
  cases rv with
  | va rv =>
    cases rv with
    | dicK e _ _ => exact ⟨_, rfl, .inl ⟨_, .inr ⟨_, e⟩⟩⟩
    | dicT e _ _ => exact ⟨_, rfl, .inr ⟨_, .inr ⟨_, e⟩⟩⟩
    | _ => exact nomatch h
  | od _ _ e =>
    cases e with
    | k e _ _ => exact ⟨_, rfl, .inl ⟨_, .inl e⟩⟩
    | t e _ _ => exact ⟨_, rfl, .inr ⟨_, .inl e⟩⟩
  | ro _ _ e =>
    cases e with
    | k e _ _ => exact ⟨_, rfl, .inl ⟨_, .inl e⟩⟩
    | t e _ _ => exact ⟨_, rfl, .inr ⟨_, .inl e⟩⟩
  | _ => exact nomatch h
/-- d.get(i, dflt) -/
theorem ev_getd (kc : KC C.K) (hu : C.X.A.units + 1 < cLine) (h : EV C b δ o (fun b1 r1 => r1.isDc = true ∧ EV C b1 δ e fun b2 r2 => EV C b2 δ e1 fun b3 r3 => ∃ d od dz, r2 = .va d ∧ r3 = .va dz ∧ Ask r1 d od ∧ P b3 (.va (od.getD dz))))
    (m : M2 C.X o "get" apos e e1 pos := by exact ⟨rfl, rfl, rfl, rfl⟩) : EV C b δ (.Call (.Attribute o "get" apos) [e, e1] [] pos) P := by
  intro os σ H st Q q
  refine WE.of (pe_dget2 hu peW peW peW m) ?_
  refine h os σ H st _ fun v1 H1 b1 r1 f1 j1 rv1 h2 => ?_
  obtain ⟨hd, h2⟩ := h2
  obtain ⟨a, rfl, isd⟩ := isDc_ok rv1 hd
  refine ⟨a, rfl, isd, ?_⟩
  refine h2 os σ H1 (st.on f1 j1) _ fun v2 H2 b2 r2 f2 j2 rv2 h3 => ?_
  refine h3 os σ H2 ((st.on f1 j1).on f2 j2) _ fun v3 H3 b3 r3 f3 j3 rv3 h4 => ?_
  obtain ⟨d, od, dz, rfl, rfl, ha, hp⟩ := h4
  cases rv2 with | va rv2 => ?_
  cases rv3 with | va rv3 => ?_
  obtain ⟨a', ov, ea, g, _, gd⟩ := ask_get kc ha (rv1.on (f2.trans f3)) (rv2.fr f3)
  cases ea
  exact ⟨ov, g, q _ H3 b3 _ ((f1.trans f2).trans f3) j3 (.va (gd _ _ rv3)) hp⟩
/-- d[i] = value, d a dict of one's own at its name -/
theorem sv_dput (kc : KC C.K) (hu : C.X.A.units + 1 < cLine) (n : Nat) {x : Str}
    (h : EV C b δ value (fun b1 r1 => EV C b1 δ i fun b2 r2 => ∃ d1 d2, r1 = .va d1 ∧ r2 = .va d2 ∧
      ((∃ kvs k, δ[n]? = some (.od (.k kvs)) ∧ d2 = kD k ∧ kvs.length < 16000000 ∧ SV C b2 (δ.set n (.od (.k (putD kvs k d1)))) rest F) ∨
       ∃ kvs k, δ[n]? = some (.od (.t kvs)) ∧ Kn k ∧ d2 = .tup (k.map kD) ∧ kvs.length < 16000000 ∧ SV C b2 (δ.set n (.od (.t (putD kvs k d1)))) rest F)))
    (hN : C.X.N[n]? = some x := by rfl) (hv : Vis C.X.env.scope x := by first | exact Or.inl rfl | exact Or.inr (Or.inl rfl) | exact Or.inr (Or.inr rfl)) (hd : (x == ("__debug__" : Str)) = false := by decide) (hcd : (x == ("__classdict__" : Str)) = false := by decide)
    (hex : ∃ c, δ[n]? = some (.od c) := by exact ⟨_, rfl⟩) (hs : swapsWith value (some (.Subscript (.Name x p0) i pos')) pos.line C.X.env = pure false := by rfl) : SV C b δ (.Assign [.Subscript (.Name x p0) i pos'] value pos :: rest) F := by
  intro os σ H st D ed
  refine WSs.of (pss_cons (ps_dput hu (pe_var hN hv hd hcd) peW peW hs) pssW) ?_
  refine h os σ H st _ fun v1 H1 b1 r1 f1 j1 rv1 h2 => ?_
  -- the dict itself stands at its name all the while
  have st1 := st.on f1 j1
  have isd : ∀ {c : Dc}, δ[n]? = some (.od c) → ∃ p, σ[n]? = some (some (.ref p)) := fun {c} hc => by
    obtain ⟨p, e, _⟩ := st.ownD hc
    exact ⟨p, e⟩
  obtain ⟨c, hc⟩ := hex
  obtain ⟨p, ep⟩ := isd hc
  refine ⟨_, ep, ?_⟩
  refine h2 os σ H1 st1 _ fun v2 H2 b2 r2 f2 j2 rv2 h3 => ?_
  obtain ⟨d1, d2, rfl, rfl, h3⟩ := h3
  cases rv1 with | va rv1 => ?_
  cases rv2 with | va rv2 => ?_
  have st2 := st1.on f2 j2
  rcases h3 with ⟨kvs, k, hk, rfl, hl, q⟩ | ⟨kvs, k, hk, kn, rfl, hl, q⟩
  · obtain ⟨p', ep', _, _, dc, go⟩ := st2.ownD hk
    rw [ep] at ep'
    cases ep'
    cases dc with
    | @k kv _ e l ra =>
      have z := rp_kd rv2
      subst z
      have hlen : kv.length = kvs.length := by have := congrArg List.length l; simpa using this
      obtain ⟨i1, i2⟩ := put_rel (v := v1) k (rv1.fr f2) l ra
      obtain ⟨s3, g3⟩ := go _ (.dK (putK kv k v1)) (.k (putD kvs k d1)) e .k (.k upd_same i1 (i2.fr (Fr.putL (M := fun _ => True) trivial e .k)))
      exact ⟨p, _, rfl, DPut.k e (by rw [hlen]; exact Nat.lt_of_lt_of_le hl (by decide)), q os σ _ s3 D (ed.on (((Gr.of f1).trans (Gr.of f2)).trans g3))⟩
  · obtain ⟨p', ep', _, _, dc, go⟩ := st2.ownD hk
    rw [ep] at ep'
    cases ep'
    cases dc with
    | @t kv _ e l ra =>
      obtain ⟨t, rfl, ht⟩ := rp_key kc kn rv2
      have hlen : kv.length = kvs.length := by have := congrArg List.length l; simpa using this
      obtain ⟨i1, i2⟩ := put_rel (v := v1) k (rv1.fr f2) l ra
      obtain ⟨s3, g3⟩ := go _ (.dT (putK kv k v1)) (.t (putD kvs k d1)) e .t (.t upd_same i1 (i2.fr (Fr.putL (M := fun _ => True) trivial e .t)))
      exact ⟨p, _, rfl, DPut.t e ht (by rw [hlen]; exact Nat.lt_of_lt_of_le hl (by decide)), q os σ _ s3 D (ed.on (((Gr.of f1).trans (Gr.of f2)).trans g3))⟩
end
end PD
set_option Elab.async false
set_option linter.all false
set_option maxRecDepth 100000
set_option maxHeartbeats 4000000
namespace PD
open PySem PySem.Spec PyProof.Rows L2
/-! ### == of data -/
mutual
/-- as the library's data -/
def D.pd : D → PyData
  | .non => .none
  | .bl b => .bool b
  | .int i => .int i
  | .str x => .str x
  | .tup ds => .tuple (pds ds)
  | .lst ds => .list (pds ds)
  | .obj _ _ => .none
  | .dk _ => .none
  | .dt _ => .none
def pds : List D → List PyData
  | [] => []
  | d :: ds => d.pd :: pds ds
end
mutual
/-- no dict, no thing known by its address alone -/
def D.pl : D → Bool
  | .tup ds => pls ds
  | .lst ds => pls ds
  | .obj _ _ => false
  | .dk _ => false
  | .dt _ => false
  | .non => true
  | .bl _ => true
  | .int _ => true
  | .str _ => true
def pls : List D → Bool
  | [] => true
  | d :: ds => d.pl && pls ds
end
mutual
theorem rp_dp {K : PySem.W.Frag} {H : Hp} : ∀ (d : D) (v : V), Rp K H v d → d.pl = true → Dp K H v d.pd
  | .non, _, h, _ => by cases h; rw [D.pd]; exact .non
  | .bl b, _, h, _ => by cases h; rw [D.pd]; exact .bl b
  | .int i, _, h, _ => by cases h; rw [D.pd]; exact .int i
  | .str x, _, h, _ => by cases h; rw [D.pd]; exact .str x
  | .tup ds, _, h, p => by
    rw [D.pl] at p
    cases h with
    | tup h r => rw [D.pd]; exact .tup h.sq (rps_dp ds _ r p)
  | .lst ds, _, h, p => by
    rw [D.pl] at p
    cases h with
    | lst h r => rw [D.pd]; exact .lst (.inl (.inr ⟨_, h⟩)) (rps_dp ds _ r p)
  | .obj _ _, _, _, p => by rw [D.pl] at p; cases p
  | .dk _, _, _, p => by rw [D.pl] at p; cases p
  | .dt _, _, _, p => by rw [D.pl] at p; cases p
theorem rps_dp {K : PySem.W.Frag} {H : Hp} : ∀ (ds : List D) (vs : List V), RpA K H vs ds → pls ds = true → DpAll K H vs (pds ds)
  | [], _, h, _ => by cases h; rw [pds]; exact .nil
  | d :: ds, _, h, p => by
    rw [pls, Bool.and_eq_true] at p
    cases h with
    | cons a r => rw [pds]; exact .cons (rp_dp d _ a p.1) (rps_dp ds _ r p.2)
end
/-- a list, data: what is compared -/
def Res.cd : Res → Option D
  | .va d => some d
  | .ow ds => some (.lst ds)
  | .li ds => some (.lst ds)
  | .rd ds => some (.lst ds)
  | .od _ => none
  | .ro _ => none
theorem rv_dp {K : PySem.W.Frag} {Z : Vol} {os : List Addr} {H H' : Hp} {v : V} {r : Res} {d : D} (rv : RV K Z os H H' v r) (e : r.cd = some d) (p : d.pl = true) : Dp K H' v d.pd := by
  cases rv with
  | va rv => cases e; exact rp_dp _ _ rv p
  | ow n e1 ns ra => cases e; rw [D.pl] at p; rw [D.pd]; exact .lst (.inl (.inl e1)) (rps_dp _ _ ra p)
  | li e1 ns no ra => cases e; rw [D.pl] at p; rw [D.pd]; exact .lst (.inl (.inl e1)) (rps_dp _ _ ra p)
  | rd e1 ns no ra => cases e; rw [D.pl] at p; rw [D.pd]; exact .lst (.inl (.inl e1)) (rps_dp _ _ ra p)
  | od n ns e1 => cases e
  | ro ns no e1 => cases e
/-- plain, no deeper than 64, no text too long -/
def D.sh (d : D) : Bool := d.pl && SeqAt.shaped d.pd
theorem sh_ok {d : D} (h : d.sh = true) : d.pl = true ∧ SeqAt.shaped d.pd = true := Bool.and_eq_true_iff.mp h
/-- Python's == -/
def D.eqv (d e : D) : Bool := PyData.eqv d.pd e.pd
section
variable {C : Cn} {b : Nat} {δ : List Sl} {P : Nat → Res → Prop} {Pt : Nat → Bool → Prop} {e e1 e2 : Expr} {pos : Pos}
theorem ev_eqD (hu : C.X.A.units + 64 < cLine) (h : EV C b δ e1 (fun b1 r1 => EV C b1 δ e2 fun b2 r2 => ∃ d1 d2, r1.cd = some d1 ∧ r2.cd = some d2 ∧ d1.sh = true ∧ d2.sh = true ∧ P b2 (.va (.bl (d1.eqv d2))))) : EV C b δ (.Compare e1 [.Eq] [e2] pos) P := by
  refine ev_cmp (op_eqD hu) (nomark _) (h.imp fun b1 r1 h2 => h2.imp fun b2 r2 ⟨d1, d2, c1, c2, s1, s2, hq⟩ => ?_)
  intro os H H' x y jj rx ry Q q
  exact ⟨_, _, rv_dp rx c1 (sh_ok s1).1, rv_dp ry c2 (sh_ok s2).1, (sh_ok s1).2, (sh_ok s2).2, q _ hq⟩
theorem et_eqD (hu : C.X.A.units + 64 < cLine) (h : EV C b δ e1 (fun b1 r1 => EV C b1 δ e2 fun b2 r2 => ∃ d1 d2, r1.cd = some d1 ∧ r2.cd = some d2 ∧ d1.sh = true ∧ d2.sh = true ∧ Pt b2 (d1.eqv d2))) : ET C b δ (.Compare e1 [.Eq] [e2] pos) Pt := by
  refine et_cmp (op_eqD hu) (nomark _) (h.imp fun b1 r1 h2 => h2.imp fun b2 r2 ⟨d1, d2, c1, c2, s1, s2, hq⟩ => ?_)
  intro os H H' x y jj rx ry Q q
  exact ⟨_, _, rv_dp rx c1 (sh_ok s1).1, rv_dp ry c2 (sh_ok s2).1, (sh_ok s1).2, (sh_ok s2).2, q _ hq⟩
theorem ev_neD (hu : C.X.A.units + 64 < cLine) (h : EV C b δ e1 (fun b1 r1 => EV C b1 δ e2 fun b2 r2 => ∃ d1 d2, r1.cd = some d1 ∧ r2.cd = some d2 ∧ d1.sh = true ∧ d2.sh = true ∧ P b2 (.va (.bl (!d1.eqv d2))))) : EV C b δ (.Compare e1 [.NotEq] [e2] pos) P := by
  refine ev_cmp (op_neD hu) (nomark _) (h.imp fun b1 r1 h2 => h2.imp fun b2 r2 ⟨d1, d2, c1, c2, s1, s2, hq⟩ => ?_)
  intro os H H' x y jj rx ry Q q
  exact ⟨_, _, rv_dp rx c1 (sh_ok s1).1, rv_dp ry c2 (sh_ok s2).1, (sh_ok s1).2, (sh_ok s2).2, q _ hq⟩
theorem et_neD (hu : C.X.A.units + 64 < cLine) (h : EV C b δ e1 (fun b1 r1 => EV C b1 δ e2 fun b2 r2 => ∃ d1 d2, r1.cd = some d1 ∧ r2.cd = some d2 ∧ d1.sh = true ∧ d2.sh = true ∧ Pt b2 (!d1.eqv d2))) : ET C b δ (.Compare e1 [.NotEq] [e2] pos) Pt := by
  refine et_cmp (op_neD hu) (nomark _) (h.imp fun b1 r1 h2 => h2.imp fun b2 r2 ⟨d1, d2, c1, c2, s1, s2, hq⟩ => ?_)
  intro os H H' x y jj rx ry Q q
  exact ⟨_, _, rv_dp rx c1 (sh_ok s1).1, rv_dp ry c2 (sh_ok s2).1, (sh_ok s1).2, (sh_ok s2).2, q _ hq⟩
/-- x in a list, of data -/
theorem et_inL (hu : C.X.A.units + 65 < cLine) (h : EV C b δ e1 (fun b1 r1 => EV C b1 δ e2 fun b2 r2 => ∃ d1 ds, r1.cd = some d1 ∧ r2.cd = some (.lst ds) ∧ d1.sh = true ∧ (D.lst ds).sh = true ∧ Pt b2 (ds.any fun z => z.eqv d1))) (hm : behindInMarks .In e2 = false := by rfl) : ET C b δ (.Compare e1 [.In] [e2] pos) Pt := by
  refine et_cmp (op_inD hu) hm (h.imp fun b1 r1 h2 => h2.imp fun b2 r2 ⟨d1, ds, c1, c2, s1, s2, hq⟩ => ?_)
  intro os H H' x y jj rx ry Q q
  have z := rv_dp ry c2 (sh_ok s2).1
  rw [D.pd] at z
  have z2 := (sh_ok s2).2
  rw [D.pd] at z2
  refine ⟨_, pds ds, rv_dp rx c1 (sh_ok s1).1, z, (sh_ok s1).2, z2, q _ ?_⟩
  have e : ∀ ds : List D, ((pds ds).any fun z => PyData.eqv z d1.pd) = ds.any fun z => z.eqv d1 := by
    intro ds
    induction ds with
    | nil => rfl
    | cons d ds ih => rw [pds, List.any_cons, List.any_cons, ih]; rfl
  rw [e]
  exact hq
theorem et_ninL (hu : C.X.A.units + 65 < cLine) (h : EV C b δ e1 (fun b1 r1 => EV C b1 δ e2 fun b2 r2 => ∃ d1 ds, r1.cd = some d1 ∧ r2.cd = some (.lst ds) ∧ d1.sh = true ∧ (D.lst ds).sh = true ∧ Pt b2 (!ds.any fun z => z.eqv d1))) (hm : behindInMarks .NotIn e2 = false := by rfl) : ET C b δ (.Compare e1 [.NotIn] [e2] pos) Pt := by
  refine et_cmp (op_notInD hu) hm (h.imp fun b1 r1 h2 => h2.imp fun b2 r2 ⟨d1, ds, c1, c2, s1, s2, hq⟩ => ?_)
  intro os H H' x y jj rx ry Q q
  have z := rv_dp ry c2 (sh_ok s2).1
  rw [D.pd] at z
  have z2 := (sh_ok s2).2
  rw [D.pd] at z2
  refine ⟨_, pds ds, rv_dp rx c1 (sh_ok s1).1, z, (sh_ok s1).2, z2, q _ ?_⟩
  have e : ∀ ds : List D, ((pds ds).any fun z => PyData.eqv z d1.pd) = ds.any fun z => z.eqv d1 := by
    intro ds
    induction ds with
    | nil => rfl
    | cons d ds ih => rw [pds, List.any_cons, List.any_cons, ih]; rfl
  rw [e]
  exact hq
end
mutual
/-- no truth values in it -/
def D.nb : D → Bool
  | .tup ds => nbs ds
  | .lst ds => nbs ds
  | .bl _ => false
  | .obj _ _ => false
  | .dk _ => false
  | .dt _ => false
  | .non => true
  | .int _ => true
  | .str _ => true
def nbs : List D → Bool
  | [] => true
  | d :: ds => d.nb && nbs ds
end
mutual
theorem eqv_iff : ∀ (d e : D), d.nb = true → e.nb = true → (d.eqv e = true ↔ d = e)
  | .non, e, _, h => by cases e <;> simp_all [D.eqv, D.pd, PyData.eqv, D.nb]
  | .int i, e, _, h => by cases e <;> simp_all [D.eqv, D.pd, PyData.eqv, D.nb]
  | .str x, e, _, h => by cases e <;> simp_all [D.eqv, D.pd, PyData.eqv, D.nb]
  | .tup ds, e, h1, h => by
    cases e with
    | tup es =>
      rw [D.nb] at h1 h
      have := eqvs_iff ds es h1 h
      simp only [D.eqv, D.pd, PyData.eqv, D.tup.injEq]
      exact this
    | _ => simp_all [D.eqv, D.pd, PyData.eqv, D.nb]
  | .lst ds, e, h1, h => by
    cases e with
    | lst es =>
      rw [D.nb] at h1 h
      have := eqvs_iff ds es h1 h
      simp only [D.eqv, D.pd, PyData.eqv, D.lst.injEq]
      exact this
    | _ => simp_all [D.eqv, D.pd, PyData.eqv, D.nb]
  | .bl _, _, h, _ => by simp [D.nb] at h
  | .obj _ _, _, h, _ => by simp [D.nb] at h
  | .dk _, _, h, _ => by simp [D.nb] at h
  | .dt _, _, h, _ => by simp [D.nb] at h
theorem eqvs_iff : ∀ (ds es : List D), nbs ds = true → nbs es = true → (PyData.eqvAll (pds ds) (pds es) = true ↔ ds = es)
  | [], [], _, _ => by simp [pds, PyData.eqvAll]
  | [], _ :: _, _, _ => by simp [pds, PyData.eqvAll]
  | _ :: _, [], _, _ => by simp [pds, PyData.eqvAll]
  | d :: ds, e :: es, h1, h2 => by
    rw [nbs, Bool.and_eq_true] at h1 h2
    have a := eqv_iff d e h1.1 h2.1
    have b := eqvs_iff ds es h1.2 h2.2
    simp only [pds, PyData.eqvAll, Bool.and_eq_true, List.cons.injEq]
    exact and_congr a b
end
end PD
set_option Elab.async false
set_option linter.all false
set_option maxRecDepth 100000
set_option maxHeartbeats 4000000
namespace PD
open PySem PySem.Spec PyProof.Rows L2
/-! ### sorted of data -/
/-- Python's order of data of one kind -/
def leD (d e : D) : Bool := PySem.W.dataLe false D.pd d e
def srtD (ds : List D) : List D := ds.mergeSort leD
/-- what may be sorted: all of one kind; all tuples with an item, or none a tuple -/
structure Srt (ds : List D) : Prop where
  pl : pls ds = true
  al : PySem.W.AllAlike (pds ds)
  so : PySem.W.Sortable (pds ds)
  dp : ∀ d ∈ ds, d.pd.depth ≤ 32
theorem pds_map (ds : List D) : pds ds = ds.map D.pd := by
  induction ds with
  | nil => rfl
  | cons d ds ih => rw [pds, List.map_cons, ih]
theorem pls_all (ds : List D) : pls ds = ds.all D.pl := by
  induction ds with
  | nil => rfl
  | cons d ds ih => rw [pls, List.all_cons, ih]
theorem each_reads {X : Cx} {pins : List (Addr × Obj)} {σ : L2.St} {H : Hp} {s : Shared} (I : Inv X pins σ H s) {h' : Heap} (k : ∀ b o, s.heap.get? b = some o → h'.get? b = some o) :
    ∀ {xs : List V} {ds : List D} {us : List Value}, RpA X.K H xs ds → pls ds = true → Vals xs us → PySem.W.EachIs (fun v d => ∃ as, Reads h' v d as) us (ds.map D.pd)
  | [], [], [], _, _, _ => .nil
  | _ :: _, [], _, r, _, _ => nomatch r
  | [], _ :: _, _, r, _, _ => nomatch r
  | x :: xs, d :: ds, [], _, _, v => nomatch v
  | [], [], _ :: _, _, _, v => nomatch v
  | x :: xs, d :: ds, u :: us, r, p, v => by
    cases r with
    | cons r1 r2 =>
      cases v with
      | cons v1 v2 =>
        rw [pls, Bool.and_eq_true] at p
        obtain ⟨as, z⟩ := Dp.reads I d.pd x u (rp_dp d x r1 p.1) v1
        exact .cons ⟨as, Reads.keeps k z⟩ (each_reads I k r2 p.2 v2)
theorem each_pairs {K : PySem.W.Frag} {H : Hp} : ∀ {xs : List V} {ds : List D} {us : List Value}, RpA K H xs ds → Vals xs us → PySem.W.EachIs (fun u (p : V × D) => RelV p.1 u ∧ Rp K H p.1 p.2) us (xs.zip ds)
  | [], [], [], _, _ => .nil
  | _ :: _, [], _, r, _ => nomatch r
  | [], _ :: _, _, r, _ => nomatch r
  | x :: xs, d :: ds, [], _, v => nomatch v
  | [], [], _ :: _, _, v => nomatch v
  | x :: xs, d :: ds, u :: us, r, v => by
    cases r with
    | cons r1 r2 =>
      cases v with
      | cons v1 v2 => exact .cons ⟨v1, r1⟩ (each_pairs r2 v2)
theorem pairs_each {K : PySem.W.Frag} {H : Hp} : ∀ {us : List Value} {ps : List (V × D)}, PySem.W.EachIs (fun u (p : V × D) => RelV p.1 u ∧ Rp K H p.1 p.2) us ps → Vals (ps.map (·.1)) us ∧ RpA K H (ps.map (·.1)) (ps.map (·.2))
  | [], [], _ => ⟨.nil, .nil⟩
  | _ :: _, [], h => nomatch h
  | [], _ :: _, h => nomatch h
  | u :: us, p :: ps, h => by
    cases h with
    | cons h t =>
      obtain ⟨a, b⟩ := pairs_each t
      exact ⟨.cons h.1 a, .cons h.2 b⟩
theorem zip_snd {K : PySem.W.Frag} {H : Hp} : ∀ {xs : List V} {ds : List D}, RpA K H xs ds → (xs.zip ds).map (·.2) = ds
  | [], [], _ => rfl
  | _ :: _, [], r => nomatch r
  | [], _ :: _, r => nomatch r
  | x :: xs, d :: ds, r => by
    cases r with
    | cons _ r2 => rw [List.zip_cons_cons, List.map_cons, zip_snd r2]
theorem sort_snd (ps : List (V × D)) : (ps.mergeSort (PySem.W.dataLe false fun p => p.2.pd)).map (·.2) = srtD (ps.map (·.2)) := by
  unfold srtD
  rw [← List.map_mergeSort (r := PySem.W.dataLe false fun p : V × D => p.2.pd) (s := leD) (f := fun p : V × D => p.2)]
  intro a _ b _
  rfl
section
variable {X : Cx}
def rSrtD (K : PySem.W.Frag) : List V → Hp → VK → Prop := fun vs H Q => ∃ (a : Addr) (xs : List V) (ds : List D), vs = [V.ref a] ∧ SqL K H a xs ∧ RpA K H xs ds ∧ Srt ds ∧
  ∀ (ys : List V) (p : Addr), RpA K H ys (srtD ds) → H p = none → Q (.ref p) (upd H p (.lst ys))
theorem cr_srtD (hu : X.A.units + 40 < cLine) : CallR X (.builtin "sorted") (rSrtD X.K) := by
  intro pins s σ H vs us Q I r h
  obtain ⟨a, xs, ds, rfl, hs, ra, st, q⟩ := h
  obtain ⟨its, rv, hl, hz⟩ := I.list hs
  rw [Vals.ref1 r]
  have hlen := rv.length
  have e := each_reads I (h' := PySem.W.sortingHeap (PySem.W.copyHeap s.heap its) (s.heap.objs.size + 1) its) (fun b o z => PySem.W.sorting_copy_old z) ra st.pl rv
  have al := st.al
  have so := st.so
  rw [pds_map] at al so
  have S := PySem.W.SortsAt.data (prog := X.prog) (w := X.w) (A := X.A.in1.in1) (s := { s with heap := PySem.W.sortingHeap (PySem.W.copyHeap s.heap its) (s.heap.objs.size + 1) its }) e al so (fun d hd => by
    obtain ⟨d0, hd0, rfl⟩ := List.mem_map.mp hd
    have := st.dp d0 hd0
    have h2 : X.A.in1.in1.units = X.A.units + 2 := rfl
    rw [h2]
    omega)
  have hL : its.length ≤ sizeLine := by rw [← hlen]; exact hz
  refine PySem.W.sorted_vals hl.isList S hL ?_
  obtain ⟨ep, he'⟩ := PyProof.Rows.sortedAll_at s.heap its (PySem.W.sortVals (PySem.W.dataKind (PySem.W.sortingHeap (PySem.W.copyHeap s.heap its) (s.heap.objs.size + 1) its) (ds.map D.pd)) false its its).toArray
  have hm : (xs.zip ds).map (fun p : V × D => p.2.pd) = ds.map D.pd := by
    rw [show (fun p : V × D => p.2.pd) = D.pd ∘ (fun p : V × D => p.2) from rfl, ← List.map_map, zip_snd ra]
  have kd := PySem.W.keyedOut_each (rev := false) (R := fun u (p : V × D) => RelV p.1 u ∧ Rp X.K H p.1 p.2) (bs := xs.zip ds) (vs := its) (fun p : V × D => p.2.pd)
    (out := PySem.W.sortVals (PySem.W.dataKind (PySem.W.sortingHeap (PySem.W.copyHeap s.heap its) (s.heap.objs.size + 1) its) (ds.map D.pd)) false its its) ⟨_, its, by
      rw [hm]
      exact al, by rw [hm], by
      rw [hm]
      exact e⟩ (each_pairs ra rv)
  obtain ⟨k1, k2⟩ := pairs_each kd
  rw [sort_snd, zip_snd ra] at k2
  have hl2 : (((xs.zip ds).mergeSort (PySem.W.dataLe false fun p => p.2.pd)).map (·.1)).length ≤ sizeLine := by
    rw [List.length_map, List.length_mergeSort, List.length_zip]
    exact Nat.le_trans (Nat.min_le_left _ _) hz
  exact ⟨.ref _, upd H (s.heap.objs.size + 1) (.lst _), I.laid (t' := s.toks) (fun _ _ => PyProof.Rows.sortedAll_old) (Nat.le_succ _) ⟨hl2, _, ep, k1, he'⟩, rfl, q _ _ k2 (I.hok.fresh (Nat.le_succ _))⟩
end
section
variable {C : Cn} {b : Nat} {δ : List Sl} {P : Nat → Res → Prop} {e : Expr} {pos p0 : Pos}
/-- sorted(a list of data) -/
theorem ev_sorted (hu : C.X.A.units + 40 < cLine) (B : Blt C.X) (h : EV C b δ e (fun b1 r => ∃ ds, r.seq = some ds ∧ Srt ds ∧ P b1 (.ow (srtD ds)))) (hg : Gl C.X "sorted" := by rfl)
    (hsx : starEach [e] C.X.env = (false, eval e C.X.env) :: starEach [] C.X.env := by rfl) (hpl : (backTo pos (starEach [] C.X.env)).any (·.1) = false := by rfl) : EV C b δ (.Call (.Name "sorted" p0) [e] [] pos) P := by
  intro os σ H st Q q
  refine WE.of (pe_callB (cr_srtD hu) hg B.sorted (by decide +kernel) (pa_cons peW pa_nil hsx) (by decide) (by decide) hsx hpl) ?_
  refine h os σ H st _ fun v H1 b1 r f1 j1 rv hh => ?_
  obtain ⟨ds, hs, hS, hq⟩ := hh
  obtain ⟨p, xs, rfl, e, ra⟩ := rv.seq_ hs
  refine ⟨p, xs, ds, rfl, e.sq, ra, hS, fun ys l ry hl => ?_⟩
  have fn : Fr C.Z.S H1 (upd H1 l (.lst ys)) := Fr.new hl
  exact q _ _ b1 _ (f1.trans fn) (jnew j1 hl) (.ow (f1.back hl) upd_same (snew j1 hl) (ry.fr fn)) hq
end
end PD
set_option Elab.async false
set_option linter.all false
set_option maxRecDepth 100000
set_option maxHeartbeats 4000000
/-! A lambda of one parameter without captured names: called. -/
namespace LM
open PySem PySem.Spec PyProof.Rows L2 LamX
structure L1 (scope : Scope) (a : Str) : Prop where
  kind : scope.kind = .function
  co : scope.isCoroutine = false
  gen : scope.isGenerator = false
  names : scope.names = [(a, .local)]
abbrev l1Env (q : Str) (scope : Scope) (L f c' : Addr) : Env := PySem.W.envX q scope L f (.ref c') []
/-- the context of its body, entered at s from the frames outer -/
def l1Cx (P : Program) (w : World) (K : PySem.W.Frag) (mg : Str → Option Value) (base : Heap) (A : Around) (outer : List Env) (s : Shared) (H : Hp) (q : Str) (scope : Scope) (f c' : Addr) (a : Str) : Cx where
  prog := P
  w := w
  K := K
  mg := mg
  base := base
  A := A.deeper (l1Env q scope s.heap.objs.size f c')
  N := [a]
  s_0 := s
  H_0 := H
  env := l1Env q scope s.heap.objs.size f c'
  outer := outer
  stack := l1Env q scope s.heap.objs.size f c' :: outer
  ex := []
  fn := fun _ => true
  calm := true
  pn := []
  xe := fun _ _ => False
section
variable {P : Program} {w : World} {K : PySem.W.Frag} {mg : Str → Option Value} {base : Heap} {A : Around} {outer : List Env} {s : Shared} {H : Hp} {q a : Str} {scope : Scope} {f c' : Addr} {v : V} {u : Value}
theorem l1_start {h₁ : Heap} {tk : Nat} (L : L1 scope a) (e0 : Env0 P w K mg base A outer s H) (hd : A.handled = none) (rv : RelV v u) (hns : h₁.Ns s.heap.objs.size fun y => [(a, u)].reverse.lookup y) (kp : ∀ b o, s.heap.get? b = some o → h₁.get? b = some o) :
    Inv (l1Cx P w K mg base A outer s H q scope f c' a) [] [some v] H { s with heap := h₁, toks := tk } := by
  have noA : ∀ b : Addr, b ∉ (l1Cx P w K mg base A outer s H q scope f c' a).ex := fun b z => absurd (show b ∈ ([] : List Addr) from z) (by simp)
  have noC : ∀ (x : Str) (c : Addr), (l1Cx P w K mg base A outer s H q scope f c' a).env.cells.lookup x = some c → False := fun x c e => by
    have e : ([] : List (Str × Addr)).lookup x = some c := e
    cases e
  have kindA : ∀ x : Str, scope.names.lookup x = (if x == a then some NameKind.local else none) := fun x => by
    rw [L.names]
    simp only [List.lookup]
    cases (x == a) <;> rfl
  refine ⟨⟨e0.mod, L.kind, rfl, rfl, Nat.le_refl _, fun x y c e1 e2 => (noC x c e1).elim, fun x hx => ?_, fun x c _ e => (noC x c e).elim, fun _ => hd, Around.frames_deeper e0.frames, .inr ⟨rfl, rfl⟩, fun b z => absurd z (noA b), e0.bs, e0.bsz, fun b _ _ => noA b,
      fun b z => absurd z (noA b), e0.funs, e0.frf⟩,
    rfl, e0.bare, Un.kept kp, ⟨_, hns, fun i y v' e1 e2 e3 => ?_⟩, fun x c e => (noC x c e).elim, e0.hok.fresh (Nat.le_refl _), fun x c e => (noC x c e).elim, fun p hp => absurd (show p ∈ ([] : List (Addr × Obj)) ++ [] from hp) (by simp), e0.hok.kept kp, rfl⟩
  · have hx : scope.names.lookup x = some .cell ∨ scope.names.lookup x = some .free := hx
    rw [kindA] at hx
    split at hx <;> rcases hx with h | h <;> cases h
  · have e1 : [a][i]? = some y := e1
    have e2 : [some v][i]? = some (some v') := e2
    cases i with
    | succ i => simp at e1
    | zero =>
      simp at e1 e2
      subst e1
      subst e2
      refine ⟨u, rv, .inl ⟨?_, by simp⟩⟩
      show scope.names.lookup a = some .local
      rw [kindA]
      simp
theorem l1_call {params : Arguments} {body : Expr} {pm ctv : Value} {tb : TE} {Q : VK} (L : L1 scope a) (e0 : Env0 P w K mg base A outer s H) (hd : A.handled = none) (hdp : A.depth < recursionLimit)
    (hf : s.heap.get? f = some (PySem.W.kla_obj "<lambda>" q params body scope [] pm c' ctv)) (hc : H c' = some (CodeO c' q)) (hbind : ∀ u, bindArgs (PySem.W.kla_fn "<lambda>" q params body scope [] pm (.ref c') ctv) ⟨[u], []⟩ = pure [(a, u)])
    (rv : RelV v u) (hbody : PE (l1Cx P w K mg base A outer s H q scope f c' a) body tb) (ht : tb [some v] H Q) :
    wpAny (model P w) A (call (.ref f) [u]) (CE outer P w H s Q) (fun _ _ => False) s := by
  obtain ⟨⟨oc, vs, t, hoc, hdc, hvc⟩, _, _⟩ := e0.hok c' _ hc
  have rc : codeAny (model P w) A (.call (.ref f) ⟨[u], []⟩) (fun r s' => match r with
      | .ok (.ret u') => CE outer P w H s Q u' s'
      | _ => False) s := by
    refine PySem.W.kla_callFunE hdp hf rfl L.co L.gen rfl ⟨c', oc, vs, t, rfl, hoc, hdc, hvc⟩ ?_
    rw [hbind]
    have nl : s.heap.NoLimit := e0.mod.nolimit.keeps fun b o e => (e0.bs b o e).1
    refine wpAny_pure (wpAny_newFunctionEnv (fun y hy => ?_) (fun y hy => ?_) (fun h₁ hns hsb => ⟨nl.fresh _ hsb, ?_⟩) L.kind)
    · have hy : y ∈ scope.names := hy
      rw [L.names, List.mem_singleton] at hy
      rw [hy]
      exact fun z => nomatch z
    · rw [List.mem_singleton] at hy
      show scope.names.lookup y.1 = some .local
      rw [hy, L.names]
      simp [List.lookup]
    · show codeAny _ _ (.expr body (l1Env q scope s.heap.objs.size f c')) _ _
      have kp : ∀ b o, s.heap.get? b = some o → h₁.get? b = some o := fun b o e => hsb.extBut b o (Nat.ne_of_lt (Heap.lt_size e)) (Heap.get?_push_of_some _ e)
      have J : Inv (l1Cx P w K mg base A outer s H q scope f c' a) [] [some v] H { s with heap := h₁, toks := s.toks + ([(a, u)] : List (Str × Value)).length } := l1_start L e0 hd rv hns kp
      refine PySem.W.kla_codeExpr (wpAny_mono (hbody.run [] _ _ H Q J ht) (fun v' s' hq => ?_) fun e s' hq => hq.elim)
      obtain ⟨w', H', J', rv', q'⟩ := hq
      exact ⟨w', H', J'.os, J'.bare, J'.base, J'.hok, rv', q'⟩
  refine wpAny_call (codeAny_mono rc fun r s' hq => ?_)
  cases r with
  | error e => exact hq.elim
  | ok fl =>
    cases fl with
    | ret u => exact hq
    | next => exact False.elim hq
    | brk => exact False.elim hq
    | cont => exact False.elim hq
end
end LM
namespace LM
open PySem PySem.Spec PyProof.Rows L2 LamX
section
variable {X : Cx} {pins : List (Addr × Obj)} {σ : L2.St} {H : Hp} {s : Shared}
/-- what the making leaves of the heap: as it was, or the table has grown by a new code object -/
def Grown (H : Hp) (P : Addr) (q : Str) (H1 : Hp) : Prop := H1 = H ∨ ∃ ps more c0, H P = some (.tbl ps) ∧ H c0 = none ∧ H1 = upd (upd H P (.tbl (ps ++ more))) c0 (CodeO c0 q)
theorem cloFrom_none {cells : List (Str × Addr)} : ∀ (l : List (Str × NameKind)), (∀ y ∈ l, y.2 ≠ .free) → ∀ acc, cloFrom cells l acc = acc
  | [], _, _ => rfl
  | (n, k) :: r, h, acc => by
    have hk : (k == NameKind.free) = false := by
      have := h (n, k) List.mem_cons_self
      cases k <;> first | rfl | exact absurd rfl this
    rw [cloFrom, hk]
    exact cloFrom_none r (fun y hy => h y (List.mem_cons_of_mem _ hy)) acc
theorem l1_make {c P : Addr} {params : Arguments} {body : Expr} {scope : Scope} {a q : Str} {lpos : Pos} {E : Value → Shared → Prop} {Q : Value → Shared → Prop} (I : Inv X pins σ H s) (L : L1 scope a) (TB : TabB X.base X.mg c P) (hcode : X.env.code = .ref c) (hq : q = X.env.qual ++ "<lambda>")
    (hT : TabS H P q) (hdef : defaultsOf params X.env = ([], []))
    (h : ∀ (f c' : Addr) (pm ctv : Value) (H1 : Hp) (s' : Shared), Inv X pins σ H1 s' → Grown H P q H1 → TabS H1 P q →
      s'.heap.get? f = some (PySem.W.kla_obj "<lambda>" q params body scope [] pm c' ctv) → H1 f = none → f ≠ X.env.locals → f ∉ X.fs → H1 c' = some (CodeO c' q) → Q (.ref f) s') :
    wpAny (model X.prog X.w) X.A (eval (.Lambda params body scope lpos) X.env) Q E s := by
  have nofree : ∀ y ∈ scope.names, y.2 ≠ .free := fun y hy z => by
    rw [L.names, List.mem_singleton] at hy
    rw [hy] at z
    cases z
  have hclo : cloFrom X.env.cells scope.names [] = [] := cloFrom_none _ nofree _
  have hcl := closure_ok (env := X.env) (scope := scope) fun y hy z => absurd z (nofree y hy)
  rw [hclo] at hcl
  obtain ⟨ps, hP, ht, ha⟩ := hT
  have atP := I.hok P _ hP
  have lim : ∀ {f : Addr}, s.heap.objs.size ≤ f → f ≠ X.env.locals ∧ f ∉ X.fs := fun {f} hf => ⟨Nat.ne_of_gt (Nat.lt_of_lt_of_le I.lt hf), I.nofs hf⟩
  refine PySem.W.kla_eval hdef ?_
  subst hq
  have made := PySem.W.kla_makeFunction (M := model X.prog X.w) (A := X.A) (E := E) (s := s) (name := "<lambda>") (qual := X.env.qual ++ "<lambda>") (params := params) (body := body) (mg := X.mg) (c := c) (P := P) (ps := ps) (pos := lpos) (firstLine := lpos.line) (Q := Q) hcl I.ok.glob (I.mod.glob.keeps I.bk) hcode (TB.code.keeps I.bk) atP ht
  have found := fun cv => PySem.W.kla_makeFunctionHit (cv := cv) (M := model X.prog X.w) (A := X.A) (E := E) (s := s) (name := "<lambda>") (qual := X.env.qual ++ "<lambda>") (params := params) (body := body) (mg := X.mg) (c := c) (P := P) (ps := ps) (pos := lpos) (firstLine := lpos.line) (Q := Q) (clos := []) hcl I.ok.glob (I.mod.glob.keeps I.bk) hcode (TB.code.keeps I.bk) atP ht
  cases hc : codeAmong lpos ps.toList with
  | some cv =>
    obtain ⟨c0, rfl, hco⟩ := ha lpos cv hc
    refine found _ hc (TB.bm.keeps I.bk) fun ctv h' tk hx hsz => ?_
    obtain ⟨n1, n2⟩ := lim hsz
    have I1 : Inv X pins σ H { s with heap := h'.push (PySem.W.kla_obj "<lambda>" (X.env.qual ++ "<lambda>") params body scope [] ((X.mg "__name__").getD .none) c0 ctv), toks := tk } := I.kept fun b o z => Heap.get?_push_of_some _ (hx b o z)
    exact h h'.objs.size c0 _ ctv H _ I1 (.inl rfl) ⟨ps, hP, ht, ha⟩ (Heap.get?_push_size _ rfl) (I.hok.fresh hsz) n1 n2 hco
  | none =>
    refine made hc TB.gP (TB.bm.keeps I.bk) fun c0 ctv h' tk hx hge hlt hrec htb => ?_
    obtain ⟨c2, oc, vs, t, e2, hoc, hd, hv⟩ := hrec
    cases e2
    have big := Nat.le_trans hge (Nat.le_of_lt hlt)
    have free0 : H c0 = none := I.hok.fresh hge
    have nPc : P ≠ c0 := ne_of_none hP free0
    have eL : (ps ++ #[rawInt lpos.line, rawInt lpos.col, .ref c0]).toList = ps.toList ++ [rawInt lpos.line, rawInt lpos.col, .ref c0] := by simp
    have I1 := inv_table (t' := tk) (q := X.env.qual ++ "<lambda>") (more := #[rawInt lpos.line, rawInt lpos.col, .ref c0]) (h' := h'.push (PySem.W.kla_obj "<lambda>" (X.env.qual ++ "<lambda>") params body scope [] ((X.mg "__name__").getD .none) c0 ctv)) I hP
      (fun b o nb z => Heap.get?_push_of_some _ (hx b o nb z)) (Heap.get?_push_of_some _ htb) hge ⟨oc, vs, t, Heap.get?_push_of_some _ hoc, hd, hv⟩
    obtain ⟨n1, n2⟩ := lim big
    refine h h'.objs.size c0 _ ctv _ _ I1 (.inr ⟨ps, _, c0, hP, free0, rfl⟩) ⟨_, by rw [upd_ne nPc, upd_same], ?_, fun p' cv hcv => ?_⟩ (Heap.get?_push_size _ rfl) ?_ n1 n2 upd_same
    · rw [eL]
      exact PySem.TriplesOk_snoc _ _ _ _ ht
    · rw [eL] at hcv
      rcases among_app _ ht hcv with z | z
      · obtain ⟨c1, y1, y2⟩ := ha p' cv z
        refine ⟨c1, y1, ?_⟩
        rw [upd_ne (ne_of_none y2 free0), upd_ne (fun w => by rw [w, hP] at y2; exact codeO_ne ps (Option.some.inj y2).symm)]
        exact y2
      · exact ⟨c0, z, upd_same⟩
    · rw [upd_ne (Nat.ne_of_gt hlt), upd_ne (Nat.ne_of_gt (Nat.lt_of_lt_of_le (Heap.lt_size (show s.heap.get? P = some _ from atP)) big))]
      exact I.hok.fresh big
end
end LM
set_option Elab.async false
set_option linter.all false
set_option maxRecDepth 100000
set_option maxHeartbeats 4000000
namespace PD
open PySem PySem.Spec PyProof.Rows L2
/-! ### sorted by a key that a lambda tells -/
def srtBy (key : D → D) (ds : List D) : List D := ds.mergeSort fun d e => leD (key d) (key e)
theorem sort_by (key : D → D) (ps : List (V × D)) : (ps.mergeSort (PySem.W.dataLe false fun p => (key p.2).pd)).map (·.2) = srtBy key (ps.map (·.2)) := by
  unfold srtBy
  rw [← List.map_mergeSort (r := PySem.W.dataLe false fun p : V × D => (key p.2).pd) (s := fun d e => leD (key d) (key e)) (f := fun p : V × D => p.2)]
  intro a _ b _
  rfl
/-- all objects but three -/
def allBut (g h : Heap) (L a b : Addr) : List (Addr × Obj) := (allNews g h L).filter fun p => decide (p.1 ≠ a) && decide (p.1 ≠ b)
theorem mem_allBut {g h : Heap} {L a b x : Addr} {o : Obj} (h1 : x ≠ L) (h2 : g.get? x = none) (h3 : h.get? x = some o) (ha : x ≠ a) (hb : x ≠ b) : (x, o) ∈ allBut g h L a b :=
  List.mem_filter.mpr ⟨mem_allNews h1 h2 h3, by simp [ha, hb]⟩
theorem of_mem_allBut {g h : Heap} {L a b : Addr} {p : Addr × Obj} (hp : p ∈ allBut g h L a b) : p.1 ≠ L ∧ g.get? p.1 = none ∧ h.get? p.1 = some p.2 ∧ p.1 ≠ a ∧ p.1 ≠ b := by
  obtain ⟨m, q⟩ := List.mem_filter.mp hp
  obtain ⟨h1, h2, h3⟩ := of_mem_allNews m
  simp only [Bool.and_eq_true, decide_eq_true_eq] at q
  exact ⟨h1, h2, h3, q.1, q.2⟩
section
variable {X : Cx} {pins : List (Addr × Obj)} {σ : L2.St} {H : Hp} {s : Shared}
/-- an address that is new from here on -/
structure NewA (X : Cx) (pins : List (Addr × Obj)) (a : Addr) : Prop where
  ge : X.s_0.heap.objs.size ≤ a
  loc : a ≠ X.env.locals
  cell : ∀ x c, X.env.cells.lookup x = some c → c ≠ a
  pin : ∀ p ∈ X.pn ++ pins, p.1 ≠ a
  fs : a ∉ X.fs
theorem NewA.of {a : Addr} (I : Inv X pins σ H s) (h : s.heap.objs.size ≤ a) : NewA X pins a := by
  refine ⟨Nat.le_trans I.sz h, Nat.ne_of_gt (Nat.lt_of_lt_of_le I.lt h), fun x c e z => ?_, fun p hp z => ?_, I.nofs h⟩
  · obtain ⟨v, o, ho, _⟩ := I.cell x c e
    exact absurd (Heap.lt_size ho) (by rw [z]; exact Nat.not_lt.mpr h)
  · exact absurd (Heap.lt_size (I.pin p hp).1) (by rw [z]; exact Nat.not_lt.mpr h)
theorem NewA.turn {a : Addr} {h' : Heap} {t' : Nat} (N : NewA X pins a) (I : Inv X pins σ H s) (hn : H a = none) (k : ∀ b o, b ≠ a → s.heap.get? b = some o → h'.get? b = some o) : Inv X pins σ H { s with heap := h', toks := t' } :=
  I.turned k hn N.loc (.inr N.ge) N.cell N.pin
theorem pin_more {ps : List (Addr × Obj)} (I : Inv X pins σ H s) (h : ∀ p ∈ ps, s.heap.get? p.1 = some p.2 ∧ H p.1 = none ∧ p.1 ≠ X.env.locals ∧ p.1 ∉ X.fs ∧ ∀ v, p.2.data ≠ .cell v) : Inv X (ps ++ pins) σ H s :=
  I.pins_of fun p hp => (List.mem_append.mp hp).elim (h p) fun z => I.pin p (List.mem_append_right _ z)
theorem pin_less {ps : List (Addr × Obj)} (I : Inv X (ps ++ pins) σ H s) : Inv X pins σ H s :=
  I.pins_of fun p hp => I.pin p (List.mem_append_right _ (List.mem_append_right _ hp))
theorem sorted_key_run {l f : Addr} {xs : List V} {ds : List D} {key : D → D} {lo : Obj} {Q : VK} {G : Hp → Prop} {S : Addr → Prop} (I : Inv X pins σ H s) (hs : SqL X.K H l xs) (ra : RpA X.K H xs ds) (st : Srt (ds.map key)) (hu : X.A.units + 40 < cLine)
    (hf : s.heap.get? f = some lo) (hlo : ∀ xs n, lo ≠ seqObj "list" xs n) (hlc : ∀ v, lo.data ≠ .cell v) (hfn : H f = none) (hfL : f ≠ X.env.locals) (hfs : f ∉ X.fs) (g0 : G H)
    (turn : ∀ d ∈ ds, ∀ (pins' : List (Addr × Obj)) (s' : Shared) (H' : Hp) (v : V) (u : Value), Inv X pins' σ H' s' → G H' → s'.heap.get? f = some lo → Rp X.K H' v d → RelV v u →
      wpAny (model X.prog X.w) X.A.in1.in1 (call (.ref f) [u]) (EP X pins' σ fun w' H2 => G H2 ∧ Fr S H' H2 ∧ Rp X.K H2 w' (key d)) (fun _ _ => False) s')
    (fin : ∀ (H' : Hp) (ys : List V) (p : Addr), G H' → Fr S H H' → H' p = none → RpA X.K H' ys (srtBy key ds) → Q (.ref p) (upd H' p (.lst ys))) :
    wpAny (model X.prog X.w) X.A (call (.builtin "sorted") [.ref l] [(Str.ofString "key", .ref f)]) (EP X pins σ Q) X.xe s := by
  obtain ⟨its, rv, hl, hz⟩ := I.list hs
  have hlen := rv.length
  have hL : its.length ≤ sizeLine := by rw [← hlen]; exact hz
  refine PySem.W.sorted_of_sort hl.isList hL (PyProof.Rows.ksk_s1 _ _) (fun _ => PyProof.Rows.ksk_l1 _ _) fun E' => ?_
  rw [PyProof.Rows.ksk_t1]
  -- the copy, emptied; the items' tuple; the keys' list
  have IC : Inv X pins σ H { s with heap := PySem.W.copyHeap s.heap its } := I.kept fun b o e => PySem.W.copyHeap_old e
  have hA := PySem.W.copyHeap_at s.heap its
  have NA : NewA X pins (s.heap.objs.size + 1) := .of I (Nat.le_succ _)
  have hAn : H (s.heap.objs.size + 1) = none := I.hok.fresh (Nat.le_succ _)
  generalize hAe : s.heap.objs.size + 1 = a at hA NA hAn ⊢
  obtain ⟨e1, ho1⟩ : ∃ e1, ((PySem.W.copyHeap s.heap its).update a (Obj.mapSeq fun _ => #[])).get? a = some (seqObj "list" #[] e1) := ⟨_, get?_update_seq hA (fun _ => #[])⟩
  have s1 := Heap.SameBut.update (PySem.W.copyHeap s.heap its) a (Obj.mapSeq fun _ => (#[] : Array Value))
  unfold ksk_tree
  refine wpAny_bind (listItems_at hA rfl ?_)
  refine wpAny_bind (listUpdate_at hA rfl ?_ (by rw [List.size_toArray]; exact hL) (Nat.zero_le _))
  refine wpAny_bind (seqEpoch_at ho1 rfl ?_)
  refine wpAny_bind (wpAny_newTuple ?_ (by show its.length ≤ _; exact hL))
  refine wpAny_bind (wpAny_newList ?_ (Nat.zero_le _))
  refine wpAny_holding ?_
  have I1 : Inv X pins σ H { s with heap := (PySem.W.copyHeap s.heap its).update a (Obj.mapSeq fun _ => #[]) } := NewA.turn (s := { s with heap := PySem.W.copyHeap s.heap its }) (t' := s.toks) NA IC hAn fun b o hb e => (s1.2 b hb).trans e
  have I2 : Inv X pins σ H { s with heap := ((PySem.W.copyHeap s.heap its).update a (Obj.mapSeq fun _ => #[])).push (seqObj "tuple" its.toArray 0) } := I1.kept (t' := s.toks) fun b o e => Heap.get?_push_of_some _ e
  have NK := NewA.of I2 (Nat.le_refl _)
  have hKn := I2.hok.fresh (Nat.le_refl _)
  have I3 : Inv X pins σ H { s with heap := (((PySem.W.copyHeap s.heap its).update a (Obj.mapSeq fun _ => #[])).push (seqObj "tuple" its.toArray 0)).push (seqObj "list" #[] 0) } := I2.kept (t' := s.toks) fun b o e => Heap.get?_push_of_some _ e
  have hK3 : ((((PySem.W.copyHeap s.heap its).update a (Obj.mapSeq fun _ => #[])).push (seqObj "tuple" its.toArray 0)).push (seqObj "list" #[] 0)).get? (((PySem.W.copyHeap s.heap its).update a (Obj.mapSeq fun _ => #[])).push (seqObj "tuple" its.toArray 0)).objs.size = some (seqObj "list" #[] 0) := Heap.get?_push_size _ rfl
  have hA3 : ((((PySem.W.copyHeap s.heap its).update a (Obj.mapSeq fun _ => #[])).push (seqObj "tuple" its.toArray 0)).push (seqObj "list" #[] 0)).get? a = some (seqObj "list" #[] e1) := Heap.get?_push_of_some _ (Heap.get?_push_of_some _ ho1)
  have hfa : f ≠ a := fun z => by
    have h1 := Heap.lt_size hf
    rw [z, ← hAe] at h1
    exact absurd h1 (Nat.not_lt.mpr (Nat.le_succ _))
  have hf3 : ((((PySem.W.copyHeap s.heap its).update a (Obj.mapSeq fun _ => #[])).push (seqObj "tuple" its.toArray 0)).push (seqObj "list" #[] 0)).get? f = some lo := Heap.get?_push_of_some _ (Heap.get?_push_of_some _ ((s1.2 f hfa).trans (PySem.W.copyHeap_old hf)))
  have hKa : (((PySem.W.copyHeap s.heap its).update a (Obj.mapSeq fun _ => #[])).push (seqObj "tuple" its.toArray 0)).objs.size ≠ a := by
    rw [size_push']
    exact Nat.ne_of_gt (Nat.lt_succ_of_lt (Heap.lt_size ho1))
  generalize (((PySem.W.copyHeap s.heap its).update a (Obj.mapSeq fun _ => #[])).push (seqObj "tuple" its.toArray 0)).objs.size = kS at NK hKn hK3 hKa ⊢
  generalize (((PySem.W.copyHeap s.heap its).update a (Obj.mapSeq fun _ => #[])).push (seqObj "tuple" its.toArray 0)).push (seqObj "list" #[] 0) = h3 at I3 hK3 hA3 hf3 ⊢
  have hfK : f ≠ kS := fun z => by
    rw [← z, hf3] at hK3
    exact hlo _ _ (Option.some.inj hK3)
  -- the keys, one by one
  have fixed : ∀ {H' : Hp} {h' : Heap} {kA : Array Value} {e : Nat}, h'.get? kS = some (seqObj "list" kA e) → h'.get? a = some (seqObj "list" #[] e1) → h'.get? f = some lo → H' kS = none → H' a = none → H' f = none →
      ∀ p ∈ [(kS, seqObj "list" kA e), (a, seqObj "list" #[] e1), (f, lo)], h'.get? p.1 = some p.2 ∧ H' p.1 = none ∧ p.1 ≠ X.env.locals ∧ p.1 ∉ X.fs ∧ ∀ v, p.2.data ≠ .cell v := by
    intro H' h' kA e q1 q2 q3 n1 n2 n3 p hp
    rcases List.mem_cons.mp hp with rfl | hp
    · exact ⟨q1, n1, NK.loc, NK.fs, fun v z => by cases z⟩
    · rcases List.mem_cons.mp hp with rfl | hp
      · exact ⟨q2, n2, NA.loc, NA.fs, fun v z => by cases z⟩
      · rw [List.mem_singleton.mp hp]
        exact ⟨q3, n3, hfL, hfs, hlc⟩
  unfold ksk_rest
  refine wpAny_bind (wpAny_rule ?_)
  first
    | rw [List.forIn_toArray]
    | (rw [← Array.forIn_toList]; simp only [List.toList_toArray])
    | rw [← Array.forIn_toList]
  refine wpAny_bind (ksk_fold (fun i s' => ∃ (H' : Hp) (kA : Array Value) (e : Nat) (kvs : List V), Inv X pins σ H' s' ∧ G H' ∧ Fr S H H' ∧ s'.heap.get? kS = some (seqObj "list" kA e) ∧ s'.heap.get? a = some (seqObj "list" #[] e1) ∧ s'.heap.get? f = some lo ∧
      H' kS = none ∧ H' a = none ∧ H' f = none ∧ Vals kvs kA.toList ∧ RpA X.K H' kvs ((ds.map key).take i)) its 0 _
    ⟨H, #[], 0, [], I3, g0, Fr.refl, hK3, hA3, hf3, hKn, hAn, hfn, .nil, by rw [List.take_zero]; exact .nil⟩ ?step ?done)
  case step =>
    rintro j x s' hx ⟨H', kA, e, kvs, I', g', f', q1, q2, q3, n1, n2, n3, kv, kr⟩
    simp only [Nat.zero_add] at kr ⊢
    have hj : j < its.length := (List.getElem?_eq_some_iff.mp hx).1
    obtain ⟨v, hv, rvx⟩ : ∃ v, xs[j]? = some v ∧ RelV v x := by
      obtain ⟨u, h1, h2⟩ := Vals.get (i := j) rv (List.getElem?_eq_getElem (by omega))
      rw [hx] at h1
      cases h1
      exact ⟨_, List.getElem?_eq_getElem (by omega), h2⟩
    obtain ⟨d, hd, rd⟩ := ra.getV hv
    have Ip := pin_more I' (fixed q1 q2 q3 n1 n2 n3)
    have hz : kA.size ≤ its.length := by
      have h1 : kvs.length = kA.size := by rw [Vals.length kv, Array.length_toList]
      have h2 : kvs.length = ((ds.map key).take j).length := RpA.len kr
      have h3 : ((ds.map key).take j).length ≤ (ds.map key).length := List.length_take_le' ..
      have h4 : xs.length = ds.length := RpA.len ra
      rw [List.length_map] at h3
      omega
    refine wpAny_bind (wpAny_attempt (wpAny_mono (turn d (List.mem_of_getElem? hd) _ s' H' v x Ip g' q3 (rd.fr f') rvx) (fun v' s'' he => ?_) fun _ _ hF => hF.elim))
    obtain ⟨kvv, H2, Ip2, rk, g2, f2, rkey⟩ := he
    try dsimp only
    have p1 := Ip2.pin (kS, seqObj "list" kA e) (by simp)
    have p2 := Ip2.pin (a, seqObj "list" #[] e1) (by simp)
    have p3 := Ip2.pin (f, lo) (by simp)
    have I4 := pin_less Ip2
    have sb := Heap.SameBut.update s''.heap kS (Obj.mapSeq (·.push v'))
    obtain ⟨c2, hc2⟩ : ∃ c2, (s''.heap.update kS (Obj.mapSeq (·.push v'))).get? kS = some (seqObj "list" (kA.push v') c2) := ⟨_, get?_update_seq p1.1 (·.push v')⟩
    refine wpAny_bind (listUpdate_at p1.1 rfl ?_ (Nat.le_trans hz hL) (Nat.le_trans (Nat.le_of_eq (Array.size_push ..)) (Nat.succ_le_succ (Nat.le_trans hz hL))))
    have I5 : Inv X pins σ H2 { s'' with heap := s''.heap.update kS (Obj.mapSeq (·.push v')) } := NewA.turn (s := s'') (t' := s''.toks) NK I4 p1.2.1 fun b o hb q => (sb.2 b hb).trans q
    refine wpAny_pure ⟨rfl, H2, kA.push v', c2, kvs ++ [kvv], I5, g2, f'.trans f2, hc2, (sb.2 a (Ne.symm hKa)).trans p2.1, (sb.2 f hfK).trans p3.1, p1.2.1, p2.2.1, p3.2.1, ?_, ?_⟩
    · rw [Array.toList_push]
      exact kv.append (.cons rk .nil)
    · rw [show (ds.map key).take (j + 1) = (ds.map key).take j ++ [key d] by rw [List.take_add_one, List.getElem?_map, hd]; rfl]
      exact (kr.fr f2).append (.cons rkey .nil)
  case done =>
    rintro s' ⟨H', kA, e, kvs, I', g', f', q1, q2, q3, n1, n2, n3, kv, kr⟩
    have hdl := ra.len
    rw [List.take_of_length_le (by rw [List.length_map]; omega)] at kr
    have hsz : kA.size = its.length := by
      have h1 : kvs.length = kA.size := by rw [Vals.length kv, Array.length_toList]
      have h2 : kvs.length = (ds.map key).length := RpA.len kr
      rw [List.length_map] at h2
      omega
    have ek := each_reads I' (h' := s'.heap) (fun b o z => z) kr st.pl kv
    have al := st.al
    have so := st.so
    rw [pds_map] at al so
    try dsimp only
    refine wpAny_bind (listItems_at q1 rfl ?_)
    obtain ⟨m, F0⟩ := I'.fr
    refine PySem.W.key_end (e := e) (κ := PySem.W.dataKind s'.heap ((ds.map key).map D.pd)) (h₀ := X.base) (L := X.env.locals) (m := m) (news := allBut X.base s'.heap X.env.locals kS a) F0 (fun p hp => ?_) hKa (fun p hp => (of_mem_allBut hp).2.2.2.1) (fun p hp => (of_mem_allBut hp).2.2.2.2)
      (PySem.W.SortsAt.data (s := s') ek al so fun d0 hd0 => ?_) hsz hL fun h' tk c F N => ?_
    · rcases List.mem_append.mp hp with hp | hp
      · obtain ⟨a1, a2, a3, _⟩ := of_mem_allBut hp
        exact ⟨a3, a1, a2⟩
      · have nb : ∀ b, X.s_0.heap.objs.size ≤ b → X.base.get? b = none := fun b hb => Heap.get?_none_of_le (Nat.le_trans I.ok.bsz hb)
        rcases List.mem_cons.mp hp with rfl | hp
        · exact ⟨q1, NK.loc, nb _ NK.ge⟩
        · rw [List.mem_singleton.mp hp]
          exact ⟨q2, NA.loc, nb _ NA.ge⟩
    · obtain ⟨d1, hd1, rfl⟩ := List.mem_map.mp hd0
      have := st.dp d1 hd1
      have h2 : X.A.in1.in1.units = X.A.units + 2 := rfl
      rw [h2]
      omega
    · -- what came of it
      have keep : ∀ b o, b ≠ X.env.locals → b ≠ kS → b ≠ a → s'.heap.get? b = some o → h'.get? b = some o := fun b o h1 h2 h3 q => by
        cases z : X.base.get? b with
        | some w =>
          have e0 := I'.bk b w z
          rw [q] at e0
          cases e0
          exact F.keep b _ z
        | none => exact (N (b, o) (List.mem_cons_of_mem _ (mem_allBut h1 z q h2 h3))).1
      have hA' := (N _ List.mem_cons_self).1
      have hm : (xs.zip ds).map (fun p : V × D => (key p.2).pd) = (ds.map key).map D.pd := by
        rw [List.map_map, show (fun p : V × D => (key p.2).pd) = (D.pd ∘ key) ∘ (fun p : V × D => p.2) from rfl, ← List.map_map, zip_snd ra]
      have kd := PySem.W.keyedOut_each (rev := false) (R := fun u (p : V × D) => RelV p.1 u ∧ Rp X.K H' p.1 p.2) (bs := xs.zip ds) (vs := its) (fun p : V × D => (key p.2).pd)
        (out := PySem.W.sortVals (PySem.W.dataKind s'.heap ((ds.map key).map D.pd)) false kA.toList its) ⟨_, kA.toList, by
          rw [hm]
          exact al, by rw [hm], by
          rw [hm]
          exact ek⟩ (each_pairs (ra.fr f') rv)
      obtain ⟨k1, k2⟩ := pairs_each kd
      rw [sort_by, zip_snd ra] at k2
      have hl2 : (((xs.zip ds).mergeSort (PySem.W.dataLe false fun p => (key p.2).pd)).map (·.1)).length ≤ sizeLine := by
        rw [List.length_map, List.length_mergeSort, List.length_zip]
        exact Nat.le_trans (Nat.min_le_left _ _) hz
      have ne : ∀ b w, H' b = some w → b ≠ kS ∧ b ≠ a ∧ b ≠ X.env.locals := fun b w q => ⟨ne_of_none q n1, ne_of_none q n2, ne_of_none q I'.free⟩
      refine ⟨rfl, .ref a, upd H' a (.lst _), ?_, rfl, fin H' _ a g' f' n2 k2⟩
      refine I'.step (h' := h') (g' := s'.gens) (d' := s'.drawn) (t' := tk) (ch := [kS, a]) (fun b hb => ?_) (fun b o h1 h2 h3 q n => ?_) (fun b o h1 h2 h3 q n => ?_) (fun b o h3 q n => ?_) (fun b o h3 q => ?_) (fun b ys q => ?_) (fun b o u q => ?_) (fun b ps q => ?_) (fun m' hm' => ?_) (fun b w q => ?_) I'.bare
      · rcases List.mem_cons.mp hb with rfl | hb
        · exact ⟨.inr NK.ge, NK.loc, NK.cell, NK.pin⟩
        · rw [List.mem_singleton.mp hb]
          exact ⟨.inr NA.ge, NA.loc, NA.cell, NA.pin⟩
      · exact keep b o h1 (fun z => h3 (by simp [z])) (fun z => h3 (by simp [z])) q
      · exact ⟨o.slots, keep b o h1 (fun z => h3 (by simp [z])) (fun z => h3 (by simp [z])) q⟩
      · rw [upd_ne (fun z => h3 (by simp [z]))]
        exact n
      · by_cases hb : b = X.env.locals
        · obtain ⟨o', _, _, ho', _⟩ := F.ns
          exact ⟨o', by rw [hb]; exact ho'⟩
        · exact ⟨o, keep b o hb (fun z => h3 (by simp [z])) (fun z => h3 (by simp [z])) q⟩
      · rw [upd_ne (ne b _ q).2.1]; exact q
      · rw [upd_ne (ne b _ q).2.1]; exact q
      · exact ⟨#[], by rw [upd_ne (ne b _ q).2.1, q]; simp⟩
      · have e1 := hm'.eq_nsMap
        have e2 := F0.ns.eq_nsMap
        rw [e1, ← e2]
        exact F.ns
      · by_cases hb : b = a
        · subst hb
          rw [upd_same] at q
          cases q
          exact ⟨hl2, _, c, k1, hA'⟩
        · rw [upd_ne hb] at q
          refine (I'.hok b w q).stay (fun c0 v0 hc q0 => keep c0 v0 ?_ ?_ ?_ q0) (fun c0 q0 => by rw [upd_ne (ne c0 _ q0).2.1]; exact q0) fun c0 ys q0 => by rw [upd_ne (ne c0 _ q0).2.1]; exact q0
          · rcases hc with rfl | hc
            · exact (ne _ _ q).2.2
            · exact (ne _ _ hc).2.2
          · rcases hc with rfl | hc
            · exact (ne _ _ q).1
            · exact (ne _ _ hc).1
          · rcases hc with rfl | hc
            · exact (ne _ _ q).2.1
            · exact (ne _ _ hc).2.1
end
end PD
set_option Elab.async false
set_option linter.all false
set_option maxRecDepth 100000
set_option maxHeartbeats 4000000
namespace PD
open PySem PySem.Spec PyProof.Rows L2
/-! ### sorted(xs, key=lambda x: ..) -/
/-- the table of the def's lambda, among what calls may change -/
structure LamZ (Z : Vol) (P : Addr) (q : Str) : Prop where
  tab : ∀ b H, Z.J b H → LamX.TabS H P q
  S : Z.S P
  J : ∀ b H H1, Z.J b H → LM.Grown H P q H1 → LamX.TabS H1 P q → Z.J b H1
theorem grown_fr {M : Addr → Prop} {H H1 : Hp} {P : Addr} {q : Str} (m : M P) (g : LM.Grown H P q H1) : Fr M H H1 := by
  rcases g with rfl | ⟨ps, more, c0, hP, h0, rfl⟩
  · exact Fr.refl
  · intro a o e
    rw [upd_ne (ne_of_none e h0)]
    by_cases z : a = P
    · subst z
      rw [hP] at e
      cases e
      exact .inr ⟨m, _, upd_same, .tb⟩
    · exact .inl (by rw [upd_ne z]; exact e)
/-- what is known of a lambda of one parameter as the text has it -/
structure LamT (X : Cx) (params : Arguments) (body : Expr) (scope : Scope) (a : Str) : Prop where
  L : LM.L1 scope a
  dflt : defaultsOf params X.env = ([], [])
  bind : ∀ (q : Str) (pm cd ctv : Value) (u : Value), bindArgs (PySem.W.kla_fn "<lambda>" q params body scope [] pm cd ctv) ⟨[u], []⟩ = pure [(a, u)]
section
variable {C : Cn} {b : Nat} {δ : List Sl} {P : Nat → Res → Prop} {e body : Expr} {pos p0 lpos kpos : Pos} {params : Arguments} {scope : Scope} {a q : Str} {c T : Addr}
theorem ev_sortLam (key : D → D) (B : Blt C.X) (hr : Room 4 C.X.A) (hcode : C.X.env.code = .ref c) (hq : q = C.X.env.qual ++ "<lambda>") (TB : LamX.TabB C.X.base C.X.mg c T) (LZ : LamZ C.Z T q) (LT : LamT C.X params body scope a)
    (h : EV C b δ e (fun b1 r => ∃ ds, r.seq = some ds ∧ Srt (ds.map key) ∧ P b1 (.ow (srtBy key ds)) ∧
      ∀ d ∈ ds, ∀ (A : Around) (outer : List Env) (s : Shared) (H : Hp) (f c' : Addr), EV ⟨LM.l1Cx C.X.prog C.X.w C.X.K C.X.mg C.X.base A outer s H q scope f c' a, C.Z, H⟩ b1 [.va d] body (fun b' r => b' = b1 ∧ r = .va (key d))))
    (hg : Gl C.X "sorted" := by rfl) (he : backTo pos (starEach [e] C.X.env) = (false, eval e C.X.env) :: backTo pos (starEach [] C.X.env) := by rfl)
    (hsx : starEach [e] C.X.env = (false, eval e C.X.env) :: starEach [] C.X.env := by rfl) (hpl : (backTo pos (starEach [e] C.X.env)).any (·.1) = false := by rfl) :
    EV C b δ (.Call (.Name "sorted" p0) [e] [⟨some "key", .Lambda params body scope lpos, kpos⟩] pos) P := by
  intro os σ H st Q k pins s I
  refine wpAny_Call_Name_kw (ld_blt (u := .builtin "sorted") I hg B.sorted (by decide +kernel) ?_ (by decide) (by decide))
  refine PyProof.Rows.callWith_kw (thn ((pa_cons peW pa_nil hsx).run pos pins s σ H (fun vs H1 => ∃ v b1 r, vs = [v] ∧ Fr C.Z.S H H1 ∧ C.Z.J b1 H1 ∧ RV C.K C.Z os H H1 v r ∧ ∃ ds, r.seq = some ds ∧ Srt (ds.map key) ∧ P b1 (.ow (srtBy key ds)) ∧
      ∀ d ∈ ds, ∀ (A : Around) (outer : List Env) (s : Shared) (H : Hp) (f c' : Addr), EV ⟨LM.l1Cx C.X.prog C.X.w C.X.K C.X.mg C.X.base A outer s H q scope f c' a, C.Z, H⟩ b1 [.va d] body (fun b' r => b' = b1 ∧ r = .va (key d))) I
    (h os σ H st _ fun v H1 b1 r f1 j1 rv hh => ⟨v, b1, r, rfl, f1, j1, rv, hh⟩)) fun us s1 ⟨vs, H1, I1, r1, v, b1, r, ev, f1, j1, rv, ds, hs, sr, hP, hkey⟩ => ?_) he hpl rfl rfl
  subst ev
  obtain ⟨p, xs, rfl, el, ra⟩ := rv.seq_ hs
  rw [Vals.ref1 r1]
  show wpAny _ _ (evalAll [do let v ← eval (.Lambda params body scope lpos) C.X.env; standAt pos; pure v]) _ _ s1
  refine wpAny_evalAll_cons (wpAny_bind ?_)
  refine LM.l1_make (a := a) I1 LT.L TB hcode hq (LZ.tab _ _ j1) LT.dflt fun f c' pm ctv H2 s2 I2 gr tab2 ho hfn hfL hfs hc => ?_
  refine wpAny_bind (wpAny_standAt (wpAny_pure (wpAny_evalAll_nil ?_)))
  show wpAny _ _ (call (.builtin "sorted") [.ref p] [(Str.ofString "key", .ref f)]) _ _ s2
  have f2 : Fr C.Z.S H1 H2 := grown_fr LZ.S gr
  have j2 : C.Z.J b1 H2 := LZ.J _ _ _ j1 gr tab2
  refine sorted_key_run (key := key) (G := fun H' => C.Z.J b1 H' ∧ Fr C.Z.S H2 H') (S := C.Z.S) I2 ((el.fr f2).sq) (ra.fr f2) sr (by have := hr.units; omega) ho (fun xs n z => absurd (Value.type.inj (congrArg Obj.cls z)) (by decide)) (fun v z => by cases z) hfn hfL hfs ⟨j2, Fr.refl⟩ ?_ fun H' ys p' g' f' n' ry => ?_
  · intro d hd pins' s' H' v u I' g' hf' rd ru
    have e0 := I'.env0
    have hc' : H' c' = some (LamX.CodeO c' q) := g'.2.code hc
    refine wpAny_mono (LM.l1_call (tb := WE (LM.l1Cx C.X.prog C.X.w C.X.K C.X.mg C.X.base C.X.A.in1.in1 C.X.stack s' H' q scope f c' a) body) (Q := fun w' H2' => (C.Z.J b1 H2' ∧ Fr C.Z.S H2 H2') ∧ Fr C.Z.S H' H2' ∧ Rp C.K H2' w' (key d)) LT.L e0.in1.in1 hr.hd hr.depth hf' hc' (fun u => LT.bind q pm _ ctv u) ru peW ?_) (fun r' s'' z => I'.after z) fun _ _ z => z
    have ev := hkey d hd C.X.A.in1.in1 C.X.stack s' H' f c'
    refine ev [] [some v] H' ⟨Fr.refl, g'.1, fun p z => (nomatch z), [], List.nodup_nil, fun p z => (nomatch z), ?_⟩ _ fun w' H3 b3 r3 f3 j3 rv3 hr3 => ?_
    · exact Sls.cons (Slot.va rd) .nil
    · obtain ⟨rfl, rfl⟩ := hr3
      cases rv3 with
      | va rv3 => exact ⟨⟨j3, g'.2.trans f3⟩, f3, rv3⟩
  · have fn : Fr C.Z.S H' (upd H' p' (.lst ys)) := Fr.new n'
    exact k _ _ b1 _ (((f1.trans f2).trans f').trans fn) (jnew g'.1 n') (.ow (f1.back (f2.back (f'.back n'))) upd_same (snew g'.1 n') (ry.fr fn)) hP
end
end PD
set_option Elab.async false
set_option linter.all false
set_option maxRecDepth 100000
set_option maxHeartbeats 4000000
namespace PD
open PySem PySem.Spec PyProof.Rows L2
/-! ### sorted(d.items()) -/
def pairsD (kvs : List (Key × D)) : List D := kvs.map fun p => D.tup [kD p.1, p.2]
theorem rp_kV {K : PySem.W.Frag} {H : Hp} (k : Key) : Rp K H (kV k) (kD k) := by
  cases k with
  | inl i => exact .int i
  | inr x => exact .str x
end PD
set_option Elab.async false
set_option linter.all false
set_option maxRecDepth 100000
set_option maxHeartbeats 3200000
/-! Sets of texts whose table can be walked (any number, the table may be laid anew): sorted(set(texts)). The walk itself is HandS.Set's collect_set. -/
namespace TX
open PySem PySem.Spec PyProof.Rows L2 PD
/-- the text of an entry -/
def tx (e : Int × Value) : Str := match e.2 with | .str x _ => x | _ => ("" : Str)
section
variable (P : Program) (w : World)
/-- entries and table of a set of texts -/
structure Tab (es : Array (Int × Value)) (t : SetTable) : Prop where
  en : ∀ e ∈ es.toList, ∃ k, e.2 = Value.str (tx e) k ∧ e.1 = (mixKind P w).hash (.inr (tx e))
  nd : (es.toList.map tx).Nodup
  ft : t.fits es.size = true
  ri : Ris t.place.toList
  ld : w.params.followText "set-order" = true ∨ t.led = true
/-- the set at a has the texts xs -/
def Is (h : Heap) (a : Addr) (xs : List Str) : Prop := ∃ o es ep t, h.get? a = some o ∧ o.ExactSet ∧ o.data = .set es ep t ∧ Tab P w es t ∧ (∀ y, y ∈ es.toList.map tx ↔ y ∈ xs) ∧ es.size ≤ xs.length
end
section
variable {P : Program} {w : World} {es es1 : Array (Int × Value)} {t t1 : SetTable}
theorem Tab.elems (T : Tab P w es t) : ElemsOf (mixKind P w) es.toList := fun e he => by
  obtain ⟨k, e1, e2⟩ := T.en e he
  exact ⟨⟨.inr (tx e), by rw [e1]; exact mixKind_str P w (tx e) k, e2⟩, by rw [e1]; rfl⟩
theorem Tab.is_iff (T : Tab P w es t) {e : Int × Value} (he : e ∈ es.toList) (x : Str) : (mixKind P w).is (.inr x) e.2 = true ↔ tx e = x := by
  obtain ⟨k, e1, _⟩ := T.en e he
  generalize tx e = y at e1
  have hy : (mixKind P w).is (.inr y) e.2 = true := by rw [e1]; exact mixKind_str P w y k
  refine ⟨fun z => ?_, fun z => by rw [← z]; exact hy⟩
  have := (mixKind P w).inj e.2 (.inr x) (.inr y) z hy
  exact (Sum.inr.inj this).symm
/-- another order, another table -/
theorem Tab.perm (T : Tab P w es t) (pm : es1.toList.Perm es.toList) (ft : t1.fits es1.size = true) (ri : Ris t1.place.toList) (ld : t1.led = t.led) : Tab P w es1 t1 :=
  ⟨fun e he => T.en e (pm.mem_iff.mp he), (pm.map tx).nodup_iff.mpr T.nd, ft, ri, T.ld.imp id fun z => ld.trans z⟩
end
section
variable {P : Program} {w : World} {A : Around} {E : Value → Shared → Prop} {s : Shared} {a : Addr} {xs : List Str}
theorem ruled (b : Bool) {m : String} {s1 : Shared} {R : Unit → Shared → Prop} (q : R () s1) : wpAny (model P w) A (match b with | true => rule m | false => pure ()) R E s1 := by
  cases b
  · exact wpAny_pure q
  · exact wpAny_rule q
theorem tail {g : Bool → Sem Unit} (hg : ∀ (b : Bool) (s1 : Shared) (R : Unit → Shared → Prop), R () s1 → wpAny (model P w) A (g b) R E s1) {o : Obj} {es es1 : Array (Int × Value)} {ep : Nat} {t t2 : SetTable} (ho : s.heap.get? a = some o) (hx : o.ExactSet) (hd : o.data = .set es ep t)
    (T : Tab P w es1 t2) (mem : ∀ y, y ∈ es1.toList.map tx ↔ y ∈ xs) (le : es1.size ≤ xs.length) (room : xs.length < scanBound) {wasDummy : Bool} {R : Option Bool → Shared → Prop} (q : ∀ h', Heap.SameBut a s.heap h' → Is P w h' a xs → R (some true) { s with heap := h' }) :
    wpAny (model P w) A (do
        storeSet a es1 t2
        if (!wasDummy && t2.tooFull) = true then do
            g (relayAll t2 es1 (SetTable.grown es1.size)).2.2
            storeSet a (relayAll t2 es1 (SetTable.grown es1.size)).1 (relayAll t2 es1 (SetTable.grown es1.size)).2.1
            pure (some true)
          else pure (some true)) R E s := by
  refine wpAny_bind (wpAny_storeSet_of ho hd ?_ (fits_of_scanBound (Nat.lt_of_le_of_lt le room)))
  have at1 := store_at (es' := es1) (t' := t2) ho hd
  have sb := Heap.SameBut.update s.heap a (Obj.putSet es1 t2)
  generalize s.heap.update a (Obj.putSet es1 t2) = h1 at at1 sb ⊢
  split
  · have pm := relayAll_perm t2 es1 (SetTable.grown es1.size)
    have T2 := T.perm pm (relayAll_fits t2 es1 (SetTable.grown es1.size)) (relayAll_ris t2 es1 (SetTable.grown es1.size)) (relayAll_led t2 es1 (SetTable.grown es1.size))
    have sz : (relayAll t2 es1 (SetTable.grown es1.size)).1.size = es1.size := by
      have := pm.length_eq
      rwa [Array.length_toList, Array.length_toList] at this
    refine wpAny_bind (hg _ _ _ (wpAny_bind (wpAny_storeSet_of at1 rfl (wpAny_pure (q _ (sb.trans (Heap.SameBut.update _ a _)) ?_)) (fits_of_scanBound (by rw [sz]; exact Nat.lt_of_le_of_lt le room)))))
    exact ⟨_, _, _, _, store_at at1 rfl, hx, rfl, T2, fun y => ((pm.map tx).mem_iff).trans (mem y), by rw [sz]; exact le⟩
  · exact wpAny_pure (q _ sb ⟨_, _, _, _, at1, hx, rfl, T, mem, le⟩)
/-- a.add(x) -/
theorem add (R : Is P w s.heap a xs) (x : Str) (k : Nat) (room : xs.length + 1 < scanBound) {Q : Bool → Shared → Prop} (q : ∀ b h', Heap.SameBut a s.heap h' → Is P w h' a (xs ++ [x]) → Q b { s with heap := h' }) :
    wpAny (model P w) A (setAddHashed a (.str x k) ((mixKind P w).hash (.inr x))) Q E s := by
  obtain ⟨o, es, ep, t, ho, hx, hd, T, mem, le⟩ := R
  have hb : es.size < scanBound := by omega
  have sc : (Value.str x k).scannable = true := rfl
  unfold setAddHashed setAddHashedIn
  refine wpAny_holding (wpAny_bind (wpAny_setState_of ho hd T.ft ?_))
  dsimp only
  rw [byScan_of sc hb T.elems]
  simp only [↓reduceIte]
  unfold setAddByScan
  refine wpAny_bind (wpAny_bind (wpAny_rule (wpAny_bind (wpAny_setScan_of (mixKind_str P w x k) ho hd T.ft T.elems ?_))))
  cases fi : List.findIdx? (fun e => (mixKind P w).is (.inr x) e.2) es.toList with
  | some j =>
    dsimp only
    obtain ⟨lt, hj, _⟩ := List.findIdx?_eq_some_iff_getElem.mp fi
    have there : x ∈ xs := (mem x).mp (List.mem_map.mpr ⟨_, List.getElem_mem lt, (T.is_iff (List.getElem_mem lt) x).mp hj⟩)
    refine wpAny_pure (wpAny_pure (q _ _ (Heap.SameBut.refl a s.heap) ⟨o, es, ep, t, ho, hx, hd, T, fun y => (mem y).trans ?_, ?_⟩))
    · rw [List.mem_append, List.mem_singleton]
      exact ⟨.inl, fun z => z.elim id fun e => e ▸ there⟩
    · rw [List.length_append]
      exact Nat.le_add_right_of_le le
  | none =>
    dsimp only
    have out : x ∉ es.toList.map tx := fun z => by
      obtain ⟨e, he, ee⟩ := List.mem_map.mp z
      have := List.findIdx?_eq_none_iff.mp fi e he
      rw [(T.is_iff he x).mpr ee] at this
      cases this
    have pm := layNew_perm t es ((mixKind P w).hash (.inr x)) (.str x k)
    have f1 := layNew_fits t es ((mixKind P w).hash (.inr x)) (.str x k)
    have r1 := layNew_ris t es ((mixKind P w).hash (.inr x)) (.str x k) T.ri
    have l1 := layNew_led t es ((mixKind P w).hash (.inr x)) (.str x k)
    generalize layNew t es ((mixKind P w).hash (.inr x)) (.str x k) = Z at pm f1 r1 l1 ⊢
    obtain ⟨es1, t1, wd, gv⟩ := Z
    dsimp only at pm f1 r1 l1 ⊢
    rw [Array.toList_push] at pm
    have T1 : ∀ t2 : SetTable, t2.fits es1.size = true → Ris t2.place.toList → t2.led = t.led → Tab P w es1 t2 := fun t2 a1 a2 a3 => by
      refine ⟨fun e he => ?_, (pm.map tx).nodup_iff.mpr ?_, a1, a2, T.ld.imp id fun z => a3.trans z⟩
      · rcases List.mem_append.mp (pm.mem_iff.mp he) with z | z
        · exact T.en e z
        · rw [List.mem_singleton.mp z]
          exact ⟨k, rfl, rfl⟩
      · rw [List.map_append, List.nodup_append]
        refine ⟨T.nd, by simp, fun u hu v hv e => ?_⟩
        simp only [List.map_cons, List.map_nil, List.mem_singleton] at hv
        subst e
        exact out (by rw [hv] at hu; exact hu)
    have mem1 : ∀ y, y ∈ es1.toList.map tx ↔ y ∈ xs ++ [x] := fun y => by
      rw [(pm.map tx).mem_iff, List.map_append, List.mem_append, List.mem_append]
      exact or_congr (mem y) (by simp [tx])
    have sz : es1.size ≤ (xs ++ [x]).length := by
      have := pm.length_eq
      rw [Array.length_toList, List.length_append, Array.length_toList] at this
      rw [List.length_append, this]
      exact Nat.add_le_add_right le 1
    have rm : (xs ++ [x]).length < scanBound := by rw [List.length_append]; exact room
    refine wpAny_bind (ruled _ ?_)
    split
    · refine wpAny_bind ?_
      rw [hashByValue_scannable 8 sc]
      refine wpAny_pure (tail (fun b s1 R q => ruled b q) ho hx hd (T1 _ ?_ ?_ ?_) mem1 sz rm fun h' sb r => ?_)
      · first | (split <;> first | exact f1 | exact SetTable.fits_plain_off f1) | exact f1
      · first | (split <;> exact r1) | exact r1
      · first | (split <;> exact l1) | exact l1
      · dsimp only; exact wpAny_pure (q _ h' sb r)
    · refine wpAny_bind (wpAny_pure ?_)
      simp only [↓reduceIte]
      refine tail (fun b s1 R q => ruled b q) ho hx hd (T1 _ f1 r1 l1) mem1 sz rm fun h' sb r => ?_
      dsimp only
      exact wpAny_pure (q _ h' sb r)
end
end TX
set_option Elab.async false
set_option linter.all false
set_option maxRecDepth 100000
set_option maxHeartbeats 3200000
/-! set(xs) of any family of sets: Z i h: behind i items, in the heap h, the set at S is as it has to be -/
namespace TX
open PySem PySem.Spec PyProof.Rows L2 PD
section
variable {prog : Program} {w : World} {A : Around} {R : Result → Shared → Prop} {I : Addr} {fp wr : List Addr} {G : Array GenState → Array GenState → Prop} {n : Nat} {Pv : Nat → Value → Prop} {St : Nat → Shared → Prop}
/-- one item more -/
def StepZ (prog : Program) (w : World) (A : Around) (S : Addr) (h0 : Heap) (Pv : Nat → Value → Prop) (n : Nat) (Z : Nat → Heap → Prop) : Prop := ∀ (i : Nat) (v : Value) (s : Shared) (E : Value → Shared → Prop) (Q : Bool → Shared → Prop), i < n → Pv i v → Z i s.heap → (∀ b o, h0.get? b = some o → s.heap.get? b = some o) →
  (∀ b h' tk, s.toks ≤ tk → Heap.SameBut S s.heap h' → Z (i + 1) h' → Q b { s with heap := h', toks := tk }) → wpAny (model prog w) A.in1 (setAdd S v) Q E s
theorem loopZ (W : WalksS prog w A.in1 I fp wr G n Pv St) (S : Addr) (hSf : S ∉ fp) (h0 : Heap) (Z : Nat → Heap → Prop) (step : StepZ prog w A S h0 Pv n Z) (hZ : ∀ i h h', Z i h → (∀ o, h.get? S = some o → h'.get? S = some o) → Z i h')
    (away : ∀ b o, h0.get? b = some o → b ≠ S ∧ b ∉ wr) :
    ∀ (k i : Nat) (s : Shared), n - i = k → i ≤ n → St i s → (∀ b o, h0.get? b = some o → s.heap.get? b = some o) → Z i s.heap → (∀ s', Moved (S :: wr) G s s' → Z n s'.heap → R (.ok (.ret .none)) s') →
      codeAny (model prog w) A (.builtin "set.update.loop" ⟨[.ref S, .ref I], []⟩) R s := by
  have hSw : S ∉ wr := fun h => hSf (W.sub _ h)
  have hsub : ∀ b ∈ wr, b ∈ S :: wr := fun b hb => List.mem_cons_of_mem _ hb
  have moved : ∀ {s s' : Shared} {i : Nat}, Moved wr G s s' → Z i s.heap → Z i s'.heap := fun hm g => hZ _ _ _ g fun o e => hm.heap S o hSw e
  intro k
  induction k with
  | zero =>
    intro i s hk hi hst hup hS hR
    have hin : i = n := by omega
    subst hin
    refine codeAny_builtin PyProof.Rows.F.entry_set_update_loop ?_
    rw [Around.under_plainId PyProof.Rows.F.plain_set_update_loop _]
    show wpAny _ A.in1 (pyNext (.ref I) >>= _) _ _ s
    refine wpAny_bind (W.done s _ _ hst fun s' hm => ?_)
    show wpAny _ A.in1 (ret Value.none) _ _ s'
    exact wpAny_pure (hR s' (hm.mono hsub) (moved hm hS))
  | succ k ih =>
    intro i s hk hi hst hup hS hR
    have hlt : i < n := by omega
    refine codeAny_builtin PyProof.Rows.F.entry_set_update_loop ?_
    rw [Around.under_plainId PyProof.Rows.F.plain_set_update_loop _]
    show wpAny _ A.in1 (pyNext (.ref I) >>= _) _ _ s
    refine wpAny_bind (W.item i s _ _ hlt hst fun v s' hP hst' hm => ?_)
    have up' : ∀ b o, h0.get? b = some o → s'.heap.get? b = some o := fun b o e => hm.heap b o (away b o e).2 (hup b o e)
    show wpAny _ A.in1 (holding [v] (setAdd S v) >>= _) _ _ s'
    refine wpAny_bind (wpAny_holding ?_)
    refine step i v s' _ _ hlt hP (moved hm hS) up' fun b h' tk htk hsb hS2 => ?_
    refine wpAny_pure ⟨plainId_quiet PyProof.Rows.F.plain_set_update_loop _, ih (i + 1) _ (by omega) hlt (W.frame _ s' _ _ hst' htk fun b hb o e => ?_) (fun b o e => ?_) hS2 fun s'' hm'' hS'' => ?_⟩
    · rw [hsb.2 b (fun h : b = S => hSf (by rw [← h]; exact hb))]; exact e
    · show h'.get? b = some o
      rw [hsb.2 b (away b o e).1]; exact up' b o e
    · refine hR s'' (Moved.trans W.gtrans ((hm.mono hsub).then_heap htk fun b o hb e => ?_) hm'') hS''
      rw [hsb.2 b (fun h : b = S => hb (by rw [h]; exact List.mem_cons_self))]; exact e
end
section
variable {prog : Program} {w : World} {A : Around} {E : Value → Shared → Prop} {s : Shared}
/-- set(a list) -/
theorem call_set_any {l : Addr} {items : Array Value} {Z : Nat → Heap → Prop} {Q : Value → Shared → Prop} (hh : A.handled = none) (hl : s.heap.IsList l items)
    (step : StepZ prog w A.in1.in1 s.heap.objs.size s.heap (fun i v => items[i]? = some v) items.size Z) (hZ : ∀ i h h', Z i h → (∀ o, h.get? s.heap.objs.size = some o → h'.get? s.heap.objs.size = some o) → Z i h')
    (h0 : ∀ led : Bool, (w.params.followText "set-order" = true ∨ led = true) → Z 0 (s.heap.push { cls := .type "set", dict := none, data := .set #[] 0 (.fresh 0 0 led) }))
    (h : ∀ (h' : Heap) (tk : Nat), Z items.size h' → (∀ b o, b < s.heap.objs.size → s.heap.get? b = some o → h'.get? b = some o) → Q (.ref s.heap.objs.size) { s with heap := h', toks := tk }) :
    wpAny (model prog w) A (call (.type "set") [.ref l]) Q E s := by
  obtain ⟨c, tl, hmro⟩ := PySem.F.called_set.mro
  have hmade := PySem.F.called_set.made
  have hsub := PySem.F.called_set.sub
  refine wpAny_call (codeAny_of_tree ?_)
  show wpAny _ _ (callAny (.type "set") _) _ _ _
  refine wpAny_pure ⟨Code.quiet_builtin _ (by decide +kernel), codeAny_builtin PySem.F.entry_type_call ?_⟩
  rw [Around.under_plain (weight_type_call_type "set" [.ref l] []) rfl]
  have h1 := PySem.F.called_set.notType
  have h2 := PySem.F.called_set.canCreate
  have hct := PySem.F.typeCall_set_1 (.ref l)
  repeat (any_goals (first | assumption | wp_step))
  refine codeAny_mono (KN.set_born (.ref l) (E := E) (Q1 := fun obj s₁ => ∃ led : Bool, (w.params.followText "set-order" = true ∨ led = true) ∧ obj = .ref s.heap.objs.size ∧ s₁ = { s with heap := s.heap.push { cls := .type "set", dict := none, data := .set #[] 0 (.fresh 0 0 led) } }) fun led z => ⟨led, z, rfl, rfl⟩) fun r s₁ hr' => ?_
  cases r with
  | error e => exact hr'
  | ok fl =>
    cases fl with
    | ret obj =>
      obtain ⟨led, hld, rfl, rfl⟩ := hr'
      have hS : (s.heap.push { cls := .type "set", dict := none, data := .set #[] 0 (.fresh 0 0 led) }).get? s.heap.objs.size = some { cls := .type "set", dict := none, data := .set #[] 0 (.fresh 0 0 led) } := Heap.get?_push_size _ rfl
      have hT : Shared.TypeIs { s with heap := s.heap.push { cls := .type "set", dict := none, data := .set #[] 0 (.fresh 0 0 led) } } (.ref s.heap.objs.size) "set" := ⟨_, hS, rfl⟩
      have hli := PySem.F.called_set.init.lookup
      have hbi := PySem.F.called_set.init.bind (.ref s.heap.objs.size)
      repeat (any_goals (first | assumption | wp_step))
      refine codeAny_mono (codeAny_call_builtin (R := wants (fun r s₂ => r = .none ∧ ∃ h' tk, s₂ = { s with heap := h', toks := tk } ∧ Z items.size h' ∧
          (∀ b o, b < s.heap.objs.size → s.heap.get? b = some o → h'.get? b = some o)) E) PySem.F.called_set.init.plain PySem.F.entry_set_init (check_set_init_1 hT ?_)) fun r₂ s₂ hr₂ => ?_
      · obtain ⟨⟨ocls, odict, odata, oslots⟩, hol, hcl, nl, hdl⟩ := hl
        simp only at hcl hdl
        subst hcl; subst hdl
        have hol' : (s.heap.push { cls := .type "set", dict := none, data := .set #[] 0 (.fresh 0 0 led) }).get? l = some { cls := .type "list", dict := odict, data := .seq items nl, slots := oslots } := Heap.get?_push_of_some _ hol
        have hsls := PySem.F.sub_list_set
        have hslf := PySem.F.sub_list_frozenset
        have hne : (Value.type "list" == Value.type "dict") = false := by decide
        have hl1 : (s.heap.push { cls := .type "set", dict := none, data := .set #[] 0 (.fresh 0 0 led) }).IsList l items := ⟨_, hol', rfl, nl, rfl⟩
        unfold Builtin.«set.__init__» noKeywords Builtin.Frozenset.updateFrom
        generalize hPI : pyIter = PI
        wp_walk
        subst hPI
        refine wpAny_pyIter_list hl1 ?_
        refine wpAny_bind (wpAny_runValue ?_)
        have hlS : l < s.heap.objs.size := Heap.lt_size hol
        have hh3 : A.in1.in1.in1.handled = none := by simp [hh]
        have hneI : l ≠ (s.heap.push { cls := .type "set", dict := none, data := .set #[] 0 (.fresh 0 0 led) }).objs.size := by
          rw [Heap.size_push]; exact Nat.ne_of_lt (Nat.lt_succ_of_lt hlS)
        have hSf : s.heap.objs.size ∉ [(s.heap.push { cls := .type "set", dict := none, data := .set #[] 0 (.fresh 0 0 led) }).objs.size, l] := by
          rw [Heap.size_push]; simp only [List.mem_cons, List.mem_singleton, List.not_mem_nil, or_false, not_or]
          exact ⟨Nat.ne_of_lt (Nat.lt_succ_self _), Nat.ne_of_gt hlS⟩
        refine loopZ ((Walks.list hh3 _ l hneI items).toS) s.heap.objs.size hSf s.heap Z step hZ (fun b o e => ?_) (items.size - 0) 0 _ (by omega) (Nat.zero_le _)
          ⟨⟨_, Heap.get?_push_size _ rfl, rfl, rfl⟩, (hl1.push _)⟩ (fun b o e => Heap.get?_push_of_some _ (Heap.get?_push_of_some _ e)) (hZ _ _ _ (h0 led hld) fun o e => Heap.get?_push_of_some _ e) fun s' hm hS' => ?_
        · have hb := Heap.lt_size e
          exact ⟨Nat.ne_of_lt hb, by rw [Heap.size_push]; simp only [List.mem_singleton]; exact Nat.ne_of_lt (Nat.lt_succ_of_lt hb)⟩
        · rw [Moved.eq_with hm]
          show wpAny _ _ _ _ _ _
          refine wpAny_pure ?_
          show wpAny _ _ (ret Value.none) _ _ _
          refine wpAny_pure ⟨rfl, s'.heap, s'.toks, rfl, hS', fun b o hb e => ?_⟩
          have hb1 : b ≠ s.heap.objs.size := Nat.ne_of_lt hb
          have hb2 : b ≠ (s.heap.push { cls := .type "set", dict := none, data := .set #[] 0 (.fresh 0 0 led) }).objs.size := by
            rw [Heap.size_push]; exact Nat.ne_of_lt (Nat.lt_succ_of_lt hb)
          exact hm.heap b o (by simp only [List.mem_cons, List.mem_singleton, List.not_mem_nil, or_false, not_or]; exact ⟨hb1, hb2⟩) (Heap.get?_push_of_some _ (Heap.get?_push_of_some _ e))
      · cases r₂ with
        | error e => exact hr₂
        | ok fl₂ =>
          cases fl₂ with
          | ret r =>
            obtain ⟨rfl, h', tk, rfl, hS', hk'⟩ := hr₂
            repeat (any_goals (first | assumption | wp_step))
            exact h _ _ hS' hk'
          | _ => exact hr₂.elim
    | _ => exact hr'.elim
end
end TX
set_option Elab.async false
set_option linter.all false
set_option maxRecDepth 100000
set_option maxHeartbeats 3200000
namespace TX
open PySem PySem.Spec PyProof.Rows L2 PD
/-! ### set(a list of texts), sorted(a set of texts) -/
def O (P : Program) (w : World) (a : Addr) (xs : List Str) : HO := .ext fun h => Is P w h a xs
theorem o_new {P : Program} {w : World} {H : Hp} {h : Heap} {a : Addr} {xs : List Str} (R : Is P w h a xs) : ObjOk P w H h a (O P w a xs) := by
  have ⟨o, _, _, _, ho, _⟩ := R
  refine ⟨R, ⟨o, ho⟩, fun h1 h2 q k => ?_⟩
  obtain ⟨o, es, ep, t, ho, r⟩ := q
  exact ⟨o, es, ep, t, k o ho, r⟩
theorem cr_setX {X : Cx} (hc : X.calm = true) : CallR X (.type "set") (fun vs H Q => ∃ (l : Addr) (ys : List Str), vs = [V.ref l] ∧ SqL X.K H l (ys.map V.str) ∧ ys.length + 1 < scanBound ∧ ∀ p, H p = none → Q (.ref p) (upd H p (O X.prog X.w p ys))) := by
  intro pins s σ H xs us Q I r h
  obtain ⟨l, ys, rfl, hq, hl, q⟩ := h
  cases r with
  | cons r rr =>
    cases rr
    cases r
    obtain ⟨its, rv, pl, hz⟩ := I.list hq
    have len : its.toArray.size = ys.length := by
      have := rv.length
      rw [List.length_map] at this
      rw [List.size_toArray]
      exact this.symm
    refine call_set_any (Z := fun i h => Is X.prog X.w h s.heap.objs.size (ys.take i)) (I.ok.hd hc) pl.isList (fun i v s1 E Q hi hv hZ _ q => ?_) (fun i h h' z k => ?_) (fun led hled => ?_) fun h' tk hS hk => ?_
    · obtain ⟨x, t, hx, rfl⟩ := ST.strs_at rv i v (by
        have hv2 : its.toArray[i]? = some v := hv
        rwa [List.getElem?_toArray] at hv2)
      unfold setAdd
      refine wpAny_holding (wpAny_bind ((mixKind X.prog X.w).pyHash (mixKind_str X.prog X.w x t) ?_))
      refine add (s := { s1 with toks := s1.toks + 1 }) hZ x t ?_ fun b h' sb z => q b h' _ (Nat.le_succ _) sb ?_
      · show (ys.take i).length + 1 < scanBound
        rw [List.length_take]
        omega
      · show Is X.prog X.w h' s.heap.objs.size (ys.take (i + 1))
        rw [List.take_succ, hx]
        exact z
    · obtain ⟨o, es, ep, t, ho, r⟩ := z
      exact ⟨o, es, ep, t, k o ho, r⟩
    · refine ⟨_, #[], 0, _, Heap.get?_push_size _ rfl, ⟨rfl, rfl, rfl⟩, rfl, ⟨fun e he => by simp at he, by simp, by rfl, List.Pairwise.nil, hled⟩, fun y => by simp, by simp⟩
    · have k1 : ∀ b o, s.heap.get? b = some o → h'.get? b = some o := fun b o e => hk b o (Heap.lt_size e) e
      rw [len, List.take_length] at hS
      exact ⟨.ref _, upd H s.heap.objs.size (O X.prog X.w s.heap.objs.size ys), I.laid (t' := tk) k1 (Nat.le_refl _) (o_new hS), rfl, q _ (I.hok.fresh (Nat.le_refl _))⟩
/-- texts may be sorted -/
theorem srt_texts (zs : List Str) : Srt (zs.map D.str) := by
  have hp : pds (zs.map D.str) = zs.map PyData.str := by
    rw [pds_map, List.map_map]
    refine List.map_congr_left fun x _ => ?_
    show D.pd (D.str x) = _
    rw [D.pd]
  refine ⟨?_, ?_, ?_, fun d hd => ?_⟩
  · rw [pls_all, List.all_eq_true]
    intro d hd
    obtain ⟨x, _, rfl⟩ := List.mem_map.mp hd
    rw [D.pl]
  · rw [hp]
    intro d hd d' hd'
    obtain ⟨x, _, rfl⟩ := List.mem_map.mp hd
    obtain ⟨y, _, rfl⟩ := List.mem_map.mp hd'
    first | rfl | simp [PySem.W.alike]
  · rw [hp]
    refine .inr fun d hd => ?_
    obtain ⟨x, _, rfl⟩ := List.mem_map.mp hd
    exact ⟨fun e => (nomatch e), fun xs e => (nomatch e)⟩
  · obtain ⟨x, _, rfl⟩ := List.mem_map.mp hd
    rw [D.pd]
    exact Nat.zero_le _
def vx (v : Value) : Str := match v with | .str x _ => x | _ => ("" : Str)
theorem vals_vx : ∀ vs : List Value, (∀ v ∈ vs, ∃ k, v = .str (vx v) k) → Vals ((vs.map vx).map V.str) vs
  | [], _ => .nil
  | v :: vs, h => .cons (h v List.mem_cons_self) (vals_vx vs fun u hu => h u (List.mem_cons_of_mem _ hu))
theorem rpa_texts {K : PySem.W.Frag} {H : Hp} : ∀ zs : List Str, RpA K H (zs.map V.str) (zs.map D.str)
  | [] => .nil
  | z :: zs => .cons (.str z) (rpa_texts zs)
def rSorted (P : Program) (w : World) (K : PySem.W.Frag) : List V → Hp → VK → Prop := fun vs H Q => ∃ (a : Addr) (xs : List Str), vs = [V.ref a] ∧ H a = some (O P w a xs) ∧ xs.length + 1 < scanBound ∧
  ∀ (zs : List Str) (ys : List V) (p : Addr), zs.Nodup → (∀ y, y ∈ zs ↔ y ∈ xs) → RpA K H ys (srtD (zs.map D.str)) → H p = none → Q (.ref p) (upd H p (.lst ys))
theorem cr_sortedX {X : Cx} (hc : X.calm = true) (hu : X.A.units + 40 < cLine) : CallR X (.builtin "sorted") (rSorted X.prog X.w X.K) := by
  intro pins s σ H vs us Q I r h
  obtain ⟨a, xs, rfl, e, room, q⟩ := h
  rw [Vals.ref1 r]
  obtain ⟨o, es, ep, t, ho, hx, hd, T, mem, le⟩ := (I.hok a _ e).1
  refine Calls.call_function_entry kind_sorted plain_sorted entry_sorted (args_sorted1 _) ?_
  unfold Builtin.«sorted»
  refine wpAny_bind (m := checkCount "sorted" 1 1 _) (wpAny_pure (wpAny_bind (collect_set (A := X.A.in1) (I.ok.hd hc) ⟨o, ho, hx.1, hd⟩ T.ft (by omega) T.ri T.ld fun s1 vs k1 hz g1 o1 pm => ?_)))
  -- the texts, as the table has them
  have tx1 : ∀ v ∈ vs, ∃ k, v = .str (vx v) k := fun v hv => by
    obtain ⟨e, he, rfl⟩ := List.mem_map.mp (pm.mem_iff.mp hv)
    obtain ⟨k, e1, _⟩ := T.en e he
    rw [e1]
    exact ⟨k, rfl⟩
  have pz : (vs.map vx).Perm (es.toList.map tx) := by
    have := pm.map vx
    rw [List.map_map] at this
    exact this
  have rv := vals_vx vs tx1
  have nd : (vs.map vx).Nodup := pz.nodup_iff.mpr T.nd
  have mm : ∀ y, y ∈ vs.map vx ↔ y ∈ xs := fun y => pz.mem_iff.trans (mem y)
  generalize vs.map vx = zs at rv nd mm pz
  have lz : vs.length = zs.length := by
    have := rv.length
    rw [List.length_map] at this
    exact this.symm
  have hL : vs.length ≤ sizeLine := by
    rw [lz, pz.length_eq, List.length_map, Array.length_toList]
    exact Nat.le_trans le (by rw [sizeLine_eq]; unfold scanBound at room; omega)
  refine wpAny_bind (wpAny_newList ?_ hL)
  have at1 : (s1.heap.push (seqObj "list" vs.toArray 0)).get? s1.heap.objs.size = some (seqObj "list" vs.toArray 0) := Heap.get?_push_size _ rfl
  have old1 : ∀ b u, s.heap.get? b = some u → (PySem.W.sortingHeap (s1.heap.push (seqObj "list" vs.toArray 0)) s1.heap.objs.size vs).get? b = some u := fun b u z => by
    have z1 := k1 b u z
    exact PySem.W.sortingHeap_old (Nat.ne_of_lt (Heap.lt_size z1)) (Heap.get?_push_of_some _ z1)
  have ra : RpA X.K H (zs.map V.str) (zs.map D.str) := rpa_texts zs
  have st := srt_texts zs
  have er := each_reads I old1 ra st.pl rv
  have al := st.al
  have so := st.so
  rw [pds_map] at al so
  have S := PySem.W.SortsAt.data (prog := X.prog) (w := X.w) (A := X.A.in1.in1) (s := { s1 with heap := PySem.W.sortingHeap (s1.heap.push (seqObj "list" vs.toArray 0)) s1.heap.objs.size vs }) er al so (fun d hd => by
    obtain ⟨d0, hd0, rfl⟩ := List.mem_map.mp hd
    have := st.dp d0 hd0
    have h2 : X.A.in1.in1.units = X.A.units + 2 := rfl
    rw [h2]
    omega)
  refine wpAny_bind (wpAny_holding (wpAny_call_entry slot_list_sort ⟨_, at1, rfl⟩ entry_list_sort (PySem.W.list_sort_vals at1 S hL ⟨_, rfl, ?_⟩) (args_list_sort _)))
  have kd := PySem.W.keyedOut_each (rev := false) (R := fun u (p : V × D) => RelV p.1 u ∧ Rp X.K H p.1 p.2) (bs := (zs.map V.str).zip (zs.map D.str)) (vs := vs) (fun p : V × D => p.2.pd)
    (out := PySem.W.sortVals (PySem.W.dataKind (PySem.W.sortingHeap (s1.heap.push (seqObj "list" vs.toArray 0)) s1.heap.objs.size vs) ((zs.map D.str).map D.pd)) false vs vs) (by
      have hm : ((zs.map V.str).zip (zs.map D.str)).map (fun p : V × D => p.2.pd) = (zs.map D.str).map D.pd := by
        rw [show (fun p : V × D => p.2.pd) = D.pd ∘ (fun p : V × D => p.2) from rfl, ← List.map_map, zip_snd ra]
      exact ⟨_, vs, by rw [hm]; exact al, by rw [hm], by rw [hm]; exact er⟩) (each_pairs ra rv)
  obtain ⟨c1, c2⟩ := pairs_each kd
  rw [sort_snd, zip_snd ra] at c2
  have hl2 : (((((zs.map V.str).zip (zs.map D.str))).mergeSort (PySem.W.dataLe false fun p => p.2.pd)).map (·.1)).length ≤ sizeLine := by
    rw [List.length_map, List.length_mergeSort, List.length_zip, List.length_map]
    exact Nat.le_trans (Nat.min_le_left _ _) (by rw [← lz]; exact hL)
  obtain ⟨ep', he'⟩ := sortedHeap_at (vs := vs) (out := (PySem.W.sortVals (PySem.W.dataKind (PySem.W.sortingHeap (s1.heap.push (seqObj "list" vs.toArray 0)) s1.heap.objs.size vs) ((zs.map D.str).map D.pd)) false vs vs).toArray) at1
  have kall : ∀ b u, s.heap.get? b = some u → (sortedHeap (s1.heap.push (seqObj "list" vs.toArray 0)) s1.heap.objs.size vs (PySem.W.sortVals (PySem.W.dataKind (PySem.W.sortingHeap (s1.heap.push (seqObj "list" vs.toArray 0)) s1.heap.objs.size vs) ((zs.map D.str).map D.pd)) false vs vs).toArray).get? b = some u := fun b u z => by
    have z1 := k1 b u z
    have hlt := Heap.lt_size z1
    rw [sortedHeap_old (Nat.ne_of_lt hlt) (by rw [size_push']; exact Nat.lt_succ_of_lt hlt)]
    exact Heap.get?_push_of_some _ z1
  have hn : H s1.heap.objs.size = none := I.hok.fresh hz
  generalize hG : sortedHeap (s1.heap.push (seqObj "list" vs.toArray 0)) s1.heap.objs.size vs (PySem.W.sortVals (PySem.W.dataKind (PySem.W.sortingHeap (s1.heap.push (seqObj "list" vs.toArray 0)) s1.heap.objs.size vs) ((zs.map D.str).map D.pd)) false vs vs).toArray = G at he' kall ⊢
  have J : Inv X pins σ (upd H s1.heap.objs.size (.lst ((((zs.map V.str).zip (zs.map D.str)).mergeSort (PySem.W.dataLe false fun p => p.2.pd)).map (·.1)))) { s with heap := G, gens := s1.gens, drawn := s1.drawn, toks := s1.toks } :=
    I.call (ch := []) (Un.laid kall hz hn) (I.hok.laid kall hz ⟨hl2, _, ep', c1, he'⟩) (by rw [g1]; exact I.bare) (fun _ z => nomatch z)
  refine wpAny_pure ⟨_, rfl, ?_⟩
  have es1 : ({ s1 with heap := G } : Shared) = { s with heap := G, gens := s1.gens, drawn := s1.drawn, toks := s1.toks } := by
    cases s1
    cases s
    cases o1
    rfl
  rw [es1]
  exact ⟨.ref _, _, J, rfl, q zs _ _ nd mm c2 hn⟩
end TX
set_option Elab.async false
set_option linter.all false
set_option maxRecDepth 100000
set_option maxHeartbeats 4000000
namespace PD
open PySem PySem.Spec PyProof.Rows L2
/-! ### the order of texts -/
theorem leD_str (x y : Str) : leD (.str x) (.str y) = decide (x.cps.toList ≤ y.cps.toList) := by
  have h := congrFun (congrFun (PySem.W.dataLe_str (β := Str) id) x) y
  have e : leD (.str x) (.str y) = PySem.W.dataLe false (fun b : Str => PyData.str (id b)) x y := by
    unfold leD
    rw [PySem.W.dataLe_eq, PySem.W.dataLe_eq]
    show (!PySem.W.dataLt (D.str y).pd (D.str x).pd) = (!PySem.W.dataLt (PyData.str y) (PyData.str x))
    rw [D.pd, D.pd]
  rw [e, h]
  rfl
theorem leD_total : PySem.W.TotalLe leD := by
  unfold leD PySem.W.dataLe
  exact PySem.W.sortLe_total _ _ _
theorem leD_anti {x y : Str} (h1 : leD (.str x) (.str y) = true) (h2 : leD (.str y) (.str x) = true) : x = y := by
  rw [leD_str, decide_eq_true_eq] at h1 h2
  exact PySem.W.str_of_cps (List.le_antisymm h1 h2)
theorem srtD_perm (ds : List D) : (srtD ds).Perm ds := List.mergeSort_perm _ _
theorem srtD_pair (ds : List D) : (srtD ds).Pairwise fun a b => leD a b = true := List.pairwise_mergeSort leD_total.trans (fun a b => by rw [Bool.or_eq_true]; exact leD_total.total a b) ds
/-- texts in one order alone -/
theorem srtD_texts {zs ys : List Str} (h : zs.Perm ys) : srtD (zs.map D.str) = srtD (ys.map D.str) := by
  have pm : (srtD (zs.map D.str)).Perm (srtD (ys.map D.str)) := (srtD_perm _).trans ((h.map _).trans (srtD_perm _).symm)
  refine pm.eq_of_pairwise (fun a b ha hb h1 h2 => ?_) (srtD_pair _) (srtD_pair _)
  obtain ⟨x, _, rfl⟩ := List.mem_map.mp ((srtD_perm _).mem_iff.mp ha)
  obtain ⟨y, _, rfl⟩ := List.mem_map.mp ((srtD_perm _).mem_iff.mp hb)
  rw [leD_anti h1 h2]
/-- the different ones -/
def dd [DecidableEq α] : List α → List α
  | [] => []
  | x :: xs => if x ∈ xs then dd xs else x :: dd xs
theorem mem_dd [DecidableEq α] (y : α) : ∀ xs : List α, y ∈ dd xs ↔ y ∈ xs
  | [] => Iff.rfl
  | x :: xs => by
    rw [dd, List.mem_cons, ← mem_dd y xs]
    by_cases h : x ∈ xs
    · rw [if_pos h]
      exact ⟨.inr, fun z => z.elim (fun e => by rw [e]; exact (mem_dd x xs).mpr h) id⟩
    · rw [if_neg h, List.mem_cons]
theorem nodup_dd [DecidableEq α] : ∀ xs : List α, (dd xs).Nodup
  | [] => List.nodup_nil
  | x :: xs => by
    rw [dd]
    by_cases h : x ∈ xs
    · rw [if_pos h]; exact nodup_dd xs
    · rw [if_neg h]
      exact List.nodup_cons.mpr ⟨fun z => h ((mem_dd x xs).mp z), nodup_dd xs⟩
/-- sorted(set(xs)), as data -/
def srtS (xs : List Str) : List D := srtD ((dd xs).map D.str)
theorem srtS_of {zs xs : List Str} (nd : zs.Nodup) (m : ∀ y, y ∈ zs ↔ y ∈ xs) : srtD (zs.map D.str) = srtS xs :=
  srtD_texts ((List.perm_ext_iff_of_nodup nd (nodup_dd xs)).mpr fun y => (m y).trans (mem_dd y xs).symm)
/-- texts with the same members -/
theorem srtS_congr {xs ys : List Str} (m : ∀ y, y ∈ xs ↔ y ∈ ys) : srtS xs = srtS ys :=
  srtS_of (nodup_dd xs) fun y => (mem_dd y xs).trans (m y)
theorem srtS_texts (xs : List Str) : ∃ ys : List Str, srtS xs = ys.map D.str ∧ ys.Nodup ∧ ∀ y, y ∈ ys ↔ y ∈ xs := by
  have pm := srtD_perm ((dd xs).map D.str)
  have all : ∀ l : List D, (∀ d ∈ l, ∃ x, d = D.str x) → ∃ ys : List Str, l = ys.map D.str := by
    intro l
    induction l with
    | nil => intro _; exact ⟨[], rfl⟩
    | cons d l ih =>
      intro h
      obtain ⟨x, rfl⟩ := h d List.mem_cons_self
      obtain ⟨ys, rfl⟩ := ih fun e he => h e (List.mem_cons_of_mem _ he)
      exact ⟨x :: ys, rfl⟩
  obtain ⟨ys, e⟩ := all (srtS xs) fun d hd => by
    obtain ⟨x, _, rfl⟩ := List.mem_map.mp (pm.mem_iff.mp hd)
    exact ⟨x, rfl⟩
  have p2 : (ys.map D.str).Perm ((dd xs).map D.str) := by
    rw [← e]
    exact pm
  have inj : ∀ x y : Str, D.str x = D.str y → x = y := fun x y z => by injection z
  refine ⟨ys, e, ?_, fun y => ?_⟩
  · have h1 : ((dd xs).map D.str).Nodup := List.pairwise_map.mpr ((nodup_dd xs).imp fun n z => n (inj _ _ z))
    have h2 := p2.nodup_iff.mpr h1
    exact (List.pairwise_map.mp h2).imp fun n z => n (by rw [z])
  · rw [← mem_dd y xs]
    constructor
    · intro z
      obtain ⟨x, hx, e⟩ := List.mem_map.mp (p2.mem_iff.mp (List.mem_map.mpr ⟨y, z, rfl⟩))
      rw [← inj _ _ e]; exact hx
    · intro z
      obtain ⟨x, hx, e⟩ := List.mem_map.mp (p2.mem_iff.mpr (List.mem_map.mpr ⟨y, z, rfl⟩))
      rw [← inj _ _ e]; exact hx
section
variable {C : Cn} {b : Nat} {δ : List Sl} {P : Nat → Res → Prop} {pos p0 p1 p2 : Pos} {e : Expr}
/-- sorted(set(a list of texts)) -/
theorem ev_sortSet (B : Blt C.X) (hc : C.X.calm = true) (hu : C.X.A.units + 40 < cLine) (h : EV C b δ e (fun b1 r => ∃ xs : List Str, r.seq = some (xs.map D.str) ∧ xs.length ≤ 4000 ∧ P b1 (.ow (srtS xs)))) (hgl : Gl C.X "sorted" := by rfl) (hgs : Gl C.X "set" := by rfl)
    (hs : starEach [e] C.X.env = (false, eval e C.X.env) :: starEach [] C.X.env := by rfl)
    (hsx : starEach [.Call (.Name "set" p0) [e] [] p1] C.X.env = (false, eval (.Call (.Name "set" p0) [e] [] p1) C.X.env) :: starEach [] C.X.env := by rfl)
    (hpl : (backTo p1 (starEach [] C.X.env)).any (·.1) = false := by rfl) (hpl2 : (backTo pos (starEach [] C.X.env)).any (·.1) = false := by rfl) :
    EV C b δ (.Call (.Name "sorted" p2) [.Call (.Name "set" p0) [e] [] p1] [] pos) P := by
  intro os σ H st Q q
  refine WE.of (pe_callB (TX.cr_sortedX hc hu) hgl B.sorted (by decide +kernel) (pa_cons (pe_callTy (TX.cr_setX hc) hgs B.set (by decide +kernel) (pa_cons peW pa_nil hs) (by decide) (by decide) hs hpl) pa_nil hsx) (by decide) (by decide) hsx hpl2) ?_
  refine h os σ H st _ fun v H1 b1 r f1 j1 rv hr => ?_
  obtain ⟨xs, hr, hl, hq⟩ := hr
  obtain ⟨p, vs, rfl, e1, ra⟩ := rv.seq_ hr
  obtain rfl := rp_text ra
  refine ⟨p, xs, rfl, e1.sq, by show xs.length + 1 < 4096; omega, fun a ha => ?_⟩
  have fn : Fr C.Z.S H1 (upd H1 a (TX.O C.X.prog C.X.w a xs)) := Fr.new ha
  refine ⟨a, xs, rfl, upd_same, by show xs.length + 1 < 4096; omega, fun zs ys l nd mm ry hl => ?_⟩
  have fn2 : Fr C.Z.S (upd H1 a (TX.O C.X.prog C.X.w a xs)) (upd (upd H1 a (TX.O C.X.prog C.X.w a xs)) l (.lst ys)) := Fr.new hl
  rw [srtS_of nd mm] at ry
  exact q _ _ b1 _ (f1.trans (fn.trans fn2)) (jnew (jnew j1 ha) hl) (.ow (f1.back (fn.back hl)) upd_same (snew (jnew j1 ha) hl) (ry.fr fn2)) hq
end
end PD
set_option Elab.async false
set_option linter.all false
set_option maxRecDepth 100000
set_option maxHeartbeats 4000000
namespace PD
open PySem PySem.Spec PyProof.Rows L2
/-! ### dict(d), the module's own tuple, slices of tuples -/
section
variable {C : Cn} {b : Nat} {δ : List Sl} {P : Nat → Res → Prop} {F : Fin} {pos p0 p1 p2 : Pos} {e : Expr} {rest : List Stmt}
/-- what a dict of text or int keys holds -/
def Res.kvs : Res → Option (List (Key × D))
  | .va (.dk kvs) => some kvs
  | .ro (.k kvs) => some kvs
  | .od (.k kvs) => some kvs
  | _ => none
theorem RV.kvs_ {K : PySem.W.Frag} {Z : Vol} {os : List Addr} {H H' : Hp} {v : V} {r : Res} {ds : List (Key × D)} (h : RV K Z os H H' v r) (e : r.kvs = some ds) : ∃ p kv, v = .ref p ∧ Rd H' p (.dK kv) ∧ kv.map (·.1) = ds.map (·.1) ∧ RpA K H' (kv.map (·.2)) (ds.map (·.2)) := by
  cases h with
  | @va v d h =>
    cases d with
    | dk kvs =>
      cases e
      cases h with
      | dicK e l ra => exact ⟨_, _, rfl, .inr ⟨_, e⟩, l, ra⟩
    | _ => cases e
  | od n ns e1 =>
    cases e1 with
    | k e2 l ra => cases e; exact ⟨_, _, rfl, .inl e2, l, ra⟩
    | t _ _ _ => cases e
  | ro n ns e1 =>
    cases e1 with
    | k e2 l ra => cases e; exact ⟨_, _, rfl, .inl e2, l, ra⟩
    | t _ _ _ => cases e
  | ow _ _ _ _ => cases e
  | li _ _ _ _ => cases e
  | rd _ _ _ _ => cases e
/-- dict(d) -/
theorem ev_dcopy (B : Blt C.X) (h : EV C b δ e (fun b1 r => ∃ kvs, r.kvs = some kvs ∧ P b1 (.od (.k kvs)))) (hg : Gl C.X "dict" := by rfl)
    (hs : starEach [e] C.X.env = (false, eval e C.X.env) :: starEach [] C.X.env := by rfl) (hpl : (backTo p1 (starEach [] C.X.env)).any (·.1) = false := by rfl) : EV C b δ (.Call (.Name "dict" p0) [e] [] p1) P := by
  intro os σ H st Q q
  refine WE.of (pe_callTy call_dictD hg B.dict (by decide +kernel) (pa_cons peW pa_nil hs) (by decide) (by decide) hs hpl) ?_
  refine h os σ H st _ fun v H1 b1 r f1 j1 rv hr => ?_
  obtain ⟨kvs, hr, hq⟩ := hr
  obtain ⟨p, kv, rfl, e1, l, ra⟩ := rv.kvs_ hr
  refine ⟨p, kv, rfl, e1, fun a ha => ?_⟩
  have fn : Fr C.Z.S H1 (upd H1 a (.dK kv)) := Fr.new ha
  exact q _ _ b1 _ (f1.trans fn) (jnew j1 ha) (.od (f1.back ha) (snew j1 ha) (.k upd_same l (ra.fr fn))) hq
/-- return of a dict of one's own, by its name -/
theorem sv_retD (i : Nat) {x : Str} {c : Dc} (h : δ[i]? = some (.od c)) (q : F.R b (.od c)) (hN : C.X.N[i]? = some x := by rfl)
    (hv : Vis C.X.env.scope x := by first | exact Or.inl rfl | exact Or.inr (Or.inl rfl) | exact Or.inr (Or.inr rfl)) (hd : (x == ("__debug__" : Str)) = false := by decide) (hcd : (x == ("__classdict__" : Str)) = false := by decide) :
    SV C b δ (.Return (some (.Name x p0)) pos :: rest) F := by
  intro os σ H st D ed
  refine WSs.of (pss_cons (ps_ret (pe_var hN hv hd hcd)) pssW) ?_
  obtain ⟨o, _, sub, sl⟩ := st.sl
  obtain ⟨w, o1, e, a, ho⟩ := sl.at h
  cases a with
  | od e1 =>
    obtain ⟨n, ns, _⟩ := st.new _ (sub _ (ho _ List.mem_cons_self))
    exact ⟨_, e, ed.rt _ H b _ q (.od n ns e1) st.fr st.j⟩
/-- t[lo:hi] -/
def cutD (ds : List D) (lo hi : Option Int) : List D := (ds.drop (HT.sIx ds.length 0 lo)).take (HT.sIx ds.length ds.length hi - HT.sIx ds.length 0 lo)
theorem cutD_all {ds : List D} {lo hi : Option Int} (h : HT.sIx ds.length 0 lo = 0 ∧ HT.sIx ds.length ds.length hi = ds.length) : cutD ds lo hi = ds := by
  unfold cutD
  rw [h.1, h.2, Nat.sub_zero, List.drop_zero, List.take_length]
theorem cut_rel {K : PySem.W.Frag} {H : Hp} {xs : List V} {ds : List D} (r : RpA K H xs ds) (lo hi : Option Int) : RpA K H (cutV xs lo hi) (cutD ds lo hi) := by
  unfold cutV cutD
  rw [r.len]
  exact (r.drop _).take _
theorem slT {H1 : Hp} {b1 : Nat} {v : V} {ds : List D} {lo hi : Option Int} {Q : VK} (j1 : C.Z.J b1 H1) (rv : Rp C.K H1 v (.tup ds)) (k : ∀ v H', Fr C.Z.S H1 H' → C.Z.J b1 H' → Rp C.K H' v (.tup (cutD ds lo hi)) → Q v H') : rSlA C.X.K v lo hi H1 Q := by
  cases rv with
  | @tup a xs _ h ra =>
    refine ⟨a, xs, rfl, h.sq, fun w => ?_, fun w p hp => ?_⟩
    · have := k (.ref a) H1 Fr.refl j1
      rw [ra.len] at w
      rw [cutD_all w] at this
      exact this (.tup h ra)
    · have fn : Fr C.Z.S H1 (upd H1 p (.tup (cutV xs lo hi))) := Fr.new hp
      exact k _ _ fn (jnew j1 hp) (.tup (.h upd_same) ((cut_rel ra lo hi).fr fn))
theorem ev_slTh {hi : Expr} (h : EV C b δ e (fun b1 r => EV C b1 δ hi fun b2 r2 => ∃ ds i, r = .va (.tup ds) ∧ r2 = .va (.int i) ∧ P b2 (.va (.tup (cutD ds none (some i)))))) : EV C b δ (.Subscript e (.Slice none (some hi) none p2) pos) P := by
  intro os σ H st Q q
  refine WE.of (pe_slice sl_tupA peW po_none (po_some peW)) ?_
  refine h os σ H st _ fun v H1 b1 r f1 j1 rv h2 => ?_
  show WE C.X hi σ H1 _
  refine h2 os σ H1 (st.on f1 j1) _ fun v2 H2 b2 r2 f2 j2 rv2 h3 => ?_
  obtain ⟨ds, i, rfl, rfl, hq⟩ := h3
  cases rv2 with | va rv2 => ?_
  cases rv2
  cases rv with | va rv => ?_
  exact ⟨i, rfl, slT j2 (rv.fr f2) fun v H' f3 j3 r3 => q v H' b2 _ ((f1.trans f2).trans f3) j3 (.va r3) hq⟩
theorem cutD_last (ds : List D) : cutD ds none (some (-1)) = ds.dropLast := by
  unfold cutD
  rw [HT.sIx_none, List.drop_zero, Nat.sub_zero, List.dropLast_eq_take]
  have e : HT.sIx ds.length ds.length (some (-1)) = ds.length - 1 := by
    unfold HT.sIx
    simp only []
    rw [if_pos (by decide)]
    omega
  rw [e]
/-- whether a tuple has items -/
theorem et_tup {Pt : Nat → Bool → Prop} (h : EV C b δ e (fun b1 r => ∃ ds, r = .va (.tup ds) ∧ Pt b1 (!ds.isEmpty))) (he : ∀ whole, isTrue e C.X.env whole = (do let v ← whole; standAt e.pos; holding [v] (truthy v)) := by intro _; rfl) : ET C b δ e Pt := by
  intro os σ H st Q k
  refine WT.of (pt_truth peW he) ?_
  refine h os σ H st _ fun v H1 b1 r f1 j1 rv hr => ?_
  obtain ⟨ds, rfl, hq⟩ := hr
  cases rv with | va rv => ?_
  cases rv with
  | @tup a xs _ h ra =>
    have em : xs.isEmpty = ds.isEmpty := by
      have := ra.len
      cases xs <;> cases ds <;> simp_all
    exact ⟨!ds.isEmpty, .inr (.inl ⟨xs, h.sq, by rw [em]⟩), k _ H1 b1 f1 j1 hq⟩
end
end PD
set_option Elab.async false
set_option linter.all false
set_option maxRecDepth 100000
set_option maxHeartbeats 4000000
namespace PD
open PySem PySem.Spec PyProof.Rows L2
/-! ### typed data: enc says what a typed thing is as data -/
section
variable {α β : Type}
open Classical in
/-- a def of typed things: enc its arguments, ok of what, f what it tells -/
noncomputable def gT (enc : α → List D) (ok : α → Prop) (f : α → Res) : List D → Option Res := fun ds => if h : ∃ x, enc x = ds ∧ ok x then some (f h.choose) else none
theorem gT_one {enc : α → List D} {ok : α → Prop} {f : α → Res} {ds : List D} {r : Res} (h : gT enc ok f ds = some r) : ∃ x, enc x = ds ∧ ok x ∧ r = f x := by
  unfold gT at h
  split at h
  · rename_i q
    cases h
    exact ⟨q.choose, q.choose_spec.1, q.choose_spec.2, rfl⟩
  · cases h
theorem gT_out {enc : α → List D} {ok : α → Prop} {f : α → Res} (ho : ∀ x, ok x → (f x).out = true) : ∀ (ds : List D) (r : Res), gT enc ok f ds = some r → r.out = true := fun ds r h => by
  obtain ⟨x, _, hx, rfl⟩ := gT_one h
  exact ho x hx
theorem gT_of {enc : α → List D} {ok : α → Prop} {f : α → Res} (inj : ∀ x y, enc x = enc y → x = y) {x : α} (h : ok x) : gT enc ok f (enc x) = some (f x) := by
  unfold gT
  have q : ∃ y, enc y = enc x ∧ ok y := ⟨x, rfl, h⟩
  rw [dif_pos q, inj _ _ q.choose_spec.1]
open Classical in
/-- a function of typed things, on data -/
noncomputable def onD (enc : α → D) (g : α → β) (z : D → β) : D → β := fun d => if h : ∃ x, enc x = d then g h.choose else z d
theorem onD_of {enc : α → D} {g : α → β} {z : D → β} (inj : ∀ x y, enc x = enc y → x = y) (x : α) : onD enc g z (enc x) = g x := by
  unfold onD
  have q : ∃ y, enc y = enc x := ⟨x, rfl⟩
  rw [dif_pos q, inj _ _ q.choose_spec]
end
section
variable {C : Cn} {b : Nat} {δ : List Sl} {P : Nat → Res → Prop} {F : Fin} {pos p0 p1 p2 : Pos} {elt iter tg c : Expr} {scope : Scope} {α : Type} {ss rest : List Stmt}
theorem ev_mapT (enc : α → D) (inj : ∀ x y, enc x = enc y → x = y) (p : Pat) (own : List (Str × Nat)) (g : α → D) (hc : C.X.calm = true) (hN : C.X.N.Nodup) (ok : BlkOk C.X.N C.X.env.scope scope own)
    (hg : ∀ (s : Shared) (H : Hp) (Cc : Addr) (cl : List (Str × Addr)) (fp : List Addr), PG (C.X.blk s H scope (compEnvC scope cl Cc C.X.env) fp) tg (gPat C.X.K p))
    (hp : ∀ i ∈ p.slots, i ∈ own.map (·.2))
    (h : EIc C b δ tg iter (fun b1 ds => ∃ xs : List α, ds = xs.map enc ∧ xs.length ≤ 16000000 ∧ (∀ x ∈ xs, ∃ δ', bindP p (enc x) (wipeD δ (own.map (·.2))) = some δ' ∧
      ∀ (s : Shared) (H : Hp) (Cc : Addr) (cl : List (Str × Addr)) (fp : List Addr), EV (C.blk s H scope (compEnvC scope cl Cc C.X.env) fp) b1 δ' elt (fun b4 r => b4 = b1 ∧ r = .va (g x))) ∧ P b1 (.ow (xs.map g))))
    (hs : ∀ x, foldedSetIterable iter C.X.env x = pure x := by intro _; rfl) : EV C b δ (.ListComp elt [⟨tg, iter, [], 0⟩] scope pos) P := by
  refine ev_map p own (onD enc g id) hc hN ok hg hp (fun os σ H st R k => h os σ H st R fun J H1 b1 ds f j w hh => k J H1 b1 ds f j w ?_) hs
  obtain ⟨xs, rfl, hl, each, hP⟩ := hh
  refine ⟨by rw [List.length_map]; exact hl, fun d hd => ?_, ?_⟩
  · obtain ⟨x, hx, rfl⟩ := List.mem_map.mp hd
    obtain ⟨δ', e1, e2⟩ := each x hx
    exact ⟨δ', e1, fun s H Cc cl fp => (e2 s H Cc cl fp).imp fun b' r z => ⟨z.1, by rw [onD_of inj]; exact z.2⟩⟩
  · have e : (xs.map enc).map (onD enc g id) = xs.map g := by
      rw [List.map_map]
      exact List.map_congr_left fun x _ => onD_of inj x
    rw [e]
    exact hP
theorem ev_filtT (enc : α → D) (inj : ∀ x y, enc x = enc y → x = y) (p : Pat) (own : List (Str × Nat)) (t : α → Bool) (g : α → D) (hc : C.X.calm = true) (hN : C.X.N.Nodup) (ok : BlkOk C.X.N C.X.env.scope scope own)
    (hg : ∀ (s : Shared) (H : Hp) (Cc : Addr) (cl : List (Str × Addr)) (fp : List Addr), PG (C.X.blk s H scope (compEnvC scope cl Cc C.X.env) fp) tg (gPat C.X.K p))
    (hp : ∀ i ∈ p.slots, i ∈ own.map (·.2))
    (h : EIc C b δ tg iter (fun b1 ds => ∃ xs : List α, ds = xs.map enc ∧ xs.length ≤ 16000000 ∧ (∀ x ∈ xs, ∃ δ', bindP p (enc x) (wipeD δ (own.map (·.2))) = some δ' ∧
      (∀ (s : Shared) (H : Hp) (Cc : Addr) (cl : List (Str × Addr)) (fp : List Addr), ET (C.blk s H scope (compEnvC scope cl Cc C.X.env) fp) b1 δ' c (fun b3 k => b3 = b1 ∧ k = t x)) ∧
      (t x = true → ∀ (s : Shared) (H : Hp) (Cc : Addr) (cl : List (Str × Addr)) (fp : List Addr), EV (C.blk s H scope (compEnvC scope cl Cc C.X.env) fp) b1 δ' elt (fun b4 r => b4 = b1 ∧ r = .va (g x)))) ∧ P b1 (.ow ((xs.filter t).map g))))
    (hs : ∀ x, foldedSetIterable iter C.X.env x = pure x := by intro _; rfl) : EV C b δ (.ListComp elt [⟨tg, iter, [c], 0⟩] scope pos) P := by
  refine ev_filt p own (onD enc t fun _ => false) (onD enc g id) hc hN ok hg hp (fun os σ H st R k => h os σ H st R fun J H1 b1 ds f j w hh => k J H1 b1 ds f j w ?_) hs
  obtain ⟨xs, rfl, hl, each, hP⟩ := hh
  refine ⟨by rw [List.length_map]; exact hl, fun d hd => ?_, ?_⟩
  · obtain ⟨x, hx, rfl⟩ := List.mem_map.mp hd
    obtain ⟨δ', e1, e2, e3⟩ := each x hx
    refine ⟨δ', e1, fun s H Cc cl fp => ?_, fun ht s H Cc cl fp => ?_⟩
    · rw [onD_of inj]
      exact e2 s H Cc cl fp
    · rw [onD_of inj] at ht
      exact (e3 ht s H Cc cl fp).imp fun b' r z => ⟨z.1, by rw [onD_of inj]; exact z.2⟩
  · have e : ((xs.map enc).filter (onD enc t fun _ => false)).map (onD enc g id) = (xs.filter t).map g := by
      rw [List.filter_map, List.map_map]
      have e1 : xs.filter ((onD enc t fun _ => false) ∘ enc) = xs.filter t := List.filter_congr fun x _ => onD_of inj x
      rw [e1]
      exact List.map_congr_left fun x _ => onD_of inj x
    rw [e]
    exact hP
theorem sv_forT (enc : α → D) (inj : ∀ x y, enc x = enc y → x = y) (p : Pat) (hc : C.X.calm = true) (hp : PassesOwn (model C.X.prog C.X.w) C.X.A C.X.env C.X.xe) (hg : PG C.X tg (gPat C.X.K p))
    (h : EI C b δ tg iter (fun b1 ds => ∃ xs : List α, ds = xs.map enc ∧ ∃ Iv : List α → Nat → List Sl → Prop, Iv [] b1 δ ∧
      (∀ (pre : List α) (x : α) (post : List α) (b2 : Nat) (δ2 : List Sl), xs = pre ++ x :: post → Iv pre b2 δ2 →
        ∃ δ', bindP p (enc x) δ2 = some δ' ∧ SV C b2 δ' ss ⟨Iv (pre ++ [x]), fun b3 δ3 => SV C b3 δ3 rest F, Iv (pre ++ [x]), F.R⟩) ∧
      ∀ b2 δ2, Iv xs b2 δ2 → SV C b2 δ2 rest F))
    (hs : ∀ x, foldedSetIterable iter C.X.env x = pure x := by intro _; rfl) : SV C b δ (.For tg iter ss [] pos :: rest) F := by
  refine sv_for p hc hp hg (fun os σ H st R k => h os σ H st R fun J H1 b1 ds f j w hh => k J H1 b1 ds f j w ?_) hs
  obtain ⟨xs, rfl, Iv, i0, step, last⟩ := hh
  refine ⟨fun pre b2 δ2 => ∃ ps, pre = ps.map enc ∧ (∃ rs, xs = ps ++ rs) ∧ Iv ps b2 δ2, ⟨[], rfl, ⟨xs, rfl⟩, i0⟩, ?_, ?_⟩
  · rintro pre d post b2 δ2 e ⟨ps, rfl, ⟨rs, rfl⟩, iv⟩
    rw [List.map_append] at e
    have e2 := List.append_cancel_left e
    cases rs with
    | nil => cases e2
    | cons x rs =>
      rw [List.map_cons, List.cons.injEq] at e2
      obtain ⟨rfl, rfl⟩ := e2
      obtain ⟨δ', h1, h2⟩ := step ps x rs b2 δ2 rfl iv
      refine ⟨δ', h1, h2.imp (fun b' δ' z => ?_) (fun _ _ z => z) (fun b' δ' z => ?_) (fun _ _ z => z)⟩
      · exact ⟨ps ++ [x], by rw [List.map_append]; rfl, ⟨rs, by rw [List.append_assoc]; rfl⟩, z⟩
      · exact ⟨ps ++ [x], by rw [List.map_append]; rfl, ⟨rs, by rw [List.append_assoc]; rfl⟩, z⟩
  · rintro b2 δ2 ⟨ps, e, ⟨rs, rfl⟩, iv⟩
    have hl := congrArg List.length e
    rw [List.length_map, List.length_map, List.length_append] at hl
    have : rs = [] := List.eq_nil_of_length_eq_zero (by omega)
    subst this
    rw [List.append_nil] at last
    exact last b2 δ2 iv
end
end PD
set_option Elab.async false
set_option linter.all false
set_option maxRecDepth 100000
set_option maxHeartbeats 4000000
/-! Parts as typed things, what is bound in them, their skeletons. -/
namespace G
open PySem PD L2
abbrev kS (p : Str) : Key := Sum.inr p
/-- a value of an attribute: a plain string, a quoted name -/
inductive Vl where
  | s (x : Str) | q (p l : Str)
/-- a child: a text, a hole, an element -/
inductive Nd where
  | s (x : Str) | h (x : Str)
  | el (p l : Str) (ds : List (Str × Str)) (as : List ((Str × Str) × Vl)) (cs : List Nd)
def nmD (p l : Str) : D := .tup [.str p, .str l]
def dclD (q : Str × Str) : D := .tup [.str q.1, .str q.2]
def Vl.d : Vl → D
  | .s x => .str x
  | .q p l => nmD p l
def atrD (q : (Str × Str) × Vl) : D := .tup [nmD q.1.1 q.1.2, q.2.d]
mutual
def Nd.d : Nd → D
  | .s x => .str x
  | .h x => .tup [.str "hole", .str x]
  | .el p l ds as cs => .tup [.str "element", nmD p l, .tup (ds.map dclD), .tup (as.map atrD), .tup (ndsD cs)]
def ndsD : List Nd → List D
  | [] => []
  | c :: cs => c.d :: ndsD cs
end
theorem ndsD_map (cs : List Nd) : ndsD cs = cs.map Nd.d := by
  induction cs with
  | nil => rfl
  | cons c cs ih => rw [ndsD, ih, List.map_cons]
theorem nmD_inj {p l p' l' : Str} (h : nmD p l = nmD p' l') : p = p' ∧ l = l' := by
  unfold nmD at h
  injection h with h
  injection h with h1 h
  injection h with h2 _
  injection h1 with h1
  injection h2 with h2
  exact ⟨h1, h2⟩
theorem dclD_inj (x y : Str × Str) (h : dclD x = dclD y) : x = y := by
  obtain ⟨h1, h2⟩ := nmD_inj (p := x.1) (l := x.2) (p' := y.1) (l' := y.2) h
  exact Prod.ext h1 h2
theorem vl_inj (x y : Vl) (h : x.d = y.d) : x = y := by
  cases x with
  | s x =>
    cases y with
    | s y => injection h with h; rw [h]
    | q p l => cases h
  | q p l =>
    cases y with
    | s y => cases h
    | q p' l' =>
      obtain ⟨h1, h2⟩ := nmD_inj h
      rw [h1, h2]
theorem atrD_inj (x y : (Str × Str) × Vl) (h : atrD x = atrD y) : x = y := by
  unfold atrD at h
  injection h with h
  injection h with h1 h
  injection h with h2 _
  obtain ⟨e1, e2⟩ := nmD_inj h1
  exact Prod.ext (Prod.ext e1 e2) (vl_inj _ _ h2)
theorem map_inj {α : Type} {f : α → D} (inj : ∀ x y, f x = f y → x = y) : ∀ (xs ys : List α), xs.map f = ys.map f → xs = ys
  | [], [], _ => rfl
  | [], _ :: _, h => by cases h
  | _ :: _, [], h => by cases h
  | x :: xs, y :: ys, h => by
    rw [List.map_cons, List.map_cons, List.cons.injEq] at h
    rw [inj x y h.1, map_inj inj xs ys h.2]
mutual
theorem nd_inj : ∀ (x y : Nd), x.d = y.d → x = y
  | .s x, y, h => by
    cases y with
    | s y => rw [Nd.d, Nd.d] at h; injection h with h; rw [h]
    | h y => rw [Nd.d, Nd.d] at h; cases h
    | el p l ds as cs => rw [Nd.d, Nd.d] at h; cases h
  | .h x, y, h => by
    cases y with
    | s y => rw [Nd.d, Nd.d] at h; cases h
    | h y => rw [Nd.d, Nd.d] at h; injection h with h; injection h with _ h; injection h with h _; injection h with h; rw [h]
    | el p l ds as cs =>
      rw [Nd.d, Nd.d] at h
      injection h with h
      injection h with _ h
      injection h with _ h
      cases h
  | .el p l ds as cs, y, h => by
    cases y with
    | s y => rw [Nd.d, Nd.d] at h; cases h
    | h y =>
      rw [Nd.d, Nd.d] at h
      injection h with h
      injection h with _ h
      injection h with _ h
      cases h
    | el p' l' ds' as' cs' =>
      rw [Nd.d, Nd.d] at h
      injection h with h
      injection h with _ h
      injection h with h1 h
      injection h with h2 h
      injection h with h3 h
      injection h with h4 _
      obtain ⟨e1, e2⟩ := nmD_inj h1
      injection h2 with h2
      injection h3 with h3
      injection h4 with h4
      rw [e1, e2, map_inj dclD_inj _ _ h2, map_inj atrD_inj _ _ h3, nds_inj cs cs' h4]
theorem nds_inj : ∀ (xs ys : List Nd), ndsD xs = ndsD ys → xs = ys
  | [], [], _ => rfl
  | [], _ :: _, h => by rw [ndsD, ndsD] at h; cases h
  | _ :: _, [], h => by rw [ndsD, ndsD] at h; cases h
  | x :: xs, y :: ys, h => by
    rw [ndsD, ndsD, List.cons.injEq] at h
    rw [nd_inj x y h.1, nds_inj xs ys h.2]
end
def Nd.isEl : Nd → Bool
  | .el _ _ _ _ _ => true
  | _ => false
theorem begins_el (x : Nd) : begins "element" x.d = x.isEl := by
  cases x with
  | s x => rw [Nd.d]; rfl
  | h x => rw [Nd.d]; exact (by decide : decide (("hole" : Str) = "element") = false)
  | el p l ds as cs => rw [Nd.d]; rfl
/-! ### what is bound -/
/-- of all prefixes that are not as outside, their addresses -/
abbrev Bd := List (Str × Str)
def atD (a : Str) : D := .tup [.str "at", .str a]
def outD (p : Str) : D := .tup [.str "out", .str p]
def bdK (m : Bd) : List (Key × D) := m.map fun q => (kS q.1, atD q.2)
def bdD (m : Bd) : D := .dk (bdK m)
def valB (m : Bd) (p : Str) : Option Str := (m.find? fun q => decide (q.1 = p)).map (·.2)
def putB (m : Bd) (p a : Str) : Bd := if (m.any fun q => decide (q.1 = p)) = true then m.map (fun q => if q.1 = p then (q.1, a) else q) else m ++ [(p, a)]
theorem key_dec (x p : Str) : decide (kS x = kS p) = decide (x = p) := decide_eq_decide.mpr ⟨fun z => Sum.inr.inj z, fun z => by rw [z]⟩
theorem bdK_val (m : Bd) (p : Str) : valD (bdK m) (kS p) = (valB m p).map atD := by
  unfold valD valB bdK
  induction m with
  | nil => rfl
  | cons q m ih =>
    rw [List.map_cons, List.find?_cons, List.find?_cons]
    simp only [key_dec]
    cases decide (q.1 = p) with
    | true => rfl
    | false => exact ih
theorem bdK_put (m : Bd) (p a : Str) : putD (bdK m) (kS p) (atD a) = bdK (putB m p a) := by
  unfold putD putB
  have e : ((bdK m).any fun kv => decide (kv.1 = kS p)) = (m.any fun q => decide (q.1 = p)) := by
    unfold bdK
    rw [List.any_map]
    congr 1
    funext q
    exact key_dec q.1 p
  rw [e]
  cases (m.any fun q => decide (q.1 = p)) with
  | false => simp [bdK]
  | true =>
    simp only [if_true]
    unfold bdK
    rw [List.map_map, List.map_map]
    refine List.map_congr_left fun q _ => ?_
    show (if kS q.1 = kS p then (kS q.1, atD a) else (kS q.1, atD q.2)) = _
    by_cases h : q.1 = p
    · rw [if_pos (by rw [h]), Function.comp, if_pos h]
    · rw [if_neg (fun z => h (Sum.inr.inj z)), Function.comp, if_neg h]
theorem putB_len (m : Bd) (p a : Str) : (putB m p a).length ≤ m.length + 1 := by
  unfold putB
  split
  · rw [List.length_map]; omega
  · rw [List.length_append]; exact Nat.le_refl _
theorem bd_inj (x y : Bd) (h : bdD x = bdD y) : x = y := by
  unfold bdD bdK at h
  injection h with h
  induction x generalizing y with
  | nil =>
    cases y with
    | nil => rfl
    | cons _ _ => cases h
  | cons q x ih =>
    cases y with
    | nil => cases h
    | cons r y =>
      rw [List.map_cons, List.map_cons, List.cons.injEq] at h
      obtain ⟨h1, h2⟩ := h
      rw [Prod.mk.injEq] at h1
      have e1 := Sum.inr.inj h1.1
      obtain ⟨_, e2⟩ := nmD_inj (p := "at") (l := q.2) (p' := "at") (l' := r.2) h1.2
      rw [ih y h2, Prod.ext e1 e2]
/-- behind declarations -/
def bnd (ds : List (Str × Str)) (m : Bd) : Bd := ds.foldl (fun m q => putB m q.1 q.2) m
theorem bnd_snoc (ds : List (Str × Str)) (q : Str × Str) (m : Bd) : bnd (ds ++ [q]) m = putB (bnd ds m) q.1 q.2 := by
  unfold bnd
  rw [List.foldl_append]
  rfl
theorem bnd_len (ds : List (Str × Str)) (m : Bd) : (bnd ds m).length ≤ m.length + ds.length := by
  induction ds generalizing m with
  | nil => exact Nat.le_refl _
  | cons q ds ih =>
    have h1 := ih (putB m q.1 q.2)
    have h2 := putB_len m q.1 q.2
    show (bnd ds (putB m q.1 q.2)).length ≤ _
    rw [List.length_cons]
    omega
/-- the state of a prefix -/
def stt (m : Bd) (p : Str) : D := match valB m p with
  | some a => atD a
  | none => outD p
theorem stt_eq (m : Bd) (p : Str) : (valD (bdK m) (kS p)).getD (outD p) = stt m p := by
  rw [bdK_val]
  unfold stt
  cases valB m p <;> rfl
end G
set_option Elab.async false
set_option linter.all false
set_option maxRecDepth 100000
set_option maxHeartbeats 4000000
namespace G
open PySem PySem.Spec PyProof.Rows L2 PD
/-- the module's constants -/
structure Cst (mg : Str → Option Value) : Prop where
  letters : ∃ t, mg "LETTERS" = some (.str letters t)
  addr : ∃ t, mg "ADDRESS_SIGNS" = some (.str addrS t)
  plain : ∃ t, mg "PLAIN_SIGNS" = some (.str plainS t)
  reserved : ∃ t, mg "RESERVED" = some (.str "xmlns" t)
  mostLetters : ∃ t, mg "MOST_LETTERS" = some (.int 8 t)
  mostSigns : ∃ t, mg "_MOST_SIGNS" = some (.int 20 t)
  mostElements : ∃ t, mg "MOST_ELEMENTS" = some (.int 60 t)
  mostLevels : ∃ t, mg "MOST_LEVELS" = some (.int 8 t)
  blt : ∀ X : Cx, X.mg = mg → Blt X
def gIn (x : Str) : D → D
  | .str y => .bl (decide (y.cps.toList.headD 0 ∈ x.cps.toList))
  | d => d
section
variable {P : Program} {w : World} {K : PySem.W.Frag} {mg : Str → Option Value} {base : Heap} {Z : Vol} {f : Addr} {fd : FuncData}
abbrev sMade : Stmt := st__is_made_of
theorem scMade : FnScope ["thing", "signs", "least", "most", "sign"] ["thing", "signs", "least", "most"] (defScope sMade) := ⟨rfl, rfl, rfl, by decide +kernel, rfl, by decide +kernel, by decide +kernel⟩
theorem ok_made (F : Fun K "_is_made_of" "_is_made_of" sMade f fd) (T : Cst mg) : FnOk P w K mg base CX0 1 f fd ["thing", "signs", "least", "most"] (spP Z K 4 gMade) := by
  refine fn_pure F scMade rfl (fun ds r h => ?_) fun cdv A outer s H E b ds r hr hl hg => ?_
  · unfold gMade at h
    split at h
    · split at h
      · cases h; rfl
      · cases h
    · cases h
  · unfold gMade at hg
    split at hg
    · rename_i d x lo hi
      split at hg
      · rename_i hs
        cases hg
        have b0 := T.blt (cxOf CX0 P w K mg base ["thing", "signs", "least", "most", "sign"] "_is_made_of" (defScope sMade) f cdv A outer s H E).nox rfl
        refine sv_if (et_pw (ew_or (et_not (et_val (ev_isi (t := "str") b0 b0.str (by decide +kernel) (ev_var 0 rfl ⟨_, isi_s d, _, rfl, ?_⟩))))))
        cases d with
        | str z =>
          have hz : z.length ≤ 16000000 := sm_str hs
          refine ew_or1 (et_not (et_chain rfl op_le op_le (ev_var 2 rfl (ev_len b0 (ev_var 0 rfl ⟨_, .str hz, _, _, rfl, rfl, ?_⟩)))))
          cases e1 : decide (lo ≤ (z.length : Int)) with
          | false => exact sv_ret (ev_bl ⟨rfl, rfl, by simp only [mdo, e1, Bool.false_and]⟩)
          | true =>
            refine ev_var 3 rfl ⟨_, rfl, ?_⟩
            cases e2 : decide ((z.length : Int) ≤ hi) with
            | false => exact sv_ret (ev_bl ⟨rfl, rfl, by simp only [mdo, e1, e2, Bool.false_and, Bool.and_false]⟩)
            | true =>
              refine sv_nil ?_
              refine sv_ret (ev_all rfl b0 (ev_map (.nm 4) [("sign", 4)] (gIn x) rfl scMade.nd (blkOk_by (N := ["thing", "signs", "least", "most", "sign"]) (sc := defScope sMade) (by decide +kernel)) (fun _ _ _ _ _ => pg_name (i := 4) scMade.nd rfl (Or.inl rfl)) (by simp [Pat.slots]) (EI.c (ei_str (ev_var 0 rfl ⟨z, rfl, ?_⟩)))))
              refine ⟨by rw [List.length_map, Array.length_toList]; exact hz, fun d hd => ?_, z.cps.toList.map fun c => decide (c ∈ x.cps.toList), ?_, ?_⟩
              · obtain ⟨c, _, rfl⟩ := List.mem_map.mp hd
                exact ⟨_, rfl, fun _ _ _ _ _ => ev_inS rfl (ev_var 4 rfl (ev_var 1 rfl ⟨c, x, rfl, rfl, rfl, rfl⟩))⟩
              · simp only [Res.seq, List.map_map]
                rfl
              · exact ⟨rfl, rfl, by simp only [mdo, e1, e2, Bool.true_and, List.all_map]; rfl⟩
        | _ => exact sv_ret (ev_bl ⟨rfl, rfl, rfl⟩)
      · cases hg
    · cases hg
abbrev DMade (P : Program) (w : World) (K : PySem.W.Frag) (mg : Str → Option Value) (base : Heap) (Z : Vol) := Df P w K mg base "_is_made_of" 1 ["thing", "signs", "least", "most"] (spP Z K 4 gMade)
/-- a def of one thing that tells True or False -/
abbrev DB (P : Program) (w : World) (K : PySem.W.Frag) (mg : Str → Option Value) (base : Heap) (Z : Vol) (x : Str) (k : Nat) (g : D → Bool) := Df P w K mg base x k ["thing"] (spP Z K 1 (gB g))
theorem gMade_of {d : D} {s : Str} {lo hi : Int} (h : sm d = true) : gMade [d, .str s, .int lo, .int hi] = some (.va (.bl (mdo s lo hi d))) := if_pos h
abbrev sPrefix : Stmt := st_is_prefix
theorem ok_prefix (F : Fun K "is_prefix" "is_prefix" sPrefix f fd) (T : Cst mg) (D1 : DMade P w K mg base Z) : FnOk P w K mg base CX0 2 f fd ["thing"] (spP Z K 1 (gB isPrefix)) := by
  have sc : FnScope ["thing"] ["thing"] (defScope sPrefix) := ⟨rfl, rfl, rfl, by decide +kernel, rfl, by decide +kernel, by decide +kernel⟩
  refine fn_pure F sc rfl gB_out fun cdv A outer s H E b ds r hr hl hg => ?_
  obtain ⟨d, rfl, hs, rfl⟩ := gB_one hg
  obtain ⟨t1, m1⟩ := T.letters
  obtain ⟨t2, m2⟩ := T.mostLetters
  obtain ⟨t3, m3⟩ := T.reserved
  refine sv_ret (ev_and (ev_callP D1 hr (eva_cons (ev_var 0 rfl (eva_cons (ev_glS m1 (eva_cons (ev_int (eva_cons (ev_glI m2 (eva_nil ⟨_, _, rfl, rfl, gMade_of hs, _, rfl, ?_⟩)))))))))))
  cases e : mdo letters 0 8 d with
  | false => exact ⟨rfl, rfl, by simp only [isPrefix, e, Bool.false_and]⟩
  | true =>
    obtain ⟨x, rfl⟩ := mdo_str e
    refine ev_one (ev_ne (ev_var 0 rfl (ev_glS m3 ⟨_, _, _, rfl, rfl, rfl, rfl, rfl, ?_⟩)))
    simp only [isPrefix, e, Bool.true_and]
    rfl

abbrev sLocal : Stmt := st_is_local
theorem ok_local (F : Fun K "is_local" "is_local" sLocal f fd) (T : Cst mg) (D1 : DMade P w K mg base Z) : FnOk P w K mg base CX0 2 f fd ["thing"] (spP Z K 1 (gB isLocal)) := by
  have sc : FnScope ["thing"] ["thing"] (defScope sLocal) := ⟨rfl, rfl, rfl, by decide +kernel, rfl, by decide +kernel, by decide +kernel⟩
  refine fn_pure F sc rfl gB_out fun cdv A outer s H E b ds r hr hl hg => ?_
  obtain ⟨d, rfl, hs, rfl⟩ := gB_one hg
  obtain ⟨t1, m1⟩ := T.letters
  obtain ⟨t2, m2⟩ := T.mostLetters
  obtain ⟨t3, m3⟩ := T.reserved
  refine sv_ret (ev_and (ev_callP D1 hr (eva_cons (ev_var 0 rfl (eva_cons (ev_glS m1 (eva_cons (ev_int (eva_cons (ev_glI m2 (eva_nil ⟨_, _, rfl, rfl, gMade_of hs, _, rfl, ?_⟩)))))))))))
  cases e : mdo letters 1 8 d with
  | false => exact ⟨rfl, rfl, by simp only [isLocal, e, Bool.false_and]⟩
  | true =>
    obtain ⟨x, rfl⟩ := mdo_str e
    refine ev_one (ev_ne (ev_var 0 rfl (ev_glS m3 ⟨_, _, _, rfl, rfl, rfl, rfl, rfl, ?_⟩)))
    simp only [isLocal, e, Bool.true_and]
    rfl
abbrev sAddress : Stmt := st_is_address
theorem ok_address (F : Fun K "is_address" "is_address" sAddress f fd) (T : Cst mg) (D1 : DMade P w K mg base Z) : FnOk P w K mg base CX0 2 f fd ["thing"] (spP Z K 1 (gB isAddr)) := by
  have sc : FnScope ["thing"] ["thing"] (defScope sAddress) := ⟨rfl, rfl, rfl, by decide +kernel, rfl, by decide +kernel, by decide +kernel⟩
  refine fn_pure F sc rfl gB_out fun cdv A outer s H E b ds r hr hl hg => ?_
  obtain ⟨d, rfl, hs, rfl⟩ := gB_one hg
  obtain ⟨t1, m1⟩ := T.addr
  obtain ⟨t2, m2⟩ := T.mostSigns
  exact sv_ret (ev_callP D1 hr (eva_cons (ev_var 0 rfl (eva_cons (ev_glS m1 (eva_cons (ev_int (eva_cons (ev_glI m2 (eva_nil ⟨_, _, rfl, rfl, gMade_of hs, rfl, rfl, rfl⟩))))))))))
abbrev sWord : Stmt := st_is_word
theorem ok_word (F : Fun K "is_word" "is_word" sWord f fd) (T : Cst mg) (D1 : DMade P w K mg base Z) : FnOk P w K mg base CX0 2 f fd ["thing"] (spP Z K 1 (gB isWord)) := by
  have sc : FnScope ["thing"] ["thing"] (defScope sWord) := ⟨rfl, rfl, rfl, by decide +kernel, rfl, by decide +kernel, by decide +kernel⟩
  refine fn_pure F sc rfl gB_out fun cdv A outer s H E b ds r hr hl hg => ?_
  obtain ⟨d, rfl, hs, rfl⟩ := gB_one hg
  obtain ⟨t1, m1⟩ := T.letters
  obtain ⟨t2, m2⟩ := T.mostLetters
  exact sv_ret (ev_callP D1 hr (eva_cons (ev_var 0 rfl (eva_cons (ev_glS m1 (eva_cons (ev_int (eva_cons (ev_glI m2 (eva_nil ⟨_, _, rfl, rfl, gMade_of hs, rfl, rfl, rfl⟩))))))))))
abbrev sPlain : Stmt := st__is_plain
theorem ok_plain (F : Fun K "_is_plain" "_is_plain" sPlain f fd) (T : Cst mg) (D1 : DMade P w K mg base Z) : FnOk P w K mg base CX0 2 f fd ["thing"] (spP Z K 1 (gB isPlain)) := by
  have sc : FnScope ["thing"] ["thing"] (defScope sPlain) := ⟨rfl, rfl, rfl, by decide +kernel, rfl, by decide +kernel, by decide +kernel⟩
  refine fn_pure F sc rfl gB_out fun cdv A outer s H E b ds r hr hl hg => ?_
  obtain ⟨d, rfl, hs, rfl⟩ := gB_one hg
  obtain ⟨t1, m1⟩ := T.plain
  obtain ⟨t2, m2⟩ := T.mostSigns
  exact sv_ret (ev_callP D1 hr (eva_cons (ev_var 0 rfl (eva_cons (ev_glS m1 (eva_cons (ev_int (eva_cons (ev_glI m2 (eva_nil ⟨_, _, rfl, rfl, gMade_of hs, rfl, rfl, rfl⟩))))))))))
abbrev sPair : Stmt := st_is_pair
theorem ok_pair (F : Fun K "is_pair" "is_pair" sPair f fd) (T : Cst mg) : FnOk P w K mg base CX0 1 f fd ["thing"] (spP Z K 1 (gB isPair)) := by
  have sc : FnScope ["thing"] ["thing"] (defScope sPair) := ⟨rfl, rfl, rfl, by decide +kernel, rfl, by decide +kernel, by decide +kernel⟩
  refine fn_pure F sc rfl gB_out fun cdv A outer s H E b ds r hr hl hg => ?_
  obtain ⟨d, rfl, hs, rfl⟩ := gB_one hg
  have b0 := T.blt (cxOf CX0 P w K mg base ["thing"] "is_pair" (defScope sPair) f cdv A outer s H E).nox rfl
  refine sv_ret (ev_and (ev_isi (t := "tuple") b0 b0.tuple (by decide +kernel) (ev_var 0 rfl ⟨_, isi_t d, _, rfl, ?_⟩)))
  cases d with
  | tup ds => exact ev_one (ev_eq (ev_len b0 (ev_var 0 rfl ⟨_, .tup, ev_int ⟨_, _, _, rfl, rfl, rfl, rfl, rfl, rfl⟩⟩)))
  | obj t a =>
    cases t with
    | unit => exact nomatch hs
    | _ => exact ⟨rfl, rfl, rfl⟩
  | _ => exact ⟨rfl, rfl, rfl⟩
/-- t[i], i written -/
theorem at0 {a : D} {ds : List D} : atI (a :: ds) 0 = some a := atI_nat (j := 0) rfl
theorem at1 {a c : D} {ds : List D} : atI (a :: c :: ds) 1 = some c := atI_nat (j := 1) rfl
abbrev sName : Stmt := st_is_name
theorem pair_of {ds : List D} (h : isPair (.tup ds) = true) : ∃ a c, ds = [a, c] := by
  match ds, h with
  | [a, c], _ => exact ⟨a, c, rfl⟩
  | [], h => simp [isPair] at h
  | [_], h => simp [isPair] at h
  | _ :: _ :: _ :: _, h => simp [isPair] at h; omega
theorem isName_no {d : D} (h : isPair d = false) : isName d = false := by
  unfold isName
  split
  · simp [isPair] at h
  · rfl
theorem isDecl_no {d : D} (h : isPair d = false) : isDecl d = false := by
  unfold isDecl
  split
  · simp [isPair] at h
  · rfl
theorem isAttr_no {d : D} (h : isPair d = false) : isAttr d = false := by
  unfold isAttr
  split
  · simp [isPair] at h
  · rfl
theorem isPair_tup {d : D} (h : isPair d = true) : ∃ a c, d = .tup [a, c] := by
  cases d with
  | tup ds => obtain ⟨a, c, rfl⟩ := pair_of h; exact ⟨a, c, rfl⟩
  | _ => cases h
theorem sm2 {a c : D} (h : sm (.tup [a, c]) = true) : sm a = true ∧ sm c = true := by
  obtain ⟨_, h⟩ := sm_tup h
  exact ⟨sm_mem h (by simp), sm_mem h (by simp)⟩
theorem ok_name (F : Fun K "is_name" "is_name" sName f fd) (T : Cst mg) (D1 : DB P w K mg base Z "is_pair" 1 isPair) (D2 : DB P w K mg base Z "is_prefix" 2 isPrefix) (D3 : DB P w K mg base Z "is_local" 2 isLocal) : FnOk P w K mg base CX0 3 f fd ["thing"] (spP Z K 1 (gB isName)) := by
  have sc : FnScope ["thing"] ["thing"] (defScope sName) := ⟨rfl, rfl, rfl, by decide +kernel, rfl, by decide +kernel, by decide +kernel⟩
  refine fn_pure F sc rfl gB_out fun cdv A outer s H E b ds r hr hl hg => ?_
  obtain ⟨d, rfl, hs, rfl⟩ := gB_one hg
  refine sv_ret (ev_and (ev_callP D1 (hr.mono (by decide)) (eva_cons (ev_var 0 rfl (eva_nil ⟨_, _, rfl, rfl, gB_of hs, _, rfl, ?_⟩)))))
  cases e : isPair d with
  | false => exact ⟨rfl, rfl, by rw [isName_no e]⟩
  | true =>
    obtain ⟨a, c, rfl⟩ := isPair_tup e
    obtain ⟨sa, sc⟩ := sm2 hs
    refine ev_and (ev_callP D2 hr (eva_cons (ev_ix (ev_var 0 rfl (ev_int ⟨_, _, _, .inl rfl, rfl, at0, eva_nil ⟨_, _, rfl, rfl, gB_of sa, _, rfl, ?_⟩⟩)))))
    cases e2 : isPrefix a with
    | false => exact ⟨rfl, rfl, by simp only [isName, e2, Bool.false_and]⟩
    | true => exact ev_one (ev_callP D3 hr (eva_cons (ev_ix (ev_var 0 rfl (ev_int ⟨_, _, _, .inl rfl, rfl, at1, eva_nil ⟨_, _, rfl, rfl, gB_of sc, rfl, rfl, by simp only [isName, e2, Bool.true_and]⟩⟩)))))
abbrev sBegins : Stmt := st__begins
theorem gBegins_out : ∀ (ds : List D) (r : Res), gBegins ds = some r → r.out = true := by
  intro ds r h
  unfold gBegins at h
  split at h
  · split at h
    · cases h; rfl
    · cases h
  · cases h
theorem gBegins_one {ds : List D} {r : Res} (h : gBegins ds = some r) : ∃ d w, ds = [d, .str w] ∧ sm d = true ∧ r = .va (.bl (begins w d)) := by
  unfold gBegins at h
  split at h
  · rename_i d w
    split at h
    · rename_i hs
      cases h
      exact ⟨d, w, rfl, hs, rfl⟩
    · cases h
  · cases h
theorem gBegins_of {d : D} {x : Str} (h : sm d = true) : gBegins [d, .str x] = some (.va (.bl (begins x d))) := if_pos h
abbrev DBegins (P : Program) (w : World) (K : PySem.W.Frag) (mg : Str → Option Value) (base : Heap) (Z : Vol) := Df P w K mg base "_begins" 1 ["thing", "word"] (spP Z K 2 gBegins)
theorem ok_begins (F : Fun K "_begins" "_begins" sBegins f fd) (T : Cst mg) : FnOk P w K mg base CX0 1 f fd ["thing", "word"] (spP Z K 2 gBegins) := by
  have sc : FnScope ["thing", "word"] ["thing", "word"] (defScope sBegins) := ⟨rfl, rfl, rfl, by decide +kernel, rfl, by decide +kernel, by decide +kernel⟩
  refine fn_pure F sc rfl gBegins_out fun cdv A outer s H E b ds r hr hl hg => ?_
  obtain ⟨d, x, rfl, hs, rfl⟩ := gBegins_one hg
  have b0 := T.blt (cxOf CX0 P w K mg base ["thing", "word"] "_begins" (defScope sBegins) f cdv A outer s H E).nox rfl
  refine sv_ret (ev_and (ev_isi (t := "tuple") b0 b0.tuple (by decide +kernel) (ev_var 0 rfl ⟨_, isi_t d, _, rfl, ?_⟩)))
  cases d with
  | tup ds =>
    refine ev_and (ev_ord op_gt (nomark _) (ev_len b0 (ev_var 0 rfl ⟨_, .tup, ev_int ⟨_, _, rfl, rfl, _, rfl, ?_⟩⟩)))
    cases ds with
    | nil => exact ⟨rfl, rfl, rfl⟩
    | cons a ds =>
      have e0 : decide ((0 : Int) < ((a :: ds).length : Int)) = true := by simp
      rw [e0]
      refine ev_and (ev_isi (t := "str") b0 b0.str (by decide +kernel) (ev_ix (ev_var 0 rfl (ev_int ⟨_, _, _, .inl rfl, rfl, at0, _, isi_s a, _, rfl, ?_⟩))))
      cases a with
      | str y => exact ev_one (ev_eq (ev_ix (ev_var 0 rfl (ev_int ⟨_, _, _, .inl rfl, rfl, at0, ev_var 1 rfl ⟨_, _, _, rfl, rfl, rfl, rfl, rfl, rfl⟩⟩))))
      | _ => exact ⟨rfl, rfl, rfl⟩
  | obj t a =>
    cases t with
    | unit => exact nomatch hs
    | _ => exact ⟨rfl, rfl, rfl⟩
  | _ => exact ⟨rfl, rfl, rfl⟩
abbrev sHole : Stmt := st__is_hole
theorem begins_tup {d : D} {x : Str} (h : begins x d = true) : ∃ ds, d = .tup (.str x :: ds) := by
  unfold begins at h
  split at h
  · rename_i y ds
    exact ⟨ds, by rw [of_decide_eq_true h]⟩
  · cases h
theorem isHole_no {d : D} (h : begins "hole" d = false) : isHole d = false := by
  unfold isHole
  split
  · rename_i x hh
    have : decide (x = "hole") = false := h
    rw [this, Bool.false_and]
  · rfl
theorem ok_hole (F : Fun K "_is_hole" "_is_hole" sHole f fd) (T : Cst mg) (D1 : DBegins P w K mg base Z) (D2 : DB P w K mg base Z "is_word" 2 isWord) : FnOk P w K mg base CX0 3 f fd ["thing"] (spP Z K 1 (gB isHole)) := by
  have sc : FnScope ["thing"] ["thing"] (defScope sHole) := ⟨rfl, rfl, rfl, by decide +kernel, rfl, by decide +kernel, by decide +kernel⟩
  refine fn_pure F sc rfl gB_out fun cdv A outer s H E b ds r hr hl hg => ?_
  obtain ⟨d, rfl, hs, rfl⟩ := gB_one hg
  have b0 := T.blt (cxOf CX0 P w K mg base ["thing"] "_is_hole" (defScope sHole) f cdv A outer s H E).nox rfl
  refine sv_ret (ev_and (ev_callP D1 (hr.mono (by decide)) (eva_cons (ev_var 0 rfl (eva_cons (ev_str (eva_nil ⟨_, _, rfl, rfl, gBegins_of hs, _, rfl, ?_⟩)))))))
  cases e : begins "hole" d with
  | false => exact ⟨rfl, rfl, by rw [isHole_no e]⟩
  | true =>
    obtain ⟨ds, rfl⟩ := begins_tup e
    refine ev_and (ev_eq (ev_len b0 (ev_var 0 rfl ⟨_, .tup, ev_int ⟨_, _, _, rfl, rfl, rfl, _, rfl, ?_⟩⟩)))
    match ds, hs with
    | [h], hs =>
      obtain ⟨_, sh⟩ := sm2 hs
      exact ev_one (ev_callP D2 hr (eva_cons (ev_ix (ev_var 0 rfl (ev_int ⟨_, _, _, .inl rfl, rfl, at1, eva_nil ⟨_, _, rfl, rfl, gB_of sh, rfl, rfl, by simp only [isHole, decide_true, Bool.true_and]⟩⟩)))))
    | [], _ => exact ⟨rfl, rfl, rfl⟩
    | h1 :: h2 :: ds, _ =>
      have e0 : decide (((D.str "hole" :: h1 :: h2 :: ds).length : Int) = 2) = false := by simp; omega
      rw [e0]
      exact ⟨rfl, rfl, rfl⟩
abbrev sEmpty : Stmt := st__is_empty
theorem ok_empty (F : Fun K "_is_empty" "_is_empty" sEmpty f fd) (T : Cst mg) : FnOk P w K mg base CX0 1 f fd ["thing"] (spP Z K 1 (gB isEmptyS)) := by
  have sc : FnScope ["thing"] ["thing"] (defScope sEmpty) := ⟨rfl, rfl, rfl, by decide +kernel, rfl, by decide +kernel, by decide +kernel⟩
  refine fn_pure F sc rfl gB_out fun cdv A outer s H E b ds r hr hl hg => ?_
  obtain ⟨d, rfl, hs, rfl⟩ := gB_one hg
  have b0 := T.blt (cxOf CX0 P w K mg base ["thing"] "_is_empty" (defScope sEmpty) f cdv A outer s H E).nox rfl
  refine sv_ret (ev_and (ev_isi (t := "str") b0 b0.str (by decide +kernel) (ev_var 0 rfl ⟨_, isi_s d, _, rfl, ?_⟩)))
  cases d with
  | str x => exact ev_one (ev_eq (ev_len b0 (ev_var 0 rfl ⟨_, .str (sm_str hs), ev_int ⟨_, _, _, rfl, rfl, rfl, rfl, rfl, rfl⟩⟩)))
  | _ => exact ⟨rfl, rfl, rfl⟩
abbrev sDecl : Stmt := st__is_declaration
theorem ok_decl (F : Fun K "_is_declaration" "_is_declaration" sDecl f fd) (T : Cst mg) (D1 : DB P w K mg base Z "is_pair" 1 isPair) (D2 : DB P w K mg base Z "is_prefix" 2 isPrefix) (D3 : DB P w K mg base Z "is_address" 2 isAddr) (D4 : DB P w K mg base Z "_is_empty" 1 isEmptyS) :
    FnOk P w K mg base CX0 3 f fd ["thing"] (spP Z K 1 (gB isDecl)) := by
  have sc : FnScope ["thing"] ["thing"] (defScope sDecl) := ⟨rfl, rfl, rfl, by decide +kernel, rfl, by decide +kernel, by decide +kernel⟩
  refine fn_pure F sc rfl gB_out fun cdv A outer s H E b ds r hr hl hg => ?_
  obtain ⟨d, rfl, hs, rfl⟩ := gB_one hg
  refine sv_ret (ev_and (ev_callP D1 (hr.mono (by decide)) (eva_cons (ev_var 0 rfl (eva_nil ⟨_, _, rfl, rfl, gB_of hs, _, rfl, ?_⟩)))))
  cases e : isPair d with
  | false => exact ⟨rfl, rfl, by rw [isDecl_no e]⟩
  | true =>
    obtain ⟨a, c, rfl⟩ := isPair_tup e
    obtain ⟨sa, sc⟩ := sm2 hs
    refine ev_and (ev_callP D2 hr (eva_cons (ev_ix (ev_var 0 rfl (ev_int ⟨_, _, _, .inl rfl, rfl, at0, eva_nil ⟨_, _, rfl, rfl, gB_of sa, _, rfl, ?_⟩⟩)))))
    cases e2 : isPrefix a with
    | false => exact ⟨rfl, rfl, by simp only [isDecl, e2, Bool.false_and]⟩
    | true =>
      refine ev_one (ev_or (ev_callP D3 hr (eva_cons (ev_ix (ev_var 0 rfl (ev_int ⟨_, _, _, .inl rfl, rfl, at1, eva_nil ⟨_, _, rfl, rfl, gB_of sc, _, rfl, ?_⟩⟩))))))
      cases e3 : isAddr c with
      | true => exact ⟨rfl, rfl, by simp only [isDecl, e2, e3, Bool.true_and, Bool.true_or]⟩
      | false => exact ev_one (ev_callP D4 (hr.mono (by decide)) (eva_cons (ev_ix (ev_var 0 rfl (ev_int ⟨_, _, _, .inl rfl, rfl, at1, eva_nil ⟨_, _, rfl, rfl, gB_of sc, rfl, rfl, by simp only [isDecl, e2, e3, Bool.true_and, Bool.false_or]⟩⟩)))))
abbrev sAttr : Stmt := st__is_attribute
theorem ok_attr (F : Fun K "_is_attribute" "_is_attribute" sAttr f fd) (T : Cst mg) (D1 : DB P w K mg base Z "is_pair" 1 isPair) (D2 : DB P w K mg base Z "is_name" 3 isName) (D3 : DB P w K mg base Z "_is_plain" 2 isPlain) :
    FnOk P w K mg base CX0 4 f fd ["thing"] (spP Z K 1 (gB isAttr)) := by
  have sc : FnScope ["thing"] ["thing"] (defScope sAttr) := ⟨rfl, rfl, rfl, by decide +kernel, rfl, by decide +kernel, by decide +kernel⟩
  refine fn_pure F sc rfl gB_out fun cdv A outer s H E b ds r hr hl hg => ?_
  obtain ⟨d, rfl, hs, rfl⟩ := gB_one hg
  refine sv_ret (ev_and (ev_callP D1 (hr.mono (by decide)) (eva_cons (ev_var 0 rfl (eva_nil ⟨_, _, rfl, rfl, gB_of hs, _, rfl, ?_⟩)))))
  cases e : isPair d with
  | false => exact ⟨rfl, rfl, by rw [isAttr_no e]⟩
  | true =>
    obtain ⟨a, c, rfl⟩ := isPair_tup e
    obtain ⟨sa, sc⟩ := sm2 hs
    refine ev_and (ev_callP D2 hr (eva_cons (ev_ix (ev_var 0 rfl (ev_int ⟨_, _, _, .inl rfl, rfl, at0, eva_nil ⟨_, _, rfl, rfl, gB_of sa, _, rfl, ?_⟩⟩)))))
    cases e2 : isName a with
    | false => exact ⟨rfl, rfl, by simp only [isAttr, e2, Bool.false_and]⟩
    | true =>
      refine ev_one (ev_or (ev_callP D3 (hr.mono (by decide)) (eva_cons (ev_ix (ev_var 0 rfl (ev_int ⟨_, _, _, .inl rfl, rfl, at1, eva_nil ⟨_, _, rfl, rfl, gB_of sc, _, rfl, ?_⟩⟩))))))
      cases e3 : isPlain c with
      | true => exact ⟨rfl, rfl, by simp only [isAttr, e2, e3, Bool.true_and, Bool.true_or]⟩
      | false => exact ev_one (ev_callP D2 hr (eva_cons (ev_ix (ev_var 0 rfl (ev_int ⟨_, _, _, .inl rfl, rfl, at1, eva_nil ⟨_, _, rfl, rfl, gB_of sc, rfl, rfl, by simp only [isAttr, e2, e3, Bool.true_and, Bool.false_or]⟩⟩)))))
abbrev sElem : Stmt := st_is_element
abbrev DElem (P : Program) (w : World) (K : PySem.W.Frag) (mg : Str → Option Value) (base : Heap) (Z : Vol) := DB P w K mg base Z "is_element" 2 (begins "element")
theorem ok_elem (F : Fun K "is_element" "is_element" sElem f fd) (D1 : DBegins P w K mg base Z) : FnOk P w K mg base CX0 2 f fd ["thing"] (spP Z K 1 (gB (begins "element"))) := by
  have sc : FnScope ["thing"] ["thing"] (defScope sElem) := ⟨rfl, rfl, rfl, by decide +kernel, rfl, by decide +kernel, by decide +kernel⟩
  refine fn_pure F sc rfl gB_out fun cdv A outer s H E b ds r hr hl hg => ?_
  obtain ⟨d, rfl, hs, rfl⟩ := gB_one hg
  exact sv_ret (ev_callP D1 hr (eva_cons (ev_var 0 rfl (eva_cons (ev_str (eva_nil ⟨_, _, rfl, rfl, gBegins_of hs, rfl, rfl, rfl⟩))))))
end
end G
set_option Elab.async false
set_option linter.all false
set_option maxRecDepth 100000
set_option maxHeartbeats 4000000
namespace G
open PySem PySem.Spec PyProof.Rows L2 PD
section
variable {P : Program} {w : World} {K : PySem.W.Frag} {mg : Str → Option Value} {base : Heap} {Z : Vol} {f : Addr} {fd : FuncData}
/-! ### _are_children -/
abbrev sKids : Stmt := st__are_children
def kidD (d : D) (bt : Bool) : Option Bool :=
  if d.isS then (if bt || isEmptyS d || !isPlain d then none else some true) else if begins "element" d || isHole d then some false else none
theorem kidsOk_cons (bt : Bool) (d : D) (ds : List D) : kidsOk bt (d :: ds) = (match kidD d bt with | none => false | some k => kidsOk k ds) := by
  unfold kidD
  rw [kidsOk]
  cases d.isS with
  | true =>
    cases (bt || isEmptyS d || !isPlain d) <;> simp
  | false =>
    cases (begins "element" d || isHole d) <;> simp
theorem kids_sm {ds : List D} {d : D} (h : sm (.tup ds) = true) (hm : d ∈ ds) : sm d = true := sm_mem (sm_tup h).2 hm
theorem ok_kids (F : Fun K "_are_children" "_are_children" sKids f fd) (T : Cst mg) (D1 : DB P w K mg base Z "_is_empty" 1 isEmptyS) (D2 : DB P w K mg base Z "_is_plain" 2 isPlain) (D3 : DElem P w K mg base Z) (D4 : DB P w K mg base Z "_is_hole" 3 isHole) :
    FnOk P w K mg base CX0 4 f fd ["thing"] (spP Z K 1 (gB areChildren)) := by
  have sc : FnScope ["thing", "behind_text", "child"] ["thing"] (defScope sKids) := ⟨rfl, rfl, rfl, by decide +kernel, rfl, by decide +kernel, by decide +kernel⟩
  refine fn_pure F sc rfl gB_out fun cdv A outer s H E b ds r hr hl hg => ?_
  obtain ⟨d, rfl, hs, rfl⟩ := gB_one hg
  have b0 := T.blt (cxOf CX0 P w K mg base ["thing", "behind_text", "child"] "_are_children" (defScope sKids) f cdv A outer s H E).nox rfl
  refine sv_if (et_not (et_val (ev_isi (t := "tuple") b0 b0.tuple (by decide +kernel) (ev_var 0 rfl ⟨_, isi_t d, _, rfl, ?_⟩))))
  cases d with
  | tup ds =>
    refine sv_nil ?_
    refine sv_set 1 (ev_bl ⟨_, rfl, ?_⟩) sc.nd
    refine sv_for (.nm 2) rfl PassesOwn.never (pg_name (i := 2) sc.nd rfl (Or.inl rfl)) (ei_tup (ev_var 0 rfl ⟨ds, rfl, ?_⟩))
    refine ⟨fun pre b2 δ2 => b2 = b ∧ ∃ bt sl, δ2 = [.va (.tup ds), .va (.bl bt), sl] ∧ ∀ post, ds = pre ++ post → kidsOk false ds = kidsOk bt post, ⟨rfl, false, _, rfl, fun post e => by cases e; rfl⟩, ?_, ?_⟩
    · rintro pre d post b2 δ2 e ⟨rfl, bt, sl, rfl, iv⟩
      have sd : sm d = true := kids_sm hs (by rw [e]; simp)
      have iv2 := iv _ e
      rw [kidsOk_cons] at iv2
      refine ⟨_, rfl, ?_⟩
      have no : kidD d bt = none → (retF (fun (b' : Nat) (r' : Res) => b' = b2 ∧ r' = Res.va (.bl (areChildren (.tup ds))))).R b2 (Res.va (.bl false)) := fun z => ⟨rfl, rfl, by
        show Res.va (.bl false) = .va (.bl (kidsOk false ds))
        rw [iv2, z]⟩
      refine sv_ifJ (fun b' δ' => b' = b2 ∧ δ' = [.va (.tup ds), .va (.bl bt), .va d] ∧ kidD d bt = some d.isS) (et_val (ev_isi (t := "str") b0 b0.str (by decide +kernel) (ev_var 2 rfl ⟨_, isi_s d, _, rfl, ?_⟩))) ?_
      · cases es : d.isS with
        | true =>
          refine sv_if (et_pw (ew_or (et_val (ev_var 1 rfl ⟨_, rfl, ?_⟩))))
          cases bt with
          | true => exact sv_ret (ev_bl (no (by simp [kidD, es])))
          | false =>
            refine ew_or (et_val (ev_callP D1 (hr.mono (by decide)) (eva_cons (ev_var 2 rfl (eva_nil ⟨_, _, rfl, rfl, gB_of sd, _, rfl, ?_⟩)))))
            cases ee : isEmptyS d with
            | true => exact sv_ret (ev_bl (no (by simp [kidD, es, ee])))
            | false =>
              refine ew_or1 (et_not (et_val (ev_callP D2 (hr.mono (by decide)) (eva_cons (ev_var 2 rfl (eva_nil ⟨_, _, rfl, rfl, gB_of sd, _, rfl, ?_⟩))))))
              cases ep : isPlain d with
              | true => exact sv_nil (sv_nil ⟨rfl, rfl, by simp [kidD, es, ee, ep]⟩)
              | false => exact sv_ret (ev_bl (no (by simp [kidD, es, ee, ep])))
        | false =>
          refine sv_if (et_pw (ew_and (et_not (et_val (ev_callP D3 (hr.mono (by decide)) (eva_cons (ev_var 2 rfl (eva_nil ⟨_, _, rfl, rfl, gB_of sd, _, rfl, ?_⟩))))))))
          cases eb : begins "element" d with
          | true => exact sv_nil (sv_nil ⟨rfl, rfl, by simp [kidD, es, eb]⟩)
          | false =>
            refine ew_and1 (et_not (et_val (ev_callP D4 hr (eva_cons (ev_var 2 rfl (eva_nil ⟨_, _, rfl, rfl, gB_of sd, _, rfl, ?_⟩))))))
            cases eh : isHole d with
            | true => exact sv_nil (sv_nil ⟨rfl, rfl, by simp [kidD, es, eb, eh]⟩)
            | false => exact sv_ret (ev_bl (no (by simp [kidD, es, eb, eh])))
      · rintro b' δ' ⟨rfl, rfl, hk⟩
        refine sv_set 1 (ev_isi (t := "str") b0 b0.str (by decide +kernel) (ev_var 2 rfl ⟨_, isi_s d, _, rfl, ?_⟩)) sc.nd
        refine sv_nil ⟨rfl, _, _, rfl, fun post2 e2 => ?_⟩
        have : post = post2 := by rw [e, List.append_assoc] at e2; simpa using e2
        rw [iv2, hk, this]
    · rintro b2 δ2 ⟨rfl, bt, sl, rfl, iv⟩
      refine sv_ret (ev_bl ⟨rfl, rfl, ?_⟩)
      have := iv [] (by simp)
      show Res.va (.bl true) = .va (.bl (kidsOk false ds))
      rw [this]
      rfl
  | obj t a =>
    cases t with
    | unit => exact nomatch hs
    | _ => exact sv_ret (ev_bl ⟨rfl, rfl, rfl⟩)
  | _ => exact sv_ret (ev_bl ⟨rfl, rfl, rfl⟩)
end
end G
set_option Elab.async false
set_option linter.all false
set_option maxRecDepth 100000
set_option maxHeartbeats 4000000
namespace G
open PySem PySem.Spec PyProof.Rows L2 PD
section
variable {P : Program} {w : World} {K : PySem.W.Frag} {mg : Str → Option Value} {base : Heap} {Z : Vol} {f : Addr} {fd : FuncData}
/-! ### _holes_among -/
theorem hole_two {d : D} (h : (begins "element" d || isHole d) = true) (hb : begins "hole" d = true) : ∃ x, d = .tup [.str "hole", .str x] := by
  obtain ⟨ds, rfl⟩ := begins_tup hb
  have e : begins "element" (.tup (.str "hole" :: ds)) = false := by
    show decide (("hole" : Str) = "element") = false
    decide +kernel
  rw [e, Bool.false_or] at h
  unfold isHole at h
  split at h
  · rename_i x h1 he
    cases he
    rw [Bool.and_eq_true] at h
    obtain ⟨y, rfl⟩ := mdo_str (s := letters) (lo := 1) (hi := 8) h.2
    exact ⟨y, rfl⟩
  · cases h
theorem kids_hole : ∀ {ds : List D} {bt : Bool}, kidsOk bt ds = true → ∀ d ∈ ds, begins "hole" d = true → ∃ x, d = .tup [.str "hole", .str x]
  | [], _, _, _, h, _ => nomatch h
  | c :: cs, bt, hk, d, hm, hb => by
    rw [kidsOk_cons] at hk
    rcases List.mem_cons.mp hm with rfl | hm
    · unfold kidD at hk
      cases es : d.isS with
      | true =>
        obtain ⟨ds, rfl⟩ := begins_tup hb
        cases es
      | false =>
        rw [es] at hk
        cases eh : (begins "element" d || isHole d) with
        | true => exact hole_two eh hb
        | false => rw [eh] at hk; cases hk
    · cases e : kidD c bt with
      | none => rw [e] at hk; cases hk
      | some k => rw [e] at hk; exact kids_hole hk d hm hb
theorem holeStrs_eq : ∀ ds : List D, holeStrs ds = (ds.filter (begins "hole")).map sndOf
  | [] => rfl
  | c :: cs => by
    rw [holeStrs, holeStrs_eq cs, List.filter_cons]
    cases begins "hole" c <;> rfl
def gHoles : List D → Option Res
  | [.tup ds] => if sm (.tup ds) = true ∧ kidsOk false ds = true then some (.ow (holeStrs ds)) else none
  | _ => none
theorem gHoles_out : ∀ (ds : List D) (r : Res), gHoles ds = some r → r.out = true := by
  intro ds r h
  unfold gHoles at h
  split at h
  · split at h
    · cases h; rfl
    · cases h
  · cases h
theorem gHoles_one {ds : List D} {r : Res} (h : gHoles ds = some r) : ∃ cs, ds = [.tup cs] ∧ sm (.tup cs) = true ∧ kidsOk false cs = true ∧ r = .ow (holeStrs cs) := by
  unfold gHoles at h
  split at h
  · split at h
    · rename_i q
      cases h; exact ⟨_, rfl, q.1, q.2, rfl⟩
    · cases h
  · cases h
theorem gHoles_of {cs : List D} (h : sm (.tup cs) = true) (hk : kidsOk false cs = true) : gHoles [.tup cs] = some (.ow (holeStrs cs)) := if_pos ⟨h, hk⟩
abbrev sHoles : Stmt := st_holes_among
theorem ok_holes (F : Fun K "holes_among" "holes_among" sHoles f fd) (T : Cst mg) (D3 : DBegins P w K mg base Z) :
    FnOk P w K mg base CX0 2 f fd ["children"] (spP Z K 1 gHoles) := by
  have sc : FnScope ["children", "child"] ["children"] (defScope sHoles) := ⟨rfl, rfl, rfl, by decide +kernel, rfl, by decide +kernel, by decide +kernel⟩
  refine fn_pure F sc rfl gHoles_out fun cdv A outer s H E b ds r hr hl hg => ?_
  obtain ⟨cs, rfl, hs, hk, rfl⟩ := gHoles_one hg
  refine sv_ret (ev_filt (.nm 1) [("child", 1)] (begins "hole") sndOf rfl sc.nd (blkOk_by (N := ["children", "child"]) (sc := defScope sHoles) (by decide +kernel)) (fun _ _ _ _ _ => pg_name (i := 1) sc.nd rfl (Or.inl rfl)) (by simp [Pat.slots]) (EI.c (ei_tup (ev_var 0 rfl ⟨cs, rfl, ?_⟩))))
  refine ⟨Nat.le_trans (sm_tup hs).1 (by decide), fun d hd => ⟨_, rfl, fun s H Cc cl fp => ?_, fun ht s H Cc cl fp => ?_⟩, rfl, rfl, by rw [holeStrs_eq]⟩
  · exact et_val (ev_callP D3 hr (eva_cons (ev_var 1 rfl (eva_cons (ev_str (eva_nil ⟨_, _, rfl, rfl, gBegins_of (kids_sm hs hd), _, rfl, rfl, rfl⟩))))))
  · obtain ⟨x, rfl⟩ := kids_hole hk d hd ht
    exact ev_ix (ev_var 1 rfl (ev_int ⟨_, _, _, .inl rfl, rfl, at1, rfl, rfl⟩))
/-! ### _wrong_item -/
def few (n : Nat) : D → Bool
  | .tup ds => decide (ds.length ≤ n)
  | _ => true
/-- its declarations, its attributes are few -/
def fewA : D → Bool
  | .tup [_, _, de, a, _] => few 50 de && few 4 a
  | _ => true
def gF (n : Nat) (f : D → Bool) : List D → Option Res
  | [d] => if sm d = true ∧ few n d = true then some (.va (.bl (f d))) else none
  | _ => none
theorem gF_out {n : Nat} {f : D → Bool} : ∀ (ds : List D) (r : Res), gF n f ds = some r → r.out = true := by
  intro ds r h
  unfold gF at h
  split at h
  · split at h
    · cases h; rfl
    · cases h
  · cases h
theorem gF_of {n : Nat} {f : D → Bool} {d : D} (h : sm d = true) (h2 : few n d = true) : gF n f [d] = some (.va (.bl (f d))) := by
  show (if sm d = true ∧ few n d = true then _ else _) = _
  rw [if_pos ⟨h, h2⟩]
theorem gF_one {n : Nat} {f : D → Bool} {ds : List D} {r : Res} (h : gF n f ds = some r) : ∃ d, ds = [d] ∧ sm d = true ∧ few n d = true ∧ r = .va (.bl (f d)) := by
  unfold gF at h
  split at h
  · rename_i d
    split at h
    · rename_i hs
      cases h
      exact ⟨d, rfl, hs.1, hs.2, rfl⟩
    · cases h
  · cases h
def gWrong : List D → Option Res
  | [d] => if sm d = true ∧ fewA d = true then some (.va (optD (wrongItem d))) else none
  | _ => none
theorem gWrong_out : ∀ (ds : List D) (r : Res), gWrong ds = some r → r.out = true := by
  intro ds r h
  unfold gWrong at h
  split at h
  · split at h
    · cases h; rfl
    · cases h
  · cases h
theorem gWrong_of {d : D} (h : sm d = true) (h2 : fewA d = true) : gWrong [d] = some (.va (optD (wrongItem d))) := by
  show (if sm d = true ∧ fewA d = true then _ else _) = _
  rw [if_pos ⟨h, h2⟩]
theorem gWrong_one {ds : List D} {r : Res} (h : gWrong ds = some r) : ∃ d, ds = [d] ∧ sm d = true ∧ fewA d = true ∧ r = .va (optD (wrongItem d)) := by
  unfold gWrong at h
  split at h
  · rename_i d
    split at h
    · rename_i hs
      cases h
      exact ⟨d, rfl, hs.1, hs.2, rfl⟩
    · cases h
  · cases h
theorem atN {ds : List D} {j : Nat} {d : D} (h : ds[j]? = some d) : atI ds (j : Nat) = some d := atI_nat h
theorem wrong_no {d : D} (h : begins "element" d = false) : wrongItem d = some "form" := by
  unfold wrongItem
  split
  · rw [h]; rfl
  · rfl
theorem wrong_len {ds : List D} (h : ds.length ≠ 5) : wrongItem (.tup ds) = some "form" := by
  unfold wrongItem
  split
  · rename_i e
    cases e
    exact absurd rfl h
  · rfl
abbrev sWrong : Stmt := st__wrong_item
theorem ok_wrong (F : Fun K "_wrong_item" "_wrong_item" sWrong f fd) (T : Cst mg) (D1 : DElem P w K mg base Z) (D2 : DB P w K mg base Z "is_name" 3 isName) (D3 : Df P w K mg base "_are_declarations" 4 ["thing"] (spP Z K 1 (gF 50 areDecls)))
    (D4 : Df P w K mg base "_are_attributes" 5 ["thing"] (spP Z K 1 (gF 4 areAttrs))) (D5 : DB P w K mg base Z "_are_children" 4 areChildren) :
    FnOk P w K mg base CX0 6 f fd ["thing"] (spP Z K 1 gWrong) := by
  have sc : FnScope ["thing"] ["thing"] (defScope sWrong) := ⟨rfl, rfl, rfl, by decide +kernel, rfl, by decide +kernel, by decide +kernel⟩
  refine fn_pure F sc rfl gWrong_out fun cdv A outer s H E b ds r hr hl hg => ?_
  obtain ⟨d, rfl, hs, hfw, rfl⟩ := gWrong_one hg
  have b0 := T.blt (cxOf CX0 P w K mg base ["thing"] "_wrong_item" (defScope sWrong) f cdv A outer s H E).nox rfl
  refine sv_if (et_pw (ew_or (et_not (et_val (ev_callP D1 (hr.mono (by decide)) (eva_cons (ev_var 0 rfl (eva_nil ⟨_, _, rfl, rfl, gB_of hs, _, rfl, ?_⟩))))))))
  cases e : begins "element" d with
  | false => exact sv_ret (ev_str ⟨rfl, rfl, by rw [wrong_no e]; rfl⟩)
  | true =>
    obtain ⟨ds, rfl⟩ := begins_tup e
    refine ew_or1 (et_ne (ev_len b0 (ev_var 0 rfl ⟨_, .tup, ev_int ⟨_, _, _, rfl, rfl, rfl, ?_⟩⟩)))
    by_cases h5 : (D.str "element" :: ds).length = 5
    · have h5' : decide (((D.str "element" :: ds).length : Int) = 5) = true := by rw [h5]; rfl
      rw [h5']
      match ds, h5 with
      | [n, de, at_, ch], _ =>
        obtain ⟨_, hs'⟩ := sm_tup hs
        have s1 : sm n = true := sm_mem hs' (by simp)
        have s2 : sm de = true := sm_mem hs' (by simp)
        have s3 : sm at_ = true := sm_mem hs' (by simp)
        have s4 : sm ch = true := sm_mem hs' (by simp)
        have hfw' : few 50 de = true ∧ few 4 at_ = true := by simpa [fewA] using hfw
        refine sv_nil ?_
        refine sv_if (et_not (et_val (ev_callP D2 (hr.mono (by decide)) (eva_cons (ev_ix (ev_var 0 rfl (ev_int ⟨_, _, _, .inl rfl, rfl, atN (j := 1) rfl, eva_nil ⟨_, _, rfl, rfl, gB_of s1, _, rfl, ?_⟩⟩)))))))
        cases e1 : isName n with
        | false => exact sv_ret (ev_str ⟨rfl, rfl, by simp [wrongItem, e, e1]; rfl⟩)
        | true =>
          refine sv_nil ?_
          refine sv_if (et_not (et_val (ev_callP D3 (hr.mono (by decide)) (eva_cons (ev_ix (ev_var 0 rfl (ev_int ⟨_, _, _, .inl rfl, rfl, atN (j := 2) rfl, eva_nil ⟨_, _, rfl, rfl, gF_of s2 hfw'.1, _, rfl, ?_⟩⟩)))))))
          cases e2 : areDecls de with
          | false => exact sv_ret (ev_str ⟨rfl, rfl, by simp [wrongItem, e, e1, e2]; rfl⟩)
          | true =>
            refine sv_nil ?_
            refine sv_if (et_not (et_val (ev_callP D4 hr (eva_cons (ev_ix (ev_var 0 rfl (ev_int ⟨_, _, _, .inl rfl, rfl, atN (j := 3) rfl, eva_nil ⟨_, _, rfl, rfl, gF_of s3 hfw'.2, _, rfl, ?_⟩⟩)))))))
            cases e3 : areAttrs at_ with
            | false => exact sv_ret (ev_str ⟨rfl, rfl, by simp [wrongItem, e, e1, e2, e3]; rfl⟩)
            | true =>
              refine sv_nil ?_
              refine sv_if (et_not (et_val (ev_callP D5 (hr.mono (by decide)) (eva_cons (ev_ix (ev_var 0 rfl (ev_int ⟨_, _, _, .inl rfl, rfl, atN (j := 4) rfl, eva_nil ⟨_, _, rfl, rfl, gB_of s4, _, rfl, ?_⟩⟩)))))))
              cases e4 : areChildren ch with
              | false => exact sv_ret (ev_str ⟨rfl, rfl, by simp [wrongItem, e, e1, e2, e3, e4]; rfl⟩)
              | true => exact sv_nil (sv_ret (ev_non ⟨rfl, rfl, by simp [wrongItem, e, e1, e2, e3, e4]; rfl⟩))
    · have h5' : decide (((D.str "element" :: ds).length : Int) = 5) = false := decide_eq_false (by omega)
      rw [h5']
      exact sv_ret (ev_str ⟨rfl, rfl, by rw [wrong_len h5]; rfl⟩)
end
end G
set_option Elab.async false
set_option linter.all false
set_option maxRecDepth 100000
set_option maxHeartbeats 4000000
namespace G
open PySem PySem.Spec PyProof.Rows L2 PD
/-! ### the stack -/
theorem elemsAt_mem (p : List D) : ∀ (cs : List D) (k : Nat) (q : List D × D), q ∈ elemsAt p k cs → q.2 ∈ cs
  | [], _, _, h => nomatch h
  | c :: cs, k, q, h => by
    unfold elemsAt at h
    split at h
    · rcases List.mem_cons.mp h with rfl | h
      · exact List.mem_cons_self
      · exact List.mem_cons_of_mem _ (elemsAt_mem p cs (k + 1) q h)
    · exact List.mem_cons_of_mem _ (elemsAt_mem p cs (k + 1) q h)
theorem fw_len : ∀ (l : List (List D × D)) (n : Nat), fw n l = none → l = [] ∨ n + l.length ≤ 60
  | [], _, _ => .inl rfl
  | (p, d) :: r, n, h => by
    unfold fw at h
    split at h
    · rename_i hc
      refine .inr ?_
      split at h
      · cases h
      · rcases fw_len r (n + 1) h with rfl | z
        · simp; omega
        · simp; omega
    · cases h
theorem fw_cons {p : List D} {d : D} {r : List (List D × D)} {n : Nat} (h : fw n ((p, d) :: r) = none) : n + 1 ≤ 60 ∧ p.length < 8 ∧ wrongItem d = none ∧ fw (n + 1) r = none := by
  unfold fw at h
  split at h
  · rename_i hc
    split at h
    · cases h
    · rename_i hw
      exact ⟨hc.1, hc.2, hw, h⟩
  · cases h
theorem wrong_none {d : D} (h : wrongItem d = none) : ∃ n de at_ cs, d = .tup [.str "element", n, de, at_, .tup cs] ∧ isName n = true ∧ areDecls de = true ∧ areAttrs at_ = true ∧ kidsOk false cs = true := by
  unfold wrongItem at h
  split at h
  · rename_i k n de at_ ch
    split at h
    · rename_i hb
      obtain ⟨ds, e⟩ := begins_tup hb
      cases e
      split at h
      · split at h
        · split at h
          · split at h
            · rename_i h1 h2 h3 h4
              cases ch with
              | tup cs => exact ⟨n, de, at_, cs, rfl, h1, h2, h3, h4⟩
              | _ => cases h4
            · cases h
          · cases h
        · cases h
      · cases h
    · cases h
  · cases h
/-- what stands on the stack, the top last -/
def stD (st : List (List D × D)) : List D := st.reverse.map pairD
theorem stD_cons (q : List D × D) (st : List (List D × D)) : stD (q :: st) = stD st ++ [pairD q] := by simp [stD]
theorem stD_app (a st : List (List D × D)) : stD (a ++ st) = stD st ++ stD a := by simp [stD]
def gBelow : List D → Option Res
  | [.tup p, .tup [k, n, de, at_, .tup cs]] => if sm (.tup cs) = true ∧ p.length ≤ 100 then some (.ow (stD (elemsAt p 0 cs))) else none
  | _ => none
theorem gBelow_out : ∀ (ds : List D) (r : Res), gBelow ds = some r → r.out = true := by
  intro ds r h
  unfold gBelow at h
  split at h
  · split at h
    · cases h; rfl
    · cases h
  · cases h
abbrev DBelow (P : Program) (w : World) (K : PySem.W.Frag) (mg : Str → Option Value) (base : Heap) (Z : Vol) := Df P w K mg base "_below" 3 ["path", "element"] (spP Z K 2 gBelow)
def gWalk : List D → Option Res
  | [d] => if sm d = true ∧ fw 0 (pre [] d) = none then some (.ow ((pre [] d).map pairD)) else none
  | _ => none
theorem gWalk_out : ∀ (ds : List D) (r : Res), gWalk ds = some r → r.out = true := by
  intro ds r h
  unfold gWalk at h
  split at h
  · split at h
    · cases h; rfl
    · cases h
  · cases h
theorem gWalk_one {ds : List D} {r : Res} (h : gWalk ds = some r) : ∃ d, ds = [d] ∧ sm d = true ∧ fw 0 (pre [] d) = none ∧ r = .ow ((pre [] d).map pairD) := by
  unfold gWalk at h
  split at h
  · split at h
    · rename_i q
      cases h; exact ⟨_, rfl, q.1, q.2, rfl⟩
    · cases h
  · cases h
section
variable {P : Program} {w : World} {K : PySem.W.Frag} {mg : Str → Option Value} {base : Heap} {Z : Vol} {f : Addr} {fd : FuncData}
abbrev sWalk : Stmt := st_walk
theorem ok_walk (F : Fun K "walk" "walk" sWalk f fd) (T : Cst mg) (D1 : DBelow P w K mg base Z) : FnOk P w K mg base CX0 4 f fd ["part"] (spP Z K 1 gWalk) := by
  have sc : FnScope ["part", "found", "waiting", "path", "element"] ["part"] (defScope sWalk) := ⟨rfl, rfl, rfl, by decide +kernel, rfl, by decide +kernel, by decide +kernel⟩
  refine fn_pure F sc rfl gWalk_out fun cdv A outer s H E b ds r hr hl hg => ?_
  obtain ⟨d, rfl, hs, hf, rfl⟩ := gWalk_one hg
  refine sv_set 1 (ev_lst (eva_nil ⟨[], rfl, by decide, _, rfl, ?_⟩)) sc.nd
  refine sv_set 2 (ev_lst (eva_cons (ev_tup (eva_cons (ev_tup (eva_nil ⟨[], rfl, by decide, eva_cons (ev_var 0 rfl (eva_nil ⟨_, rfl, by simp, eva_nil ⟨_, rfl, by simp, _, rfl, ?_⟩⟩))⟩)))))) sc.nd
  refine sv_while (fun b' δ' => b' = b ∧ ∃ done st s3 s4, δ' = [.va d, .ow (done.map pairD), .ow (stD st), s3, s4] ∧ pre [] d = done ++ preAll st ∧ fw done.length (preAll st) = none ∧ ∀ q ∈ st, sm q.2 = true)
    (fun δ' => match δ' with | [_, .ow fs, _, _, _] => (pre [] d).length - fs.length | _ => 0) PassesOwn.never ⟨rfl, [], [([], d)], _, _, rfl, by simp [preAll], by simpa [preAll] using hf, fun q hq => by rw [List.mem_singleton.mp hq]; exact hs⟩ ?_
  rintro b2 δ2 ⟨rfl, done, st, s3, s4, rfl, hp, hfw, hsm⟩
  refine et_own 2 rfl ?_
  cases st with
  | nil =>
    have e0 : preAll [] = [] := rfl
    rw [e0, List.append_nil] at hp
    exact sv_retO 1 rfl ⟨rfl, rfl, by rw [hp]⟩
  | cons q st =>
    obtain ⟨p, e⟩ := q
    rw [preAll_cons] at hp hfw
    obtain ⟨h60, h8, hw, hfw2⟩ := fw_cons hfw
    obtain ⟨n, de, at_, cs, rfl, _, _, _, hk⟩ := wrong_none hw
    have hse : sm (.tup [.str "element", n, de, at_, .tup cs]) = true := hsm _ List.mem_cons_self
    have hsc : sm (.tup cs) = true := sm_mem (sm_tup hse).2 (by simp)
    have ne : (!(stD ((p, D.tup [.str "element", n, de, at_, .tup cs]) :: st)).isEmpty) = true := by rw [stD_cons]; simp
    rw [ne]
    have hkids : kidsOf (.tup [.str "element", n, de, at_, .tup cs]) = cs := rfl
    rw [hkids] at hp hfw2
    have hlen : (elemsAt p 0 cs ++ st).length ≤ 60 := by
      have h1 := preAll_len (elemsAt p 0 cs ++ st)
      rcases fw_len _ _ hfw2 with z | z
      · rw [z, List.length_nil] at h1
        omega
      · omega
    refine sv_popU (.tp [.nm 3, .nm 4]) 2 (ds := stD st) (d := pairD (p, .tup [.str "element", n, de, at_, .tup cs])) (pg_tup rfl (pgs_cons (pg_name (i := 3) sc.nd rfl (Or.inl rfl)) (pgs_cons (pg_name (i := 4) sc.nd rfl (Or.inl rfl)) pgs_nil))) (by rw [stD_cons]; rfl) rfl ?_ rfl
    refine sv_append 1 rfl (ev_tup (eva_cons (ev_var 3 rfl (eva_cons (ev_var 4 rfl (eva_nil ⟨_, rfl, by simp, _, _, rfl, rfl, ?_, ?_⟩))))))
    · rw [List.length_map]; omega
    refine sv_extend 2 rfl (ev_callP D1 hr (eva_cons (ev_var 3 rfl (eva_cons (ev_var 4 rfl (eva_nil ⟨_, _, rfl, rfl, if_pos ⟨hsc, (show p.length ≤ 100 by omega)⟩, _, _, rfl, rfl, ?_, ?_⟩))))))
    · simp only [List.length_append] at hlen
      simp only [stD, List.length_map, List.length_reverse]
      omega
    refine sv_nil ⟨⟨rfl, done ++ [(p, _)], elemsAt p 0 cs ++ st, .va (.tup p), .va (.tup [.str "element", n, de, at_, .tup cs]), ?_, by rw [hp, List.append_assoc]; rfl, by rw [List.length_append]; exact hfw2, fun q hq => ?_⟩, ?_⟩
    · rw [stD_app, List.map_append]
      rfl
    · rcases List.mem_append.mp hq with hq | hq
      · exact sm_mem (sm_tup hsc).2 (elemsAt_mem p cs 0 q hq)
      · exact hsm q (List.mem_cons_of_mem _ hq)
    · show (pre [] d).length - (done.map pairD ++ [_]).length < (pre [] d).length - (done.map pairD).length
      rw [hp]
      simp only [List.length_append, List.length_map, List.length_cons, List.length_nil]
      omega
end
end G
set_option Elab.async false
set_option linter.all false
set_option maxRecDepth 100000
set_option maxHeartbeats 4000000
namespace G
open PySem PySem.Spec PyProof.Rows L2 PD
/-! ### _first_wrong -/
def itemOf (n : Nat) (p : List D) (d : D) : Option Str := if n + 1 ≤ 60 ∧ p.length < 8 then wrongItem d else some "form"
theorem fw_step (n : Nat) (p : List D) (d : D) (r : List (List D × D)) : fw n ((p, d) :: r) = (match itemOf n p d with | some x => some (p, x) | none => fw (n + 1) r) := by
  rw [fw]
  unfold itemOf
  split
  · cases wrongItem d <;> rfl
  · rfl
theorem item_none {n : Nat} {p : List D} {d : D} (h : itemOf n p d = none) : n + 1 ≤ 60 ∧ p.length < 8 ∧ wrongItem d = none := by
  unfold itemOf at h
  split at h
  · rename_i hc
    exact ⟨hc.1, hc.2, h⟩
  · cases h
def fewAll (d : D) : Bool := (pre [] d).all fun q => fewA q.2
def gFW : List D → Option Res
  | [d] => if sm d = true ∧ fewAll d = true then some (.va (faultD (fw 0 (pre [] d)))) else none
  | _ => none
theorem gFW_out : ∀ (ds : List D) (r : Res), gFW ds = some r → r.out = true := by
  intro ds r h
  unfold gFW at h
  split at h
  · split at h
    · cases h; rfl
    · cases h
  · cases h
theorem gFW_one {ds : List D} {r : Res} (h : gFW ds = some r) : ∃ d, ds = [d] ∧ sm d = true ∧ fewAll d = true ∧ r = .va (faultD (fw 0 (pre [] d))) := by
  unfold gFW at h
  split at h
  · split at h
    · rename_i q
      cases h; exact ⟨_, rfl, q.1, q.2, rfl⟩
    · cases h
  · cases h
theorem optD_isN (x : Option Str) : (optD x).isN = x.isNone := by cases x <;> rfl
theorem elemsAt_len (p : List D) : ∀ (cs : List D) (k : Nat), (elemsAt p k cs).length ≤ cs.length
  | [], _ => Nat.le_refl _
  | c :: cs, k => by
    unfold elemsAt
    have := elemsAt_len p cs (k + 1)
    split <;> simp <;> omega
section
variable {P : Program} {w : World} {K : PySem.W.Frag} {mg : Str → Option Value} {base : Heap} {Z : Vol} {f : Addr} {fd : FuncData}
abbrev sFW : Stmt := st__first_wrong
theorem ok_fw (F : Fun K "_first_wrong" "_first_wrong" sFW f fd) (T : Cst mg) (D1 : DBelow P w K mg base Z) (D2 : Df P w K mg base "_wrong_item" 6 ["thing"] (spP Z K 1 gWrong)) : FnOk P w K mg base CX0 7 f fd ["thing"] (spP Z K 1 gFW) := by
  have sc : FnScope ["thing", "looked_at", "waiting", "path", "element", "item"] ["thing"] (defScope sFW) := ⟨rfl, rfl, rfl, by decide +kernel, rfl, by decide +kernel, by decide +kernel⟩
  refine fn_pure F sc rfl gFW_out fun cdv A outer s H E b ds r hr hl hg => ?_
  obtain ⟨d, rfl, hs, hfw, rfl⟩ := gFW_one hg
  have b0 := T.blt (cxOf CX0 P w K mg base ["thing", "looked_at", "waiting", "path", "element", "item"] "_first_wrong" (defScope sFW) f cdv A outer s H E).nox rfl
  obtain ⟨t1, m1⟩ := T.mostElements
  obtain ⟨t2, m2⟩ := T.mostLevels
  refine sv_set 1 (ev_int ⟨_, rfl, ?_⟩) sc.nd
  refine sv_set 2 (ev_lst (eva_cons (ev_tup (eva_cons (ev_tup (eva_nil ⟨[], rfl, by decide, eva_cons (ev_var 0 rfl (eva_nil ⟨_, rfl, by simp, eva_nil ⟨_, rfl, by simp, _, rfl, ?_⟩⟩))⟩)))))) sc.nd
  refine sv_while (fun b' δ' => b' = b ∧ ∃ (n : Nat) (st : List (List D × D)) (s3 s4 s5 : Sl), δ' = [.va d, .va (.int n), .ow (stD st), s3, s4, s5] ∧ n ≤ 60 ∧ fw 0 (pre [] d) = fw n (preAll st) ∧ n + (preAll st).length = (pre [] d).length ∧ (∀ q ∈ st, sm q.2 = true) ∧ (∀ q ∈ preAll st, fewA q.2 = true) ∧ st.length ≤ 1 + n * 50000)
    (fun δ' => match δ' with | [_, .va (.int n), _, _, _, _] => (pre [] d).length - n.toNat | _ => 0) PassesOwn.never
    ⟨rfl, 0, [([], d)], _, _, _, rfl, by decide, by simp [preAll], by simp [preAll], fun q hq => by rw [List.mem_singleton.mp hq]; exact hs, fun q hq => List.all_eq_true.mp hfw q (by simpa [preAll] using hq), by simp⟩ ?_
  rintro b2 δ2 ⟨rfl, n, st, s3, s4, s5, rfl, hn, hp, hlen, hsm, hfe, hst⟩
  refine et_own 2 rfl ?_
  cases st with
  | nil => exact sv_ret (ev_non ⟨rfl, rfl, by rw [hp]; rfl⟩)
  | cons q st =>
    obtain ⟨p, e⟩ := q
    rw [preAll_cons] at hp hlen hfe
    rw [fw_step] at hp
    have hse : sm e = true := hsm _ List.mem_cons_self
    have hfe1 : fewA e = true := hfe (p, e) List.mem_cons_self
    have ne : (!(stD ((p, e) :: st)).isEmpty) = true := by rw [stD_cons]; simp
    rw [ne]
    refine sv_popU (.tp [.nm 3, .nm 4]) 2 (ds := stD st) (d := pairD (p, e)) (pg_tup rfl (pgs_cons (pg_name (i := 3) sc.nd rfl (Or.inl rfl)) (pgs_cons (pg_name (i := 4) sc.nd rfl (Or.inl rfl)) pgs_nil))) (by rw [stD_cons]; rfl) rfl ?_ rfl
    refine sv_augI 1 rfl (ev_int ⟨1, rfl, ?_⟩) sc.nd
    refine sv_set 5 (ev_str ⟨_, rfl, ?_⟩) sc.nd
    refine sv_ifJ (fun b' δ' => b' = b2 ∧ δ' = [.va d, .va (.int ((n : Int) + 1)), .ow (stD st), .va (.tup p), .va e, .va (optD (itemOf n p e))]) (et_pw (ew_and (et_ord op_le (nomark _) (ev_var 1 rfl (ev_glI m1 ⟨_, _, rfl, rfl, ?_⟩))))) ?_
    · by_cases h1 : n + 1 ≤ 60
      · have e1 : decide ((n : Int) + 1 ≤ 60) = true := decide_eq_true (by omega)
        rw [e1]
        refine ew_and1 (et_ord op_lt (nomark _) (ev_len b0 (ev_var 3 rfl ⟨_, .tup, ev_glI m2 ⟨_, _, rfl, rfl, ?_⟩⟩)))
        by_cases h2 : p.length < 8
        · have e2 : decide ((p.length : Int) < 8) = true := decide_eq_true (by omega)
          show if decide ((p.length : Int) < 8) = true then _ else _
          rw [e2]
          refine sv_set 5 (ev_callP D2 hr (eva_cons (ev_var 4 rfl (eva_nil ⟨_, _, rfl, rfl, gWrong_of hse hfe1, _, rfl, ?_⟩)))) sc.nd
          exact sv_nil ⟨rfl, by rw [show itemOf n p e = wrongItem e from if_pos ⟨h1, h2⟩]; rfl⟩
        · have e2 : decide ((p.length : Int) < 8) = false := decide_eq_false (by omega)
          show if decide ((p.length : Int) < 8) = true then _ else _
          rw [e2]
          exact sv_nil ⟨rfl, by rw [show itemOf n p e = some "form" from if_neg fun z => h2 z.2]; rfl⟩
      · have e1 : decide ((n : Int) + 1 ≤ 60) = false := decide_eq_false (by omega)
        rw [e1]
        exact sv_nil ⟨rfl, by rw [show itemOf n p e = some "form" from if_neg fun z => h1 z.1]; rfl⟩
    · rintro b' δ' ⟨rfl, rfl⟩
      refine sv_if (et_notN (ev_var 5 rfl ⟨_, rfl, ?_⟩))
      rw [optD_isN]
      cases hi : itemOf n p e with
      | some x =>
        rw [hi] at hp
        exact sv_ret (ev_tup (eva_cons (ev_var 3 rfl (eva_cons (ev_var 5 rfl (eva_nil ⟨_, rfl, by simp, rfl, rfl, by rw [hp]; rfl⟩))))))
      | none =>
        rw [hi] at hp
        obtain ⟨h60, h8, hw⟩ := item_none hi
        obtain ⟨nm, de, at_, cs, rfl, _, _, _, hk⟩ := wrong_none hw
        have hsc : sm (.tup cs) = true := sm_mem (sm_tup hse).2 (by simp)
        have hkids : kidsOf (.tup [.str "element", nm, de, at_, .tup cs]) = cs := rfl
        rw [hkids] at hp hlen hfe
        have hcl : (elemsAt p 0 cs).length ≤ 50000 := Nat.le_trans (elemsAt_len p cs 0) (sm_tup hsc).1
        have hst2 : st.length ≤ n * 50000 := by simp at hst; omega
        have hn2 : n * 50000 ≤ 59 * 50000 := Nat.mul_le_mul_right _ (by omega)
        refine sv_nil ?_
        refine sv_extend 2 rfl (ev_callP D1 (hr.mono (by decide)) (eva_cons (ev_var 3 rfl (eva_cons (ev_var 4 rfl (eva_nil ⟨_, _, rfl, rfl, if_pos ⟨hsc, (show p.length ≤ 100 by omega)⟩, _, _, rfl, rfl, ?_, ?_⟩))))))
        · simp only [stD, List.length_map, List.length_reverse]
          omega
        refine sv_nil ⟨⟨rfl, n + 1, elemsAt p 0 cs ++ st, .va (.tup p), .va (.tup [.str "element", nm, de, at_, .tup cs]), .va (optD none), ?_, h60, hp, ?_, fun q hq => ?_, fun q hq => hfe q (List.mem_cons_of_mem _ hq), ?_⟩, ?_⟩
        · rw [stD_app]
          rfl
        · rw [← hlen, List.length_cons]; omega
        · rcases List.mem_append.mp hq with hq | hq
          · exact sm_mem (sm_tup hsc).2 (elemsAt_mem p cs 0 q hq)
          · exact hsm q (List.mem_cons_of_mem _ hq)
        · rw [List.length_append, Nat.add_mul]; omega
        · show (pre [] d).length - ((n : Int) + 1).toNat < (pre [] d).length - (n : Int).toNat
          rw [← hlen, List.length_cons]
          omega
end
end G
set_option Elab.async false
set_option linter.all false
set_option maxRecDepth 100000
set_option maxHeartbeats 4000000
namespace G
open PySem PySem.Spec PyProof.Rows L2 PD
/-! ### _fault, need_part, paths -/
/-- how many holes there are in all -/
def holesIn (l : List (List D × D)) : Nat := (l.map fun q => (holeStrs (kidsOf q.2)).length).sum
def gFH : List D → Option Res
  | [d] => if sm d = true ∧ fw 0 (pre [] d) = none ∧ holesIn (pre [] d) ≤ 1000 then some (.va (faultD (fh [] (pre [] d)))) else none
  | _ => none
def okF (d : D) : Prop := sm d = true ∧ fewAll d = true ∧ holesIn (pre [] d) ≤ 1000
instance (d : D) : Decidable (okF d) := inferInstanceAs (Decidable (_ ∧ _ ∧ _))
def gFault : List D → Option Res
  | [d] => if okF d then some (.va (faultD (fault d))) else none
  | _ => none
theorem gFault_out : ∀ (ds : List D) (r : Res), gFault ds = some r → r.out = true := by
  intro ds r h
  unfold gFault at h
  split at h
  · split at h
    · cases h; rfl
    · cases h
  · cases h
theorem gFault_one {ds : List D} {r : Res} (h : gFault ds = some r) : ∃ d, ds = [d] ∧ okF d ∧ r = .va (faultD (fault d)) := by
  unfold gFault at h
  split at h
  · split at h
    · rename_i q
      cases h; exact ⟨_, rfl, q, rfl⟩
    · cases h
  · cases h
theorem gFault_of {d : D} (h : okF d) : gFault [d] = some (.va (faultD (fault d))) := if_pos h
theorem faultD_isN (x : Option (List D × Str)) : (faultD x).isN = x.isNone := by rcases x with _ | ⟨p, i⟩ <;> rfl
/-- a part -/
def good (d : D) : Prop := okF d ∧ fault d = none
instance (d : D) : Decidable (good d) := inferInstanceAs (Decidable (_ ∧ _))
theorem fw_of_good {d : D} (h : good d) : fw 0 (pre [] d) = none := by
  have := h.2
  unfold fault at this
  split at this
  · cases this
  · assumption
def gGood (g : D → Res) : List D → Option Res
  | [d] => if good d then some (g d) else none
  | _ => none
theorem gGood_out {g : D → Res} (hg : ∀ d, (g d).out = true) : ∀ (ds : List D) (r : Res), gGood g ds = some r → r.out = true := by
  intro ds r h
  unfold gGood at h
  split at h
  · split at h
    · cases h; exact hg _
    · cases h
  · cases h
theorem gGood_one {g : D → Res} {ds : List D} {r : Res} (h : gGood g ds = some r) : ∃ d, ds = [d] ∧ good d ∧ r = g d := by
  unfold gGood at h
  split at h
  · split at h
    · rename_i q
      cases h; exact ⟨_, rfl, q, rfl⟩
    · cases h
  · cases h
section
variable {P : Program} {w : World} {K : PySem.W.Frag} {mg : Str → Option Value} {base : Heap} {Z : Vol} {f : Addr} {fd : FuncData}
abbrev sFault : Stmt := st__fault
theorem ok_fault (F : Fun K "_fault" "_fault" sFault f fd) (T : Cst mg) (D1 : Df P w K mg base "_first_wrong" 7 ["thing"] (spP Z K 1 gFW)) (D2 : Df P w K mg base "_first_hole_again" 5 ["part"] (spP Z K 1 gFH)) : FnOk P w K mg base CX0 8 f fd ["thing"] (spP Z K 1 gFault) := by
  have sc : FnScope ["thing", "fault"] ["thing"] (defScope sFault) := ⟨rfl, rfl, rfl, by decide +kernel, rfl, by decide +kernel, by decide +kernel⟩
  refine fn_pure F sc rfl gFault_out fun cdv A outer s H E b ds r hr hl hg => ?_
  obtain ⟨d, rfl, ⟨hs, hf, hh⟩, rfl⟩ := gFault_one hg
  refine sv_set 1 (ev_callP D1 hr (eva_cons (ev_var 0 rfl (eva_nil ⟨_, _, rfl, rfl, if_pos ⟨hs, hf⟩, _, rfl, ?_⟩)))) sc.nd
  refine sv_if (et_isN (ev_var 1 rfl ⟨_, rfl, ?_⟩))
  rw [faultD_isN]
  cases e : fw 0 (pre [] d) with
  | none =>
    refine sv_set 1 (ev_callP D2 (hr.mono (by decide)) (eva_cons (ev_var 0 rfl (eva_nil ⟨_, _, rfl, rfl, if_pos ⟨hs, e, hh⟩, _, rfl, ?_⟩)))) sc.nd
    exact sv_nil (sv_ret (ev_var 1 rfl ⟨rfl, rfl, by simp only [fault, e]⟩))
  | some x => exact sv_nil (sv_ret (ev_var 1 rfl ⟨rfl, rfl, by simp only [fault, e]⟩))
abbrev sNeed : Stmt := st_need_part
theorem ok_need (F : Fun K "need_part" "need_part" sNeed f fd) (T : Cst mg) (D1 : Df P w K mg base "_fault" 8 ["thing"] (spP Z K 1 gFault)) : FnOk P w K mg base CX0 9 f fd ["thing"] (spP Z K 1 (gGood .va)) := by
  have sc : FnScope ["thing", "fault", "path", "item"] ["thing"] (defScope sNeed) := ⟨rfl, rfl, rfl, by decide +kernel, rfl, by decide +kernel, by decide +kernel⟩
  refine fn_pure F sc rfl (gGood_out fun _ => rfl) fun cdv A outer s H E b ds r hr hl hg => ?_
  obtain ⟨d, rfl, ⟨hs, hf⟩, rfl⟩ := gGood_one hg
  refine sv_set 1 (ev_callP D1 hr (eva_cons (ev_var 0 rfl (eva_nil ⟨_, _, rfl, rfl, gFault_of hs, _, rfl, ?_⟩)))) sc.nd
  refine sv_if (et_notN (ev_var 1 rfl ⟨_, rfl, ?_⟩))
  rw [hf]
  exact sv_nil (sv_ret (ev_var 0 rfl ⟨rfl, rfl, rfl⟩))
end
end G
set_option Elab.async false
set_option linter.all false
set_option maxRecDepth 100000
set_option maxHeartbeats 4000000
namespace G
open PySem PySem.Spec PyProof.Rows L2 PD
/-! ### _below -/
def belowG (p : List D) : D → D
  | .tup [k, c] => .tup [.tup (p ++ [k]), c]
  | d => d
def belowT : D → Bool
  | .tup [_, c] => begins "element" c
  | _ => false
theorem below_eq (p : List D) : ∀ (cs : List D) (k : Nat), ((enumD k cs).filter belowT).map (belowG p) = (elemsAt p k cs).map pairD
  | [], _ => rfl
  | c :: cs, k => by
    rw [enumD, elemsAt, List.filter_cons, show belowT (.tup [.int (k : Nat), c]) = begins "element" c from rfl]
    cases begins "element" c with
    | true => simp only [if_true, List.map_cons, below_eq p cs (k + 1)]; rfl
    | false => simp only [Bool.false_eq_true, if_false]; exact below_eq p cs (k + 1)
theorem below_rev (p : List D) (cs : List D) : (((enumD 0 cs).reverse.filter belowT).map (belowG p)) = stD (elemsAt p 0 cs) := by
  rw [List.filter_reverse, List.map_reverse, below_eq]
  simp [stD]
theorem enumD_mem : ∀ {cs : List D} {k : Nat} {x : D}, x ∈ enumD k cs → ∃ j c, x = .tup [.int (j : Nat), c] ∧ c ∈ cs
  | c :: cs, k, x, h => by
    rcases List.mem_cons.mp h with rfl | h
    · exact ⟨k, c, rfl, List.mem_cons_self⟩
    · obtain ⟨j, c', e, hm⟩ := enumD_mem h
      exact ⟨j, c', e, List.mem_cons_of_mem _ hm⟩
theorem gBelow_one {ds : List D} {r : Res} (h : gBelow ds = some r) : ∃ p k n de at_ cs, ds = [.tup p, .tup [k, n, de, at_, .tup cs]] ∧ sm (.tup cs) = true ∧ p.length ≤ 100 ∧ r = .ow (stD (elemsAt p 0 cs)) := by
  unfold gBelow at h
  split at h
  · split at h
    · rename_i q
      cases h; exact ⟨_, _, _, _, _, _, rfl, q.1, q.2, rfl⟩
    · cases h
  · cases h
section
variable {P : Program} {w : World} {K : PySem.W.Frag} {mg : Str → Option Value} {base : Heap} {Z : Vol} {f : Addr} {fd : FuncData}
abbrev sBelow : Stmt := st__below
theorem ok_below (F : Fun K "_below" "_below" sBelow f fd) (T : Cst mg) (D1 : DElem P w K mg base Z) : FnOk P w K mg base CX0 3 f fd ["path", "element"] (spP Z K 2 gBelow) := by
  have sc : FnScope ["path", "element", "number", "child"] ["path", "element"] (defScope sBelow) := ⟨rfl, rfl, rfl, by decide +kernel, rfl, by decide +kernel, by decide +kernel⟩
  refine fn_pure F sc rfl gBelow_out fun cdv A outer s H E b ds r hr hl hg => ?_
  obtain ⟨p, k, n, de, at_, cs, rfl, hs, hp, rfl⟩ := gBelow_one hg
  have b0 := T.blt (cxOf CX0 P w K mg base ["path", "element", "number", "child"] "_below" (defScope sBelow) f cdv A outer s H E).nox rfl
  refine sv_ret (ev_filt (.tp [.nm 2, .nm 3]) [("number", 2), ("child", 3)] belowT (belowG p) rfl sc.nd (blkOk_by (N := ["path", "element", "number", "child"]) (sc := defScope sBelow) (by decide +kernel)) (fun _ _ _ _ _ => pg_tup rfl (pgs_cons (pg_name (i := 2) sc.nd rfl (Or.inl rfl)) (pgs_cons (pg_name (i := 3) sc.nd rfl (Or.inl rfl)) pgs_nil))) (by simp [Pat.slots, slotsAll])
    (eic_rev b0 (ev_listEn b0 rfl (ev_ix (ev_var 1 rfl (ev_int ⟨_, _, _, .inl rfl, rfl, atN (j := 4) rfl, _, rfl, _, rfl, ?_⟩))))))
  refine ⟨?_, fun x hx => ?_, rfl, rfl, ?_⟩
  · rw [List.length_reverse, enumD_len]
    exact Nat.le_trans (sm_tup hs).1 (by decide)
  · obtain ⟨j, c, rfl, hc⟩ := enumD_mem (List.mem_reverse.mp hx)
    refine ⟨_, rfl, fun s H Cc cl fp => ?_, fun ht s H Cc cl fp => ?_⟩
    · exact et_val (ev_callP D1 hr (eva_cons (ev_var 3 rfl (eva_nil ⟨_, _, rfl, rfl, gB_of (kids_sm hs hc), _, rfl, rfl, rfl⟩))))
    · refine ev_tup (eva_cons (ev_cat (ev_var 0 rfl (ev_tup (eva_cons (ev_var 2 rfl (eva_nil ⟨_, rfl, by simp, _, _, rfl, rfl, ?_, ?_⟩)))))))
      · simp
        omega
      · exact eva_cons (ev_var 3 rfl (eva_nil ⟨_, rfl, by simp, rfl, rfl⟩))
  · rw [below_rev]
end
end G
set_option Elab.async false
set_option linter.all false
set_option maxRecDepth 100000
set_option maxHeartbeats 4000000
namespace G
open PySem PySem.Spec PyProof.Rows L2 PD
theorem nodupB_iff [DecidableEq α] : ∀ xs : List α, nodupB xs = true ↔ xs.Nodup
  | [] => by simp [nodupB]
  | x :: xs => by
    rw [nodupB, Bool.and_eq_true, nodupB_iff xs, List.nodup_cons]
    simp
theorem cnt_B [DecidableEq α] (xs : List α) {n : Nat} (hn : xs.length = n) : decide ((cnt xs : Int) = (n : Int)) = nodupB xs := by
  subst hn
  cases e : nodupB xs with
  | true => exact decide_eq_true (by rw [(cnt_nodup xs).mpr ((nodupB_iff xs).mp e)])
  | false =>
    refine decide_eq_false fun z => ?_
    have : cnt xs = xs.length := by omega
    rw [(nodupB_iff xs).mpr ((cnt_nodup xs).mp this)] at e
    cases e
theorem decl_tup {d : D} (h : isDecl d = true) : ∃ x c, d = .tup [.str x, c] := by
  unfold isDecl at h
  split at h
  · rename_i a c
    rw [Bool.and_eq_true] at h
    have h1 : (mdo letters 0 8 a && !isText "xmlns" a) = true := h.1
    rw [Bool.and_eq_true] at h1
    obtain ⟨x, rfl⟩ := mdo_str h1.1
    exact ⟨x, c, rfl⟩
  · cases h
theorem name_tup {d : D} (h : isName d = true) : ∃ x y, d = .tup [.str x, .str y] := by
  unfold isName at h
  split at h
  · rename_i a c
    rw [Bool.and_eq_true] at h
    have h1 : (mdo letters 0 8 a && !isText "xmlns" a) = true := h.1
    have h2 : (mdo letters 1 8 c && !isText "xmlns" c) = true := h.2
    rw [Bool.and_eq_true] at h1 h2
    obtain ⟨x, rfl⟩ := mdo_str h1.1
    obtain ⟨y, rfl⟩ := mdo_str h2.1
    exact ⟨x, y, rfl⟩
  · cases h
theorem attr_tup {d : D} (h : isAttr d = true) : ∃ x y c, d = .tup [.tup [.str x, .str y], c] := by
  unfold isAttr at h
  split at h
  · rename_i a c
    rw [Bool.and_eq_true] at h
    obtain ⟨x, y, rfl⟩ := name_tup h.1
    exact ⟨x, y, c, rfl⟩
  · cases h
theorem nodupB_inj [DecidableEq α] [DecidableEq β] {j : α → β} (hj : ∀ x y, j x = j y → x = y) : ∀ xs : List α, nodupB (xs.map j) = nodupB xs
  | [] => rfl
  | x :: xs => by
    rw [List.map_cons, nodupB, nodupB, nodupB_inj hj xs]
    congr 2
    refine decide_eq_decide.mpr ⟨fun h => ?_, fun h => List.mem_map.mpr ⟨x, h, rfl⟩⟩
    obtain ⟨y, hy, e⟩ := List.mem_map.mp h
    rw [← hj _ _ e]
    exact hy
def pairL (p : Str × Str) : List Str := [p.1, p.2]
theorem pairL_inj : ∀ x y, pairL x = pairL y → x = y := fun x y h => by
  simp only [pairL, List.cons.injEq] at h
  exact Prod.ext h.1 h.2.1
section
variable {P : Program} {w : World} {K : PySem.W.Frag} {mg : Str → Option Value} {base : Heap} {Z : Vol} {f : Addr} {fd : FuncData}
abbrev sDecls : Stmt := st__are_declarations
theorem ok_decls (F : Fun K "_are_declarations" "_are_declarations" sDecls f fd) (T : Cst mg) (D1 : DB P w K mg base Z "_is_declaration" 3 isDecl) : FnOk P w K mg base CX0 4 f fd ["thing"] (spP Z K 1 (gF 50 areDecls)) := by
  have sc : FnScope ["thing", "one", "prefix", "_"] ["thing"] (defScope sDecls) := ⟨rfl, rfl, rfl, by decide +kernel, rfl, by decide +kernel, by decide +kernel⟩
  refine fn_pure F sc rfl gF_out fun cdv A outer s H E b ds r hr hl hg => ?_
  obtain ⟨d, rfl, hs, hfew, rfl⟩ := gF_one hg
  have b0 := T.blt (cxOf CX0 P w K mg base ["thing", "one", "prefix", "_"] "_are_declarations" (defScope sDecls) f cdv A outer s H E).nox rfl
  refine sv_if (et_pw (ew_or (et_not (et_val (ev_isi (t := "tuple") b0 b0.tuple (by decide +kernel) (ev_var 0 rfl ⟨_, isi_t d, _, rfl, ?_⟩))))))
  cases d with
  | tup ds =>
    have hlen : ds.length ≤ 50 := by simpa [few] using hfew
    refine ew_or1 (et_not (et_val (ev_all rfl b0 (ev_map (.nm 1) [("one", 1)] (fun d => .bl (isDecl d)) rfl sc.nd (blkOk_by (N := ["thing", "one", "prefix", "_"]) (sc := defScope sDecls) (by decide +kernel)) (fun _ _ _ _ _ => pg_name (i := 1) sc.nd rfl (Or.inl rfl)) (by simp [Pat.slots]) (EI.c (ei_tup (ev_var 0 rfl ⟨ds, rfl, ?_⟩)))))))
    refine ⟨Nat.le_trans hlen (by decide), fun d hd => ⟨_, rfl, fun _ _ _ _ _ => ev_callP D1 hr (eva_cons (ev_var 1 rfl (eva_nil ⟨_, _, rfl, rfl, gB_of (kids_sm hs hd), rfl, rfl⟩)))⟩, ds.map isDecl, by simp only [Res.seq, List.map_map]; rfl, _, rfl, ?_⟩
    have eall : (ds.map isDecl).all id = ds.all isDecl := by rw [List.all_map]; rfl
    rw [eall]
    cases ea : ds.all isDecl with
    | false => exact sv_ret (ev_bl ⟨rfl, rfl, by simp only [areDecls, ea, Bool.false_and]⟩)
    | true =>
      refine sv_nil ?_
      refine sv_ret (ev_eq (ev_lenSC (textD _) (.tp [.nm 2, .nm 3]) [("prefix", 2), ("_", 3)] (fun d => strOf (fstOf d)) rfl sc.nd (blkOk_by (N := ["thing", "one", "prefix", "_"]) (sc := defScope sDecls) (by decide +kernel)) (fun _ _ _ _ _ => pg_tup rfl (pgs_cons (pg_name (i := 2) sc.nd rfl (Or.inl rfl)) (pgs_cons (pg_name (i := 3) sc.nd rfl (Or.inl rfl)) pgs_nil))) (by simp [Pat.slots, slotsAll]) b0 (EI.c (ei_tup (ev_var 0 rfl ⟨ds, rfl, ?_⟩)))))
      refine ⟨Nat.le_trans hlen (show 50 ≤ 4000 by decide), by omega, fun d hd => ?_, ev_len b0 (ev_var 0 rfl ⟨_, .tup, _, _, _, rfl, rfl, rfl, rfl, rfl, ?_⟩)⟩
      · obtain ⟨x, c, rfl⟩ := decl_tup (List.all_eq_true.mp ea d hd)
        exact ⟨_, rfl, fun s H Cc cl fp => ev_var 2 rfl ⟨rfl, rfl⟩⟩
      · simp only [areDecls, ea, Bool.true_and]
        exact congrArg (fun k => Res.va (.bl k)) (cnt_B (ds.map fun d => strOf (fstOf d)) (List.length_map _))
  | obj t a =>
    cases t with
    | unit => exact nomatch hs
    | _ => exact sv_ret (ev_bl ⟨rfl, rfl, rfl⟩)
  | _ => exact sv_ret (ev_bl ⟨rfl, rfl, rfl⟩)
abbrev sAttrs : Stmt := st__are_attributes
theorem ok_attrs (F : Fun K "_are_attributes" "_are_attributes" sAttrs f fd) (T : Cst mg) (D1 : DB P w K mg base Z "_is_attribute" 4 isAttr) : FnOk P w K mg base CX0 5 f fd ["thing"] (spP Z K 1 (gF 4 areAttrs)) := by
  have sc : FnScope ["thing", "one", "name", "_"] ["thing"] (defScope sAttrs) := ⟨rfl, rfl, rfl, by decide +kernel, rfl, by decide +kernel, by decide +kernel⟩
  refine fn_pure F sc rfl gF_out fun cdv A outer s H E b ds r hr hl hg => ?_
  obtain ⟨d, rfl, hs, hfew, rfl⟩ := gF_one hg
  have b0 := T.blt (cxOf CX0 P w K mg base ["thing", "one", "name", "_"] "_are_attributes" (defScope sAttrs) f cdv A outer s H E).nox rfl
  refine sv_if (et_pw (ew_or (et_not (et_val (ev_isi (t := "tuple") b0 b0.tuple (by decide +kernel) (ev_var 0 rfl ⟨_, isi_t d, _, rfl, ?_⟩))))))
  cases d with
  | tup ds =>
    have hlen : ds.length ≤ 4 := by simpa [few] using hfew
    refine ew_or1 (et_not (et_val (ev_all rfl b0 (ev_map (.nm 1) [("one", 1)] (fun d => .bl (isAttr d)) rfl sc.nd (blkOk_by (N := ["thing", "one", "name", "_"]) (sc := defScope sAttrs) (by decide +kernel)) (fun _ _ _ _ _ => pg_name (i := 1) sc.nd rfl (Or.inl rfl)) (by simp [Pat.slots]) (EI.c (ei_tup (ev_var 0 rfl ⟨ds, rfl, ?_⟩)))))))
    refine ⟨Nat.le_trans hlen (by decide), fun d hd => ⟨_, rfl, fun _ _ _ _ _ => ev_callP D1 hr (eva_cons (ev_var 1 rfl (eva_nil ⟨_, _, rfl, rfl, gB_of (kids_sm hs hd), rfl, rfl⟩)))⟩, ds.map isAttr, by simp only [Res.seq, List.map_map]; rfl, _, rfl, ?_⟩
    have eall : (ds.map isAttr).all id = ds.all isAttr := by rw [List.all_map]; rfl
    rw [eall]
    cases ea : ds.all isAttr with
    | false => exact sv_ret (ev_bl ⟨rfl, rfl, by simp only [areAttrs, ea, Bool.false_and]⟩)
    | true =>
      refine sv_nil ?_
      refine sv_ret (ev_eq (ev_lenSC (keyD _ (hu_of hr)) (.tp [.nm 2, .nm 3]) [("name", 2), ("_", 3)] (fun d => pairL (nameOf (fstOf d))) rfl sc.nd (blkOk_by (N := ["thing", "one", "name", "_"]) (sc := defScope sAttrs) (by decide +kernel)) (fun _ _ _ _ _ => pg_tup rfl (pgs_cons (pg_name (i := 2) sc.nd rfl (Or.inl rfl)) (pgs_cons (pg_name (i := 3) sc.nd rfl (Or.inl rfl)) pgs_nil))) (by simp [Pat.slots, slotsAll]) b0 (EI.c (ei_tup (ev_var 0 rfl ⟨ds, rfl, ?_⟩)))))
      refine ⟨Nat.le_trans hlen (show 4 ≤ 4 by decide), by omega, fun d hd => ?_, ev_len b0 (ev_var 0 rfl ⟨_, .tup, _, _, _, rfl, rfl, rfl, rfl, rfl, ?_⟩)⟩
      · obtain ⟨x, y, c, rfl⟩ := attr_tup (List.all_eq_true.mp ea d hd)
        exact ⟨_, rfl, fun s H Cc cl fp => ev_var 2 rfl ⟨rfl, rfl⟩⟩
      · have e1 : (ds.map fun d => pairL (nameOf (fstOf d))) = (ds.map fun d => nameOf (fstOf d)).map pairL := by rw [List.map_map]; rfl
        have e2 := cnt_B (ds.map fun d => pairL (nameOf (fstOf d))) (List.length_map _)
        rw [e1, nodupB_inj pairL_inj, ← e1] at e2
        simp only [areAttrs, ea, Bool.true_and]
        exact congrArg (fun k => Res.va (.bl k)) e2
  | obj t a =>
    cases t with
    | unit => exact nomatch hs
    | _ => exact sv_ret (ev_bl ⟨rfl, rfl, rfl⟩)
  | _ => exact sv_ret (ev_bl ⟨rfl, rfl, rfl⟩)
end
end G
set_option Elab.async false
set_option linter.all false
set_option maxRecDepth 100000
set_option maxHeartbeats 4000000
namespace G
open PySem PySem.Spec PyProof.Rows L2 PD
theorem sm_kids {d : D} (h : sm d = true) : ∀ c ∈ kidsOf d, sm c = true := by
  intro c hc
  unfold kidsOf at hc
  split at hc
  · exact sm_mem (sm_tup (sm_mem (sm_tup h).2 (by simp))).2 hc
  · exact nomatch hc
theorem pre_sm : ∀ (n : Nat) (p : List D) (d : D), sizeOf d ≤ n → sm d = true → ∀ q ∈ pre p d, sm q.2 = true
  | 0, p, d, hn, _, _, _ => by cases d <;> simp at hn
  | n + 1, p, d, hn, hs, q, hq => by
    rw [pre_eq] at hq
    rcases List.mem_cons.mp hq with rfl | hq
    · exact hs
    · obtain ⟨r, hr, hq⟩ := List.mem_flatMap.mp hq
      have hm := elemsAt_mem p _ 0 r hr
      have h1 := elemsAt_size p 0 _ r hr
      have h2 := kids_lt d (fun z => by rw [z] at hm; cases hm)
      exact pre_sm n r.1 r.2 (by omega) (sm_kids hs _ hm) q hq
theorem fw_mem : ∀ {l : List (List D × D)} {n : Nat}, fw n l = none → ∀ q ∈ l, wrongItem q.2 = none
  | (p, d) :: r, n, h, q, hq => by
    obtain ⟨_, _, h1, h2⟩ := fw_cons h
    rcases List.mem_cons.mp hq with rfl | hq
    · exact h1
    · exact fw_mem h2 q hq
theorem holes_str {cs : List D} (hk : kidsOk false cs = true) : holeStrs cs = ((holeStrs cs).map strOf).map D.str := by
  rw [holeStrs_eq, List.map_map, List.map_map]
  refine List.map_congr_left fun d hd => ?_
  obtain ⟨h1, h2⟩ := List.mem_filter.mp hd
  obtain ⟨x, rfl⟩ := kids_hole hk d h1 h2
  rfl
theorem cnt_lt [DecidableEq α] (xs : List α) {n : Nat} (hn : xs.length = n) : decide ((cnt xs : Int) < (n : Int)) = !nodupB xs := by
  subst hn
  have h1 := cnt_le xs
  cases e : nodupB xs with
  | true =>
    have := (cnt_nodup xs).mpr ((nodupB_iff xs).mp e)
    exact decide_eq_false (by omega)
  | false =>
    refine decide_eq_true ?_
    have : cnt xs ≠ xs.length := fun z => by
      rw [(nodupB_iff xs).mpr ((cnt_nodup xs).mp z)] at e
      cases e
    omega
theorem holesIn_cons (q : List D × D) (l : List (List D × D)) : holesIn (q :: l) = (holeStrs (kidsOf q.2)).length + holesIn l := by simp [holesIn]
theorem gFH_out : ∀ (ds : List D) (r : Res), gFH ds = some r → r.out = true := by
  intro ds r h
  unfold gFH at h
  split at h
  · split at h
    · cases h; rfl
    · cases h
  · cases h
theorem gFH_one {ds : List D} {r : Res} (h : gFH ds = some r) : ∃ d, ds = [d] ∧ sm d = true ∧ fw 0 (pre [] d) = none ∧ holesIn (pre [] d) ≤ 1000 ∧ r = .va (faultD (fh [] (pre [] d))) := by
  unfold gFH at h
  split at h
  · split at h
    · rename_i q
      cases h; exact ⟨_, rfl, q.1, q.2.1, q.2.2, rfl⟩
    · cases h
  · cases h
section
variable {P : Program} {w : World} {K : PySem.W.Frag} {mg : Str → Option Value} {base : Heap} {Z : Vol} {f : Addr} {fd : FuncData}
abbrev sFH : Stmt := st__first_hole_again
theorem ok_fh (F : Fun K "_first_hole_again" "_first_hole_again" sFH f fd) (T : Cst mg) (D1 : Df P w K mg base "walk" 4 ["part"] (spP Z K 1 gWalk)) (D2 : Df P w K mg base "holes_among" 2 ["children"] (spP Z K 1 gHoles)) :
    FnOk P w K mg base CX0 5 f fd ["part"] (spP Z K 1 gFH) := by
  have sc : FnScope ["part", "told", "path", "element"] ["part"] (defScope sFH) := ⟨rfl, rfl, rfl, by decide +kernel, rfl, by decide +kernel, by decide +kernel⟩
  refine fn_pure F sc rfl gFH_out fun cdv A outer s H E b ds r hr hl hg => ?_
  obtain ⟨d, rfl, hs, hfw, hh, rfl⟩ := gFH_one hg
  have b0 := T.blt (cxOf CX0 P w K mg base ["part", "told", "path", "element"] "_first_hole_again" (defScope sFH) f cdv A outer s H E).nox rfl
  refine sv_set 1 (ev_lst (eva_nil ⟨[], rfl, by decide, _, rfl, ?_⟩)) sc.nd
  refine sv_for (.tp [.nm 2, .nm 3]) rfl PassesOwn.never (pg_tup rfl (pgs_cons (pg_name (i := 2) sc.nd rfl (Or.inl rfl)) (pgs_cons (pg_name (i := 3) sc.nd rfl (Or.inl rfl)) pgs_nil)))
    (ei_list (ev_callP D1 hr (eva_cons (ev_var 0 rfl (eva_nil ⟨_, _, rfl, rfl, if_pos ⟨hs, hfw⟩, _, .inl rfl, ?_⟩)))))
  refine ⟨fun prf b2 δ2 => b2 = b ∧ ∃ (done rest : List (List D × D)) (told : List Str) (s2 s3 : Sl), δ2 = [.va d, .ow (told.map D.str), s2, s3] ∧ pre [] d = done ++ rest ∧ prf = done.map pairD ∧ fh [] (pre [] d) = fh told rest ∧ told.length + holesIn rest ≤ 1000, ⟨rfl, [], pre [] d, [], _, _, rfl, rfl, rfl, rfl, by simpa using hh⟩, ?_, ?_⟩
  · rintro prf x post b2 δ2 e ⟨rfl, done, rest, told, s2, s3, rfl, hp, rfl, hf, hlen⟩
    rw [hp, List.map_append] at e
    have e2 := List.append_cancel_left e
    cases rest with
    | nil => cases e2
    | cons q rest =>
      rw [List.map_cons, List.cons.injEq] at e2
      obtain ⟨rfl, rfl⟩ := e2
      have hq : q ∈ pre [] d := by rw [hp]; simp
      obtain ⟨p, el⟩ := q
      have hse := pre_sm _ [] d (Nat.le_refl _) hs _ hq
      obtain ⟨n, de, at_, cs, rfl, _, _, _, hk⟩ := wrong_none (fw_mem hfw _ hq)
      have hsc : sm (.tup cs) = true := sm_mem (sm_tup hse).2 (by simp)
      have hkids : kidsOf (.tup [.str "element", n, de, at_, .tup cs]) = cs := rfl
      rw [holesIn_cons, hkids] at hlen
      refine ⟨_, rfl, ?_⟩
      refine sv_extend 1 rfl (ev_callP D2 (hr.mono (by decide)) (eva_cons (ev_ix (ev_var 3 rfl (ev_int ⟨_, _, _, .inl rfl, rfl, atN (j := 4) rfl, eva_nil ⟨_, _, rfl, rfl, gHoles_of hsc hk, _, _, rfl, rfl, ?_, ?_⟩⟩)))))
      · rw [List.length_map]; omega
      have et : told.map D.str ++ holeStrs cs = (told ++ (holeStrs cs).map strOf).map D.str := by
        rw [List.map_append, ← holes_str hk]
      rw [et]
      have hl2 : (told ++ (holeStrs cs).map strOf).length ≤ 4000 := by rw [List.length_append, List.length_map]; omega
      refine sv_if (et_ord op_lt (nomark _) (ev_lenSet b0 rfl (ev_varO 1 rfl ⟨_, rfl, hl2, ev_len b0 (ev_varO 1 rfl ⟨_, .seq rfl, _, _, rfl, rfl, ?_⟩)⟩)))
      rw [cnt_lt _ (by rw [List.length_map])]
      cases en : nodupB (told ++ (holeStrs cs).map strOf) with
      | false =>
        refine sv_ret (ev_tup (eva_cons (ev_var 2 rfl (eva_cons (ev_str (eva_nil ⟨_, rfl, by simp, rfl, rfl, ?_⟩))))))
        rw [hf]
        simp only [fh, hkids, en, Bool.false_eq_true, if_false]
        rfl
      | true =>
        refine sv_nil (sv_nil ⟨rfl, done ++ [(p, _)], rest, told ++ (holeStrs cs).map strOf, .va (.tup p), .va (.tup [.str "element", n, de, at_, .tup cs]), rfl, by rw [hp, List.append_assoc]; rfl, by rw [List.map_append]; rfl, ?_, ?_⟩)
        · rw [hf]
          simp only [fh, hkids, en, if_true]
        · rw [List.length_append, List.length_map]; omega
  · rintro b2 δ2 ⟨rfl, done, rest, told, s2, s3, rfl, hp, e, hf, _⟩
    have hr0 : rest = [] := by
      have h1 := congrArg List.length e
      rw [List.length_map, List.length_map, hp, List.length_append] at h1
      exact List.eq_nil_of_length_eq_zero (by omega)
    subst hr0
    exact sv_ret (ev_non ⟨rfl, rfl, by rw [hf]; rfl⟩)
end
end G
set_option Elab.async false
set_option linter.all false
set_option maxRecDepth 100000
set_option maxHeartbeats 4000000
namespace PD
open PySem PySem.Spec PyProof.Rows L2
/-! ### name = [..]: the comprehension's reading by itself -/
section
variable {C : Cn} {b : Nat} {δ : List Sl} {P : Nat → Res → Prop} {tg iter elt c e : Expr} {ifs : List Expr} {pos spos p0 : Pos} {scope : Scope} {F : Fin} {rest : List Stmt}
/-- what a comprehension has to say of its items (PD.ev_lc) -/
def Lc (C : Cn) (b : Nat) (δ : List Sl) (p : Pat) (own : List (Str × Nat)) (scope : Scope) (tg iter elt : Expr) (ifs : List Expr) (P : Nat → Res → Prop) : Prop :=
  EIc C b δ tg iter (fun b1 ds => ds.length ≤ 16000000 ∧ ∃ Iv : Nat → List D → List D → Prop, Iv b1 [] [] ∧
      (∀ (pre : List D) (d : D) (post acc : List D) (b2 : Nat), ds = pre ++ d :: post → Iv b2 pre acc →
        ∃ δ', bindP p d (wipeD δ (own.map (·.2))) = some δ' ∧ ∀ (s : Shared) (H : Hp) (Cc : Addr) (cl : List (Str × Addr)) (fp : List Addr), ETs (C.blk s H scope (compEnvC scope cl Cc C.X.env) fp) b2 δ' ifs fun b3 k =>
          if k = true then ∀ (s : Shared) (H : Hp) (Cc : Addr) (cl : List (Str × Addr)) (fp : List Addr), EV (C.blk s H scope (compEnvC scope cl Cc C.X.env) fp) b3 δ' elt (fun b4 r => ∃ y, r = .va y ∧ Iv b4 (pre ++ [d]) (acc ++ [y])) else Iv b3 (pre ++ [d]) acc) ∧
      ∀ b2 acc, Iv b2 ds acc → P b2 (.ow acc))
theorem lc_sem (p : Pat) (own : List (Str × Nat)) (hp : ∀ i ∈ p.slots, i ∈ own.map (·.2)) (h : Lc C b δ p own scope tg iter elt ifs P) {os : List Addr} {σ : L2.St} {H : Hp} (st : Sts C os b δ σ H) {Q : VK}
    (q : ∀ v H' b' r, Fr C.Z.S H H' → C.Z.J b' H' → RV C.K C.Z os H H' v r → P b' r → Q v H') : tLc (WI C.X tg iter) (gPat C.X.K p) (WTsb C.X scope ifs) (WEb C.X scope elt) (own.map (·.2)) σ H Q := by
  refine h os σ H st _ fun J H1 b1 ds f1 j1 W hh => ?_
  obtain ⟨hl, Iv, i0, step, last⟩ := hh
  intro D0 hD
  have nsD : ¬ C.Z.S D0 := snew j1 hD
  -- the state at turn i: i items gone through, the list so far
  refine ⟨fun i m H2 => m = ds.length - i ∧ i ≤ ds.length ∧ ∃ b2 acc xs, Fr C.Z.S H1 H2 ∧ C.Z.J b2 H2 ∧ Iv b2 (ds.take i) acc ∧ acc.length ≤ i ∧ H2 D0 = some (.lst xs) ∧ RpA C.K H2 xs acc, ⟨ds.length, ?_⟩, ?_⟩
  · exact ⟨by omega, Nat.zero_le _, b1, [], [], Fr.new hD, jnew j1 hD, by simpa using i0, Nat.le_refl _, upd_same, .nil⟩
  · rintro i m H2 ⟨rfl, hi, b2, acc, xs, f2, j2, iv, la, hD2, ra⟩
    by_cases hlt : i < ds.length
    · obtain ⟨go, item⟩ := W.go H2 f2 i hlt
      refine .inr ⟨go, fun H' => ∃ b2 acc xs, Fr C.Z.S H1 H' ∧ C.Z.J b2 H' ∧ Iv b2 (ds.take (i + 1)) acc ∧ acc.length ≤ i + 1 ∧ H' D0 = some (.lst xs) ∧ RpA C.K H' xs acc, fun H' z => ⟨ds.length - (i + 1), by omega, rfl, hlt, z⟩, fun x H3 y => ?_⟩
      obtain ⟨f3, d, hd, rx⟩ := item x H3 y
      have f3' : Fr C.Z.S H2 H3 := f3.wide fun _ z => z.elim
      have j3 : C.Z.J b2 H3 := C.Z.stay _ _ _ j2 (f3.wide fun _ z => z.elim)
      have eds : ds = ds.take i ++ d :: ds.drop (i + 1) := by
        obtain ⟨hh, e⟩ := List.getElem?_eq_some_iff.mp hd
        rw [← e, ← List.drop_eq_getElem_cons hh, List.take_append_drop]
      have etk : ds.take (i + 1) = ds.take i ++ [d] := by
        rw [List.take_succ, hd]
        rfl
      have st3 : Sts C os b2 (wipeD δ (own.map (·.2))) (wipe σ (own.map (·.2))) H3 := (st.on (f1.trans (f2.trans f3')) j3).wipe _
      obtain ⟨δ', hb, hstep⟩ := step (ds.take i) d (ds.drop (i + 1)) acc b2 eds iv
      obtain ⟨σ', st4, hw, hgo⟩ := bind_ok p rx st3 hb
      refine hgo _ ⟨by rw [hw _ hp, wipe_wipe], fun s0 H0 Cc cl fp => ?_⟩
      have ctx : ∀ s H Cc cl fp {b' δ' σ' H'}, Sts C os b' δ' σ' H' → Sts (C.blk s H scope (compEnvC scope cl Cc C.X.env) fp) os b' δ' σ' H' := fun s H Cc cl fp b' δ' σ' H' z => ⟨z.fr, z.j, z.new, z.sl⟩
      refine ets_w (hstep s0 H0 Cc cl fp) (ctx s0 H0 Cc cl fp st4) fun k H4 b3 f4 j4 hk => ?_
      have f4' : Fr C.Z.S H3 H4 := f4
      have D4 : H4 D0 = some (.lst xs) := f4'.keep nsD (f3'.keep nsD hD2)
      cases k with
      | false => exact ⟨b3, acc, xs, f2.trans (f3'.trans f4'), j4, by rw [etk]; exact hk, by omega, D4, (ra.fr f3').fr f4'⟩
      | true =>
        show WEb C.X scope elt σ' H4 _
        intro s5 H5 Cc5 cl5 fp5
        refine hk s5 H5 Cc5 cl5 fp5 os σ' H4 (ctx s5 H5 Cc5 cl5 fp5 (st4.on f4' j4)) _ fun v H6 b4 r f6 j6 rv hy => ?_
        obtain ⟨y, rfl, iv'⟩ := hy
        cases rv with | va rv => ?_
        have f6' : Fr C.Z.S H4 H6 := f6
        have D6 : H6 D0 = some (.lst xs) := f6'.keep nsD D4
        have fD : Fr (fun a => a = D0) H6 (upd H6 D0 (.lst (xs ++ [v]))) := Fr.put rfl D6
        have ra6 : RpA C.K H6 xs acc := ((ra.fr f3').fr f4').fr f6'
        have n1 : H1 D0 = none := hD
        refine ⟨xs, D6, by rw [ra6.len]; exact Nat.lt_of_lt_of_le (show acc.length < 16000001 by omega) (by decide), b4, acc ++ [y], xs ++ [v], ?_, ?_, by rw [etk]; exact iv', by simp; omega, upd_same, (ra6.append (.cons rv .nil)).fr fD⟩
        · intro a o ea
          have ne : a ≠ D0 := ne_of_none ea n1
          rcases (f2.trans (f3'.trans (f4'.trans f6'))) a o ea with z | z
          · exact .inl (by rw [upd_ne ne]; exact z)
          · obtain ⟨m, q, z1, z2⟩ := z
            exact .inr ⟨m, q, by rw [upd_ne ne]; exact z1, z2⟩
        · exact C.Z.stay _ _ _ j6 (Fr.putL nsD D6 .l)
    · have e : i = ds.length := by omega
      subst e
      rw [List.take_length] at iv
      exact .inl ⟨W.stop H2 f2 _ (Nat.le_refl _), q _ H2 b2 _ (f1.trans f2) j2 (.ow (f1.back hD) hD2 nsD ra) (last b2 acc iv)⟩
/-- name = [..] on one line, the name a local -/
theorem sv_setLc (i : Nat) {y : Str} (p : Pat) (own : List (Str × Nat)) (hc : C.X.calm = true) (hN : C.X.N.Nodup) (ok : BlkOk C.X.N C.X.env.scope scope own)
    (hg : ∀ (s : Shared) (H : Hp) (Cc : Addr) (cl : List (Str × Addr)) (fp : List Addr), PG (C.X.blk s H scope (compEnvC scope cl Cc C.X.env) fp) tg (gPat C.X.K p))
    (hp : ∀ i ∈ p.slots, i ∈ own.map (·.2)) (h : Lc C b δ p own scope tg iter elt ifs (fun b1 r => ∃ s, r.sl = some s ∧ SV C b1 (δ.set i s) rest F))
    (hy : C.X.N[i]? = some y := by rfl) (hyl : C.X.env.scope.names.lookup y = some .local := by rfl)
    (hsw : swapsWith (.ListComp elt [⟨tg, iter, ifs, 0⟩] scope pos) (some (.Name y p0)) spos.line C.X.env = pure true := by rfl)
    (hs : ∀ x, foldedSetIterable iter C.X.env x = pure x := by intro _; rfl) : SV C b δ (.Assign [.Name y p0] (.ListComp elt [⟨tg, iter, ifs, 0⟩] scope pos) spos :: rest) F := by
  intro os σ H st D ed
  refine WSs.of (pss_cons (ps_setLc hc hN hy hyl hsw piW ok hg (fun s H Cc cl fp => ptsWb s H Cc cl fp) (fun s H Cc cl fp => peWb s H Cc cl fp) hs) pssW) ?_
  unfold tSeq tAsg
  refine lc_sem p own hp h st fun v H1 b1 r f1 j1 rv hr => ?_
  obtain ⟨s, hs, q⟩ := hr
  obtain ⟨os', st', g⟩ := st.put (i := i) f1 j1 rv hs
  exact q os' _ H1 st' D (ed.on g)
/-- typed: [g x for x in xs if t x] -/
theorem lc_filtT {α : Type} (enc : α → D) (p : Pat) (own : List (Str × Nat)) (t : α → Bool) (g : α → D)
    (h : EIc C b δ tg iter (fun b1 ds => ∃ xs : List α, ds = xs.map enc ∧ xs.length ≤ 16000000 ∧ (∀ x ∈ xs, ∃ δ', bindP p (enc x) (wipeD δ (own.map (·.2))) = some δ' ∧
      (∀ (s : Shared) (H : Hp) (Cc : Addr) (cl : List (Str × Addr)) (fp : List Addr), ET (C.blk s H scope (compEnvC scope cl Cc C.X.env) fp) b1 δ' c (fun b3 k => b3 = b1 ∧ k = t x)) ∧
      (t x = true → ∀ (s : Shared) (H : Hp) (Cc : Addr) (cl : List (Str × Addr)) (fp : List Addr), EV (C.blk s H scope (compEnvC scope cl Cc C.X.env) fp) b1 δ' elt (fun b4 r => b4 = b1 ∧ r = .va (g x)))) ∧ P b1 (.ow ((xs.filter t).map g)))) :
    Lc C b δ p own scope tg iter elt [c] P := fun os σ H st R k => h os σ H st R fun J H1 b1 ds f j w hh => k J H1 b1 ds f j w (by
  obtain ⟨xs, rfl, hl, each, hP⟩ := hh
  refine ⟨by rw [List.length_map]; exact hl, fun b2 pre acc => b2 = b1 ∧ ∃ ps rs, xs = ps ++ rs ∧ pre = ps.map enc ∧ acc = (ps.filter t).map g, ⟨rfl, [], xs, rfl, rfl, rfl⟩, ?_, ?_⟩
  · rintro pre d post acc b2 e ⟨rfl, ps, rs, rfl, rfl, rfl⟩
    rw [List.map_append] at e
    have e2 := List.append_cancel_left e
    cases rs with
    | nil => cases e2
    | cons x rs =>
      rw [List.map_cons, List.cons.injEq] at e2
      obtain ⟨rfl, rfl⟩ := e2
      obtain ⟨δ', h1, h2, h3⟩ := each x (by simp)
      refine ⟨δ', h1, fun s H Cc cl fp => ?_⟩
      show ET _ _ _ _ _
      intro os1 σ1 H1 st1 Q1 k1
      refine h2 s H Cc cl fp os1 σ1 H1 st1 Q1 fun kk H2 b3 f3 j3 hk => k1 kk H2 b3 f3 j3 ?_
      obtain ⟨rfl, rfl⟩ := hk
      have nxt : ∀ b' acc', b' = b3 → acc' = ((ps ++ [x]).filter t).map g → (b' = b3 ∧ ∃ qs rs', ps ++ x :: rs = qs ++ rs' ∧ ps.map enc ++ [enc x] = qs.map enc ∧ acc' = (qs.filter t).map g) := fun b' acc' e1 e2 =>
        ⟨e1, ps ++ [x], rs, by simp, by simp, e2⟩
      cases ht : t x with
      | true =>
        refine if_pos rfl ▸ fun s H Cc cl fp => (h3 ht s H Cc cl fp).imp fun b' r z => ⟨_, z.2, nxt _ _ z.1 ?_⟩
        rw [List.filter_append, List.map_append, List.filter_cons, ht]
        rfl
      | false =>
        refine nxt _ _ rfl ?_
        rw [List.filter_append, List.map_append, List.filter_cons, ht]
        simp
  · rintro b2 acc ⟨rfl, ps, rs, e, e2, rfl⟩
    have hl := congrArg List.length e2
    rw [List.length_map, List.length_map, e, List.length_append] at hl
    have : rs = [] := List.eq_nil_of_length_eq_zero (by omega)
    subst this
    rw [List.append_nil] at e
    rw [← e]
    exact hP)
/-- typed: [g x for x in xs] -/
theorem lc_mapT {α : Type} (enc : α → D) (p : Pat) (own : List (Str × Nat)) (g : α → D)
    (h : EIc C b δ tg iter (fun b1 ds => ∃ xs : List α, ds = xs.map enc ∧ xs.length ≤ 16000000 ∧ (∀ x ∈ xs, ∃ δ', bindP p (enc x) (wipeD δ (own.map (·.2))) = some δ' ∧
      ∀ (s : Shared) (H : Hp) (Cc : Addr) (cl : List (Str × Addr)) (fp : List Addr), EV (C.blk s H scope (compEnvC scope cl Cc C.X.env) fp) b1 δ' elt (fun b4 r => b4 = b1 ∧ r = .va (g x))) ∧ P b1 (.ow (xs.map g)))) :
    Lc C b δ p own scope tg iter elt [] P := fun os σ H st R k => h os σ H st R fun J H1 b1 ds f j w hh => k J H1 b1 ds f j w (by
  obtain ⟨xs, rfl, hl, each, hP⟩ := hh
  refine ⟨by rw [List.length_map]; exact hl, fun b2 pre acc => b2 = b1 ∧ ∃ ps rs, xs = ps ++ rs ∧ pre = ps.map enc ∧ acc = ps.map g, ⟨rfl, [], xs, rfl, rfl, rfl⟩, ?_, ?_⟩
  · rintro pre d post acc b2 e ⟨rfl, ps, rs, rfl, rfl, rfl⟩
    rw [List.map_append] at e
    have e2 := List.append_cancel_left e
    cases rs with
    | nil => cases e2
    | cons x rs =>
      rw [List.map_cons, List.cons.injEq] at e2
      obtain ⟨rfl, rfl⟩ := e2
      obtain ⟨δ', h1, h3⟩ := each x (by simp)
      refine ⟨δ', h1, fun s H Cc cl fp => ?_⟩
      unfold ETs
      simp only [↓reduceIte]
      exact fun s H Cc cl fp => (h3 s H Cc cl fp).imp fun b' r z => ⟨_, z.2, z.1, ps ++ [x], rs, by simp, by simp, by simp⟩
  · rintro b2 acc ⟨rfl, ps, rs, e, e2, rfl⟩
    have hl := congrArg List.length e2
    rw [List.length_map, List.length_map, e, List.length_append] at hl
    have : rs = [] := List.eq_nil_of_length_eq_zero (by omega)
    subst this
    rw [List.append_nil] at e
    rw [← e]
    exact hP)
end
end PD
set_option Elab.async false
set_option linter.all false
set_option maxRecDepth 100000
set_option maxHeartbeats 4000000
namespace G
open PySem PySem.Spec PyProof.Rows L2 PD
section
variable {P : Program} {w : World} {K : PySem.W.Frag} {mg : Str → Option Value} {base : Heap} {Z : Vol} {f : Addr} {fd : FuncData}
/-! ### looked_up -/
/-- an element that is not too great -/
structure Fit (ds : List (Str × Str)) (as : List ((Str × Str) × Vl)) (cs : List Nd) : Prop where
  d : ds.length ≤ 50000
  a : as.length ≤ 50000
  c : cs.length ≤ 50000
def fitN : Nd → Prop
  | .el _ _ ds as cs => Fit ds as cs
  | _ => False
theorem one_inj (x y : Nd) (h : [x.d] = [y.d]) : x = y := nd_inj x y (by injection h)
theorem str_sc (x y : Str) : (D.str x).sc (.str y) = some (decide (x = y)) := rfl
def seenL (p : Str) (as : List ((Str × Str) × Vl)) : List Str := [p] ++ (as.filter fun q => !decide (q.1.1 = ("" : Str))).map fun q => q.1.1
noncomputable def gSeen : List D → Option Res := gT (fun x : Nd => [x.d]) fitN fun x => match x with
  | .el p _ _ as _ => .ow ((seenL p as).map D.str)
  | _ => .ow []
theorem gSeen_of {p l : Str} {ds : List (Str × Str)} {as : List ((Str × Str) × Vl)} {cs : List Nd} (h : Fit ds as cs) : gSeen [(Nd.el p l ds as cs).d] = some (.ow ((seenL p as).map D.str)) :=
  gT_of (enc := fun x : Nd => [x.d]) (x := Nd.el p l ds as cs) one_inj (show fitN (.el p l ds as cs) from h)
theorem gSeen_one {ds : List D} {r : Res} (h : gSeen ds = some r) : ∃ p l de as cs, ds = [(Nd.el p l de as cs).d] ∧ Fit de as cs ∧ r = .ow ((seenL p as).map D.str) := by
  obtain ⟨x, rfl, hx, rfl⟩ := gT_one h
  cases x with
  | el p l de as cs => exact ⟨p, l, de, as, cs, rfl, hx, rfl⟩
  | _ => exact hx.elim
abbrev DSeen (P : Program) (w : World) (K : PySem.W.Frag) (mg : Str → Option Value) (base : Heap) (Z : Vol) := Df P w K mg base "seen_in" 1 ["element"] (spP Z K 1 gSeen)
abbrev sSeen : Stmt := st_seen_in
theorem ok_seen (F : Fun K "seen_in" "seen_in" sSeen f fd) (T : Cst mg) : FnOk P w K mg base CX0 1 f fd ["element"] (spP Z K 1 gSeen) := by
  have sc : FnScope ["element", "name", "_"] ["element"] (defScope sSeen) := ⟨rfl, rfl, rfl, by decide +kernel, rfl, by decide +kernel, by decide +kernel⟩
  refine fn_pure F sc rfl (gT_out fun x hx => by cases x <;> rfl) fun cdv A outer s H E b ds r hr hl hg => ?_
  obtain ⟨p, l, de, as, cs, rfl, hf, rfl⟩ := gSeen_one hg
  have b0 := T.blt (cxOf CX0 P w K mg base ["element", "name", "_"] "seen_in" (defScope sSeen) f cdv A outer s H E).nox rfl
  have hd : (Nd.el p l de as cs).d = .tup [.str "element", nmD p l, .tup (de.map dclD), .tup (as.map atrD), .tup (ndsD cs)] := by rw [Nd.d]
  rw [hd]
  refine sv_ret (ev_catL (ev_lst (eva_cons (ev_ix (ev_ix (ev_var 0 rfl (ev_int ⟨_, _, _, .inl rfl, rfl, atN (j := 1) rfl, ev_int ⟨_, _, _, .inl rfl, rfl, at0, eva_nil ⟨_, rfl, by simp, ?_⟩⟩⟩)))))))
  refine ev_filtT atrD atrD_inj (.tp [.nm 1, .nm 2]) [("name", 1), ("_", 2)] (fun q => !decide (q.1.1 = ("" : Str))) (fun q => .str q.1.1) rfl sc.nd (blkOk_by (N := ["element", "name", "_"]) (sc := defScope sSeen) (by decide +kernel)) (fun _ _ _ _ _ => pg_tup rfl (pgs_cons (pg_name (i := 1) sc.nd rfl (Or.inl rfl)) (pgs_cons (pg_name (i := 2) sc.nd rfl (Or.inl rfl)) pgs_nil))) (by simp [Pat.slots, slotsAll])
    (EI.c (ei_tup (ev_ix (ev_var 0 rfl (ev_int ⟨_, _, _, .inl rfl, rfl, atN (j := 3) rfl, as.map atrD, rfl, as, rfl, Nat.le_trans hf.a (by decide), fun q hq => ⟨_, rfl, fun s H Cc cl fp => ?_, fun _ s H Cc cl fp => ?_⟩, _, _, rfl, rfl, ?_, rfl, rfl, ?_⟩)))))
  · exact et_ne (ev_ix (ev_var 1 rfl (ev_int ⟨_, _, _, .inl rfl, rfl, at0, ev_str ⟨_, _, _, rfl, rfl, str_sc _ _, rfl, rfl⟩⟩)))
  · exact ev_ix (ev_var 1 rfl (ev_int ⟨_, _, _, .inl rfl, rfl, at0, rfl, rfl⟩))
  · have := List.length_filter_le (fun q : (Str × Str) × Vl => !decide (q.1.1 = ("" : Str))) as
    have := hf.a
    simp only [List.length_cons, List.length_nil, List.length_map]
    omega
  · unfold seenL
    rw [List.map_append, List.map_map]
    rfl
end
end G
set_option Elab.async false
set_option linter.all false
set_option maxRecDepth 100000
set_option maxHeartbeats 4000000
namespace G
open PySem PySem.Spec PyProof.Rows L2 PD
section
variable {P : Program} {w : World} {K : PySem.W.Frag} {mg : Str → Option Value} {base : Heap} {Z : Vol} {f : Addr} {fd : FuncData}
/-! ### state_in -/
abbrev yes {α : Type} : α → Prop := fun _ => True
noncomputable def gStt : List D → Option Res := gT (fun x : Bd × Str => [bdD x.1, .str x.2]) yes fun x => .va (stt x.1 x.2)
theorem stt_inj (x y : Bd × Str) (h : ([bdD x.1, .str x.2] : List D) = [bdD y.1, .str y.2]) : x = y := by
  injection h with h1 h
  injection h with h2 _
  injection h2 with h2
  exact Prod.ext (bd_inj _ _ h1) h2
theorem gStt_of (m : Bd) (p : Str) : gStt [bdD m, .str p] = some (.va (stt m p)) := gT_of (enc := fun x : Bd × Str => [bdD x.1, .str x.2]) (x := (m, p)) stt_inj trivial
abbrev DStt (P : Program) (w : World) (K : PySem.W.Frag) (mg : Str → Option Value) (base : Heap) (Z : Vol) := Df P w K mg base "state_in" 1 ["bound", "prefix"] (spP Z K 2 gStt)
abbrev sStt : Stmt := st_state_in
theorem ok_stt (F : Fun K "state_in" "state_in" sStt f fd) (T : Cst mg) (kc : KC K) : FnOk P w K mg base CX0 1 f fd ["bound", "prefix"] (spP Z K 2 gStt) := by
  have sc : FnScope ["bound", "prefix"] ["bound", "prefix"] (defScope sStt) := ⟨rfl, rfl, rfl, by decide +kernel, rfl, by decide +kernel, by decide +kernel⟩
  refine fn_pure F sc rfl (gT_out fun x hx => rfl) fun cdv A outer s H E b ds r hr hl hg => ?_
  obtain ⟨⟨m, p⟩, rfl, _, rfl⟩ := gT_one hg
  refine sv_ret (ev_getd kc (hu_of hr) (ev_var 0 rfl ⟨rfl, ev_var 1 rfl (ev_tup (eva_cons (ev_str (eva_cons (ev_var 1 rfl (eva_nil ⟨_, rfl, by simp, _, _, _, rfl, rfl, Ask.str, rfl, ?_⟩))))))⟩))
  refine ⟨rfl, ?_⟩
  show Res.va ((valD (bdK m) (kS p)).getD (outD p)) = .va (stt m p)
  rw [stt_eq]
/-! ### _bound_in -/
noncomputable def gBnd : List D → Option Res := gT (fun x : List (Str × Str) × Bd => [.tup (x.1.map dclD), bdD x.2]) (fun x => x.1.length + x.2.length ≤ 1000000) fun x => .od (.k (bdK (bnd x.1 x.2)))
theorem bnd_inj (x y : List (Str × Str) × Bd) (h : ([.tup (x.1.map dclD), bdD x.2] : List D) = [.tup (y.1.map dclD), bdD y.2]) : x = y := by
  injection h with h1 h
  injection h with h2 _
  injection h1 with h1
  exact Prod.ext (map_inj dclD_inj _ _ h1) (bd_inj _ _ h2)
theorem gBnd_of {ds : List (Str × Str)} {m : Bd} (h : ds.length + m.length ≤ 1000000) : gBnd [.tup (ds.map dclD), bdD m] = some (.od (.k (bdK (bnd ds m)))) := gT_of (enc := fun x : List (Str × Str) × Bd => [.tup (x.1.map dclD), bdD x.2]) (x := (ds, m)) bnd_inj h
abbrev DBnd (P : Program) (w : World) (K : PySem.W.Frag) (mg : Str → Option Value) (base : Heap) (Z : Vol) := Df P w K mg base "_bound_in" 1 ["declarations", "around"] (spP Z K 2 gBnd)
abbrev sBnd : Stmt := st__bound_in
theorem ok_bnd (F : Fun K "_bound_in" "_bound_in" sBnd f fd) (T : Cst mg) (kc : KC K) : FnOk P w K mg base CX0 1 f fd ["declarations", "around"] (spP Z K 2 gBnd) := by
  have sc : FnScope ["declarations", "around", "bound", "prefix", "address"] ["declarations", "around"] (defScope sBnd) := ⟨rfl, rfl, rfl, by decide +kernel, rfl, by decide +kernel, by decide +kernel⟩
  refine fn_pure F sc rfl (gT_out fun x hx => rfl) fun cdv A outer s H E b ds r hr hl hg => ?_
  obtain ⟨⟨ds, m⟩, rfl, hlen, rfl⟩ := gT_one hg
  have hlen : ds.length + m.length ≤ 1000000 := hlen
  have b0 := T.blt (cxOf CX0 P w K mg base ["declarations", "around", "bound", "prefix", "address"] "_bound_in" (defScope sBnd) f cdv A outer s H E).nox rfl
  refine sv_set 2 (ev_dcopy b0 (ev_var 1 rfl ⟨bdK m, rfl, _, rfl, ?_⟩)) sc.nd
  refine sv_forT dclD dclD_inj (.tp [.nm 3, .nm 4]) rfl PassesOwn.never (pg_tup rfl (pgs_cons (pg_name (i := 3) sc.nd rfl (Or.inl rfl)) (pgs_cons (pg_name (i := 4) sc.nd rfl (Or.inl rfl)) pgs_nil)))
    (ei_tup (ev_var 0 rfl ⟨ds.map dclD, rfl, ds, rfl, fun pre b2 δ2 => b2 = b ∧ ∃ s3 s4, δ2 = [.va (.tup (ds.map dclD)), .va (bdD m), .od (.k (bdK (bnd pre m))), s3, s4], ⟨rfl, _, _, rfl⟩, ?_, ?_⟩))
  · rintro pre q post b2 δ2 e ⟨rfl, s3, s4, rfl⟩
    refine ⟨_, rfl, ?_⟩
    refine sv_dput kc (hu_of hr) 2 (ev_tup (eva_cons (ev_str (eva_cons (ev_var 4 rfl (eva_nil ⟨_, rfl, by simp, ev_var 3 rfl ⟨_, _, rfl, rfl, .inl ⟨_, kS q.1, rfl, rfl, ?_, sv_nil ⟨rfl, .va (.str q.1), .va (.str q.2), ?_⟩⟩⟩⟩))))))
    · have h1 := bnd_len pre m
      have h2 := congrArg List.length e
      rw [List.length_append, List.length_cons] at h2
      unfold bdK
      rw [List.length_map]
      omega
    · rw [bnd_snoc, ← bdK_put]
      rfl
  · rintro b2 δ2 ⟨rfl, s3, s4, rfl⟩
    exact sv_retD 2 rfl ⟨rfl, rfl, rfl⟩
end
end G
set_option Elab.async false
set_option linter.all false
set_option maxRecDepth 100000
set_option maxHeartbeats 4000000
namespace G
open PySem PySem.Spec PyProof.Rows L2 PD
theorem hu40 {k : Nat} {A : Around} (h : Room k A) : A.units + 40 < cLine := by have := h.units; omega
/-! ### states, names of attributes as keys -/
/-- a text as Python has them, not too long -/
def okS (x : Str) : Bool := PyData.strOk x && decide (x.length ≤ 1000)
theorem okS_1 {x : Str} (h : okS x = true) : PyData.strOk x = true := by
  unfold okS at h
  exact (Bool.and_eq_true_iff.mp h).1
theorem okS_2 {x : Str} (h : okS x = true) : x.length ≤ 1000 := by
  unfold okS at h
  exact of_decide_eq_true (Bool.and_eq_true_iff.mp h).2
def okB (m : Bd) : Bool := m.all fun q => okS q.1 && okS q.2
def Vl.ok : Vl → Bool
  | .s x => okS x
  | .q p l => okS p && okS l
mutual
/-- no text that is none, few declarations and attributes in each element -/
def Nd.ok : Nd → Bool
  | .s x => okS x
  | .h x => okS x
  | .el p l ds as cs => okS p && okS l && ds.all (fun q => okS q.1 && okS q.2) && as.all (fun q => okS q.1.1 && okS q.1.2 && q.2.ok) && decide (ds.length ≤ 50) && decide (as.length ≤ 4) && decide (cs.length ≤ 60) && ndsOk cs
def ndsOk : List Nd → Bool
  | [] => true
  | c :: cs => c.ok && ndsOk cs
end
structure OkE (p l : Str) (ds : List (Str × Str)) (as : List ((Str × Str) × Vl)) (cs : List Nd) : Prop where
  p : okS p = true
  l : okS l = true
  hd : ∀ q ∈ ds, okS q.1 = true ∧ okS q.2 = true
  ha : ∀ q ∈ as, okS q.1.1 = true ∧ okS q.1.2 = true ∧ q.2.ok = true
  nd : ds.length ≤ 50
  na : as.length ≤ 4
  nc : cs.length ≤ 60
  hc : ∀ c ∈ cs, c.ok = true
theorem ndsOk_iff (cs : List Nd) : ndsOk cs = true ↔ ∀ c ∈ cs, c.ok = true := by
  induction cs with
  | nil => simp [ndsOk]
  | cons c cs ih => rw [ndsOk, Bool.and_eq_true, ih]; simp
theorem ok_el {p l : Str} {ds : List (Str × Str)} {as : List ((Str × Str) × Vl)} {cs : List Nd} : (Nd.el p l ds as cs).ok = true ↔ OkE p l ds as cs := by
  rw [Nd.ok]
  simp only [Bool.and_eq_true, List.all_eq_true, decide_eq_true_eq, ndsOk_iff]
  exact ⟨fun ⟨⟨⟨⟨⟨⟨⟨h1, h2⟩, h3⟩, h4⟩, h5⟩, h6⟩, h7⟩, h8⟩ => ⟨h1, h2, h3, fun q hq => ⟨(h4 q hq).1.1, (h4 q hq).1.2, (h4 q hq).2⟩, h5, h6, h7, h8⟩,
    fun ⟨h1, h2, h3, h4, h5, h6, h7, h8⟩ => ⟨⟨⟨⟨⟨⟨⟨h1, h2⟩, h3⟩, fun q hq => ⟨⟨(h4 q hq).1, (h4 q hq).2.1⟩, (h4 q hq).2.2⟩⟩, h5⟩, h6⟩, h7⟩, h8⟩⟩
theorem OkE.fit {p l : Str} {ds : List (Str × Str)} {as : List ((Str × Str) × Vl)} {cs : List Nd} (h : OkE p l ds as cs) : Fit ds as cs := ⟨Nat.le_trans h.nd (by decide), Nat.le_trans h.na (by decide), Nat.le_trans h.nc (by decide)⟩
end G
set_option Elab.async false
set_option linter.all false
set_option maxRecDepth 100000
set_option maxHeartbeats 4000000
namespace G
open PySem PD L2
/-! ### skeletons -/
mutual
/-- how many levels of elements -/
def Nd.dep : Nd → Nat
  | .s _ => 0
  | .h _ => 0
  | .el _ _ _ _ cs => ndsDep cs + 1
def ndsDep : List Nd → Nat
  | [] => 0
  | c :: cs => max c.dep (ndsDep cs)
end
theorem dep_mem {cs : List Nd} {c : Nd} (h : c ∈ cs) : c.dep ≤ ndsDep cs := by
  induction cs with
  | nil => cases h
  | cons x cs ih =>
    rw [ndsDep]
    rcases List.mem_cons.mp h with rfl | h
    · exact Nat.le_max_left _ _
    · exact Nat.le_trans (ih h) (Nat.le_max_right _ _)
theorem putB_ok {m : Bd} (h : okB m = true) {p a : Str} (hp : okS p = true) (ha : okS a = true) : okB (putB m p a) = true := by
  unfold okB at h ⊢
  rw [List.all_eq_true] at h ⊢
  unfold putB
  intro q hq
  split at hq
  · obtain ⟨r, hr, rfl⟩ := List.mem_map.mp hq
    split
    · exact Bool.and_eq_true_iff.mpr ⟨(Bool.and_eq_true_iff.mp (h r hr)).1, ha⟩
    · exact h r hr
  · rcases List.mem_append.mp hq with hq | hq
    · exact h q hq
    · rw [List.mem_singleton.mp hq]
      exact Bool.and_eq_true_iff.mpr ⟨hp, ha⟩
theorem bnd_ok {ds : List (Str × Str)} (hd : ∀ q ∈ ds, okS q.1 = true ∧ okS q.2 = true) {m : Bd} (h : okB m = true) : okB (bnd ds m) = true := by
  induction ds generalizing m with
  | nil => exact h
  | cons q ds ih =>
    have hq := hd q List.mem_cons_self
    exact ih (fun r hr => hd r (List.mem_cons_of_mem _ hr)) (putB_ok h hq.1 hq.2)
theorem okS_sm {x : Str} (h : okS x = true) : sm (.str x) = true := by
  rw [sm]
  exact decide_eq_true (Nat.le_trans (okS_2 h) (by decide))
theorem sms_all {ds : List D} (h : ∀ d ∈ ds, sm d = true) : sms ds = true := by
  induction ds with
  | nil => rw [sms]
  | cons d ds ih => rw [sms, h d List.mem_cons_self, ih fun e he => h e (List.mem_cons_of_mem _ he)]; rfl
theorem sm_tupI {ds : List D} (hl : ds.length ≤ 50000) (h : ∀ d ∈ ds, sm d = true) : sm (.tup ds) = true := by
  rw [sm, decide_eq_true hl, sms_all h]
  rfl
theorem sm_nm {p l : Str} (h1 : okS p = true) (h2 : okS l = true) : sm (nmD p l) = true := sm_tupI (by simp) fun d hd => by
  simp only [List.mem_cons, List.not_mem_nil, or_false] at hd
  rcases hd with rfl | rfl
  · exact okS_sm h1
  · exact okS_sm h2
mutual
theorem ok_sm : ∀ (x : Nd), x.ok = true → sm x.d = true
  | .s x, h => by rw [Nd.ok] at h; rw [Nd.d]; exact okS_sm h
  | .h x, h => by
    rw [Nd.ok] at h
    rw [Nd.d]
    refine sm_tupI (by simp) fun d hd => ?_
    simp only [List.mem_cons, List.not_mem_nil, or_false] at hd
    rcases hd with rfl | rfl
    · exact okS_sm (by decide +kernel)
    · exact okS_sm h
  | .el p l ds as cs, h => by
    have h := ok_el.mp h
    rw [Nd.d]
    refine sm_tupI (by simp) fun d hd => ?_
    simp only [List.mem_cons, List.not_mem_nil, or_false] at hd
    rcases hd with rfl | rfl | rfl | rfl | rfl
    · exact okS_sm (by decide +kernel)
    · exact sm_nm h.p h.l
    · refine sm_tupI (by rw [List.length_map]; exact Nat.le_trans h.nd (by decide)) fun d hd => ?_
      obtain ⟨q, hq, rfl⟩ := List.mem_map.mp hd
      exact sm_nm (h.hd q hq).1 (h.hd q hq).2
    · refine sm_tupI (by rw [List.length_map]; exact Nat.le_trans h.na (by decide)) fun d hd => ?_
      obtain ⟨q, hq, rfl⟩ := List.mem_map.mp hd
      obtain ⟨h1, h2, h3⟩ := h.ha q hq
      refine sm_tupI (by simp) fun d hd => ?_
      simp only [List.mem_cons, List.not_mem_nil, or_false] at hd
      rcases hd with rfl | rfl
      · exact sm_nm h1 h2
      · obtain ⟨n, v⟩ := q
        cases v with
        | s x => exact okS_sm h3
        | q p' l' => exact sm_nm (Bool.and_eq_true_iff.mp h3).1 (Bool.and_eq_true_iff.mp h3).2
    · refine sm_tupI (by rw [ndsD_map, List.length_map]; exact Nat.le_trans h.nc (by decide)) fun d hd => oks_sm cs h.hc d hd
theorem oks_sm : ∀ (cs : List Nd), (∀ c ∈ cs, c.ok = true) → ∀ d ∈ ndsD cs, sm d = true
  | [], _, d, hd => by rw [ndsD] at hd; cases hd
  | c :: cs, h, d, hd => by
    rw [ndsD] at hd
    rcases List.mem_cons.mp hd with rfl | hd
    · exact ok_sm c (h c List.mem_cons_self)
    · exact oks_sm cs (fun e he => h e (List.mem_cons_of_mem _ he)) d hd
end
/-! ### what may be sorted -/
end G
set_option Elab.async false
set_option linter.all false
set_option maxRecDepth 100000
set_option maxHeartbeats 4000000
namespace G
open PySem PD L2
/-! ### the elements in their order, with what is bound in each -/
abbrev Rw3 := List Nat × Nd × Bd
def dsOf : Nd → List (Str × Str)
  | .el _ _ ds _ _ => ds
  | _ => []
mutual
def wk (p : List Nat) (m : Bd) : Nd → List Rw3
  | .el q l ds as cs => (p, .el q l ds as cs, bnd ds m) :: wks p 0 (bnd ds m) cs
  | .s _ => []
  | .h _ => []
def wks (p : List Nat) (k : Nat) (m : Bd) : List Nd → List Rw3
  | [] => []
  | c :: cs => wk (p ++ [k]) m c ++ wks p (k + 1) m cs
end
def pthD (p : List Nat) : List D := p.map fun (i : Nat) => D.int (i : Int)
def pkey (p : List Nat) : List Key := p.map fun (i : Nat) => (Sum.inl (i : Int) : Key)
theorem pthD_key (p : List Nat) : pthD p = (pkey p).map kD := by
  unfold pthD pkey
  rw [List.map_map]
  rfl
theorem pthD_snoc (p : List Nat) (k : Nat) : pthD (p ++ [k]) = pthD p ++ [.int (k : Nat)] := by
  unfold pthD
  rw [List.map_append]
  rfl
theorem pkey_inj : ∀ (p q : List Nat), pkey p = pkey q → p = q
  | [], [], _ => rfl
  | [], _ :: _, h => by cases h
  | _ :: _, [], h => by cases h
  | x :: p, y :: q, h => by
    unfold pkey at h
    rw [List.map_cons, List.map_cons, List.cons.injEq] at h
    have e := Sum.inl.inj h.1
    rw [pkey_inj p q h.2, show x = y by omega]
def rowPD (r : Rw3) : List D × D := (pthD r.1, r.2.1.d)
mutual
theorem pre_wk : ∀ (x : Nd) (p : List Nat) (m : Bd), x.isEl = true → pre (pthD p) x.d = (wk p m x).map rowPD
  | .el q l ds as cs, p, m, _ => by
    rw [pre_eq, wk, List.map_cons]
    have hk : kidsOf (Nd.el q l ds as cs).d = ndsD cs := by rw [Nd.d]; rfl
    rw [hk, pres_wks cs p 0 (bnd ds m)]
    rfl
  | .s _, _, _, h => nomatch h
  | .h _, _, _, h => nomatch h
theorem pres_wks : ∀ (cs : List Nd) (p : List Nat) (k : Nat) (m : Bd), (elemsAt (pthD p) k (ndsD cs)).flatMap (fun q => pre q.1 q.2) = (wks p k m cs).map rowPD
  | [], p, k, m => by rw [ndsD, wks]; rfl
  | c :: cs, p, k, m => by
    rw [ndsD, wks, elemsAt, begins_el, List.map_append, ← pres_wks cs p (k + 1) m]
    cases hc : c.isEl with
    | true =>
      simp only [if_true, List.flatMap_cons]
      rw [← pthD_snoc, pre_wk c (p ++ [k]) m hc]
    | false =>
      simp only [Bool.false_eq_true, if_false]
      cases c with
      | el _ _ _ _ _ => cases hc
      | s _ => rw [wk]; rfl
      | h _ => rw [wk]; rfl
end
/-- what is bound in the element at a path -/
def atP : List Nat → Nd → Bd → Option Bd
  | [], .el _ _ ds _ _, m => some (bnd ds m)
  | i :: r, .el _ _ ds _ cs, m => match cs[i]? with
    | some c => atP r c (bnd ds m)
    | none => none
  | _, _, _ => none
mutual
theorem wk_at : ∀ (x : Nd) (p : List Nat) (m : Bd) (r : Rw3), r ∈ wk p m x → ∃ q, r.1 = p ++ q ∧ atP q x m = some r.2.2
  | .el q l ds as cs, p, m, r, h => by
    rw [wk] at h
    rcases List.mem_cons.mp h with rfl | h
    · exact ⟨[], by simp, rfl⟩
    · obtain ⟨j, q', c, hc, e1, e2⟩ := wks_at cs p 0 (bnd ds m) r h
      refine ⟨j :: q', by rw [e1]; simp, ?_⟩
      rw [atP, show cs[j]? = some c from hc]
      exact e2
  | .s _, _, _, _, h => by rw [wk] at h; cases h
  | .h _, _, _, _, h => by rw [wk] at h; cases h
theorem wks_at : ∀ (cs : List Nd) (p : List Nat) (k : Nat) (m : Bd) (r : Rw3), r ∈ wks p k m cs → ∃ j q c, cs[j]? = some c ∧ r.1 = p ++ (k + j) :: q ∧ atP q c m = some r.2.2
  | [], p, k, m, r, h => by rw [wks] at h; cases h
  | c :: cs, p, k, m, r, h => by
    rw [wks] at h
    rcases List.mem_append.mp h with h | h
    · obtain ⟨q, e1, e2⟩ := wk_at c (p ++ [k]) m r h
      exact ⟨0, q, c, rfl, by rw [e1]; simp, e2⟩
    · obtain ⟨j, q, c', hc, e1, e2⟩ := wks_at cs p (k + 1) m r h
      exact ⟨j + 1, q, c', by simpa using hc, by rw [e1, show k + 1 + j = k + (j + 1) by omega], e2⟩
end
/-- r's element stands in the element at top, or in one that was told ahead -/
def Par (top : List Nat) (mt : Bd) (ah : List Rw3) (r : Rw3) : Prop :=
  (∃ j, r.1 = top ++ [j] ∧ r.2.2 = bnd (dsOf r.2.1) mt) ∨ ∃ r' ∈ ah, ∃ i, r.1 = r'.1 ++ [i] ∧ r.2.2 = bnd (dsOf r.2.1) r'.2.2
mutual
theorem wk_par : ∀ (x : Nd) (p : List Nat) (m : Bd) (ah : List Rw3) (r : Rw3) (post : List Rw3), wk p m x = ah ++ r :: post → (ah = [] ∧ r.1 = p ∧ r.2.2 = bnd (dsOf r.2.1) m) ∨ ∃ r' ∈ ah, ∃ i, r.1 = r'.1 ++ [i] ∧ r.2.2 = bnd (dsOf r.2.1) r'.2.2
  | .el q l ds as cs, p, m, ah, r, post, h => by
    rw [wk] at h
    cases ah with
    | nil =>
      rw [List.nil_append, List.cons.injEq] at h
      refine .inl ⟨rfl, ?_⟩
      rw [← h.1]
      exact ⟨rfl, rfl⟩
    | cons a ah =>
      rw [List.cons_append, List.cons.injEq] at h
      obtain ⟨h1, h2⟩ := h
      rcases wks_par cs p 0 (bnd ds m) ah r post h2 with ⟨j, e1, e2⟩ | ⟨r', hr, i, e1, e2⟩
      · refine .inr ⟨a, List.mem_cons_self, j, ?_⟩
        rw [← h1]
        exact ⟨e1, e2⟩
      · exact .inr ⟨r', List.mem_cons_of_mem _ hr, i, e1, e2⟩
  | .s _, _, _, ah, r, post, h => by rw [wk] at h; cases ah <;> cases h
  | .h _, _, _, ah, r, post, h => by rw [wk] at h; cases ah <;> cases h
theorem wks_par : ∀ (cs : List Nd) (p : List Nat) (k : Nat) (m : Bd) (ah : List Rw3) (r : Rw3) (post : List Rw3), wks p k m cs = ah ++ r :: post → Par p m ah r
  | [], p, k, m, ah, r, post, h => by rw [wks] at h; cases ah <;> cases h
  | c :: cs, p, k, m, ah, r, post, h => by
    rw [wks] at h
    rcases List.append_eq_append_iff.mp h with ⟨a', e1, e2⟩ | ⟨b', e1, e2⟩
    · rcases wks_par cs p (k + 1) m a' r post e2 with z | ⟨r', hr, i, z⟩
      · exact .inl z
      · exact .inr ⟨r', by rw [e1]; exact List.mem_append_right _ hr, i, z⟩
    · cases b' with
      | nil =>
        rw [List.nil_append] at e2
        rcases wks_par cs p (k + 1) m [] r post (by rw [← e2]; rfl) with z | ⟨r', hr, _⟩
        · exact .inl z
        · cases hr
      | cons b b' =>
        rw [List.cons_append, List.cons.injEq] at e2
        obtain ⟨rfl, e3⟩ := e2
        rcases wk_par c (p ++ [k]) m ah r b' e1 with ⟨_, z1, z2⟩ | z
        · exact .inl ⟨k, z1, z2⟩
        · exact .inr z
end
/-- bound_by_path, as data -/
def bpD (rs : List Rw3) : List (List Key × D) := rs.map fun r => (pkey r.1, bdD r.2.2)
theorem bpD_val {rs : List Rw3} {p : List Nat} {m : Bd} (h1 : ∃ r ∈ rs, r.1 = p) (h2 : ∀ r ∈ rs, r.1 = p → r.2.2 = m) : valD (bpD rs) (pkey p) = some (bdD m) := by
  unfold valD bpD
  induction rs with
  | nil => obtain ⟨r, hr, _⟩ := h1; cases hr
  | cons r rs ih =>
    rw [List.map_cons, List.find?_cons]
    by_cases e : r.1 = p
    · rw [show decide ((pkey r.1, bdD r.2.2).1 = pkey p) = true from decide_eq_true (by rw [e])]
      show some (bdD r.2.2) = _
      rw [h2 r List.mem_cons_self e]
    · rw [show decide ((pkey r.1, bdD r.2.2).1 = pkey p) = false from decide_eq_false fun z => e (pkey_inj _ _ z)]
      refine ih ?_ fun r' hr => h2 r' (List.mem_cons_of_mem _ hr)
      obtain ⟨r', hr, e'⟩ := h1
      rcases List.mem_cons.mp hr with rfl | hr
      · exact absurd e' e
      · exact ⟨r', hr, e'⟩
theorem bpD_new {rs : List Rw3} {r : Rw3} (h : ∀ r' ∈ rs, r'.1 ≠ r.1) : putD (bpD rs) (pkey r.1) (bdD r.2.2) = bpD (rs ++ [r]) := by
  unfold putD
  have e : ((bpD rs).any fun kv => decide (kv.1 = pkey r.1)) = false := by
    rw [List.any_eq_false]
    intro kv hk
    obtain ⟨r', hr, rfl⟩ := List.mem_map.mp hk
    exact fun z => h r' hr (pkey_inj _ _ (of_decide_eq_true z))
  rw [e]
  simp [bpD]
mutual
theorem wk_nd : ∀ (x : Nd) (p : List Nat) (m : Bd), ((wk p m x).map (·.1)).Nodup
  | .el q l ds as cs, p, m => by
    rw [wk, List.map_cons, List.nodup_cons]
    refine ⟨fun z => ?_, wks_nd cs p 0 (bnd ds m)⟩
    obtain ⟨r, hr, e⟩ := List.mem_map.mp z
    obtain ⟨j, q', c, _, e1, _⟩ := wks_at cs p 0 (bnd ds m) r hr
    rw [e1] at e
    have e : p ++ (0 + j) :: q' = p := e
    have := congrArg List.length e
    rw [List.length_append, List.length_cons] at this
    omega
  | .s _, _, _ => by rw [wk]; exact List.nodup_nil
  | .h _, _, _ => by rw [wk]; exact List.nodup_nil
theorem wks_nd : ∀ (cs : List Nd) (p : List Nat) (k : Nat) (m : Bd), ((wks p k m cs).map (·.1)).Nodup
  | [], p, k, m => by rw [wks]; exact List.nodup_nil
  | c :: cs, p, k, m => by
    rw [wks, List.map_append, List.nodup_append]
    refine ⟨wk_nd c _ m, wks_nd cs p (k + 1) m, fun a ha b hb e => ?_⟩
    subst e
    obtain ⟨r, hr, e⟩ := List.mem_map.mp ha
    obtain ⟨r', hr', e'⟩ := List.mem_map.mp hb
    obtain ⟨q, e1, _⟩ := wk_at c (p ++ [k]) m r hr
    obtain ⟨j, q', c', _, e2, _⟩ := wks_at cs p (k + 1) m r' hr'
    rw [← e, e1, e2, List.append_assoc] at e'
    have := List.append_cancel_left e'
    simp only [List.cons_append, List.nil_append, List.cons.injEq] at this
    omega
end
/-- the next one's path is new -/
theorem wk_new {x : Nd} {p : List Nat} {m : Bd} {ah : List Rw3} {r : Rw3} {post : List Rw3} (h : wk p m x = ah ++ r :: post) : ∀ r' ∈ ah, r'.1 ≠ r.1 := by
  have nd := wk_nd x p m
  rw [h, List.map_append, List.nodup_append] at nd
  intro r' hr e
  exact nd.2.2 r'.1 (List.mem_map.mpr ⟨r', hr, rfl⟩) r.1 (List.mem_map.mpr ⟨r, List.mem_cons_self, rfl⟩) e
/-- what bound_by_path has at a path that was told -/
theorem bpD_at {x : Nd} {rs : List Rw3} (hs : ∀ r ∈ rs, r ∈ wk [] [] x) {r : Rw3} (hr : r ∈ rs) : valD (bpD rs) (pkey r.1) = some (bdD r.2.2) := by
  refine bpD_val ⟨r, hr, rfl⟩ fun r' hr' e => ?_
  obtain ⟨q, e1, e2⟩ := wk_at x [] [] r (hs r hr)
  obtain ⟨q', e1', e2'⟩ := wk_at x [] [] r' (hs r' hr')
  rw [List.nil_append] at e1 e1'
  rw [← e1', e, e1, e2] at e2'
  exact (Option.some.inj e2').symm
end G
set_option Elab.async false
set_option linter.all false
set_option maxRecDepth 100000
set_option maxHeartbeats 4000000
namespace G
open PySem PD L2
/-- a row as it has to be -/
structure RwOk (r : Rw3) : Prop where
  el : r.2.1.isEl = true
  ok : r.2.1.ok = true
  okm : okB r.2.2 = true
mutual
theorem wk_ok : ∀ (x : Nd) (p : List Nat) (m : Bd), x.ok = true → okB m = true → ∀ r ∈ wk p m x, RwOk r ∧ r.2.2.length ≤ m.length + 50 * x.dep
  | .el q l ds as cs, p, m, hx, hm, r, hr => by
    have ho := ok_el.mp hx
    have hb := bnd_len ds m
    have h4 := ho.nd
    rw [wk] at hr
    rcases List.mem_cons.mp hr with rfl | hr
    · refine ⟨⟨rfl, hx, bnd_ok ho.hd hm⟩, ?_⟩
      show (bnd ds m).length ≤ m.length + 50 * (Nd.el q l ds as cs).dep
      rw [Nd.dep]
      omega
    · obtain ⟨h1, h2⟩ := wks_ok cs p 0 (bnd ds m) ho.hc (bnd_ok ho.hd hm) r hr
      refine ⟨h1, ?_⟩
      rw [Nd.dep]
      omega
  | .s _, _, _, _, _, _, hr => by rw [wk] at hr; cases hr
  | .h _, _, _, _, _, _, hr => by rw [wk] at hr; cases hr
theorem wks_ok : ∀ (cs : List Nd) (p : List Nat) (k : Nat) (m : Bd), (∀ c ∈ cs, c.ok = true) → okB m = true → ∀ r ∈ wks p k m cs, RwOk r ∧ r.2.2.length ≤ m.length + 50 * ndsDep cs
  | [], _, _, _, _, _, _, hr => by rw [wks] at hr; cases hr
  | c :: cs, p, k, m, hx, hm, r, hr => by
    rw [wks] at hr
    rw [ndsDep]
    rcases List.mem_append.mp hr with hr | hr
    · obtain ⟨h1, h2⟩ := wk_ok c _ m (hx c List.mem_cons_self) hm r hr
      refine ⟨h1, ?_⟩
      have := Nat.le_max_left c.dep (ndsDep cs)
      omega
    · obtain ⟨h1, h2⟩ := wks_ok cs p (k + 1) m (fun e he => hx e (List.mem_cons_of_mem _ he)) hm r hr
      refine ⟨h1, ?_⟩
      have := Nat.le_max_right c.dep (ndsDep cs)
      omega
end
/-- a path, an element -/
def peD (q : List Nat × Nd) : D := .tup [.tup (pthD q.1), q.2.d]
theorem pthD_inj (p q : List Nat) (h : pthD p = pthD q) : p = q := by
  rw [pthD_key, pthD_key] at h
  have kd : ∀ (a b : List Key), a.map kD = b.map kD → a = b := fun a b => map_inj (fun x y h => by
    cases x <;> cases y <;> cases h <;> rfl) a b
  exact pkey_inj _ _ (kd _ _ h)
theorem peD_inj (x y : List Nat × Nd) (h : peD x = peD y) : x = y := by
  unfold peD at h
  injection h with h
  injection h with h1 h
  injection h with h2 _
  injection h1 with h1
  exact Prod.ext (pthD_inj _ _ h1) (nd_inj _ _ h2)
def prj (r : Rw3) : List Nat × Nd := (r.1, r.2.1)
end G
set_option Elab.async false
set_option linter.all false
set_option maxRecDepth 100000
set_option maxHeartbeats 4000000
namespace PD
open PySem PySem.Spec PyProof.Rows L2
/-! ### a def whose code object is known (a lambda stands in it) -/
structure FunC (K : PySem.W.Frag) (x qual : Str) (st : Stmt) (f : Addr) (fd : FuncData) (c : Addr) : Prop where
  at_ : ∃ (oc : Value) (od : Option Addr) (kV doc pm : Value) (an : Option Addr) (ct : Value) (osl : Array (Option Value)),
    fd = PySem.W.fnOf x qual (defArgs st) (defBody st) (defScope st) .none kV doc pm an (.ref c) ct ∧ K.lookup f = some ⟨oc, od, .func fd, osl⟩ ∧ PySem.W.codeIn K (.ref c) qual = true
section
variable {P : Program} {w : World} {K : PySem.W.Frag} {mg : Str → Option Value} {base : Heap} {Z : Vol}
theorem fn_bodyC {x qual : Str} {st : Stmt} {f c : Addr} {fd : FuncData} {N ps : List Str} {k n : Nat} {pre : Nat → List Ar → Prop} {post : Nat → List Ar → Nat → Res → Prop} (F : FunC K x qual st f fd c) (S : FnScope N ps (defScope st)) (hn : ps.length = n)
    (body : ∀ (A : Around) (outer : List Env) (s : Shared) (H : Hp) (E : XK) (b : Nat) (as : List Ar), Room k (A.deeper (envOfC qual (defScope st) s.heap.objs.size f (.ref c))) → as.length = n → pre b as →
      SV ⟨(cxOf CX0 P w K mg base N qual (defScope st) f (.ref c) A outer s H E).nox, Z, H⟩ b (as.map Ar.sl ++ List.replicate (N.length - n) .un) (defBody st) (retF (post b as))) :
    FnOk P w K mg base CX0 (k + 1) f fd ps (spD Z K n pre post) := by
  obtain ⟨oc, od, kV, doc, pm, an, ct, osl, rfl, lk, hcd⟩ := F.at_
  refine fn_of lk hcd S (fun vs H Q E h => ?_) (fun A outer s H vs Q E hr h => ?_)
  · obtain ⟨b, as, hl, hv, _⟩ := h
    rw [hv.len, hl, hn]
  · obtain ⟨b, as, hl, hv, hj, hp, hq⟩ := h
    refine ⟨_, PSs.nox pssW, ?_⟩
    refine body A outer s H E b as hr hl hp [] _ H ⟨Fr.refl, hj, fun p z => (nomatch z), [], List.nodup_nil, fun p z => (nomatch z), ?_⟩ _ ⟨fun b' δ' os' σ' H' z s g => ?_, fun _ _ _ _ _ z _ _ => z.elim, fun _ _ _ _ _ z _ _ => z.elim, fun v H' b' r z rv f j => ?_⟩
    · show Sls K Z [] H _ (L2.start N vs) []
      unfold L2.start
      rw [hv.len, hl]
      exact sls_start hv _
    · exact hq .non H' b' (.va .non) s.fr s.j (.va .non) rfl z
    · exact hq v H' b' r f j rv z.1 z.2
theorem fn_pureC {x qual : Str} {st : Stmt} {f c : Addr} {fd : FuncData} {N ps : List Str} {k n : Nat} {g : List D → Option Res} (F : FunC K x qual st f fd c) (S : FnScope N ps (defScope st)) (hn : ps.length = n) (ho : ∀ ds r, g ds = some r → r.out = true)
    (body : ∀ (A : Around) (outer : List Env) (s : Shared) (H : Hp) (E : XK) (b : Nat) (ds : List D) (r : Res), Room k (A.deeper (envOfC qual (defScope st) s.heap.objs.size f (.ref c))) → ds.length = n → g ds = some r →
      SV ⟨(cxOf CX0 P w K mg base N qual (defScope st) f (.ref c) A outer s H E).nox, Z, H⟩ b (ds.map Sl.va ++ List.replicate (N.length - n) .un) (defBody st) (retF fun b' r' => b' = b ∧ r' = r)) :
    FnOk P w K mg base CX0 (k + 1) f fd ps (spP Z K n g) := by
  refine fn_bodyC F S hn fun A outer s H E b as hr hl hp => ?_
  obtain ⟨ds, r, rfl, hg⟩ := hp
  have e : (ds.map Ar.va).map Ar.sl = ds.map Sl.va := by rw [List.map_map]; rfl
  rw [e]
  refine (body A outer s H E b ds r hr (by simpa using hl) hg).imp (fun b' _ h => ?_) (fun _ _ h => h.elim) (fun _ _ h => h.elim) (fun b' r' h => ?_)
  · obtain ⟨rfl, e2⟩ := h
    exact ⟨rfl, ds, rfl, by rw [hg, e2]⟩
  · obtain ⟨ho', rfl, rfl⟩ := h
    exact ⟨ho', rfl, ds, rfl, hg⟩
end
end PD
set_option Elab.async false
set_option linter.all false
set_option maxRecDepth 100000
set_option maxHeartbeats 4000000
namespace G
open PySem PySem.Spec PyProof.Rows L2 PD
section
variable {P : Program} {w : World} {K : PySem.W.Frag} {mg : Str → Option Value} {base : Heap} {Z : Vol} {f : Addr} {fd : FuncData}
/-! ### skeleton -/
/-- a part, as a typed thing -/
structure Prt (x : Nd) : Prop where
  el : x.isEl = true
  ok : x.ok = true
  good : good x.d
  dep : x.dep ≤ 8
abbrev DNeed (P : Program) (w : World) (K : PySem.W.Frag) (mg : Str → Option Value) (base : Heap) (Z : Vol) := Df P w K mg base "need_part" 9 ["thing"] (spP Z K 1 (gGood .va))
end
end G
set_option Elab.async false
set_option linter.all false
set_option maxRecDepth 100000
set_option maxHeartbeats 4000000
namespace PD
open PySem PySem.Spec PyProof.Rows L2
section
variable {C : Cn} {b : Nat} {δ : List Sl} {P : Nat → Res → Prop} {pos : Pos} {e : Expr}
/-- -e -/
theorem ev_neg (h : EV C b δ e (fun b1 r => ∃ i : Int, r = .va (.int i) ∧ P b1 (.va (.int (-i))))) : EV C b δ (.UnaryOp .USub e pos) P := by
  intro os σ H st Q q
  refine WE.of (pe_un un_neg peW) ?_
  refine h os σ H st _ fun v H1 b1 r f1 j1 rv hr => ?_
  obtain ⟨i, rfl, hq⟩ := hr
  cases rv with | va rv => ?_
  cases rv
  exact ⟨i, rfl, q _ H1 b1 _ f1 j1 (.va (.int _)) hq⟩
end
end PD
namespace G
open PySem PySem.Spec PyProof.Rows L2 PD
section
variable {P : Program} {w : World} {K : PySem.W.Frag} {mg : Str → Option Value} {base : Heap} {Z : Vol} {f : Addr} {fd : FuncData}
/-! ### bound_by_path -/
abbrev DWalk (P : Program) (w : World) (K : PySem.W.Frag) (mg : Str → Option Value) (base : Heap) (Z : Vol) := Df P w K mg base "walk" 4 ["part"] (spP Z K 1 gWalk)
theorem Prt.walk {x : Nd} (h : Prt x) : gWalk [x.d] = some (.ow ((wk [] [] x).map fun r => peD (prj r))) := by
  show (if sm x.d = true ∧ fw 0 (pre [] x.d) = none then some (Res.ow ((pre [] x.d).map pairD)) else none) = _
  rw [if_pos ⟨h.good.1.1, fw_of_good h.good⟩]
  have e := pre_wk x [] [] h.el
  rw [show pthD [] = [] from rfl] at e
  rw [e, List.map_map]
  rfl
theorem Prt.len {x : Nd} (h : Prt x) : (wk [] [] x).length ≤ 60 := by
  have e := pre_wk x [] [] h.el
  rw [show pthD [] = [] from rfl] at e
  have h2 := fw_len _ _ (fw_of_good h.good)
  rw [e] at h2
  rcases h2 with z | z
  · have := congrArg List.length z
    rw [List.length_map] at this
    rw [this]
    exact Nat.zero_le _
  · rw [List.length_map] at z
    omega
noncomputable def gBbp : List D → Option Res := gT (fun x : Nd => [x.d]) Prt fun x => .od (.t (bpD (wk [] [] x)))
theorem gBbp_of {x : Nd} (h : Prt x) : gBbp [x.d] = some (.od (.t (bpD (wk [] [] x)))) := gT_of (enc := fun x : Nd => [x.d]) one_inj h
abbrev DBbp (P : Program) (w : World) (K : PySem.W.Frag) (mg : Str → Option Value) (base : Heap) (Z : Vol) := Df P w K mg base "bound_by_path" 5 ["part"] (spP Z K 1 gBbp)
abbrev sBbp : Stmt := st_bound_by_path
theorem kn_path (p : List Nat) : Kn (pkey p) := by
  intro h
  cases p with
  | nil => cases h
  | cons i p =>
    unfold pkey at h
    rw [List.map_cons, List.cons.injEq] at h
    cases h.1
theorem el_of {x : Nd} (h : x.isEl = true) : ∃ p l ds as cs, x = .el p l ds as cs := by
  cases x with
  | el p l ds as cs => exact ⟨_, _, _, _, _, rfl⟩
  | _ => cases h
theorem ok_bbp (F : Fun K "bound_by_path" "bound_by_path" sBbp f fd) (T : Cst mg) (kc : KC K) (D1 : DWalk P w K mg base Z) (D2 : DBnd P w K mg base Z) : FnOk P w K mg base CX0 5 f fd ["part"] (spP Z K 1 gBbp) := by
  have sc : FnScope ["part", "bound", "path", "element", "around"] ["part"] (defScope sBbp) := ⟨rfl, rfl, rfl, by decide +kernel, rfl, by decide +kernel, by decide +kernel⟩
  refine fn_pure F sc rfl (gT_out fun x hx => rfl) fun cdv A outer s H E b ds r hr hl hg => ?_
  obtain ⟨x, rfl, hx, rfl⟩ := gT_one hg
  refine sv_set 1 (ev_dnewT ⟨_, rfl, ?_⟩) sc.nd
  refine sv_forT peD peD_inj (.tp [.nm 2, .nm 3]) rfl PassesOwn.never (pg_tup rfl (pgs_cons (pg_name (i := 2) sc.nd rfl (Or.inl rfl)) (pgs_cons (pg_name (i := 3) sc.nd rfl (Or.inl rfl)) pgs_nil)))
    (ei_list (ev_callP D1 hr (eva_cons (ev_var 0 rfl (eva_nil ⟨_, _, rfl, rfl, hx.walk, _, .inl rfl, (wk [] [] x).map prj, by rw [List.map_map]; rfl, ?_⟩)))))
  refine ⟨fun ps b2 δ2 => b2 = b ∧ ∃ done rest s2 s3 s4, wk [] [] x = done ++ rest ∧ ps = done.map prj ∧ δ2 = [.va x.d, .od (.t (bpD done)), s2, s3, s4], ⟨rfl, [], _, _, _, _, rfl, rfl, rfl⟩, ?_, ?_⟩
  · rintro ps q post b2 δ2 e ⟨rfl, done, rest, s2, s3, s4, hw, rfl, rfl⟩
    rw [hw, List.map_append] at e
    have e2 := List.append_cancel_left e
    cases rest with
    | nil => cases e2
    | cons r rest =>
      rw [List.map_cons, List.cons.injEq] at e2
      obtain ⟨rfl, rfl⟩ := e2
      have hr0 : r ∈ wk [] [] x := by rw [hw]; simp
      have hdone : ∀ r' ∈ done, r' ∈ wk [] [] x := fun r' h => by rw [hw]; exact List.mem_append_left _ h
      obtain ⟨rok, rlen⟩ := wk_ok x [] [] hx.ok rfl r hr0
      have hd8 := hx.dep
      refine ⟨_, rfl, ?_⟩
      -- what is bound around it
      have around : ∃ m', okB m' = true ∧ m'.length ≤ 1000 ∧ r.2.2 = bnd (dsOf r.2.1) m' ∧ ((r.1 = [] ∧ m' = []) ∨ (r.1 ≠ [] ∧ valD (bpD done) (pkey r.1.dropLast) = some (bdD m'))) := by
        rcases wk_par x [] [] done r rest hw with ⟨_, z1, z2⟩ | ⟨r', hr', i, z1, z2⟩
        · exact ⟨[], rfl, by simp, z2, .inl ⟨z1, rfl⟩⟩
        · obtain ⟨rok', rlen'⟩ := wk_ok x [] [] hx.ok rfl r' (hdone r' hr')
          refine ⟨r'.2.2, rok'.okm, by simp at rlen'; omega, z2, .inr ⟨by rw [z1]; simp, ?_⟩⟩
          rw [z1, List.dropLast_concat]
          exact bpD_at hdone hr'
      obtain ⟨m', okm', len', em, hpath⟩ := around
      refine sv_set 4 (EV.imp (P := fun b1 rr => b1 = b2 ∧ rr = Res.va (bdD m')) (ev_if (et_tup (ev_var 2 rfl ⟨pthD r.1, rfl, ?_⟩))) fun b1 rr hh => ?_) sc.nd
      · rcases hpath with ⟨hp, rfl⟩ | ⟨hp, hv⟩
        · rw [hp]
          exact ev_frzD (ev_dnewK ⟨_, rfl, rfl, rfl⟩)
        · have hne : (!(pthD r.1).isEmpty) = true := by
            cases e : r.1 with
            | nil => exact absurd e hp
            | cons i q => rfl
          rw [hne]
          refine ev_dget kc (hu_of hr) (ev_varD 1 rfl (ev_slTh (ev_var 2 rfl (ev_neg (ev_int ⟨1, rfl, _, _, rfl, rfl, _, bdD m', rfl, ?_, rfl, rfl⟩)))))
          have ed : cutD (pthD r.1) none (some (-1)) = (pkey r.1.dropLast).map kD := by
            rw [cutD_last, ← pthD_key]
            unfold pthD
            rw [List.map_dropLast]
          show Ask (Res.ro (Dc.t (bpD done))) (D.tup (cutD (pthD r.1) none (some (-1)))) (some (bdD m'))
          rw [ed, ← hv]
          exact Ask.rt (kn_path _)
      · obtain ⟨rfl, rfl⟩ := hh
        refine ⟨_, rfl, ?_⟩
        have hlen := hx.len
        rw [hw, List.length_append, List.length_cons] at hlen
        obtain ⟨p, l, de, as, cs, hel⟩ := el_of rok.el
        have hds : dsOf r.2.1 = de := by rw [hel]; rfl
        rw [hds] at em
        have hde : de.length ≤ 50 := by
          have := rok.ok
          rw [hel] at this
          exact (ok_el.mp this).nd
        refine sv_dput kc (hu_of hr) 1 (ev_frzD (ev_callP D2 (hr.mono (by decide)) (eva_cons (ev_ix (ev_var 3 rfl (ev_int ⟨[.str "element", nmD p l, .tup (de.map dclD), .tup (as.map atrD), .tup (ndsD cs)], _, _, .inl ?_, rfl, atN (j := 2) rfl, eva_cons (ev_var 4 rfl (eva_nil ⟨_, _, rfl, rfl, gBnd_of (by omega), _, rfl, ?_⟩))⟩))))))
        · show Res.va r.2.1.d = _
          rw [hel, Nd.d]
        · refine ev_var 2 rfl ⟨_, _, rfl, rfl, .inr ⟨_, pkey r.1, rfl, kn_path _, congrArg D.tup (pthD_key r.1), ?_, sv_nil ⟨rfl, done ++ [r], rest, .va (.tup (pthD r.1)), .va r.2.1.d, .va (bdD m'), ?_, ?_, ?_⟩⟩⟩
          · unfold bpD
            rw [List.length_map]
            omega
          · rw [hw, List.append_assoc]
            rfl
          · rw [List.map_append]
            rfl
          · show [Sl.va x.d, Sl.od (.t (putD (bpD done) (pkey r.1) (Dc.k (bdK (bnd de m'))).d)), .va (.tup (pthD r.1)), .va r.2.1.d, .va (bdD m')] = _
            rw [show (Dc.k (bdK (bnd de m'))).d = bdD r.2.2 by rw [em]; rfl, bpD_new (wk_new hw)]
  · rintro b2 δ2 ⟨rfl, done, rest, s2, s3, s4, hw, e, rfl⟩
    have hl := congrArg List.length e
    rw [List.length_map, List.length_map, hw, List.length_append] at hl
    have : rest = [] := List.eq_nil_of_length_eq_zero (by omega)
    subst this
    rw [List.append_nil] at hw
    exact sv_retD 1 rfl ⟨rfl, rfl, by rw [hw]⟩
end
end G
set_option Elab.async false
set_option linter.all false
set_option maxRecDepth 100000
set_option maxHeartbeats 4000000
namespace PD
open PySem PySem.Spec PyProof.Rows L2
/-! ### for k in d: the keys of a dict that nobody changes any more -/
theorem wk_keys {K : PySem.W.Frag} {Z : Vol} {H : Hp} {a : Addr} {o : Obj} {kv : List (Key × V)} {ds : List (Key × D)} (e : H a = some (.frz o (.dK kv))) (l : kv.map (·.1) = ds.map (·.1)) : WkF K Z (Itk a o kv) (ds.map fun q => kD q.1) H := by
  have hl : kv.length = ds.length := by
    have := congrArg List.length l
    rwa [List.length_map, List.length_map] at this
  refine ⟨fun H' f i hi => ?_, fun H' f i hi => ⟨f.frz e, by rw [List.length_map] at hi; omega⟩⟩
  rw [List.length_map] at hi
  refine ⟨⟨f.frz e, by omega⟩, fun x H2 y => ?_⟩
  obtain ⟨rfl, k, v, hk, rfl⟩ := y
  refine ⟨Fr.refl, kD k, ?_, rp_kV k⟩
  have h1 := congrArg (fun m => m[i]?) l
  rw [List.getElem?_map] at h1
  simp only [List.getElem?_map, hk, Option.map_some] at h1
  rw [List.getElem?_map]
  obtain ⟨q, hq, e2⟩ := Option.map_eq_some_iff.mp h1.symm
  rw [hq, Option.map_some, e2]
theorem rpa_keys {K : PySem.W.Frag} {H : Hp} : ∀ k : List Key, RpA K H (k.map kV) (k.map kD)
  | [] => .nil
  | x :: k => .cons (rp_kV x) (rpa_keys k)
theorem wk_keysT {K : PySem.W.Frag} {Z : Vol} {H : Hp} {a : Addr} {o : Obj} {kv : List (List Key × V)} {ds : List (List Key × D)} (e : H a = some (.frz o (.dT kv))) (l : kv.map (·.1) = ds.map (·.1)) : WkF K Z (Itkt a o kv) (ds.map fun q => .tup (q.1.map kD)) H := by
  have hl : kv.length = ds.length := by
    have := congrArg List.length l
    rwa [List.length_map, List.length_map] at this
  refine ⟨fun H' f i hi => ?_, fun H' f i hi => ⟨f.frz e, by rw [List.length_map] at hi; omega⟩⟩
  rw [List.length_map] at hi
  refine ⟨⟨f.frz e, by omega⟩, fun x H2 y => ?_⟩
  obtain ⟨rfl, k, v, t, hk, rfl, ht⟩ := y
  refine ⟨Fr.refl, .tup (k.map kD), ?_, .tup (.h ht) (rpa_keys k)⟩
  have h1 := congrArg (fun m => m[i]?) l
  rw [List.getElem?_map] at h1
  simp only [List.getElem?_map, hk, Option.map_some] at h1
  rw [List.getElem?_map]
  obtain ⟨q, hq, e2⟩ := Option.map_eq_some_iff.mp h1.symm
  rw [hq, Option.map_some, e2]
section
variable {C : Cn} {b : Nat} {δ : List Sl} {P : Nat → List D → Prop} {tg iter : Expr}
theorem eic_keys (h : EV C b δ iter (fun b1 r => (∃ kvs, r = .va (.dk kvs) ∧ P b1 (kvs.map fun q => kD q.1)) ∨ ∃ kvs, r = .va (.dt kvs) ∧ P b1 (kvs.map fun q => .tup (q.1.map kD)))) : EIc C b δ tg iter P := by
  intro os σ H st R k
  refine WI.of (pi_keys peW) ?_
  refine h os σ H st _ fun v H1 b1 r f1 j1 rv hr => ?_
  rcases hr with ⟨kvs, rfl, q⟩ | ⟨kvs, rfl, q⟩
  · cases rv with | va rv => ?_
    cases rv with
    | @dicK a o kv _ e l ra => exact ⟨a, o, rfl, .inl ⟨kv, e, k _ H1 b1 _ f1 j1 (wk_keys e l) q⟩⟩
  · cases rv with | va rv => ?_
    cases rv with
    | @dicT a o kv _ e l ra => exact ⟨a, o, rfl, .inr ⟨kv, e, k _ H1 b1 _ f1 j1 (wk_keysT e l) q⟩⟩
end
end PD
set_option Elab.async false
set_option linter.all false
set_option maxRecDepth 100000
set_option maxHeartbeats 4000000
namespace PD
open PySem PySem.Spec PyProof.Rows L2
section
variable {C : Cn} {b : Nat} {δ : List Sl} {F : Fin} {pos px py pt pt2 : Pos} {e1 e2 : Expr} {rest : List Stmt} {kt k2 : Nat}
/-- a, b = e1, e2 of data -/
theorem sv_set2 (i j : Nat) {x y : Str} (hc : C.X.calm = true) (hN : C.X.N.Nodup) (hij : i ≠ j) (h : EVA C b δ [e1, e2] (fun b1 rs => ∃ d1 d2, rs = [.va d1, .va d2] ∧ SV C b1 ((δ.set i (.va d1)).set j (.va d2)) rest F)) (hi : C.X.N[i]? = some x := by rfl) (hj : C.X.N[j]? = some y := by rfl)
    (hx : C.X.env.scope.names.lookup x = some .local := by rfl) (hy : C.X.env.scope.names.lookup y = some .local := by rfl)
    (hw : swappedStores [.Tuple [.Name x px, .Name y py] kt pt] (.Tuple [e1, e2] k2 pt2) C.X.env = pure (some [x, y]) := by rfl)
    (hs : swapsWithSole [.Tuple [.Name x px, .Name y py] kt pt] (.Tuple [e1, e2] k2 pt2) pos.line C.X.env = pure false := by rfl) : SV C b δ (.Assign [.Tuple [.Name x px, .Name y py] kt pt] (.Tuple [e1, e2] k2 pt2) pos :: rest) F := by
  intro os σ H st D ed
  refine WSs.of (pss_cons (ps_par hc hN hi hj hij hx hy paW hw hs) pssW) ?_
  unfold tSeq tPar
  refine h os σ H st _ fun vs H1 b1 rs f1 j1 rv hr => ?_
  obtain ⟨d1, d2, rfl, q⟩ := hr
  cases rv with | @cons v1 vs1 _ _ r1 rv => ?_
  cases rv with | @cons v2 vs2 _ _ r2 rv => ?_
  cases rv
  cases r1 with | va r1 => ?_
  cases r2 with | va r2 => ?_
  refine ⟨v1, v2, rfl, ?_⟩
  obtain ⟨os1, st1, g1⟩ := st.put (i := i) f1 j1 (.va r1) rfl
  obtain ⟨os2, st2, g2⟩ := st1.put (i := j) (r := .va d2) Fr.refl j1 (.va r2) rfl
  exact q os2 _ H1 st2 D (ed.on (g1.trans g2))
end
end PD
set_option Elab.async false
set_option linter.all false
set_option maxRecDepth 100000
set_option maxHeartbeats 4000000
namespace PD
open PySem PySem.Spec PyProof.Rows L2
section
variable {C : Cn} {b : Nat} {δ : List Sl} {F : Fin} {pos px py pt pt2 : Pos} {e1 e2 : Expr} {rest : List Stmt} {kt k2 : Nat}
/-- two new lists at once: they are unlike, so they are two -/
theorem Sts.put2 {os : List Addr} {σ : L2.St} {H H1 : Hp} {b1 : Nat} {i j : Nat} {p1 p2 : Addr} {xs1 xs2 : List V} {ds1 ds2 : List D} (st : Sts C os b δ σ H) (f : Fr C.Z.S H H1) (jj : C.Z.J b1 H1) (n1 : H p1 = none) (e1 : H1 p1 = some (.lst xs1)) (s1 : ¬ C.Z.S p1) (r1 : RpA C.K H1 xs1 ds1)
    (n2 : H p2 = none) (e2 : H1 p2 = some (.lst xs2)) (s2 : ¬ C.Z.S p2) (r2 : RpA C.K H1 xs2 ds2) (ne : p1 ≠ p2) (hij : i ≠ j) :
    ∃ os', Sts C os' b1 ((δ.set i (.ow ds1)).set j (.ow ds2)) ((σ.set i (some (.ref p1))).set j (some (.ref p2))) H1 ∧ Gr C.Z os H os' H1 := by
  have no : ∀ {p : Addr}, H p = none → p ∉ os := fun {p} n z => by
    obtain ⟨x, q⟩ := (st.new p z).2.2
    rw [n] at q; cases q
  obtain ⟨o0, nd0, sub0, sl0⟩ := st.sl
  have sla : Sls C.K C.Z (p2 :: p1 :: os) H δ σ o0 := (sl0.more n1).more n2
  have sl1 : Sls C.K C.Z (p2 :: p1 :: os) H1 δ σ o0 := sla.fr f fun q hq => (st.new q (sub0 q hq)).2.1
  obtain ⟨o1, nd1, sb1, l1⟩ := sl1.put (i := i) nd0 (q := [p1]) (by simp) (fun q hq z => no n1 (sub0 p1 (by rw [← List.mem_singleton.mp hq]; exact z))) (Slot.ow e1 r1)
  obtain ⟨o2, nd2, sb2, l2⟩ := l1.put (i := j) nd1 (q := [p2]) (by simp) (fun q hq z => by
    rw [List.mem_singleton.mp hq] at z
    rcases sb1 p2 z with y | y
    · exact ne (List.mem_singleton.mp y).symm
    · exact no n2 (sub0 p2 y)) (Slot.ow e2 r2)
  have st1 := st.on f jj
  refine ⟨p2 :: p1 :: os, ⟨st1.fr, jj, fun q hq => ?_, o2, nd2, fun q hq => ?_, l2⟩, ⟨f.wide fun _ => .inl, fun q hq => ?_⟩⟩
  · rcases List.mem_cons.mp hq with z | z
    · rw [z]; exact ⟨st.fr.back n2, s2, _, e2⟩
    · rcases List.mem_cons.mp z with z | z
      · rw [z]; exact ⟨st.fr.back n1, s1, _, e1⟩
      · exact st1.new q z
  · rcases sb2 q hq with z | z
    · exact List.mem_cons.mpr (.inl (List.mem_singleton.mp z))
    · rcases sb1 q z with y | y
      · exact List.mem_cons_of_mem _ (List.mem_cons.mpr (.inl (List.mem_singleton.mp y)))
      · exact List.mem_cons_of_mem _ (List.mem_cons_of_mem _ (sub0 q y))
  · rcases List.mem_cons.mp hq with z | z
    · rw [z]; exact .inr n2
    · rcases List.mem_cons.mp z with z | z
      · rw [z]; exact .inr n1
      · exact .inl z
/-- a, b = [..], [..] of unlike lengths -/
theorem sv_set2W (i j : Nat) {x y : Str} (hc : C.X.calm = true) (hN : C.X.N.Nodup) (hij : i ≠ j) (h : EVA C b δ [e1, e2] (fun b1 rs => ∃ d1 d2, rs = [.ow d1, .ow d2] ∧ d1.length ≠ d2.length ∧ SV C b1 ((δ.set i (.ow d1)).set j (.ow d2)) rest F)) (hi : C.X.N[i]? = some x := by rfl) (hj : C.X.N[j]? = some y := by rfl)
    (hx : C.X.env.scope.names.lookup x = some .local := by rfl) (hy : C.X.env.scope.names.lookup y = some .local := by rfl)
    (hw : swappedStores [.Tuple [.Name x px, .Name y py] kt pt] (.Tuple [e1, e2] k2 pt2) C.X.env = pure (some [x, y]) := by rfl)
    (hs : swapsWithSole [.Tuple [.Name x px, .Name y py] kt pt] (.Tuple [e1, e2] k2 pt2) pos.line C.X.env = pure false := by rfl) : SV C b δ (.Assign [.Tuple [.Name x px, .Name y py] kt pt] (.Tuple [e1, e2] k2 pt2) pos :: rest) F := by
  intro os σ H st D ed
  refine WSs.of (pss_cons (ps_par hc hN hi hj hij hx hy paW hw hs) pssW) ?_
  unfold tSeq tPar
  refine h os σ H st _ fun vs H1 b1 rs f1 j1 rv hr => ?_
  obtain ⟨d1, d2, rfl, hl, q⟩ := hr
  cases rv with | @cons v1 vs1 _ _ r1 rv => ?_
  cases rv with | @cons v2 vs2 _ _ r2 rv => ?_
  cases rv
  cases r1 with | @ow p1 xs1 _ n1 a1 s1 ra1 => ?_
  cases r2 with | @ow p2 xs2 _ n2 a2 s2 ra2 => ?_
  refine ⟨_, _, rfl, ?_⟩
  have ne : p1 ≠ p2 := fun z => by
    subst z
    rw [a1] at a2
    cases a2
    exact hl (ra1.len.symm.trans ra2.len)
  obtain ⟨os2, st2, g2⟩ := st.put2 (i := i) (j := j) f1 j1 n1 a1 s1 ra1 n2 a2 s2 ra2 ne hij
  exact q os2 _ H1 st2 D (ed.on g2)
end
end PD
set_option Elab.async false
set_option linter.all false
set_option maxRecDepth 100000
set_option maxHeartbeats 4000000
namespace PD
open PySem PySem.Spec PyProof.Rows L2
/-! ### t[::-1] of a tuple -/
section
variable {prog : Program} {w : World} {A : Around} {E : Value → Shared → Prop} {s : Shared}
theorem adjust_rev (n : Nat) : Builtin.Slice.sliceAdjust none none (-1) (n : Int) = ((n : Int) - 1, -1) := rfl
theorem places_rev (n : Nat) : Builtin.Slice.slicePlaces ((n : Int) - 1) (-1) (-1) = n := by
  unfold Builtin.Slice.slicePlaces
  have h1 : ¬ ((-1 : Int) > 0) := by decide
  rw [if_neg h1]
  by_cases h : (n : Int) - 1 > -1
  · rw [if_pos h, show (-(-1) : Int) = 1 by decide, Int.ediv_one]
    omega
  · rw [if_neg h]
    omega
theorem sliceApplied_rev {sl : Addr} {vs : Value} {n : Nat} {Q : Int × Int × Nat → Shared → Prop} (hs : s.heap.IsSliceOf sl .none .none vs) (ps : IsPart vs (some (-1)))
    (h : Q ((n : Int) - 1, -1, n) s) : wpAny (model prog w) A (Builtin.Slice.sliceApplied (.ref sl) (pure (n : Int))) Q E s := by
  obtain ⟨os, hos, hcs, hds⟩ := id hs
  unfold Builtin.Slice.sliceApplied Builtin.Slice.sliceFields
  refine wpAny_bind (wpAny_bind (wpAny_field hos hds (x := .none) rfl (wpAny_bind (wpAny_field hos hds (x := .none) rfl (wpAny_bind (wpAny_field hos hds (x := vs) rfl (wpAny_pure ?_)))))))
  refine wpAny_bind (HT.slicePart_ ps ?_)
  show wpAny _ _ (if ((-1 : Int) == 0) = true then _ else _) _ _ s
  rw [if_neg (by decide)]
  refine wpAny_bind (slicePart_none (wpAny_bind (slicePart_none (wpAny_bind (wpAny_pure ?_)))))
  show wpAny _ _ (match Builtin.Slice.sliceAdjust none none (-1) (n : Int) with | (lo, hi) => pure (lo, (-1 : Int), Builtin.Slice.slicePlaces lo hi (-1))) _ _ s
  rw [adjust_rev n]
  show wpAny _ _ (pure ((n : Int) - 1, (-1 : Int), Builtin.Slice.slicePlaces ((n : Int) - 1) (-1) (-1))) _ _ s
  rw [places_rev]
  exact wpAny_pure h
theorem filterMap_same {α β : Type} {f g : α → Option β} : ∀ {xs : List α}, (∀ x ∈ xs, f x = g x) → xs.filterMap f = xs.filterMap g
  | [], _ => rfl
  | x :: xs, h => by rw [List.filterMap_cons, List.filterMap_cons, h x List.mem_cons_self, filterMap_same fun y hy => h y (List.mem_cons_of_mem _ hy)]
theorem pick_rev (xs : Array Value) : ((List.range xs.size).filterMap fun (m : Nat) => xs[(((xs.size : Int) - 1) + (m : Int) * (-1)).toNat]?).toArray = xs.toList.reverse.toArray := by
  have e : (List.range xs.size).filterMap (fun (m : Nat) => xs[(((xs.size : Int) - 1) + (m : Int) * (-1)).toNat]?) = ((List.range xs.size).map (fun k => xs.size - 1 - k)).filterMap (xs[·]?) := by
    rw [List.filterMap_map]
    refine filterMap_same fun m hm => ?_
    have hm := List.mem_range.mp hm
    have : (((xs.size : Int) - 1) + (m : Int) * (-1)).toNat = xs.size - 1 - m := by omega
    rw [this]
    rfl
  rw [e, PySem.W.krv_range, List.filterMap_reverse, PySem.W.krv_all]
theorem getItem_tuple_rev {t sl : Addr} {items : Array Value} {vs : Value} {Q : Value → Shared → Prop} (ht : IsTup s.heap t items) (hs : s.heap.IsSliceOf sl .none .none vs) (ps : IsPart vs (some (-1)))
    (h : Q (.ref s.heap.objs.size) { s with heap := s.heap.push { cls := .type "tuple", data := .seq items.toList.reverse.toArray } })
    (hsz : items.size ≤ sizeLine) : wpAny (model prog w) A (getItem (.ref t) (.ref sl)) Q E s := by
  have htake : sizeOk (.seq items.toList.reverse.toArray) := by
    show items.toList.reverse.toArray.size ≤ sizeLine
    rw [List.size_toArray, List.length_reverse, Array.length_toList]
    exact hsz
  obtain ⟨os, hos, hcs, hds⟩ := id hs
  have hTs : s.TypeIs (.ref sl) "slice" := ⟨os, hos, hcs⟩
  unfold getItem
  try with_reducible refine wpAny_holding ?_
  first | refine wpAny_bind (wpAny_pure ?_) | skip
  refine wpAny_bind (wpAny_sequenceKey ht.typeIs (by decide) ?_)
  refine wpAny_bind (wpAny_callSpecial?_slot (name := Str.ofString "__getitem__") ht.typeIs PyProof.Rows.slot_tuple_getitem
    (wpAny_call_entry PyProof.Rows.slot_tuple_getitem ht.typeIs entry_tuple_getitem ?_ (args_tuple_getitem _ _)))
  show wpAny _ _ (Builtin.Tuple.tupleItemsOf (.ref t) >>= _) _ _ s
  refine wpAny_bind (tupleItemsOf_ ht ?_)
  refine wpAny_bind (wpAny_typeOf hTs ?_)
  rw [if_pos (by decide)]
  refine wpAny_bind (sliceApplied_rev hs ps ?_)
  have hno : ¬ ((((items.size : Int) - 1) == 0 && (-1 : Int) == 1 && items.size == items.size) = true) := by
    intro q
    rw [Bool.and_eq_true, Bool.and_eq_true] at q
    exact absurd q.1.2 (by decide)
  show wpAny _ _ (if (((items.size : Int) - 1) == 0 && (-1 : Int) == 1 && items.size == items.size) = true then _ else _) _ _ s
  rw [if_neg hno, pick_rev]
  first
    | exact wpAny_bind (m := Builtin.Tuple.tupleExact _) (wpAny_newObj_type (wpAny_pure ⟨_, rfl, wpAny_pure h⟩) htake)
    | exact wpAny_bind (m := Builtin.Tuple.tupleExact _) (wpAny_newObj_type (wpAny_bind (wpAny_pure (wpAny_pure ⟨_, rfl, wpAny_pure h⟩))) htake)
    | exact wpAny_bind (wpAny_bind (m := Builtin.Tuple.tupleExact _) (wpAny_newObj_type (wpAny_pure (wpAny_pure ⟨_, rfl, wpAny_pure h⟩)) htake))
    | exact wpAny_bind (wpAny_bind (m := Builtin.Tuple.tupleExact _) (wpAny_newObj_type (wpAny_pure ⟨_, rfl, wpAny_pure h⟩) htake))
end
section
variable {X : Cx}
def tRevT (K : PySem.W.Frag) (te : TE) : TE := fun σ H Q => te σ H fun x H1 => ∃ a xs, x = .ref a ∧ SqT K H1 a xs ∧ ∀ p, H1 p = none → Q (.ref p) (upd H1 p (.tup xs.reverse))
theorem pe_revT {e : Expr} {te : TE} {k : Nat} {p1 p2 p3 pos : Pos} (he : PE X e te) : PE X (.Subscript e (.Slice none none (some (.UnaryOp .USub (.Constant (.int 1) k p1) p2)) p3) pos) (tRevT X.K te) := by
  refine ⟨fun pins s σ H Q I h => ?_⟩
  refine Subscript_ (thn (he.run pins s σ H _ I h) fun v s1 ⟨x, H1, I1, r1, q1⟩ => ?_)
  obtain ⟨a, xs, ex, hx, q⟩ := q1
  subst ex
  cases r1
  have hst : PO X (some (.UnaryOp .USub (.Constant (.int 1) k p1) p2)) (tPart (tUn (rU fun i => .int (-i)) (tC (.int 1)))) := po_some (pe_un un_neg pe_int)
  refine wpAny_Slice (thn (po_none.run pins s1 σ H1 (fun o H2 => o = none ∧ H2 = H1) I1 ⟨rfl, rfl⟩) fun vl s2 ⟨l, H2, I2, pl, el, e2⟩ => ?_)
  subst el e2
  refine thn (po_none.run pins s2 σ H2 (fun o H3 => o = none ∧ H3 = H2) I2 ⟨rfl, rfl⟩) fun vu s3 ⟨u, H3, I3, pu, eu, e3⟩ => ?_
  subst eu e3
  refine thn (hst.run pins s3 σ H3 (fun o H4 => o = some (-1) ∧ H4 = H3) I3 ⟨1, rfl, -1, rfl, rfl, rfl⟩) fun vs s4 ⟨o, H4, I4, ps, eo, e4⟩ => ?_
  subst eo e4
  cases pl
  cases pu
  have I5 : Inv X pins σ H4 { s4 with heap := s4.heap.push { cls := .type "slice", data := .fields #[.none, .none, vs] } } := I4.kept (t' := s4.toks) fun b ob q => Heap.get?_push_of_some _ q
  obtain ⟨its, r, ht, hz⟩ := I5.tuple hx
  have hlen := r.length
  show wpAny (model X.prog X.w) X.A (subscriptTail e (.Slice none none (some (.UnaryOp .USub (.Constant (.int 1) k p1) p2)) p3) (.ref a) (.ref s4.heap.objs.size)) (EP X pins σ Q) X.xe { s4 with heap := s4.heap.push { cls := .type "slice", data := .fields #[.none, .none, vs] } }
  refine tail_any (ops := [.ref a, .ref s4.heap.objs.size]) ht.typeIs (PyProof.Rows.slot_tuple_getitem.lookup) ?_ (by with_unfolding_all rfl)
  refine getItem_tuple_rev ht (Heap.IsSliceOf.new _ .none .none vs) ps ?_ (by rw [List.size_toArray]; omega)
  refine ⟨.ref _, _, I5.laid (t' := s4.toks) (o := .tup xs.reverse) (fun b ob q => Heap.get?_push_of_some _ q) (Nat.le_refl _) ?_, rfl, q _ (I5.hok.fresh (Nat.le_refl _))⟩
  exact ⟨by rw [List.length_reverse]; exact hz, _, r.reverse, IsTup.new _ _⟩
end
section
variable {C : Cn} {b : Nat} {δ : List Sl} {P : Nat → Res → Prop} {pos p1 p2 p3 : Pos} {e : Expr}
/-- t[::-1] of a tuple -/
theorem ev_revT {k : Nat} (h : EV C b δ e (fun b1 r => ∃ ds, r = .va (.tup ds) ∧ P b1 (.va (.tup ds.reverse)))) : EV C b δ (.Subscript e (.Slice none none (some (.UnaryOp .USub (.Constant (.int 1) k p1) p2)) p3) pos) P := by
  intro os σ H st Q q
  refine WE.of (pe_revT peW) ?_
  refine h os σ H st _ fun v H1 b1 r f1 j1 rv hr => ?_
  obtain ⟨ds, rfl, hq⟩ := hr
  cases rv with | va rv => ?_
  cases rv with
  | @tup a xs _ hs ra =>
    refine ⟨a, xs, rfl, hs.sq, fun p hp => ?_⟩
    have fn : Fr C.Z.S H1 (upd H1 p (.tup xs.reverse)) := Fr.new hp
    exact q _ _ b1 _ (f1.trans fn) (jnew j1 hp) (.va (.tup (.h upd_same) (ra.reverse.fr fn))) hq
end
end PD
set_option Elab.async false
set_option linter.all false
set_option maxRecDepth 100000
set_option maxHeartbeats 4000000
namespace PD
open PySem PySem.Spec PyProof.Rows L2
/-! ### a slot is exchanged, what it owns changes -/
section
variable {K : PySem.W.Frag} {Z : Vol} {os : List Addr} {H H' : Hp} {δ : List Sl} {σ : L2.St}
theorem Slot.frO {s : Sl} {v : Option V} {o1 oi q0 : List Addr} (f : Fr (fun a => a ∈ oi) H H') (sub : ∀ x ∈ oi, x ∈ os) (new : ∀ x ∈ q0, H x = none) (dis : ∀ x ∈ o1, x ∉ oi) (h : Slot K Z os H s v o1) : Slot K Z (q0 ++ os) H' s v o1 := by
  cases h with
  | un => exact .un
  | va r => exact .va (r.fr f)
  | ow e r => exact .ow (f.keep (dis _ List.mem_cons_self) e) (r.fr f)
  | li e ns no r =>
    refine .li (f.keep (fun z => no (sub _ z)) e) ns (fun z => ?_) (r.fr f)
    rcases List.mem_append.mp z with z | z
    · rw [new _ z] at e; cases e
    · exact no z
  | od e => exact .od (e.fr f (dis _ List.mem_cons_self))
  | dl e d => exact .dl (f.keep (dis _ List.mem_cons_self) e) (d.fr f fun r hr => dis r (List.mem_cons_of_mem _ hr))
  | dm e d => exact .dm (f.keep (dis _ List.mem_cons_self) e) (d.fr f fun r hr => dis r (List.mem_cons_of_mem _ hr))
theorem Sls.all {o oi q0 : List Addr} (f : Fr (fun a => a ∈ oi) H H') (sub : ∀ x ∈ oi, x ∈ os) (new : ∀ x ∈ q0, H x = none) (h : Sls K Z os H δ σ o) (dis : ∀ x ∈ o, x ∉ oi) : Sls K Z (q0 ++ os) H' δ σ o := by
  induction h with
  | nil => exact .nil
  | cons a _ ih => exact .cons (a.frO f sub new fun x hx => dis x (List.mem_append_left _ hx)) (ih fun x hx => dis x (List.mem_append_right _ hx))
theorem Sls.swap {o : List Addr} {i : Nat} {s : Sl} (h : Sls K Z os H δ σ o) (nd : o.Nodup) (hi : δ[i]? = some s) :
    ∃ v oi, σ[i]? = some v ∧ Slot K Z os H s v oi ∧ oi.Nodup ∧ (∀ x ∈ oi, x ∈ o) ∧ ∀ (H' : Hp) (s' : Sl) (v' : Option V) (q q0 : List Addr), (∀ x ∈ oi, x ∈ os) → Fr (fun a => a ∈ oi) H H' → (∀ x ∈ q0, H x = none ∧ x ∉ o) → Slot K Z (q0 ++ os) H' s' v' q → q.Nodup → (∀ x ∈ q, x ∈ oi ∨ x ∈ q0) →
      ∃ o', o'.Nodup ∧ (∀ a ∈ o', a ∈ o ∨ a ∈ q0) ∧ Sls K Z (q0 ++ os) H' (δ.set i s') (σ.set i v') o' := by
  induction h generalizing i with
  | nil => simp at hi
  | @cons s1 v1 o1 δ1 σ1 o2 a t ih =>
    have n1 := (List.nodup_append.mp nd).1
    have n2 := (List.nodup_append.mp nd).2.1
    have n3 := (List.nodup_append.mp nd).2.2
    cases i with
    | zero =>
      simp only [List.getElem?_cons_zero, Option.some.injEq] at hi
      subst hi
      refine ⟨v1, o1, rfl, a, n1, fun x hx => List.mem_append_left _ hx, fun H' s' v' q q0 sub f hn new hq hs => ⟨q ++ o2, List.nodup_append.mpr ⟨hq, n2, fun x hx y hy e => ?_⟩, fun x hx => ?_, .cons new (t.all f sub (fun x hx => (hn x hx).1) fun x hx z => n3 x z x hx rfl)⟩⟩
      · subst e
        rcases hs x hx with z | z
        · exact n3 x z x hy rfl
        · exact (hn x z).2 (List.mem_append_right _ hy)
      · rcases List.mem_append.mp hx with z | z
        · rcases hs x z with y | y
          · exact .inl (List.mem_append_left _ y)
          · exact .inr y
        · exact .inl (List.mem_append_right _ z)
    | succ i =>
      obtain ⟨v, oi, e1, e2, e3, e4, go⟩ := ih (i := i) n2 (by simpa using hi)
      refine ⟨v, oi, by simpa using e1, e2, e3, fun x hx => List.mem_append_right _ (e4 x hx), fun H' s' v' q q0 sub f hn new hq hs => ?_⟩
      obtain ⟨o', g1, g2, g3⟩ := go H' s' v' q q0 sub f (fun x hx => ⟨(hn x hx).1, fun z => (hn x hx).2 (List.mem_append_right _ z)⟩) new hq hs
      refine ⟨o1 ++ o', List.nodup_append.mpr ⟨n1, g1, fun x hx y hy e => ?_⟩, fun x hx => ?_, .cons (a.frO f sub (fun x hx => (hn x hx).1) fun x hx z => n3 x hx x (e4 x z) rfl) g3⟩
      · subst e
        rcases g2 x hy with z | z
        · exact n3 x hx x z rfl
        · exact (hn x z).2 (List.mem_append_left _ hx)
      · rcases List.mem_append.mp hx with z | z
        · exact .inl (List.mem_append_left _ z)
        · rcases g2 x z with y | y
          · exact .inl (List.mem_append_right _ y)
          · exact .inr y
end
theorem Sts.swap {C : Cn} {os : List Addr} {b : Nat} {δ : List Sl} {σ : L2.St} {H : Hp} {i : Nat} {s : Sl} (st : Sts C os b δ σ H) (hi : δ[i]? = some s) :
    ∃ v oi, σ[i]? = some v ∧ Slot C.K C.Z os H s v oi ∧ oi.Nodup ∧ (∀ x ∈ oi, x ∈ os) ∧ ∀ (H' : Hp) (s' : Sl) (q q0 : List Addr), Fr (fun a => a ∈ oi) H H' → (∀ x ∈ q0, H x = none ∧ ∃ u, H' x = some u) → Slot C.K C.Z (q0 ++ os) H' s' v q → q.Nodup → (∀ x ∈ q, x ∈ oi ∨ x ∈ q0) →
      Sts C (q0 ++ os) b (δ.set i s') σ H' ∧ Gr C.Z os H (q0 ++ os) H' := by
  obtain ⟨o, nd, sub, sl⟩ := st.sl
  obtain ⟨v, oi, e1, e2, e3, e4, go⟩ := sl.swap nd hi
  refine ⟨v, oi, e1, e2, e3, fun x hx => sub x (e4 x hx), fun H' s' q q0 f hn new hq hs => ?_⟩
  have subi : ∀ x ∈ oi, x ∈ os := fun x hx => sub x (e4 x hx)
  obtain ⟨o', g1, g2, g3⟩ := go H' s' v q q0 subi f (fun x hx => ⟨(hn x hx).1, fun z => by
    obtain ⟨u, y⟩ := (st.new x (sub x z)).2.2
    rw [(hn x hx).1] at y; cases y⟩) new hq hs
  have eσ : σ.set i v = σ := by
    obtain ⟨hlt, ev⟩ := List.getElem?_eq_some_iff.mp e1
    rw [← ev]
    exact List.set_getElem_self hlt
  rw [eσ] at g3
  have nS : ∀ x ∈ oi, ¬ C.Z.S x := fun x hx => (st.new x (subi x hx)).2.1
  refine ⟨⟨fun a u ha => ?_, C.Z.stay _ _ _ st.j fun a u ha => ?_, fun x hx => ?_, o', g1, fun x hx => ?_, g3⟩, fun a u ha => ?_, fun x hx => ?_⟩
  · have no : a ∉ oi := fun z => by rw [(st.new a (subi a z)).1] at ha; cases ha
    rcases st.fr a u ha with z | ⟨m, p, z, l⟩
    · exact .inl (f.keep no z)
    · exact .inr ⟨m, p, f.keep no z, l⟩
  · rcases f a u ha with z | ⟨m, y⟩
    · exact .inl z
    · exact .inr ⟨nS a m, y⟩
  · rcases List.mem_append.mp hx with z | z
    · exact ⟨st.fr.back (hn x z).1, snew st.j (hn x z).1, (hn x z).2⟩
    · refine ⟨(st.new x z).1, (st.new x z).2.1, ?_⟩
      obtain ⟨u, y⟩ := (st.new x z).2.2
      rcases f x u y with w | ⟨_, p, w, _⟩
      · exact ⟨_, w⟩
      · exact ⟨_, w⟩
  · rcases g2 x hx with z | z
    · exact List.mem_append_right _ (sub x z)
    · exact List.mem_append_left _ z
  · rcases f a u ha with z | ⟨m, y⟩
    · exact .inl z
    · exact .inr ⟨.inr (subi a m), y⟩
  · rcases List.mem_append.mp hx with z | z
    · exact .inr (hn x z).1
    · exact .inl z
/-! ### d.setdefault(k, z), the keys tuples -/
section
variable {X : Cx} {pins : List (Addr × Obj)} {σ : L2.St} {H : Hp} {s : Shared} {a b : Addr} {r : Value} {d : V} {k : List Key} {A : Around} {E : Value → Shared → Prop}
theorem d_setdT {kvs : List (List Key × V)} {Q : Value → Shared → Prop} (hu : A.units + 1 < cLine) (I : Inv X pins σ H s) (e : H a = some (.dT kvs)) (eb : H b = some (.tup (k.map kV))) (rd : RelV d r) (hl : kvs.length < sizeLine)
    (there : ∀ v, valV kvs k = some v → ∀ (w' : Value) (s' : Shared), Inv X pins σ H s' → RelV v w' → Q w' s') (lacks : valV kvs k = none → ∀ (w' : Value) (s' : Shared), Inv X pins σ (upd H a (.dT (putK kvs k d))) s' → RelV d w' → Q w' s') :
    wpAny (model X.prog X.w) A (call (.builtin "dict.setdefault") [.ref a, .ref b, r]) Q E s := by
  obtain ⟨z, hd, xs, rel, dd⟩ := dt_of I.hok e
  have hz : xs.length ≤ sizeLine := by rw [← Paired.length rel]; exact z
  have hl2 : (putK kvs k d).length ≤ sizeLine := by have := length_putK kvs k d; omega
  have q := rel.val k
  refine call_setdefault_heap (hsz := hz) (tupleKind_room_in1 hu) (key_of I.hok eb) hd dd (fun p hp => ?_) fun hn h' dd' hs => ?_
  · rw [hp] at q
    cases q0 : valV kvs k with
    | none => rw [q0] at q; exact (show False from q).elim
    | some v0 => rw [q0] at q; exact there v0 q0 _ _ (I.tok _) q
  · rw [hn] at q
    cases q0 : valV kvs k with
    | some v0 => rw [q0] at q; exact (show False from q).elim
    | none =>
      obtain ⟨ob, es, ep, hq, h2, h3, h4, _, h5⟩ := dd'
      refine lacks q0 _ _ (d_write I (by rw [e]; exact True.intro) hs ⟨ob, hq⟩ ⟨hl2, hd, _, (rel.put k eb rd).keeps fun c ys ec => ?_, ob, es, ep, hq, h2, h3, h4, h5⟩) rd
      rw [upd_ne (ne_of ec e (fun z => nomatch z))]
      exact ec
end
def tSetdT (td ty tx : TE) : TE := fun σ H Q => td σ H fun x H1 => ∃ a, x = .ref a ∧ IsD H1 a ∧ ty σ H1 fun y H2 => tx σ H2 fun z H3 => ∃ (kvs : List (List Key × V)) (k : List Key) (b : Addr), H3 a = some (.dT kvs) ∧ y = .ref b ∧ H3 b = some (.tup (k.map kV)) ∧ kvs.length < sizeLine ∧
  (∀ v, valV kvs k = some v → Q v H3) ∧ (valV kvs k = none → Q z (upd H3 a (.dT (putK kvs k z))))
section
variable {X : Cx} {o e f : Expr} {td ty tx : TE} {apos cpos : Pos}
theorem pe_setdT (hu : X.A.units + 1 < cLine) (ho : PE X o td) (he : PE X e ty) (hf : PE X f tx) (m : M2 X o "setdefault" apos e f cpos) : PE X (.Call (.Attribute o "setdefault" apos) [e, f] [] cpos) (tSetdT td ty tx) := by
  refine ⟨fun pins s σ H Q I hh => ?_⟩
  refine wpAny_Call_method m.base m.few m.line PySem.F.plainAttrs_dict PySem.F.slot_dict_setdefault PySem.F.type_dict_setdefault (thn (ho.run pins s σ H _ I hh) fun v0 t1 ⟨x, H1, J1, rx, a, ex, isd, g1⟩ => ?_)
  subst ex
  obtain rfl : v0 = Value.ref a := rx
  obtain ⟨ty1, ty2, _⟩ := isD_at J1 isd
  refine ⟨ty1, ty2, ?_⟩
  rw [m.trees]
  refine Calls.callWith_builtin rfl (Calls.evalArgs_plain (Calls.spliced_cons (thn (he.run pins t1 σ H1 _ J1 g1) fun v1 t2 ⟨y, H2, J2, ry, g2⟩ =>
    Calls.spliced_cons (thn (hf.run pins t2 σ H2 _ J2 g2) fun v2 t3 ⟨z, H3, J3, rz, kvs, k, b, ea, ey, eb, hl, g3, g4⟩ => Calls.spliced_nil ?_))))
  subst ey
  cases (show v1 = Value.ref b from ry)
  exact d_setdT hu J3 ea eb rz hl (fun v hv w' t4 J4 rw' => ⟨v, _, J4, rw', g3 v hv⟩) fun hn w' t4 J4 rw' => ⟨z, _, J4, rw', g4 hn⟩
end
end PD
set_option Elab.async false
set_option linter.all false
set_option maxRecDepth 100000
set_option maxHeartbeats 4000000
namespace PD
open PySem PySem.Spec PyProof.Rows L2
/-! ### d.setdefault(k, []).append(x) -/
section
variable {κ : Type} [DecidableEq κ]
def valL : List (κ × List D) → κ → Option (List D)
  | [], _ => none
  | (j, es) :: r, k => if j = k then some es else valL r k
def ensL (kvs : List (κ × List D)) (k : κ) : List (κ × List D) := if (valL kvs k).isSome = true then kvs else kvs ++ [(k, [])]
def addL : List (κ × List D) → κ → D → List (κ × List D)
  | [], _, _ => []
  | (j, es) :: r, k, d => if j = k then (j, es ++ [d]) :: r else (j, es) :: addL r k d
variable {K : PySem.W.Frag} {H : Hp} {kv : List (κ × V)} {ds : List (κ × List D)} {rs : List Addr}
theorem DL.val (k : κ) (h : DL K H kv ds rs) (nd : rs.Nodup) :
    (valV kv k = none ∧ valL ds k = none) ∨ ∃ r xs es, valV kv k = some (.ref r) ∧ r ∈ rs ∧ H r = some (.lst xs) ∧ RpA K H xs es ∧ valL ds k = some es ∧ ∀ w d, Rp K H w d → DL K (upd H r (.lst (xs ++ [w]))) kv (addL ds k d) rs := by
  induction h with
  | nil => exact .inl ⟨rfl, rfl⟩
  | @cons j r xs es kv ds rs e ra t ih =>
    obtain ⟨n1, n2⟩ := List.nodup_cons.mp nd
    by_cases q : j = k
    · refine .inr ⟨r, xs, es, by rw [valV_pos (show ((j, V.ref r) : κ × V).1 = k from q)], List.mem_cons_self, e, ra, by rw [valL, if_pos q], fun w d rw_ => ?_⟩
      have f : Fr (fun a => a = r) H (upd H r (.lst (xs ++ [w]))) := Fr.putL rfl e .l
      rw [addL, if_pos q]
      exact .cons upd_same ((ra.append (.cons rw_ .nil)).fr f) (t.fr f fun x hx z => n1 (by rw [← z]; exact hx))
    · rw [valV_neg (show ¬ ((j, V.ref r) : κ × V).1 = k from q), valL, if_neg q]
      rcases ih n2 with z | ⟨r', xs', es', h1, h2, h3, h4, h5, h6⟩
      · exact .inl z
      · refine .inr ⟨r', xs', es', h1, List.mem_cons_of_mem _ h2, h3, h4, h5, fun w d rw_ => ?_⟩
        have f : Fr (fun a => a = r') H (upd H r' (.lst (xs' ++ [w]))) := Fr.putL rfl h3 .l
        have ne : r ≠ r' := fun z => n1 (by rw [z]; exact h2)
        rw [addL, if_neg q]
        exact .cons (f.keep ne e) (ra.fr f) (h6 w d rw_)
theorem DL.snoc {k : κ} {r : Addr} (h : DL K H kv ds rs) (e : H r = some (.lst [])) : DL K H (kv ++ [(k, .ref r)]) (ds ++ [(k, [])]) (rs ++ [r]) := by
  induction h with
  | nil => exact .cons e .nil .nil
  | cons e1 r1 _ ih => exact .cons e1 r1 ih
theorem DL.len (h : DL K H kv ds rs) : kv.length = ds.length := by
  induction h with
  | nil => rfl
  | cons _ _ _ ih => simp [ih]
theorem putK_none {kvs : List (κ × V)} {k : κ} {z : V} (h : valV kvs k = none) : putK kvs k z = kvs ++ [(k, z)] := by
  unfold putK
  rw [valV_any, h]
  rfl
end
section
variable {C : Cn} {b : Nat} {δ : List Sl} {F : Fin} {pos p0 a0 a1 c0 c1 p3 : Pos} {ek ev : Expr} {rest ss : List Stmt}
/-- a new dict may hold lists of one's own -/
theorem sv_dl (i : Nat) (hi : δ[i]? = some (.od (.t []))) (h : SV C b (δ.set i (.dl [])) ss F) : SV C b δ ss F := by
  intro os σ H st D ed
  obtain ⟨v, oi, e1, sl, nd, sub, go⟩ := st.swap hi
  cases sl with
  | @od p _ dc =>
    cases dc with
    | @t kv _ e l ra =>
      have hk : kv = [] := by cases kv with | nil => rfl | cons _ _ => simp at l
      subst hk
      obtain ⟨s2, g2⟩ := go H (.dl []) [p] [] Fr.refl (fun x hx => nomatch hx) (.dl e .nil) (by simp) (fun x hx => .inl hx)
      exact h _ σ H s2 D (ed.on g2)
/-- x.setdefault(k, []).append(v), the keys tuples -/
theorem sv_setdefT (kc : KC C.K) (hu : C.X.A.units + 1 < cLine) (n : Nat) {x : Str}
    (h : EV C b δ ek (fun b1 r1 => ∃ k kvs, r1 = .va (.tup (k.map kD)) ∧ Kn k ∧ δ[n]? = some (.dl kvs) ∧ kvs.length < 16000000 ∧ EV C b1 (δ.set n (.dl (ensL kvs k))) ev fun b2 r2 => ∃ d, r2 = .va d ∧ (∀ es, valL (ensL kvs k) k = some es → es.length < 16000000) ∧ SV C b2 (δ.set n (.dl (addL (ensL kvs k) k d))) rest F))
    (hline : (a1.endLine == c1.line) = true := by rfl)
    (hN : C.X.N[n]? = some x := by rfl) (hv : Vis C.X.env.scope x := by first | exact Or.inl rfl | exact Or.inr (Or.inl rfl) | exact Or.inr (Or.inr rfl)) (hd : (x == ("__debug__" : Str)) = false := by decide) (hcd : (x == ("__classdict__" : Str)) = false := by decide)
    (hi : ∃ kvs, δ[n]? = some (.dl kvs) := by exact ⟨_, rfl⟩)
    (M : M2 C.X (.Name x p0) "setdefault" a0 ek (.List [] p3) c0 := by exact ⟨rfl, rfl, rfl, rfl⟩)
    (hbase : attributeBase (.Call (.Attribute (.Name x p0) "setdefault" a0) [ek, .List [] p3] [] c0) "append" C.X.env (eval (.Call (.Attribute (.Name x p0) "setdefault" a0) [ek, .List [] p3] [] c0) C.X.env) = eval (.Call (.Attribute (.Name x p0) "setdefault" a0) [ek, .List [] p3] [] c0) C.X.env := by rfl)
    (hfew : ((backTo c1 (starEach [ev] C.X.env)).all (fun x => !x.1) && (backToKw c1 (keywordEach [] C.X.env)).all (fun x => x.1.isSome) && decide ([ev].length + ([] : List Keyword).length + (if ([] : List Keyword).isEmpty then 0 else 1) < 30)) = true := by rfl)
    (hs : starEach [ev] C.X.env = (false, eval ev C.X.env) :: starEach [] C.X.env := by rfl) (hplain : (backTo c1 (starEach [] C.X.env)).any (·.1) = false := by rfl)
    (hsw : swapsWith (.Call (.Attribute (.Call (.Attribute (.Name x p0) "setdefault" a0) [ek, .List [] p3] [] c0) "append" a1) [ev] [] c1) none pos.line C.X.env = pure false := by rfl) :
    SV C b δ (.Expr (.Call (.Attribute (.Call (.Attribute (.Name x p0) "setdefault" a0) [ek, .List [] p3] [] c0) "append" a1) [ev] [] c1) pos :: rest) F := by
  intro os σ H st D ed
  refine WSs.of (pss_cons (ps_expr (pe_bm PySem.F.plainAttrs_list PySem.F.slot_list_append PySem.F.type_list_append mt_append (pe_setdT hu (pe_var hN hv hd hcd) peW (pe_lst pa_nil) M) (pa_cons peW pa_nil hs) hbase hfew hline hs hplain) hsw) pssW) ?_
  obtain ⟨kvs0, hi0⟩ := hi
  obtain ⟨v, oi, e1, sl0, _, _, _⟩ := st.swap hi0
  cases sl0 with
  | @dl p kv0 _ rs0 ep0 dl0 =>
  refine ⟨_, e1, p, rfl, .inr ⟨kv0, .inl ep0⟩, ?_⟩
  refine h os σ H st _ fun v1 H1 b1 r1 f1 j1 rv1 hr => ?_
  obtain ⟨k, kvs, rfl, kn, hi1, hl, h2⟩ := hr
  rw [hi0] at hi1
  cases hi1
  cases rv1 with | va rv1 => ?_
  have st1 := st.on f1 j1
  refine ⟨by decide, fun q hq => ?_⟩
  obtain ⟨bk, rfl, ebk⟩ := rp_key kc kn rv1
  have fq : Fr C.Z.S H1 (upd H1 q (.lst [])) := Fr.new hq
  -- with the new list laid
  have st2 := st1.on fq (jnew j1 hq)
  obtain ⟨v2, oi, e2, sl2, nd2, sub2, go2⟩ := st2.swap hi0
  rw [e1] at e2
  cases e2
  cases sl2 with
  | @dl _ kv _ rs ep dl =>
  obtain ⟨np, nrs⟩ := List.nodup_cons.mp nd2
  have ebk2 : upd H1 q (.lst []) bk = some (.tup (k.map kV)) := by rw [upd_ne (ne_of_none ebk hq)]; exact ebk
  have hlen := dl.len
  refine ⟨kv, k, bk, ep, rfl, ebk2, Nat.lt_of_lt_of_le (by rw [hlen]; exact hl) (by decide), fun w0 hw0 => ?_, fun hn0 => ?_⟩
  · -- the key is there
    rcases dl.val k nrs with ⟨z, _⟩ | ⟨r, xs, es, h1, h2', h3, h4, h5, h6⟩
    · rw [hw0] at z; cases z
    · rw [hw0] at h1
      cases h1
      have ee : ensL kvs0 k = kvs0 := by unfold ensL; rw [h5, if_pos Option.isSome_some]
      rw [ee] at h2
      have eδ : δ.set n (.dl kvs0) = δ := by
        obtain ⟨hlt, ev'⟩ := List.getElem?_eq_some_iff.mp hi0
        rw [← ev']
        exact List.set_getElem_self hlt
      rw [eδ] at h2
      refine ⟨.inl ⟨rfl, xs, SqL.of h3⟩, ?_⟩
      refine h2 os σ _ st2 _ fun vd H4 b2 r2 f4 j4 rv4 hr2 => ?_
      obtain ⟨d, rfl, hes, q5⟩ := hr2
      cases rv4 with | va rv4 => ?_
      have st4 := st2.on f4 j4
      obtain ⟨v5, oi5, e5, sl5, nd5, sub5, go5⟩ := st4.swap hi0
      rw [e1] at e5
      cases e5
      have ep4 := f4.keep (st2.new p (sub2 p List.mem_cons_self)).2.1 ep
      cases sl5 with
      | @dl _ kv5 _ rs5 ep5 dl5 =>
      rw [ep4] at ep5
      cases ep5
      obtain ⟨np5, nrs5⟩ := List.nodup_cons.mp nd5
      rcases dl5.val k nrs5 with ⟨z, _⟩ | ⟨r5, xs5, es5, g1, g2, g3, g4, g5, g6⟩
      · rw [hw0] at z; cases z
      · rw [hw0] at g1
        cases g1
        have ga := go5 (upd H4 r (.lst (xs5 ++ [vd]))) (.dl (addL kvs0 k d)) (p :: rs5) [] (Fr.putL (List.mem_cons_of_mem _ g2) g3 .l) (fun x hx => nomatch hx) (.dl (by rw [upd_ne (fun z => np5 (by rw [z]; exact g2))]; exact ep4) (g6 vd d rv4)) nd5 (fun x hx => .inl hx)
        refine ⟨r, xs5, vd, rfl, rfl, g3, by rw [g4.len]; exact Nat.lt_of_lt_of_le (hes es5 g5) (by decide), ?_⟩
        exact q5 _ σ _ ga.1 D (ed.on ((((Gr.of f1).trans (Gr.of fq)).trans (Gr.of f4)).trans ga.2))
  · -- it is new
    rcases dl.val k nrs with ⟨_, z⟩ | ⟨r, xs, es, h1, _⟩
    · have ee : ensL kvs0 k = kvs0 ++ [(k, [])] := by unfold ensL; rw [z, if_neg (by simp)]
      rw [putK_none hn0]
      obtain ⟨v3, oi3, e3, sl3, nd3, sub3, go3⟩ := st1.swap hi0
      rw [e1] at e3
      cases e3
      cases sl3 with
      | @dl _ kv3 _ rs3 ep3 dl3 =>
      have nq : p ≠ q := fun z => by rw [z] at ep3; rw [hq] at ep3; cases ep3
      rw [upd_ne nq] at ep
      rw [ep3] at ep
      cases ep
      obtain ⟨np3, nrs3⟩ := List.nodup_cons.mp nd3
      have qrs : q ∉ rs3 := fun z => by
        obtain ⟨u, y⟩ := (st1.new q (sub3 q (List.mem_cons_of_mem _ z))).2.2
        rw [hq] at y; cases y
      generalize hH : upd (upd H1 q (.lst [])) p (.dT (kv ++ [(k, .ref q)])) = H3
      have fr3 : Fr (fun a => a ∈ p :: rs3) H1 H3 := by
        rw [← hH]
        exact (Fr.new hq).trans (Fr.putL List.mem_cons_self (show upd H1 q (.lst []) p = some (.dT kv) by rw [upd_ne nq]; exact ep3) .t)
      have eq3 : H3 q = some (.lst []) := by rw [← hH, upd_ne (Ne.symm nq)]; exact upd_same
      have fr4 : Fr (fun a => a = p) H1 H3 := fun a u ha => by
        by_cases za : a = p
        · rw [za] at ha
          rw [ep3] at ha
          cases ha
          exact .inr ⟨za, _, by rw [za, ← hH]; exact upd_same, .t⟩
        · refine .inl ?_
          rw [← hH, upd_ne za, upd_ne (ne_of_none ha hq)]
          exact ha
      have dl4 : DL C.K H3 kv kvs0 rs3 := dl3.fr fr4 (fun x hx z => np3 (by rw [← z]; exact hx))
      have gb := go3 H3 (.dl (kvs0 ++ [(k, [])])) (p :: (rs3 ++ [q])) [q] fr3 (fun x hx => by rw [List.mem_singleton.mp hx]; exact ⟨hq, _, eq3⟩) (.dl (by rw [← hH]; exact upd_same) (dl4.snoc eq3)) (by
        rw [List.nodup_cons, List.nodup_append]
        refine ⟨fun z => ?_, nrs3, by simp, fun x hx y hy e => ?_⟩
        · rcases List.mem_append.mp z with z | z
          · exact np3 z
          · exact nq (List.mem_singleton.mp z)
        · rw [List.mem_singleton.mp hy] at e
          exact qrs (by rw [← e]; exact hx)) (fun x hx => by
        rcases List.mem_cons.mp hx with z | z
        · exact .inl (by rw [z]; exact List.mem_cons_self)
        · rcases List.mem_append.mp z with z | z
          · exact .inl (List.mem_cons_of_mem _ z)
          · exact .inr z)
      rw [ee] at h2
      refine ⟨.inl ⟨rfl, [], SqL.of eq3⟩, ?_⟩
      refine h2 _ σ H3 gb.1 _ fun vd H4 b2 r2 f4 j4 rv4 hr2 => ?_
      obtain ⟨d, rfl, hes, q5⟩ := hr2
      cases rv4 with | va rv4 => ?_
      have st4 := gb.1.on f4 j4
      have hi4 : (δ.set n (.dl (kvs0 ++ [(k, [])])))[n]? = some (.dl (kvs0 ++ [(k, [])])) := by
        obtain ⟨hlt, _⟩ := List.getElem?_eq_some_iff.mp hi0
        rw [List.getElem?_set_self hlt]
      obtain ⟨v5, oi5, e5, sl5, nd5, sub5, go5⟩ := st4.swap hi4
      rw [e1] at e5
      cases e5
      have epH3 : H3 p = some (.dT (kv ++ [(k, .ref q)])) := by rw [← hH]; exact upd_same
      have ep4 := f4.keep (st1.new p (sub3 p List.mem_cons_self)).2.1 epH3
      have eq4 : H4 q = some (.lst []) := f4.keep (gb.1.new q (by simp)).2.1 eq3
      cases sl5 with
      | @dl _ kv5 _ rs5 ep5 dl5 =>
      rw [ep4] at ep5
      cases ep5
      obtain ⟨np5, nrs5⟩ := List.nodup_cons.mp nd5
      have hv5 : valV (kv ++ [(k, V.ref q)]) k = some (.ref q) := by
        have : ∀ l : List (List Key × V), valV l k = none → valV (l ++ [(k, V.ref q)]) k = some (.ref q) := by
          intro l
          induction l with
          | nil => intro _; rw [List.nil_append, valV_pos rfl]
          | cons y l ih =>
            intro hl
            by_cases hy : y.1 = k
            · rw [valV_pos hy] at hl; cases hl
            · rw [valV_neg hy] at hl
              rw [List.cons_append, valV_neg hy]
              exact ih hl
        exact this kv hn0
      rcases dl5.val k nrs5 with ⟨z, _⟩ | ⟨r5, xs5, es5, g1, g2, g3, g4, g5, g6⟩
      · rw [hv5] at z; cases z
      · rw [hv5] at g1
        cases g1
        have ga := go5 (upd H4 q (.lst (xs5 ++ [vd]))) (.dl (addL (kvs0 ++ [(k, [])]) k d)) (p :: rs5) [] (Fr.putL (List.mem_cons_of_mem _ g2) g3 .l) (fun x hx => nomatch hx) (.dl (by rw [upd_ne (fun z => np5 (by rw [z]; exact g2))]; exact ep4) (g6 vd d rv4)) nd5 (fun x hx => .inl hx)
        refine ⟨q, xs5, vd, rfl, rfl, g3, by rw [g4.len]; exact Nat.lt_of_lt_of_le (hes es5 g5) (by decide), ?_⟩
        have s6 := ga.1
        rw [List.set_set] at s6
        exact q5 _ σ _ s6 D (ed.on ((((Gr.of f1).trans gb.2).trans (Gr.of f4)).trans ga.2))
    · rw [hn0] at h1; cases h1
end
end PD
set_option Elab.async false
set_option linter.all false
set_option maxRecDepth 100000
set_option maxHeartbeats 4000000
namespace PD
open PySem PySem.Spec PyProof.Rows L2
/-! ### a dict of lists is from now on data -/
def frzL {κ : Type} (ds : List (κ × List D)) : List (κ × D) := ds.map fun q => (q.1, .lst q.2)
theorem frz_all {X : Cx} {pins : List (Addr × Obj)} {σ : L2.St} {s : Shared} {κ : Type} {kv : List (κ × V)} {ds : List (κ × List D)} {rs : List Addr} {H : Hp} (I : Inv X pins σ H s) (h : DL X.K H kv ds rs) (nd : rs.Nodup) :
    ∃ H2, Inv X pins σ H2 s ∧ Fr (fun a => a ∈ rs) H H2 ∧ RpA X.K H2 (kv.map (·.2)) ((frzL ds).map (·.2)) ∧ kv.map (·.1) = (frzL ds).map (·.1) := by
  induction rs generalizing kv ds H with
  | nil =>
    cases h
    exact ⟨H, I, Fr.refl, .nil, rfl⟩
  | cons r rs ih =>
    cases h with
    | @cons k _ xs es kv ds _ e ra t =>
      obtain ⟨n1, n2⟩ := List.nodup_cons.mp nd
      obtain ⟨o, I1⟩ := inv_frz I e trivial
      have f1 : Fr (fun a => a = r) H (upd H r (.frz o (.lst xs))) := Fr.putL rfl e .lf
      obtain ⟨H2, I2, f2, ra2, ek⟩ := ih I1 (t.fr f1 fun x hx z => n1 (by rw [← z]; exact hx)) n2
      refine ⟨H2, I2, fun a u ha => ?_, .cons (.lst (f2.frz upd_same) ((ra.fr f1).fr f2)) ra2, ?_⟩
      · rcases f1 a u ha with z | ⟨m, p, z, l⟩
        · rcases f2 a u z with y | ⟨m, y⟩
          · exact .inl y
          · exact .inr ⟨List.mem_cons_of_mem _ m, y⟩
        · rcases f2 a p z with y | ⟨m2, q, y, l2⟩
          · exact .inr ⟨by rw [m]; exact List.mem_cons_self, p, y, l⟩
          · exact .inr ⟨List.mem_cons_of_mem _ m2, q, y, l.trans l2⟩
      · show k :: kv.map (·.1) = k :: (frzL ds).map (·.1)
        rw [ek]
section
variable {C : Cn} {b : Nat} {δ : List Sl} {F : Fin} {ss : List Stmt}
theorem sv_frzDL (i : Nat) {ds : List (List Key × List D)} (hi : δ[i]? = some (.dl ds)) (h : SV C b (δ.set i (.va (.dt (frzL ds)))) ss F) : SV C b δ ss F := by
  intro os σ H st D ed
  obtain ⟨v, oi, e1, sl, nd, sub, go⟩ := st.swap hi
  cases sl with
  | @dl p kv _ rs ep dl =>
    obtain ⟨np, nrs⟩ := List.nodup_cons.mp nd
    refine WSs.ghost fun pins s I => ?_
    obtain ⟨H2, I2, f2, ra, ek⟩ := frz_all I dl nrs
    have ep2 := f2.keep np ep
    obtain ⟨o, I3⟩ := inv_frz I2 ep2 trivial
    have f3 : Fr (fun a => a = p) H2 (upd H2 p (.frz o (.dT kv))) := Fr.putL rfl ep2 .tf
    have z := go _ (.va (.dt (frzL ds))) [] [] (fun a u ha => by
      rcases f2 a u ha with z | ⟨m, q, z, l⟩
      · rcases f3 a u z with y | ⟨m, y⟩
        · exact .inl y
        · exact .inr ⟨by rw [m]; exact List.mem_cons_self, y⟩
      · rcases f3 a q z with y | ⟨m2, w, y, l2⟩
        · exact .inr ⟨List.mem_cons_of_mem _ m, q, y, l⟩
        · exact .inr ⟨List.mem_cons_of_mem _ m, w, y, l.trans l2⟩) (fun x hx => nomatch hx) (.va (.dicT upd_same ek (ra.fr f3))) List.nodup_nil (fun x hx => nomatch hx)
    exact ⟨_, I3, h _ σ _ z.1 D (ed.on z.2)⟩
end
end PD
set_option Elab.async false
set_option linter.all false
set_option maxRecDepth 100000
set_option maxHeartbeats 4000000
namespace ST
open PySem PySem.Spec PyProof.Rows L2 KS PD
section
variable {prog : Program} {w : World} {A : Around} {E : Value → Shared → Prop} {s : Shared}
/-- set(t), t a tuple of texts -/
theorem call_set_textsT {l : Addr} {items : Array Value} {xs : List Str} {Q : Value → Shared → Prop} (hh : A.handled = none) (hl : s.heap.IsTuple l items) (hr : Vals (xs.map V.str) items.toList) (hb : xs.length + 1 < scanBound)
    (h : ∀ (h' : Heap) (tk : Nat), h'.SetOf (mixKind prog w) s.heap.objs.size (memF xs) (cnt xs) → (∀ b o, b < s.heap.objs.size → s.heap.get? b = some o → h'.get? b = some o) → Q (.ref s.heap.objs.size) { s with heap := h', toks := tk }) :
    wpAny (model prog w) A (call (.type "set") [.ref l]) Q E s := by
  have hsz : items.size = xs.length := by rw [← Array.length_toList, ← hr.length, List.length_map]
  obtain ⟨c, tl, hmro⟩ := PySem.F.called_set.mro
  have hmade := PySem.F.called_set.made
  have hsub := PySem.F.called_set.sub
  refine wpAny_call (codeAny_of_tree ?_)
  show wpAny _ _ (callAny (.type "set") _) _ _ _
  refine wpAny_pure ⟨Code.quiet_builtin _ (by decide +kernel), codeAny_builtin PySem.F.entry_type_call ?_⟩
  rw [Around.under_plain (weight_type_call_type "set" [.ref l] []) rfl]
  have h1 := PySem.F.called_set.notType
  have h2 := PySem.F.called_set.canCreate
  have hct := PySem.F.typeCall_set_1 (.ref l)
  repeat (any_goals (first | assumption | wp_step))
  refine codeAny_mono (code_set_new_1 (.ref l) (E := E) (Q₁ := fun obj s₁ => ∃ led : Bool, obj = .ref s.heap.objs.size ∧ s₁ = { s with heap := s.heap.push { cls := .type "set", dict := none, data := .set #[] 0 (.fresh 0 0 led) } }) fun led => ⟨led, rfl, rfl⟩) fun r s₁ hr' => ?_
  cases r with
  | error e => exact hr'
  | ok fl =>
    cases fl with
    | ret obj =>
      obtain ⟨led, rfl, rfl⟩ := hr'
      have hS : (s.heap.push { cls := .type "set", dict := none, data := .set #[] 0 (.fresh 0 0 led) }).get? s.heap.objs.size = some { cls := .type "set", dict := none, data := .set #[] 0 (.fresh 0 0 led) } := Heap.get?_push_size _ rfl
      have hT : Shared.TypeIs { s with heap := s.heap.push { cls := .type "set", dict := none, data := .set #[] 0 (.fresh 0 0 led) } } (.ref s.heap.objs.size) "set" := ⟨_, hS, rfl⟩
      have hli := PySem.F.called_set.init.lookup
      have hbi := PySem.F.called_set.init.bind (.ref s.heap.objs.size)
      repeat (any_goals (first | assumption | wp_step))
      refine codeAny_mono (codeAny_call_builtin (R := wants (fun r s₂ => r = .none ∧ ∃ h' tk, s₂ = { s with heap := h', toks := tk } ∧ h'.SetOf (mixKind prog w) s.heap.objs.size (memF xs) (cnt xs) ∧
          (∀ b o, b < s.heap.objs.size → s.heap.get? b = some o → h'.get? b = some o)) E) PySem.F.called_set.init.plain PySem.F.entry_set_init (check_set_init_1 hT ?_)) fun r₂ s₂ hr₂ => ?_
      · have hl1 : (s.heap.push { cls := .type "set", dict := none, data := .set #[] 0 (.fresh 0 0 led) }).IsTuple l items := hl.at fun o e => Heap.get?_push_of_some _ e
        obtain ⟨ot, hot, hct, hdt⟩ := id hl
        have hol : s.heap.get? l = some ot := hot
        have hst : Shared.TypeIs { s with heap := s.heap.push { cls := .type "set", dict := none, data := .set #[] 0 (.fresh 0 0 led) } } (.ref l) "tuple" := hl1.typeIs
        have hslt := PySem.F.sub_tuple_set
        have hslu := PySem.F.sub_tuple_frozenset
        have hne : (Value.type "tuple" == Value.type "dict") = false := by decide
        unfold Builtin.«set.__init__» noKeywords Builtin.Frozenset.updateFrom
        generalize hPI : pyIter = PI
        wp_walk
        subst hPI
        refine wpAny_pyIter_tuple hl1 ?_
        refine wpAny_bind (wpAny_runValue ?_)
        have hlS : l < s.heap.objs.size := Heap.lt_size hol
        have hh3 : A.in1.in1.in1.handled = none := by simp [hh]
        have hneI : l ≠ (s.heap.push { cls := .type "set", dict := none, data := .set #[] 0 (.fresh 0 0 led) }).objs.size := by
          rw [Heap.size_push]; exact Nat.ne_of_lt (Nat.lt_succ_of_lt hlS)
        have hSf : s.heap.objs.size ∉ [(s.heap.push { cls := .type "set", dict := none, data := .set #[] 0 (.fresh 0 0 led) }).objs.size, l] := by
          rw [Heap.size_push]; simp only [List.mem_cons, List.mem_singleton, List.not_mem_nil, or_false, not_or]
          exact ⟨Nat.ne_of_lt (Nat.lt_succ_self _), Nat.ne_of_gt hlS⟩
        refine loopT ((Walks.tuple hh3 _ l hneI items).toS) s.heap.objs.size hSf xs hsz (fun i v hv => strs_at hr i v (by rw [Array.getElem?_toList]; exact hv)) (by rw [hsz]; exact hb) (items.size - 0) 0 _ (by omega) (Nat.zero_le _)
          ⟨⟨_, Heap.get?_push_size _ rfl, rfl, rfl⟩, hl1.at fun o e => Heap.get?_push_of_some _ e⟩ ⟨_, #[], 0, _, Heap.get?_push_of_some _ hS, ⟨rfl, rfl, rfl⟩, rfl, (fun e he => by simp at he), (fun k => ?_), (by decide), (by rfl), rfl⟩ fun s' hm hS' => ?_
        · rw [List.take_zero]
          cases k <;> simp [memF]
        · rw [Moved.eq_with hm]
          show wpAny _ _ _ _ _ _
          refine wpAny_pure ?_
          show wpAny _ _ (ret Value.none) _ _ _
          refine wpAny_pure ⟨rfl, s'.heap, s'.toks, rfl, hS', fun b o hb e => ?_⟩
          have hb1 : b ≠ s.heap.objs.size := Nat.ne_of_lt hb
          have hb2 : b ≠ (s.heap.push { cls := .type "set", dict := none, data := .set #[] 0 (.fresh 0 0 led) }).objs.size := by
            rw [Heap.size_push]; exact Nat.ne_of_lt (Nat.lt_succ_of_lt hb)
          exact hm.heap b o (by simp only [List.mem_cons, List.mem_singleton, List.not_mem_nil, or_false, not_or]; exact ⟨hb1, hb2⟩) (Heap.get?_push_of_some _ (Heap.get?_push_of_some _ e))
      · cases r₂ with
        | error e => exact hr₂
        | ok fl₂ =>
          cases fl₂ with
          | ret r =>
            obtain ⟨rfl, h', tk, rfl, hS', hk'⟩ := hr₂
            repeat (any_goals (first | assumption | wp_step))
            exact h _ _ hS' hk'
          | _ => exact hr₂.elim
    | _ => exact hr'.elim
end
end ST
set_option Elab.async false
set_option linter.all false
set_option maxRecDepth 100000
set_option maxHeartbeats 4000000
namespace PD
open PySem PySem.Spec PyProof.Rows L2 KS
/-! ### tuples, the module's own empty one too -/
def Res.tupl : Res → Option (List D)
  | .va (.tup ds) => some ds
  | .va (.obj .unit _) => some []
  | _ => none
theorem RV.tupl_ {K : PySem.W.Frag} {Z : Vol} {os : List Addr} {H H' : Hp} {v : V} {r : Res} {ds : List D} (h : RV K Z os H H' v r) (e : r.tupl = some ds) : ∃ a xs, v = .ref a ∧ SqT K H' a xs ∧ RpA K H' xs ds := by
  cases h with
  | va h =>
    cases h with
    | tup hh ra => cases e; exact ⟨_, _, rfl, hh.sq, ra⟩
    | @obj t a hh =>
      cases t with
      | unit => cases e; exact ⟨_, [], rfl, hh.sq, .nil⟩
      | _ => cases e
    | _ => cases e
  | _ => cases e
theorem cr_setTT {X : Cx} (hc : X.calm = true) : CallR X (.type "set") (fun xs H Q => ∃ (l : Addr) (ys : List Str), xs = [V.ref l] ∧ SqT X.K H l (ys.map V.str) ∧ ys.length + 1 < scanBound ∧ ∀ p, H p = none → Q (.ref p) (upd H p (SetK X.prog X.w p (ST.memF ys) (cnt ys)))) := by
  intro pins s σ H xs us Q I r h
  obtain ⟨l, ys, rfl, hq, hl, q⟩ := h
  cases r with
  | cons r rr =>
    cases rr
    cases r
    obtain ⟨its, rv, pl, hz⟩ := I.tuple hq
    refine ST.call_set_textsT (I.ok.hd hc) pl (xs := ys) (by rw [List.toList_toArray]; exact rv) hl fun h' tk hS hk => ?_
    have k1 : ∀ b o, s.heap.get? b = some o → h'.get? b = some o := fun b o e => hk b o (Heap.lt_size e) e
    exact ⟨.ref _, upd H s.heap.objs.size (SetK X.prog X.w s.heap.objs.size (ST.memF ys) (cnt ys)), I.laid (t' := tk) k1 (Nat.le_refl _) (setK_new hS), rfl, q _ (I.hok.fresh (Nat.le_refl _))⟩
section
variable {C : Cn} {b : Nat} {δ : List Sl} {P : Nat → Res → Prop} {PL : Nat → List D → Prop} {pos p0 p1 p2 apos : Pos} {e e1 e2 o tg iter : Expr}
theorem ei_tupU (h : EV C b δ iter (fun b1 r => ∃ ds, r.tupl = some ds ∧ PL b1 ds)) : EI C b δ tg iter PL := by
  intro os σ H st R k
  refine WI.of (pi_tup peW) ?_
  refine h os σ H st _ fun v H1 b1 r f1 j1 rv hr => ?_
  obtain ⟨ds, hr, q⟩ := hr
  obtain ⟨a, xs, rfl, hh, ra⟩ := rv.tupl_ hr
  exact ⟨a, rfl, ⟨xs, hh⟩, k _ H1 b1 ds f1 j1 (wk_tup hh ra) q⟩
/-- list(t) -/
theorem ev_listU (B : Blt C.X) (h : EV C b δ e (fun b1 r => ∃ ds, r.tupl = some ds ∧ P b1 (.ow ds))) (hg : Gl C.X "list" := by rfl)
    (hsx : starEach [e] C.X.env = (false, eval e C.X.env) :: starEach [] C.X.env := by rfl) (hpl : (backTo pos (starEach [] C.X.env)).any (·.1) = false := by rfl) : EV C b δ (.Call (.Name "list" p0) [e] [] pos) P := by
  intro os σ H st Q q
  refine WE.of (pe_callTy call_list_of hg B.list (by decide +kernel) (pa_cons peW pa_nil hsx) (by decide) (by decide) hsx hpl) ?_
  refine h os σ H st _ fun v H1 b1 r f1 j1 rv hh => ?_
  obtain ⟨ds, hs, hq⟩ := hh
  obtain ⟨a, xs, rfl, sq, ra⟩ := rv.tupl_ hs
  refine ⟨a, xs, rfl, .inr sq, fun l hl => ?_⟩
  have fn : Fr C.Z.S H1 (upd H1 l (.lst xs)) := Fr.new hl
  exact q _ _ b1 _ (f1.trans fn) (jnew j1 hl) (.ow (f1.back hl) upd_same (snew j1 hl) (ra.fr fn)) hq
/-- tuple(t): itself -/
theorem ev_tupleU (B : Blt C.X) (h : EV C b δ e (fun b1 r => ∃ ds, (r.seq = some ds ∨ r = .va (.tup ds)) ∧ P b1 (.va (.tup ds)))) (hg : Gl C.X "tuple" := by rfl)
    (hsx : starEach [e] C.X.env = (false, eval e C.X.env) :: starEach [] C.X.env := by rfl) (hpl : (backTo pos (starEach [] C.X.env)).any (·.1) = false := by rfl) : EV C b δ (.Call (.Name "tuple" p0) [e] [] pos) P := by
  intro os σ H st Q q
  refine WE.of (pe_callTy call_tuple_of hg B.tuple (by decide +kernel) (pa_cons peW pa_nil hsx) (by decide) (by decide) hsx hpl) ?_
  refine h os σ H st _ fun v H1 b1 r f1 j1 rv hh => ?_
  obtain ⟨ds, hs, hq⟩ := hh
  rcases hs with hs | rfl
  · obtain ⟨p, xs, rfl, e, ra⟩ := rv.seq_ hs
    refine ⟨p, xs, rfl, .inl ⟨e.sq, fun l hl => ?_⟩⟩
    have fn : Fr C.Z.S H1 (upd H1 l (.tup xs)) := Fr.new hl
    exact q _ _ b1 _ (f1.trans fn) (jnew j1 hl) (.va (.tup (.h upd_same) (ra.fr fn))) hq
  · cases rv with
    | va rv =>
      cases rv with
      | @tup a xs _ hh ra => exact ⟨a, xs, rfl, .inr ⟨hh.sq, q _ H1 b1 _ f1 j1 (.va (.tup hh ra)) hq⟩⟩
/-- len(t) -/
theorem ev_lenU (B : Blt C.X) (h : EV C b δ e (fun b1 r => ∃ ds, r.tupl = some ds ∧ P b1 (.va (.int (ds.length : Nat))))) (hg : Gl C.X "len" := by rfl)
    (hsx : starEach [e] C.X.env = (false, eval e C.X.env) :: starEach [] C.X.env := by rfl) (hpl : (backTo pos (starEach [] C.X.env)).any (·.1) = false := by rfl) : EV C b δ (.Call (.Name "len" p0) [e] [] pos) P := by
  intro os σ H st Q q
  refine WE.of (pe_callB call_len hg B.len PySem.boot_len (pa_cons peW pa_nil hsx) (by decide) (by decide) hsx hpl) ?_
  refine h os σ H st _ fun v H1 b1 r f1 j1 rv hh => ?_
  obtain ⟨ds, hs, hq⟩ := hh
  obtain ⟨a, xs, rfl, sq, ra⟩ := rv.tupl_ hs
  exact ⟨.ref a, ds.length, rfl, .inr ⟨_, sq, ra.len.symm⟩, q _ H1 b1 _ f1 j1 (.va (.int _)) hq⟩
/-- len(set(t)), t a tuple of texts -/
theorem ev_lenSetU (B : Blt C.X) (hc : C.X.calm = true) (h : EV C b δ e (fun b1 r => ∃ xs : List Str, r.tupl = some (xs.map D.str) ∧ xs.length ≤ 4000 ∧ P b1 (.va (.int ((cnt xs : Nat)))))) (hgl : Gl C.X "len" := by rfl) (hgs : Gl C.X "set" := by rfl)
    (hs : starEach [e] C.X.env = (false, eval e C.X.env) :: starEach [] C.X.env := by rfl)
    (hsx : starEach [.Call (.Name "set" p0) [e] [] p1] C.X.env = (false, eval (.Call (.Name "set" p0) [e] [] p1) C.X.env) :: starEach [] C.X.env := by rfl)
    (hpl : (backTo p1 (starEach [] C.X.env)).any (·.1) = false := by rfl) (hpl2 : (backTo pos (starEach [] C.X.env)).any (·.1) = false := by rfl) :
    EV C b δ (.Call (.Name "len" p2) [.Call (.Name "set" p0) [e] [] p1] [] pos) P := by
  intro os σ H st Q q
  refine WE.of (pe_callB cr_lenO hgl B.len PySem.boot_len (pa_cons (pe_callTy (cr_setTT hc) hgs B.set (by decide +kernel) (pa_cons peW pa_nil hs) (by decide) (by decide) hs hpl) pa_nil hsx) (by decide) (by decide) hsx hpl2) ?_
  refine h os σ H st _ fun v H1 b1 r f1 j1 rv hr => ?_
  obtain ⟨xs, hr, hl, hq⟩ := hr
  obtain ⟨p, vs, rfl, sq, ra⟩ := rv.tupl_ hr
  obtain rfl := rp_text ra
  refine ⟨p, xs, rfl, sq, by show xs.length + 1 < 4096; omega, fun a ha => ?_⟩
  have hcl := cnt_le xs
  have fn : Fr C.Z.S H1 (upd H1 a (SetK C.X.prog C.X.w a (ST.memF xs) (cnt xs))) := Fr.new ha
  exact ⟨a, cnt xs, rfl, .inl ⟨_, upd_same⟩, by omega, q _ _ b1 _ (f1.trans fn) (jnew j1 ha) (.va (.int _)) hq⟩
/-- t + u, u not empty -/
theorem ev_catU (h : EV C b δ e1 (fun b1 r1 => EV C b1 δ e2 fun b2 r2 => ∃ ds es, r1.tupl = some ds ∧ r2 = .va (.tup es) ∧ es ≠ [] ∧ ds.length + es.length ≤ 16000000 ∧ P b2 (.va (.tup (ds ++ es))))) : EV C b δ (.BinOp e1 .Add e2 pos) P := by
  refine ev_bin op_catA (h.imp fun b1 r1 h2 => h2.imp fun b2 r2 ⟨ds, es, e1, e2, ne, hl, hq⟩ => ?_)
  subst e2
  intro os H H' x y jj rx ry Q q
  obtain ⟨a, xs, rfl, sq, ra⟩ := rx.tupl_ e1
  cases ry with | va ry => ?_
  cases ry with
  | @tup a2 ys _ h2 rb =>
    refine ⟨a, a2, xs, ys, rfl, rfl, sq, h2.sq, by rw [ra.len, rb.len]; exact sz1 hl, fun z => ?_, fun _ z => ?_, fun _ _ p hp => ?_⟩
    · subst z
      cases ra
      exact q _ H' _ Fr.refl jj (.va (.tup h2 rb)) hq
    · subst z
      cases rb
      exact absurd rfl ne
    · have fn : Fr C.Z.S H' (upd H' p (.tup (xs ++ ys))) := Fr.new hp
      exact q _ _ _ fn (jnew jj hp) (.va (.tup (.h upd_same) ((ra.append rb).fr fn))) hq
end
/-! ### d.get(the module's own empty tuple, z) -/
section
variable {X : Cx} {o e f : Expr} {td ty tx : TE} {apos cpos : Pos}
def tGetU (K : PySem.W.Frag) (td ty tx : TE) : TE := fun σ H Q => td σ H fun x H1 => ∃ a, x = .ref a ∧ IsD H1 a ∧ ty σ H1 fun y H2 => tx σ H2 fun z H3 => ∃ (kvs : List (List Key × V)) (b : Addr), Rd H3 a (.dT kvs) ∧ y = .ref b ∧ ObT K H3 .unit b ∧ Q ((valV kvs []).getD z) H3
theorem pe_getU (hu : X.A.units + 1 < cLine) (ho : PE X o td) (he : PE X e ty) (hf : PE X f tx) (m : M2 X o "get" apos e f cpos) : PE X (.Call (.Attribute o "get" apos) [e, f] [] cpos) (tGetU X.K td ty tx) := by
  refine ⟨fun pins s σ H Q I hh => ?_⟩
  refine wpAny_Call_method m.base m.few m.line PySem.F.plainAttrs_dict PySem.F.slot_dict_get PySem.F.type_dict_get (thn (ho.run pins s σ H _ I hh) fun v0 t1 ⟨x, H1, J1, rx, a, ex, isd, g1⟩ => ?_)
  subst ex
  obtain rfl : v0 = Value.ref a := rx
  obtain ⟨ty1, ty2, _⟩ := isD_at J1 isd
  refine ⟨ty1, ty2, ?_⟩
  rw [m.trees]
  refine Calls.callWith_builtin rfl (Calls.evalArgs_plain (Calls.spliced_cons (thn (he.run pins t1 σ H1 _ J1 g1) fun v1 t2 ⟨y, H2, J2, ry, g2⟩ =>
    Calls.spliced_cons (thn (hf.run pins t2 σ H2 _ J2 g2) fun v2 t3 ⟨z, H3, J3, rz, kvs, b, ea, ey, ob, g3⟩ => Calls.spliced_nil ?_))))
  subst ey
  cases (show v1 = Value.ref b from ry)
  cases ob with
  | @u _ oo its n k1 k2 k3 k4 =>
    obtain ⟨_, hd, xs, rel, dd⟩ := dt_rd J3.hok ea
    have key : (tupleKind (mixKind X.prog X.w)).is t3.heap [] b := ⟨oo, its, n, J3.kIn b oo k1, k2, k3, by rw [k4]; first | exact items_are .nil | exact PySem.ItemsAre.nil | constructor⟩
    refine call_meetsIn PySem.F.slot_dict_get dd.typeIs PySem.F.entry_dict_get (PySem.F.args_dict_get_3 _ _ _) (meetsH_dict_get_default (tupleKind (mixKind X.prog X.w)) a b hd v2) ⟨tupleKind_room_in1 hu, [], xs, key, dd, ?_⟩
    exact ⟨_, H3, J3.tok _, (rel.val []).getD rz, g3⟩
end
section
variable {C : Cn} {b : Nat} {δ : List Sl} {P : Nat → Res → Prop} {pos apos : Pos} {o e e1 : Expr}
theorem ev_getU (hu : C.X.A.units + 1 < cLine) (h : EV C b δ o (fun b1 r1 => r1.isDc = true ∧ EV C b1 δ e fun b2 r2 => EV C b2 δ e1 fun b3 r3 => ∃ a kvs dz, r1 = .va (.dt kvs) ∧ r2 = .va (.obj .unit a) ∧ r3 = .va dz ∧ P b3 (.va ((valD kvs []).getD dz))))
    (m : M2 C.X o "get" apos e e1 pos := by exact ⟨rfl, rfl, rfl, rfl⟩) : EV C b δ (.Call (.Attribute o "get" apos) [e, e1] [] pos) P := by
  intro os σ H st Q q
  refine WE.of (pe_getU hu peW peW peW m) ?_
  refine h os σ H st _ fun v1 H1 b1 r1 f1 j1 rv1 h2 => ?_
  obtain ⟨hd, h2⟩ := h2
  obtain ⟨a, rfl, isd⟩ := isDc_ok rv1 hd
  refine ⟨a, rfl, isd, ?_⟩
  refine h2 os σ H1 (st.on f1 j1) _ fun v2 H2 b2 r2 f2 j2 rv2 h3 => ?_
  refine h3 os σ H2 ((st.on f1 j1).on f2 j2) _ fun v3 H3 b3 r3 f3 j3 rv3 h4 => ?_
  obtain ⟨ua, kvs, dz, rfl, rfl, rfl, hp⟩ := h4
  cases rv1 with | va rv1 => ?_
  cases rv2 with | va rv2 => ?_
  cases rv3 with | va rv3 => ?_
  cases rv1 with
  | @dicT _ oo kv _ e l ra =>
  cases rv2 with
  | obj ob =>
    have e3 := (f2.trans f3).frz e
    have ra3 := ra.fr (f2.trans f3)
    refine ⟨kv, _, .inr ⟨oo, e3⟩, rfl, obT_fr f3 ob, ?_⟩
    refine q _ H3 b3 _ ((f1.trans f2).trans f3) j3 (.va ?_) hp
    obtain ⟨h1, h2⟩ := val_rel ([] : List Key) l ra3
    cases hv : valD kvs [] with
    | none => rw [h1 hv]; exact rv3
    | some d =>
      obtain ⟨v, hv2, r⟩ := h2 d hv
      rw [hv2]
      exact r
end
end PD
set_option Elab.async false
set_option linter.all false
set_option maxRecDepth 100000
set_option maxHeartbeats 4000000
namespace PD
open PySem PySem.Spec PyProof.Rows L2
/-! ### calls with a default left out, with a keyword -/
structure DfD (P : Program) (w : World) (K : PySem.W.Frag) (mg : Str → Option Value) (base : Heap) (x : Str) (k : Nat) (ps : List Str) (sp : Sp) (dvs : List V) : Prop where
  at_ : ∃ f fd ds, FnOk P w K mg base CX0 k f fd ps sp ∧ mg x = some (.ref f) ∧ PySem.W.keepIn K (.ref f) = true ∧ Binds K fd ps ds ∧ Vals dvs ds
structure DfN (P : Program) (w : World) (K : PySem.W.Frag) (mg : Str → Option Value) (base : Heap) (x : Str) (k : Nat) (ps : List Str) (sp : Sp) (m : Nat) (kw : Str) : Prop where
  at_ : ∃ f fd g, FnOk P w K mg base CX0 k f fd ps sp ∧ mg x = some (.ref f) ∧ PySem.W.keepIn K (.ref f) = true ∧ KBn K fd ps m [kw] g (fun vs zs => vs ++ zs)
theorem arvs_of {K : PySem.W.Frag} {Z : Vol} {H : Hp} {vs : List V} {ds : List D} (h : RpA K H vs ds) : ArVs K Z H vs (ds.map Ar.va) := by
  induction ds generalizing vs with
  | nil => cases h; exact .nil
  | cons d ds ih => cases h with | cons a r => exact .cons (.va a) (ih r)
theorem arvs_app {K : PySem.W.Frag} {Z : Vol} {H : Hp} {vs ws : List V} {as cs : List Ar} (h : ArVs K Z H vs as) (g : ArVs K Z H ws cs) : ArVs K Z H (vs ++ ws) (as ++ cs) := by
  induction h with
  | nil => exact g
  | cons a _ ih => exact .cons a ih
theorem arvs_fr {K : PySem.W.Frag} {Z : Vol} {H H' : Hp} {vs : List V} {ds : List D} (h : ArVs K Z H vs (ds.map Ar.va)) (f : Fr Z.S H H') : ArVs K Z H' vs (ds.map Ar.va) := by
  induction ds generalizing vs with
  | nil => cases h; exact .nil
  | cons d ds ih =>
    cases h with
    | cons a r =>
      cases a with
      | va r1 => exact .cons (.va (r1.fr f)) (ih r)
section
variable {C : Cn} {b : Nat} {δ : List Sl} {P : Nat → Res → Prop} {pos p0 kpos : Pos} {e ek : Expr} {es : List Expr}
/-- defaults left out at the end -/
theorem ev_callD {x : Str} {k n : Nat} {ps : List Str} {g : List D → Option Res} {dvs : List V} {dds : List D} (F : DfD C.X.prog C.X.w C.X.K C.X.mg C.X.base x k ps (spP C.Z C.K n g) dvs) (hr : Room k C.X.A) (hd : ∀ H, RpA C.K H dvs dds)
    (h : EVA C b δ (e :: es) (fun b1 rs => ∃ ds r, vas rs = some ds ∧ ds.length + dds.length = n ∧ g (ds ++ dds) = some r ∧ P b1 r)) (hg : Gl C.X x := by rfl)
    (hdb : (x == ("__debug__" : Str)) = false := by decide) (he : starEach (e :: es) C.X.env = (false, eval e C.X.env) :: starEach es C.X.env := by rfl) (hpl : (backTo pos (starEach es C.X.env)).any (·.1) = false := by rfl) :
    EV C b δ (.Call (.Name x p0) (e :: es) [] pos) P := by
  obtain ⟨f, fd, dsv, ok, hm, hk, hb, hv⟩ := F.at_
  intro os σ H st Q q
  refine WE.of (pe_call ok hr hg hm hk hb hv pass0 paW hdb he hpl) ?_
  refine h os σ H st _ fun vs H1 b1 rs f1 j1 rv hh => ?_
  obtain ⟨ds, r, h1, h2, h3, h4⟩ := hh
  obtain ⟨a1, a2⟩ := vas_ar h1
  have ra := rv.ar
  rw [a1] at ra
  refine ⟨b1, (ds ++ dds).map Ar.va, by rw [List.length_map, List.length_append]; exact h2, by rw [List.map_append]; exact arvs_app ra (arvs_of (hd H1)), j1, ⟨ds ++ dds, r, rfl, h3⟩, fun v H' b' r' f2 j2 rv2 ho po => ?_⟩
  obtain ⟨hb', ds', e1, e2⟩ := po
  rw [← map_va_inj e1, h3] at e2
  cases e2
  rw [hb'] at j2
  exact q v H' b1 r (f1.trans f2) j2 ((rv2.any ho).from f1) h4
/-- the last parameter by its keyword -/
theorem ev_callN {x kw : Str} {k n m : Nat} {ps : List Str} {g : List D → Option Res} (F : DfN C.X.prog C.X.w C.X.K C.X.mg C.X.base x k ps (spP C.Z C.K n g) m kw) (hr : Room k C.X.A)
    (h : EVA C b δ (e :: es) (fun b1 rs => EV C b1 δ ek fun b2 rk => ∃ ds dk r, vas rs = some ds ∧ rk = .va dk ∧ ds.length = m ∧ m + 1 = n ∧ g (ds ++ [dk]) = some r ∧ P b2 r)) (hg : Gl C.X x := by rfl)
    (hall : (backToKw pos (keywordEach [⟨some kw, ek, kpos⟩] C.X.env)).all (·.1.isSome) = true := by rfl) (hks : (backToKw pos (keywordEach [⟨some kw, ek, kpos⟩] C.X.env)).filterMap (·.1) = [kw] := by rfl)
    (hdb : (x == ("__debug__" : Str)) = false := by decide) (he : starEach (e :: es) C.X.env = (false, eval e C.X.env) :: starEach es C.X.env := by rfl)
    (hpl : ((backTo pos (starEach (e :: es) C.X.env)).any (·.1) || (backToKw pos (keywordEach [⟨some kw, ek, kpos⟩] C.X.env)).any (·.1.isNone)) = false := by rfl) :
    EV C b δ (.Call (.Name x p0) (e :: es) [⟨some kw, ek, kpos⟩] pos) P := by
  obtain ⟨f, fd, gg, ok, hm, hk, hb⟩ := F.at_
  intro os σ H st Q q
  refine WE.of (pe_callN ok hr hg hm hk hb pass0 paW (pk_cons peW pk_nil) hall hks hdb he hpl) ?_
  refine h os σ H st _ fun vs H1 b1 rs f1 j1 rv hh => ?_
  refine hh os σ H1 (st.on f1 j1) _ fun v2 H2 b2 rk f2 j2 rv2 hh2 => ?_
  obtain ⟨ds, dk, r, h1, rfl, h2, h5, h3, h4⟩ := hh2
  obtain ⟨a1, a2⟩ := vas_ar h1
  have ra := rv.ar
  rw [a1] at ra
  have hl : vs.length = m := by rw [ra.len, List.length_map]; exact h2
  cases rv2 with | va rv2 => ?_
  refine ⟨hl, rfl, b2, (ds ++ [dk]).map Ar.va, by rw [List.length_map, List.length_append, h2]; exact h5, by rw [List.map_append]; exact arvs_app (arvs_fr ra f2) (.cons (.va rv2) .nil), j2, ⟨ds ++ [dk], r, rfl, h3⟩, fun v H' b' r' f3 j3 rv3 ho po => ?_⟩
  obtain ⟨hb', ds', e1, e2⟩ := po
  rw [← map_va_inj e1, h3] at e2
  cases e2
  rw [hb'] at j3
  exact q v H' b2 r ((f1.trans f2).trans f3) j3 ((rv3.any ho).from (f1.trans f2)) h4
end
/-- one default, left out or given by its name -/
theorem DfD.of {P : Program} {w : World} {K : PySem.W.Frag} {mg : Str → Option Value} {base : Heap} {x : Str} {st : Stmt} {f : Addr} {fd : FuncData} {ps : List Str} {k : Nat} {sp : Sp} {dvs : List V} (F : FunD K x x (defArgs st) (defBody st) (defScope st) dvs [] f fd) (ok : FnOk P w K mg base CX0 k f fd ps sp) (hm : mg x = some (.ref f))
    (hd : dvs ≠ []) (n : Nat) (hn : n + dvs.length = ps.length)
    (h : ∀ (T : Addr) (kV doc pm : Value) (an : Option Addr) (cdv ct : Value) (us its : List Value), us.length = n → its.length = dvs.length →
      ∃ k, bindArgs (PySem.W.fnOf x x (defArgs st) (defBody st) (defScope st) (.ref T) kV doc pm an cdv ct) ⟨us, []⟩ = seqItems? (.ref T) >>= k ∧ k (some its.toArray) = pure (ps.zip (us ++ its))) : DfD P w K mg base x k ps sp dvs := by
  obtain ⟨ds, hv, hb⟩ := F.binds1 (ps := ps) n 0 hd (by rw [Nat.sub_zero]; exact hn) (fun T kV doc pm an cdv ct us its l1 l2 => by rw [List.drop_zero]; exact h T kV doc pm an cdv ct us its l1 l2)
  rw [List.drop_zero] at hv
  exact ⟨f, fd, ds, ok, hm, F.kp, hb, hv⟩
theorem DfN.of {P : Program} {w : World} {K : PySem.W.Frag} {mg : Str → Option Value} {base : Heap} {x kw : Str} {st : Stmt} {f : Addr} {fd : FuncData} {ps : List Str} {k m : Nat} {sp : Sp} {dv : V} (F : FunD K x x (defArgs st) (defBody st) (defScope st) [dv] [] f fd) (ok : FnOk P w K mg base CX0 k f fd ps sp) (hm : mg x = some (.ref f))
    (h : ∀ (T : Addr) (kV doc pm : Value) (an : Option Addr) (cdv ct : Value) (us its ws : List Value), us.length = m → its.length = 1 → ws.length = 1 →
      ∃ k, bindArgs (PySem.W.fnOf x x (defArgs st) (defBody st) (defScope st) (.ref T) kV doc pm an cdv ct) ⟨us, [kw].zip ws⟩ = seqItems? (.ref T) >>= k ∧ k (some its.toArray) = pure (ps.zip (us ++ ws))) : DfN P w K mg base x k ps sp m kw := by
  obtain ⟨its, hb⟩ := F.kbindsD (ps := ps) m [kw] (fun {α} us its ws => us ++ ws) (by simp) (fun r1 _ r3 => r1.append r3) (fun T kV doc pm an cdv ct us its ws l1 l2 l3 => h T kV doc pm an cdv ct us its ws l1 l2 l3)
  exact ⟨f, fd, _, ok, hm, F.kp, hb⟩
end PD
set_option Elab.async false
set_option linter.all false
set_option maxRecDepth 100000
set_option maxHeartbeats 4000000
namespace PD
open PySem PySem.Spec PyProof.Rows L2
/-! ### a comprehension of two clauses -/
section
variable {K : PySem.W.Frag} {Z : Vol} {os : List Addr} {H : Hp}
mutual
theorem bindS : ∀ (p : Pat) {d : D} {v : V} {δ δ' : List Sl} {σ : L2.St} {o : List Addr}, Rp K H v d → Sls K Z os H δ σ o → o.Nodup → bindP p d δ = some δ' →
    ∃ σ' o', Sls K Z os H δ' σ' o' ∧ o'.Nodup ∧ (∀ q ∈ o', q ∈ o) ∧ (∀ vs, (∀ i ∈ p.slots, i ∈ vs) → wipe σ' vs = wipe σ vs) ∧ ∀ Q : L2.St → Hp → Prop, Q σ' H → gPat K p v σ H Q
  | .nm i, d, v, δ, δ', σ, o, r, sl, nd, e => by
    simp only [bindP, Option.some.injEq] at e
    subst e
    obtain ⟨o', n', s', l'⟩ := sl.put (i := i) nd List.nodup_nil (fun p z => (nomatch z)) (Slot.va r)
    exact ⟨_, o', l', n', fun q hq => (s' q hq).elim (fun z => (nomatch z)) id, fun vs h => wipe_set _ _ _ _ (h i (by simp [Pat.slots])), fun Q q => q⟩
  | .tp ps, d, v, δ, δ', σ, o, r, sl, nd, e => by
    cases d with
    | tup ds =>
      cases r with
      | @tup a xs _ h ra =>
        simp only [bindP] at e
        obtain ⟨σ', o', h1, n1, s1, h2, h3, h4⟩ := bindsS ps ra sl nd e
        exact ⟨σ', o', h1, n1, s1, fun vs hv => h2 vs (by simpa only [Pat.slots] using hv), fun Q q => ⟨a, xs, rfl, h.sq, h3, h4 Q q⟩⟩
    | _ => simp only [bindP] at e; cases e
theorem bindsS : ∀ (ps : List Pat) {ds : List D} {xs : List V} {δ δ' : List Sl} {σ : L2.St} {o : List Addr}, RpA K H xs ds → Sls K Z os H δ σ o → o.Nodup → bindPs ps ds δ = some δ' →
    ∃ σ' o', Sls K Z os H δ' σ' o' ∧ o'.Nodup ∧ (∀ q ∈ o', q ∈ o) ∧ (∀ vs, (∀ i ∈ slotsAll ps, i ∈ vs) → wipe σ' vs = wipe σ vs) ∧ xs.length = ps.length ∧ ∀ Q : L2.St → Hp → Prop, Q σ' H → gPats K ps xs σ H Q
  | [], ds, xs, δ, δ', σ, o, r, sl, nd, e => by
    cases ds with
    | nil =>
      cases r
      simp only [bindPs, Option.some.injEq] at e
      subst e
      exact ⟨σ, o, sl, nd, fun _ h => h, fun _ _ => rfl, rfl, fun Q q => ⟨rfl, q⟩⟩
    | cons d ds => simp only [bindPs] at e; cases e
  | p :: ps, ds, xs, δ, δ', σ, o, r, sl, nd, e => by
    cases ds with
    | nil => simp only [bindPs] at e; cases e
    | cons d ds =>
      cases r with
      | @cons v vs _ _ r1 r2 =>
        simp only [bindPs] at e
        cases e1 : bindP p d δ with
        | none => rw [e1] at e; cases e
        | some δ1 =>
          rw [e1] at e
          obtain ⟨σ1, o1, l1, n1, s1, w1, g1⟩ := bindS p r1 sl nd e1
          obtain ⟨σ2, o2, l2, n2, s2, w2, len, g2⟩ := bindsS ps r2 l1 n1 e
          refine ⟨σ2, o2, l2, n2, fun q hq => s1 q (s2 q hq), fun us hu => ?_, by simp [len], fun Q q => ⟨v, vs, rfl, g1 _ (g2 Q q)⟩⟩
          rw [w2 us fun i hi => hu i (by simp only [slotsAll]; exact List.mem_append_right _ hi), w1 us fun i hi => hu i (by simp only [slotsAll]; exact List.mem_append_left _ hi)]
end
theorem wipeS {δ : List Sl} {σ : L2.St} {o : List Addr} (sl : Sls K Z os H δ σ o) (nd : o.Nodup) : ∀ vs : List Nat, ∃ o', Sls K Z os H (wipeD δ vs) (wipe σ vs) o' ∧ o'.Nodup ∧ ∀ q ∈ o', q ∈ o
  | [] => ⟨o, sl, nd, fun _ h => h⟩
  | v :: vs => by
    obtain ⟨o1, l1, n1, s1⟩ := wipeS sl nd vs
    obtain ⟨o', n', s', l'⟩ := l1.put (i := v) n1 List.nodup_nil (fun p z => (nomatch z)) (Slot.un (v := none))
    exact ⟨o', l', n', fun p hp => (s' p hp).elim (fun z => (nomatch z)) (s1 p)⟩
end
theorem ite_t {A B : Prop} (h : A) : if true = true then A else B := by rw [if_pos rfl]; exact h
/-- the source's reading, in any block -/
def WIb (X : Cx) (scope : Scope) (tg iter : Expr) : TI := fun σ H R => ∀ (s : Shared) (H' : Hp) (Cc : Addr) (cl : List (Str × Addr)) (fp : List Addr), WI (X.blk s H' scope (compEnvC scope cl Cc X.env) fp) tg iter σ H R
theorem piWb {X : Cx} {scope : Scope} {tg iter : Expr} (s : Shared) (H' : Hp) (Cc : Addr) (cl : List (Str × Addr)) (fp : List Addr) : PI (X.blk s H' scope (compEnvC scope cl Cc X.env) fp) tg iter (WIb X scope tg iter) := ⟨fun pins s1 σ H Q I h => h s H' Cc cl fp pins s1 I⟩
section
variable {C : Cn} {b : Nat} {δ : List Sl} {P : Nat → Res → Prop} {tg iter tg1 iter1 elt : Expr} {pos : Pos} {scope : Scope}
/-- [elt for tg in iter for tg1 in iter1] -/
theorem ev_flat (p p1 : Pat) (own : List (Str × Nat)) (hc : C.X.calm = true) (hN : C.X.N.Nodup) (ok : BlkOk C.X.N C.X.env.scope scope own)
    (hg : ∀ (s : Shared) (H : Hp) (Cc : Addr) (cl : List (Str × Addr)) (fp : List Addr), PG (C.X.blk s H scope (compEnvC scope cl Cc C.X.env) fp) tg (gPat C.X.K p))
    (hg1 : ∀ (s : Shared) (H : Hp) (Cc : Addr) (cl : List (Str × Addr)) (fp : List Addr), PG (C.X.blk s H scope (compEnvC scope cl Cc C.X.env) fp) tg1 (gPat C.X.K p1))
    (hp : ∀ i ∈ p.slots, i ∈ own.map (·.2)) (hp1 : ∀ i ∈ p1.slots, i ∈ own.map (·.2))
    (h : EIc C b δ tg iter (fun b1 ds => ∃ (es : D → List D) (g : D → D → D), (ds.flatMap es).length ≤ 16000000 ∧ (∀ d ∈ ds, ∃ δ', bindP p d (wipeD δ (own.map (·.2))) = some δ' ∧
      (∀ (s : Shared) (H : Hp) (Cc : Addr) (cl : List (Str × Addr)) (fp : List Addr), EI (C.blk s H scope (compEnvC scope cl Cc C.X.env) fp) b1 δ' tg1 iter1 fun b2 ys => b2 = b1 ∧ ys = es d) ∧
      ∀ y ∈ es d, ∃ δ2, bindP p1 y (wipeD δ' p1.slots) = some δ2 ∧ ∀ (s : Shared) (H : Hp) (Cc : Addr) (cl : List (Str × Addr)) (fp : List Addr), EV (C.blk s H scope (compEnvC scope cl Cc C.X.env) fp) b1 δ2 elt fun b3 r => b3 = b1 ∧ r = .va (g d y)) ∧
      P b1 (.ow (ds.flatMap fun d => (es d).map (g d)))))
    (hs : ∀ x, foldedSetIterable iter C.X.env x = pure x := by intro _; rfl) (hs1 : ∀ env x, foldedSetIterable iter1 env x = pure x := by intro _ _; rfl) :
    EV C b δ (.ListComp elt [⟨tg, iter, [], 0⟩, ⟨tg1, iter1, [], 0⟩] scope pos) P := by
  intro os σ H st Q q
  refine WE.of (pe_lc2 (vs1 := p1.slots) hc hN piW ok hp1 hg (fun s H Cc cl fp => pts_nil) (fun s H Cc cl fp => piWb s H Cc cl fp) hg1 (fun s H Cc cl fp => pts_nil) (fun s H Cc cl fp => peWb s H Cc cl fp) hs hs1) ?_
  refine h os σ H st _ fun J H1 b1 ds f1 j1 W hh => ?_
  obtain ⟨es, g, hl, step, last⟩ := hh
  intro D0 hD
  have nsD : ¬ C.Z.S D0 := snew j1 hD
  have hD0 : D0 ∉ os := fun z => by
    obtain ⟨x, hx⟩ := (st.new D0 z).2.2
    have := f1.back hD
    rw [this] at hx
    cases hx
  have len : ∀ n, ((ds.take n).flatMap fun d => (es d).map (g d)).length ≤ (ds.flatMap es).length := fun n => by
    have e : (ds.flatMap es).length = ((ds.take n).flatMap es).length + ((ds.drop n).flatMap es).length := by
      rw [← List.length_append, ← List.flatMap_append, List.take_append_drop]
    have e2 : ((ds.take n).flatMap fun d => (es d).map (g d)).length = ((ds.take n).flatMap es).length := by
      simp [List.length_flatMap]
    omega
  refine ⟨fun i m H2 => m = ds.length - i ∧ i ≤ ds.length ∧ ∃ xs, Fr C.Z.S H1 H2 ∧ C.Z.J b1 H2 ∧ H2 D0 = some (.lst xs) ∧ RpA C.K H2 xs ((ds.take i).flatMap fun d => (es d).map (g d)), ⟨ds.length, ?_⟩, ?_⟩
  · exact ⟨by omega, Nat.zero_le _, [], Fr.new hD, jnew j1 hD, upd_same, .nil⟩
  · rintro i m H2 ⟨rfl, hi, xs, f2, j2, hD2, ra⟩
    by_cases hlt : i < ds.length
    · obtain ⟨go, item⟩ := W.go H2 f2 i hlt
      refine .inr ⟨go, fun H' => ∃ xs, Fr C.Z.S H1 H' ∧ C.Z.J b1 H' ∧ H' D0 = some (.lst xs) ∧ RpA C.K H' xs ((ds.take (i + 1)).flatMap fun d => (es d).map (g d)), fun H' z => ⟨ds.length - (i + 1), by omega, rfl, hlt, z⟩, fun x H3 y => ?_⟩
      obtain ⟨f3, d, hd, rx⟩ := item x H3 y
      have f3' : Fr C.Z.S H2 H3 := f3.wide fun _ z => z.elim
      have j3 : C.Z.J b1 H3 := C.Z.stay _ _ _ j2 (f3.wide fun _ z => z.elim)
      have hdm : d ∈ ds := List.mem_of_getElem? hd
      have etk : ds.take (i + 1) = ds.take i ++ [d] := by
        rw [List.take_succ, hd]
        rfl
      have D3 : H3 D0 = some (.lst xs) := f3'.keep nsD hD2
      obtain ⟨δ', hb, hsrc, hstep⟩ := step d hdm
      -- the state with the new list among the own ones
      obtain ⟨o0, nd0, sub0, sl0⟩ := (st.on f1 j1).sl
      have sl3 : Sls C.K C.Z (D0 :: os) H3 δ σ o0 := (sl0.more hD).fr (f2.trans f3') fun a ha => (st.new a (sub0 a ha)).2.1
      obtain ⟨o1, sl4, nd1, sub1⟩ := wipeS sl3 nd0 (own.map (·.2))
      obtain ⟨σ', o2, sl5, nd2, sub2, hw, hgo⟩ := bindS p rx sl4 nd1 hb
      have sub2' : ∀ a ∈ o2, a ∈ os := fun a ha => sub0 a (sub1 a (sub2 a ha))
      have st5 : ∀ {b' δ1 σ1 H' o}, Fr C.Z.S H1 H' → C.Z.J b' H' → (∃ u, H' D0 = some u) → Sls C.K C.Z (D0 :: os) H' δ1 σ1 o → o.Nodup → (∀ a ∈ o, a ∈ os) → Sts C (D0 :: os) b' δ1 σ1 H' := fun fH jH hu sl nd sub =>
        ⟨st.fr.trans (f1.trans fH), jH, fun a ha => (List.mem_cons.mp ha).elim (fun e => by rw [e]; exact ⟨st.fr.back (f1.back hD), nsD, hu⟩) fun z => by
          obtain ⟨n1, n2, u, n3⟩ := st.new a z
          exact ⟨n1, n2, u, (f1.trans fH).keep n2 n3⟩, _, nd, fun a ha => List.mem_cons_of_mem _ (sub a ha), sl⟩
      have ctx : ∀ s H Cc cl fp {b' δ' σ' H' os'}, Sts C os' b' δ' σ' H' → Sts (C.blk s H scope (compEnvC scope cl Cc C.X.env) fp) os' b' δ' σ' H' := fun s H Cc cl fp b' δ' σ' H' os' z => ⟨z.fr, z.j, z.new, z.sl⟩
      refine hgo _ ⟨by rw [hw _ hp, wipe_wipe], ?_⟩
      unfold tYes
      refine ite_t ?_
      show WIb C.X scope tg1 iter1 σ' H3 _
      intro s0 H0 Cc cl fp
      refine hsrc s0 H0 Cc cl fp (D0 :: os) σ' H3 (ctx s0 H0 Cc cl fp (st5 (f2.trans f3') j3 ⟨_, D3⟩ sl5 nd2 sub2')) _ fun J1 H4 b2 ys f4 j4 W1 hy => ?_
      obtain ⟨rfl, rfl⟩ := hy
      have f4' : Fr C.Z.S H3 H4 := f4
      have W1' : Wk C.K C.Z J1 (es d) (D0 :: os) H4 := W1
      have j4' : C.Z.J b2 H4 := j4
      have D4 : H4 D0 = some (.lst xs) := f4'.keep nsD D3
      have sl6 : Sls C.K C.Z (D0 :: os) H4 δ' σ' o2 := sl5.fr f4' fun a ha => (st.new a (sub2' a ha)).2.1
      refine ⟨fun j k H5 => k = (es d).length - j ∧ j ≤ (es d).length ∧ ∃ zs, Fr C.Z.S H1 H5 ∧ C.Z.J b2 H5 ∧ H5 D0 = some (.lst zs) ∧ RpA C.K H5 zs (((ds.take i).flatMap fun d => (es d).map (g d)) ++ ((es d).take j).map (g d)) ∧ Gr C.Z (D0 :: os) H4 (D0 :: os) H5 ∧ Sls C.K C.Z (D0 :: os) H5 δ' σ' o2, ⟨(es d).length, ?_⟩, ?_⟩
      · exact ⟨by omega, Nat.zero_le _, xs, f2.trans (f3'.trans f4'), j4', D4, by simpa using (ra.fr f3').fr f4', Gr.refl, sl6⟩
      · rintro j k H5 ⟨rfl, hj, zs, f5, j5, D5, ra5, g5, sl7⟩
        by_cases hjl : j < (es d).length
        · obtain ⟨go1, item1⟩ := W1'.go (D0 :: os) H5 g5 j hjl
          refine .inr ⟨go1, fun H' => ∃ zs, Fr C.Z.S H1 H' ∧ C.Z.J b2 H' ∧ H' D0 = some (.lst zs) ∧ RpA C.K H' zs (((ds.take i).flatMap fun d => (es d).map (g d)) ++ ((es d).take (j + 1)).map (g d)) ∧ Gr C.Z (D0 :: os) H4 (D0 :: os) H' ∧ Sls C.K C.Z (D0 :: os) H' δ' σ' o2, fun H' z => ⟨(es d).length - (j + 1), by omega, rfl, hjl, z⟩, fun x1 H6 y1 => ?_⟩
          obtain ⟨f6, d1, hd1, rx1⟩ := item1 x1 H6 y1
          have f6' : Fr C.Z.S H5 H6 := f6.wide fun _ z => z.elim
          have j6 : C.Z.J b2 H6 := C.Z.stay _ _ _ j5 (f6.wide fun _ z => z.elim)
          have hm1 : d1 ∈ es d := List.mem_of_getElem? hd1
          have etk1 : (es d).take (j + 1) = (es d).take j ++ [d1] := by
            rw [List.take_succ, hd1]
            rfl
          obtain ⟨δ2, hb1, hel⟩ := hstep d1 hm1
          have sl8 : Sls C.K C.Z (D0 :: os) H6 δ' σ' o2 := sl7.fr f6' fun a ha => (st.new a (sub2' a ha)).2.1
          have D6 : H6 D0 = some (.lst zs) := f6'.keep nsD D5
          obtain ⟨o3, sl9, nd3, sub3⟩ := wipeS sl8 nd2 p1.slots
          obtain ⟨σ2, o4, sl10, nd4, sub4, hw1, hgo1⟩ := bindS p1 rx1 sl9 nd3 hb1
          refine hgo1 _ ⟨by rw [hw1 _ (fun _ h => h), wipe_wipe], ?_⟩
          refine ite_t ?_
          show WEb C.X scope elt σ2 H6 _
          intro s7 H7 Cc7 cl7 fp7
          refine hel s7 H7 Cc7 cl7 fp7 (D0 :: os) σ2 H6 (ctx s7 H7 Cc7 cl7 fp7 (st5 (f5.trans f6') j6 ⟨_, D6⟩ sl10 nd4 fun a ha => sub2' a (sub3 a (sub4 a ha)))) _ fun v H8 b4 r f8 j8 rv hy => ?_
          obtain ⟨rfl, rfl⟩ := hy
          cases rv with | va rv => ?_
          have f8' : Fr C.Z.S H6 H8 := f8
          have j8' : C.Z.J b4 H8 := j8
          have D8 : H8 D0 = some (.lst zs) := f8'.keep nsD D6
          have fD : Fr (fun a => a = D0) H8 (upd H8 D0 (.lst (zs ++ [v]))) := Fr.put rfl D8
          have ra8 := (ra5.fr f6').fr f8'
          have hlen : zs.length < 16000000 := by
            have e1 := ra5.len
            rw [List.length_append, List.length_map, List.length_take, Nat.min_eq_left hj] at e1
            have e2 := len (i + 1)
            rw [etk, List.flatMap_append, List.length_append] at e2
            simp only [List.flatMap_cons, List.flatMap_nil, List.append_nil, List.length_map] at e2
            omega
          refine ⟨zs, D8, Nat.lt_trans hlen (by decide), zs ++ [v], ?_, C.Z.stay _ _ _ j8' (Fr.putL nsD D8 .l), upd_same, ?_, ?_, ?_⟩
          · intro a o ea
            have ne : a ≠ D0 := ne_of_none ea hD
            rcases (f5.trans (f6'.trans f8')) a o ea with z | z
            · exact .inl (by rw [upd_ne ne]; exact z)
            · obtain ⟨m, w, z1, z2⟩ := z
              exact .inr ⟨m, w, by rw [upd_ne ne]; exact z1, z2⟩
          · rw [etk1, List.map_append, ← List.append_assoc]
            exact (ra8.append (.cons rv .nil)).fr fD
          · refine g5.trans (Gr.trans (Gr.of (f6'.trans f8')) ⟨?_, fun _ h => .inl h⟩)
            exact Fr.put (.inr List.mem_cons_self) D8
          · have sl11 : Sls C.K C.Z (D0 :: os) H8 δ' σ' o2 := sl8.fr f8' fun a ha => (st.new a (sub2' a ha)).2.1
            exact sl11.write D8 .l (fun z => hD0 (sub2' _ z)) List.mem_cons_self
        · have e : j = (es d).length := by omega
          subst e
          refine .inl ⟨W1'.stop (D0 :: os) H5 g5 _ (Nat.le_refl _), zs, f5, j5, D5, ?_⟩
          rw [List.take_length] at ra5
          rw [etk, List.flatMap_append]
          simpa using ra5
    · have e : i = ds.length := by omega
      subst e
      rw [List.take_length] at ra
      exact .inl ⟨W.stop H2 f2 _ (Nat.le_refl _), q _ H2 b1 _ (f1.trans f2) j2 (.ow (f1.back hD) hD2 nsD ra) last⟩
end
end PD
set_option Elab.async false
set_option linter.all false
set_option maxRecDepth 100000
set_option maxHeartbeats 4000000
/-! Surroundings, lists of prefixes, addresses. -/
namespace G
open PySem PD L2
/-! ### dicts from texts to texts -/
def suK (m : Bd) : List (Key × D) := m.map fun q => (kS q.1, .str q.2)
def suD (m : Bd) : D := .dk (suK m)
theorem suK_val (m : Bd) (p : Str) : valD (suK m) (kS p) = (valB m p).map D.str := by
  unfold valD valB suK
  induction m with
  | nil => rfl
  | cons q m ih =>
    rw [List.map_cons, List.find?_cons, List.find?_cons]
    simp only [key_dec]
    cases decide (q.1 = p) with
    | true => rfl
    | false => exact ih
theorem suK_put (m : Bd) (p a : Str) : putD (suK m) (kS p) (.str a) = suK (putB m p a) := by
  unfold putD putB
  have e : ((suK m).any fun kv => decide (kv.1 = kS p)) = (m.any fun q => decide (q.1 = p)) := by
    unfold suK
    rw [List.any_map]
    congr 1
    funext q
    exact key_dec q.1 p
  rw [e]
  cases (m.any fun q => decide (q.1 = p)) with
  | false => simp [suK]
  | true =>
    simp only [if_true]
    unfold suK
    rw [List.map_map, List.map_map]
    refine List.map_congr_left fun q _ => ?_
    show (if kS q.1 = kS p then (kS q.1, D.str a) else (kS q.1, D.str q.2)) = _
    by_cases h : q.1 = p
    · rw [if_pos (by rw [h]), Function.comp, if_pos h]
    · rw [if_neg (fun z => h (Sum.inr.inj z)), Function.comp, if_neg h]
theorem su_inj (x y : Bd) (h : suD x = suD y) : x = y := by
  unfold suD suK at h
  injection h with h
  induction x generalizing y with
  | nil =>
    cases y with
    | nil => rfl
    | cons _ _ => cases h
  | cons q x ih =>
    cases y with
    | nil => cases h
    | cons r y =>
      rw [List.map_cons, List.map_cons, List.cons.injEq] at h
      obtain ⟨h1, h2⟩ := h
      rw [Prod.mk.injEq] at h1
      have e1 := Sum.inr.inj h1.1
      have e2 := D.str.inj h1.2
      rw [ih y h2, Prod.ext e1 e2]
/-- d.get(p, "") -/
def getB (m : Bd) (p : Str) : Str := (valB m p).getD ""
theorem suK_get (m : Bd) (p : Str) : (valD (suK m) (kS p)).getD (.str "") = .str (getB m p) := by
  rw [suK_val]
  unfold getB
  cases valB m p <;> rfl
/-- the address of a prefix: where it is as outside, in the surrounding -/
def adr (m W : Bd) (p : Str) : Str := (valB m p).getD (getB W p)
/-! ### lists of prefixes: a tuple, or the module's own empty one -/
inductive Ls where
  | t (xs : List Str) | u (a : Addr)
def Ls.d : Ls → D
  | .t xs => .tup (xs.map D.str)
  | .u a => .obj .unit a
def Ls.xs : Ls → List Str
  | .t xs => xs
  | .u _ => []
theorem ls_tupl (l : Ls) : (Res.va l.d).tupl = some (l.xs.map D.str) := by cases l <;> rfl
theorem ls_inj (x y : Ls) (h : x.d = y.d) : x = y := by
  cases x with
  | t xs =>
    cases y with
    | t ys => injection h with h; rw [map_inj (f := D.str) (fun a b e => D.str.inj e) _ _ h]
    | u a => cases h
  | u a =>
    cases y with
    | t ys => cases h
    | u b => injection h with _ h; rw [h]
theorem ls_isT (l : Ls) : l.d.isT = true := by cases l <;> rfl
structure LsOk (l : Ls) : Prop where
  pf : ∀ p ∈ l.xs, isPrefix (.str p) = true
  nd : l.xs.Nodup
  len : l.xs.length ≤ 100
theorem str_inj (x y : Str) (h : D.str x = D.str y) : x = y := D.str.inj h
theorem pfx_sm {p : Str} (h : isPrefix (.str p) = true) : sm (.str p) = true := by
  unfold isPrefix mdo at h
  simp only [Bool.and_eq_true, decide_eq_true_eq] at h
  have := h.1.1.2
  show decide (p.length ≤ 100000) = true
  exact decide_eq_true (by omega)
/-- what is visible, as it stands -/
def seenN : Nd → List Str
  | .el p _ _ as _ => seenL p as
  | _ => []
def visL (x : Nd) (l : List Str) : List D := srtS (seenN x ++ l)
end G
set_option Elab.async false
set_option linter.all false
set_option maxRecDepth 100000
set_option maxHeartbeats 4000000
namespace G
open PySem PySem.Spec PyProof.Rows L2 PD
section
variable {P : Program} {w : World} {K : PySem.W.Frag} {mg : Str → Option Value} {base : Heap} {Z : Vol} {f : Addr} {fd : FuncData}
/-! ### is_number_below -/
def numB : D → Int → Bool
  | .int i, m => decide (0 ≤ i) && decide (i < m)
  | _, _ => false
def gNum : List D → Option Res
  | [d, .int m] => some (.va (.bl (numB d m)))
  | _ => none
theorem gNum_out : ∀ (ds : List D) (r : Res), gNum ds = some r → r.out = true := by
  intro ds r h
  unfold gNum at h
  split at h
  · cases h; rfl
  · cases h
theorem gNum_one {ds : List D} {r : Res} (h : gNum ds = some r) : ∃ d m, ds = [d, .int m] ∧ r = .va (.bl (numB d m)) := by
  unfold gNum at h
  split at h
  · cases h; exact ⟨_, _, rfl, rfl⟩
  · cases h
abbrev sNum : Stmt := st_is_number_below
abbrev DNum (P : Program) (w : World) (K : PySem.W.Frag) (mg : Str → Option Value) (base : Heap) (Z : Vol) := Df P w K mg base "is_number_below" 1 ["thing", "many"] (spP Z K 2 gNum)
theorem ok_num (F : Fun K "is_number_below" "is_number_below" sNum f fd) (T : Cst mg) : FnOk P w K mg base CX0 1 f fd ["thing", "many"] (spP Z K 2 gNum) := by
  have sc : FnScope ["thing", "many"] ["thing", "many"] (defScope sNum) := ⟨rfl, rfl, rfl, by decide +kernel, rfl, by decide +kernel, by decide +kernel⟩
  refine fn_pure F sc rfl gNum_out fun cdv A outer s H E b ds r hr hl hg => ?_
  obtain ⟨d, m, rfl, rfl⟩ := gNum_one hg
  have b0 := T.blt (cxOf CX0 P w K mg base ["thing", "many"] "is_number_below" (defScope sNum) f cdv A outer s H E).nox rfl
  refine sv_ret (ev_and (ev_isi (t := "int") b0 b0.int (by decide +kernel) (ev_var 0 rfl ⟨_, isi_i d, _, rfl, ?_⟩)))
  cases d with
  | int i =>
    refine ev_and (ev_not (ev_isi (t := "bool") b0 b0.bool (by decide +kernel) (ev_var 0 rfl ⟨_, isi_b (.int i), _, rfl, _, rfl, ?_⟩)))
    refine ev_one (ev_chain rfl op_le op_lt (ev_int (ev_var 0 rfl ⟨_, _, rfl, rfl, ?_⟩)))
    cases e : decide ((0 : Int) ≤ i) with
    | true => exact ev_var 1 rfl ⟨_, rfl, rfl, rfl, by simp only [numB, e, Bool.true_and]⟩
    | false => exact ⟨rfl, rfl, by simp only [numB, e, Bool.false_and]⟩
  | bl k => exact ev_and (ev_not (ev_isi (t := "bool") b0 b0.bool (by decide +kernel) (ev_var 0 rfl ⟨_, isi_b (.bl k), _, rfl, _, rfl, rfl, rfl, rfl⟩)))
  | _ => exact ⟨rfl, rfl, rfl⟩
/-! ### address_in -/
noncomputable def gAdr : List D → Option Res := gT (fun x : Bd × Str × Bd => [bdD x.1, .str x.2.1, suD x.2.2]) yes fun x => .va (.str (adr x.1 x.2.2 x.2.1))
theorem adr_inj (x y : Bd × Str × Bd) (h : ([bdD x.1, .str x.2.1, suD x.2.2] : List D) = [bdD y.1, .str y.2.1, suD y.2.2]) : x = y := by
  injection h with h1 h
  injection h with h2 h
  injection h with h3 _
  exact Prod.ext (bd_inj _ _ h1) (Prod.ext (D.str.inj h2) (su_inj _ _ h3))
theorem gAdr_of (m W : Bd) (p : Str) : gAdr [bdD m, .str p, suD W] = some (.va (.str (adr m W p))) := gT_of (enc := fun x : Bd × Str × Bd => [bdD x.1, .str x.2.1, suD x.2.2]) (x := (m, p, W)) adr_inj trivial
abbrev DAdr (P : Program) (w : World) (K : PySem.W.Frag) (mg : Str → Option Value) (base : Heap) (Z : Vol) := Df P w K mg base "address_in" 2 ["bound", "prefix", "surrounding"] (spP Z K 3 gAdr)
abbrev sAdr : Stmt := st_address_in
theorem ok_adrin (F : Fun K "address_in" "address_in" sAdr f fd) (T : Cst mg) (kc : KC K) (D1 : DStt P w K mg base Z) : FnOk P w K mg base CX0 2 f fd ["bound", "prefix", "surrounding"] (spP Z K 3 gAdr) := by
  have sc : FnScope ["bound", "prefix", "surrounding", "kind", "told"] ["bound", "prefix", "surrounding"] (defScope sAdr) := ⟨rfl, rfl, rfl, by decide +kernel, rfl, by decide +kernel, by decide +kernel⟩
  refine fn_pure F sc rfl (gT_out fun x hx => rfl) fun cdv A outer s H E b ds r hr hl hg => ?_
  obtain ⟨⟨m, p, W⟩, rfl, _, rfl⟩ := gT_one hg
  refine sv_unpack (.tp [.nm 3, .nm 4]) (pg_tup rfl (pgs_cons (pg_name (i := 3) sc.nd rfl (Or.inl rfl)) (pgs_cons (pg_name (i := 4) sc.nd rfl (Or.inl rfl)) pgs_nil))) (ev_callP D1 (hr.mono (by decide)) (eva_cons (ev_var 0 rfl (eva_cons (ev_var 1 rfl (eva_nil ⟨_, _, rfl, rfl, gStt_of m p, ?_⟩))))))
  have key : ∀ (k t : Str), stt m p = .tup [.str k, .str t] → (if k = "at" then t else getB W p) = adr m W p → ∃ d δ', Res.va (stt m p) = .va d ∧ bindP (.tp [.nm 3, .nm 4]) d [Sl.va (bdD m), .va (.str p), .va (suD W), .un, .un] = some δ' ∧
      SV ⟨(cxOf CX0 P w K mg base ["bound", "prefix", "surrounding", "kind", "told"] "address_in" (defScope sAdr) f cdv A outer s H E).nox, Z, H⟩ b δ' ((defBody sAdr).drop 1) (retF fun b' r' => b' = b ∧ r' = Res.va (.str (adr m W p))) := fun k t e1 e2 => by
    refine ⟨_, _, rfl, by rw [e1]; rfl, ?_⟩
    refine sv_ret (ev_if (et_eq (ev_var 3 rfl (ev_str ⟨_, _, _, rfl, rfl, str_sc _ _, ?_⟩))))
    by_cases hk : k = "at"
    · rw [if_pos (decide_eq_true hk)]
      rw [if_pos hk] at e2
      exact ev_var 4 rfl ⟨rfl, rfl, by rw [e2]⟩
    · rw [if_neg (fun z => hk (of_decide_eq_true z))]
      rw [if_neg hk] at e2
      refine ev_getd kc (hu_of hr) (ev_var 2 rfl ⟨rfl, ev_var 1 rfl (ev_str ⟨_, _, _, rfl, rfl, Ask.str, ?_⟩)⟩)
      refine ⟨rfl, rfl, ?_⟩
      show Res.va ((valD (suK W) (kS p)).getD (.str "")) = _
      rw [suK_get, e2]
  cases e : valB m p with
  | some a => exact key "at" a (by unfold stt; rw [e]; rfl) (by unfold adr; rw [e]; rfl)
  | none => exact key "out" p (by unfold stt; rw [e]; rfl) (by unfold adr; rw [e]; rfl)
/-! ### _is_list -/
noncomputable def gIsL : List D → Option Res := gT (fun l : Ls => [l.d]) LsOk fun _ => .va (.bl true)
theorem ls1_inj (x y : Ls) (h : [x.d] = [y.d]) : x = y := ls_inj x y (by injection h)
theorem gIsL_of {l : Ls} (h : LsOk l) : gIsL [l.d] = some (.va (.bl true)) := gT_of (enc := fun l : Ls => [l.d]) ls1_inj h
abbrev DIsL (P : Program) (w : World) (K : PySem.W.Frag) (mg : Str → Option Value) (base : Heap) (Z : Vol) := Df P w K mg base "_is_list" 3 ["thing"] (spP Z K 1 gIsL)
abbrev sIsL : Stmt := st__is_list
theorem ok_isL (F : Fun K "_is_list" "_is_list" sIsL f fd) (T : Cst mg) (D1 : DB P w K mg base Z "is_prefix" 2 isPrefix) : FnOk P w K mg base CX0 3 f fd ["thing"] (spP Z K 1 gIsL) := by
  have sc : FnScope ["thing", "one"] ["thing"] (defScope sIsL) := ⟨rfl, rfl, rfl, by decide +kernel, rfl, by decide +kernel, by decide +kernel⟩
  refine fn_pure F sc rfl (gT_out fun x hx => rfl) fun cdv A outer s H E b ds r hr hl hg => ?_
  obtain ⟨l, rfl, hl, rfl⟩ := gT_one hg
  have hl : LsOk l := hl
  have b0 := T.blt (cxOf CX0 P w K mg base ["thing", "one"] "_is_list" (defScope sIsL) f cdv A outer s H E).nox rfl
  refine sv_if (et_pw (ew_or (et_not (et_val (ev_isi (t := "tuple") b0 b0.tuple (by decide +kernel) (ev_var 0 rfl ⟨_, isi_t l.d, _, rfl, ?_⟩))))))
  rw [ls_isT l]
  refine ew_or1 (et_not (et_val (ev_all rfl b0 (ev_mapT D.str str_inj (.nm 1) [("one", 1)] (fun _ => .bl true) rfl sc.nd (blkOk_by (N := ["thing", "one"]) (sc := defScope sIsL) (by decide +kernel)) (fun _ _ _ _ _ => pg_name (i := 1) sc.nd rfl (Or.inl rfl)) (by simp [Pat.slots]) (EI.c (ei_tupU (ev_var 0 rfl ⟨l.xs.map D.str, ls_tupl l, l.xs, rfl, Nat.le_trans hl.len (by decide), fun x hx => ⟨_, rfl, fun _ _ _ _ _ => ?_⟩, l.xs.map fun _ => true, ?_, _, rfl, ?_⟩)))))))
  · exact ev_callP D1 (hr.mono (by decide)) (eva_cons (ev_var 1 rfl (eva_nil ⟨_, _, rfl, rfl, gB_of (pfx_sm (hl.pf x hx)), rfl, by rw [hl.pf x hx]⟩)))
  · rw [List.map_map]; rfl
  · have e : (l.xs.map fun _ => true).all (id : Bool → Bool) = true := by
      rw [List.all_map]
      exact List.all_eq_true.mpr fun _ _ => rfl
    rw [e]
    refine sv_nil ?_
    refine sv_ret (ev_eq (ev_lenSetU b0 rfl (ev_var 0 rfl ⟨l.xs, ls_tupl l, Nat.le_trans hl.len (by decide), ev_lenU b0 (ev_var 0 rfl ⟨_, ls_tupl l, _, _, _, rfl, rfl, rfl, rfl, ?_⟩)⟩)))
    have e2 := (cnt_nodup l.xs).mpr hl.nd
    rw [List.length_map, e2]
    refine ⟨rfl, ?_⟩
    exact congrArg (fun k => Res.va (.bl k)) (decide_eq_true rfl)
/-! ### _visible_in -/
noncomputable def gVis : List D → Option Res := gT (fun x : Nd × Ls => [x.1.d, x.2.d]) (fun x => fitN x.1 ∧ (seenN x.1).length + x.2.xs.length ≤ 4000) fun x => .ow (visL x.1 x.2.xs)
theorem nl_inj (x y : Nd × Ls) (h : ([x.1.d, x.2.d] : List D) = [y.1.d, y.2.d]) : x = y := by
  injection h with h1 h
  injection h with h2 _
  exact Prod.ext (nd_inj _ _ h1) (ls_inj _ _ h2)
theorem gVis_of {x : Nd} {l : Ls} (h : fitN x) (h2 : (seenN x).length + l.xs.length ≤ 4000) : gVis [x.d, l.d] = some (.ow (visL x l.xs)) := gT_of (enc := fun x : Nd × Ls => [x.1.d, x.2.d]) (x := (x, l)) nl_inj ⟨h, h2⟩
abbrev DVis (P : Program) (w : World) (K : PySem.W.Frag) (mg : Str → Option Value) (base : Heap) (Z : Vol) := Df P w K mg base "_visible_in" 2 ["element", "listed"] (spP Z K 2 gVis)
abbrev sVis : Stmt := st__visible_in
theorem ok_vis (F : Fun K "_visible_in" "_visible_in" sVis f fd) (T : Cst mg) (D1 : DSeen P w K mg base Z) : FnOk P w K mg base CX0 2 f fd ["element", "listed"] (spP Z K 2 gVis) := by
  have sc : FnScope ["element", "listed"] ["element", "listed"] (defScope sVis) := ⟨rfl, rfl, rfl, by decide +kernel, rfl, by decide +kernel, by decide +kernel⟩
  refine fn_pure F sc rfl (gT_out fun x hx => rfl) fun cdv A outer s H E b ds r hr hl hg => ?_
  obtain ⟨⟨x, l⟩, rfl, ⟨hx, hlen⟩, rfl⟩ := gT_one hg
  have b0 := T.blt (cxOf CX0 P w K mg base ["element", "listed"] "_visible_in" (defScope sVis) f cdv A outer s H E).nox rfl
  cases x with
  | el p lo de as cs =>
    have hlen : (seenL p as).length + l.xs.length ≤ 4000 := hlen
    refine sv_ret (ev_sortSet b0 rfl (hu40 hr) (ev_catL (ev_callP D1 (hr.mono (by decide)) (eva_cons (ev_var 0 rfl (eva_nil ⟨_, _, rfl, rfl, gSeen_of hx, ev_listU b0 (ev_var 1 rfl ⟨_, ls_tupl l, _, _, rfl, rfl, ?_, ?_⟩)⟩))))))
    · rw [List.length_map, List.length_map]; omega
    · refine ⟨seenL p as ++ l.xs, ?_, ?_, rfl, rfl, rfl⟩
      · show some ((seenL p as).map D.str ++ l.xs.map D.str) = _
        rw [List.map_append]
      · rw [List.length_append]; exact hlen
  | s _ => exact hx.elim
  | h _ => exact hx.elim
end
end G
set_option Elab.async false
set_option linter.all false
set_option maxRecDepth 100000
set_option maxHeartbeats 4000000
/-! Sealing: what is visible, what is declared, as functions of what prefixes are bound to. -/
namespace G
open PySem PD L2
theorem valB_put (m : Bd) (p a q : Str) : valB (putB m p a) q = if q = p then some a else valB m q := by
  have key : ∀ m : Bd, valB (m.map fun r => if r.1 = p then (r.1, a) else r) q = if q = p then (if (m.any fun r => decide (r.1 = p)) = true then some a else none) else valB m q := by
    intro m
    induction m with
    | nil => unfold valB; split <;> rfl
    | cons r m ih =>
      rw [List.map_cons]
      unfold valB at ih ⊢
      rw [List.find?_cons, List.find?_cons, List.any_cons]
      by_cases h : r.1 = p
      · rw [if_pos h]
        by_cases hq : q = p
        · rw [decide_eq_true (show (r.1, a).1 = q by rw [hq]; exact h), if_pos hq, decide_eq_true h]; rfl
        · rw [decide_eq_false (show ¬ (r.1, a).1 = q from fun z => hq (z.symm.trans h)), if_neg hq]
          rw [if_neg hq] at ih
          exact ih
      · rw [if_neg h, decide_eq_false h, Bool.false_or]
        by_cases hr : r.1 = q
        · have hq : ¬ q = p := fun z => h (hr.trans z)
          rw [decide_eq_true hr, if_neg hq]
        · rw [decide_eq_false hr]
          exact ih
  unfold putB
  cases e : (m.any fun r => decide (r.1 = p)) with
  | true =>
    rw [if_pos rfl, key m, e]
    rfl
  | false =>
    rw [if_neg (by decide)]
    have hn : ∀ m : Bd, (m.any fun r => decide (r.1 = p)) = false → valB (m ++ [(p, a)]) q = if q = p then some a else valB m q := by
      intro m
      induction m with
      | nil =>
        intro _
        unfold valB
        rw [List.nil_append, List.find?_cons]
        by_cases hq : q = p
        · rw [decide_eq_true (show (p, a).1 = q from hq.symm), if_pos hq]; rfl
        · rw [decide_eq_false (show ¬ (p, a).1 = q from fun z => hq z.symm), if_neg hq]
      | cons r m ih =>
        intro h
        rw [List.any_cons, Bool.or_eq_false_iff] at h
        have ih := ih h.2
        unfold valB at ih ⊢
        rw [List.cons_append, List.find?_cons, List.find?_cons]
        by_cases hr : r.1 = q
        · have hq : ¬ q = p := fun z => of_decide_eq_false h.1 (hr.trans z)
          rw [decide_eq_true hr, if_neg hq]
        · rw [decide_eq_false hr]
          exact ih
    exact hn m e
theorem getB_put (m : Bd) (p a q : Str) : getB (putB m p a) q = if q = p then a else getB m q := by
  unfold getB
  rw [valB_put]
  split <;> rfl
theorem adr_put (m W : Bd) (p a q : Str) : adr (putB m p a) W q = if q = p then a else adr m W q := by
  unfold adr
  rw [valB_put]
  split <;> rfl
/-! ### what prefixes are bound to -/
abbrev Af := Str → Str
def bndA (ds : List (Str × Str)) (A : Af) : Af := ds.foldl (fun A q => fun p => if p = q.1 then q.2 else A p) A
theorem bndA_snoc (ds : List (Str × Str)) (q : Str × Str) (A : Af) : bndA (ds ++ [q]) A = fun p => if p = q.1 then q.2 else bndA ds A p := by
  unfold bndA
  rw [List.foldl_append]
  rfl
theorem bndA_adr (ds : List (Str × Str)) (m W : Bd) : adr (bnd ds m) W = bndA ds (adr m W) := by
  induction ds generalizing m with
  | nil => rfl
  | cons q ds ih =>
    show adr (bnd ds (putB m q.1 q.2)) W = bndA ds (fun p => if p = q.1 then q.2 else adr m W p)
    rw [ih]
    congr 1
    funext p
    exact adr_put m W q.1 q.2 p
theorem bndA_get (ds : List (Str × Str)) (m : Bd) : getB (bnd ds m) = bndA ds (getB m) := by
  induction ds generalizing m with
  | nil => rfl
  | cons q ds ih =>
    show getB (bnd ds (putB m q.1 q.2)) = bndA ds (fun p => if p = q.1 then q.2 else getB m p)
    rw [ih]
    congr 1
    funext p
    exact getB_put m q.1 q.2 p
/-! ### what an element declares in a sealed form -/
/-- what is visible, ascending -/
def visE (p : Str) (as : List ((Str × Str) × Vl)) (l : List Str) : List Str := (srtS (seenL p as ++ l)).map strOf
theorem visE_is (p : Str) (as : List ((Str × Str) × Vl)) (l : List Str) : srtS (seenL p as ++ l) = (visE p as l).map D.str ∧ (visE p as l).Nodup ∧ ∀ y, y ∈ visE p as l ↔ y ∈ seenL p as ++ l := by
  obtain ⟨ys, e, nd, m⟩ := srtS_texts (seenL p as ++ l)
  have e2 : visE p as l = ys := by
    unfold visE
    rw [e, List.map_map]
    exact List.map_id' ys
  rw [e2]
  exact ⟨e, nd, m⟩
theorem visE_congr {p : Str} {as bs : List ((Str × Str) × Vl)} {l l' : List Str} (h : ∀ y, y ∈ seenL p as ++ l ↔ y ∈ seenL p bs ++ l') : visE p as l = visE p bs l' := by
  unfold visE
  rw [srtS_congr h]
def stp (A : Af) (s : List (Str × Str) × Bd) (p : Str) : List (Str × Str) × Bd := if A p = getB s.2 p then s else (s.1 ++ [(p, A p)], putB s.2 p (A p))
def slf (A : Af) (t : Bd) (vs : List Str) : List (Str × Str) × Bd := vs.foldl (stp A) ([], t)
theorem slf_snoc (A : Af) (t : Bd) (vs : List Str) (p : Str) : slf A t (vs ++ [p]) = stp A (slf A t vs) p := by
  unfold slf
  rw [List.foldl_append]
  rfl
theorem stp_congr {A B : Af} {s : List (Str × Str) × Bd} {p : Str} (h : A p = B p) : stp A s p = stp B s p := by
  unfold stp
  rw [h]
theorem slf_congr {A B : Af} (t : Bd) {vs : List Str} (h : ∀ p ∈ vs, A p = B p) : slf A t vs = slf B t vs := by
  unfold slf
  generalize (([], t) : List (Str × Str) × Bd) = s
  induction vs generalizing s with
  | nil => rfl
  | cons p vs ih =>
    rw [List.foldl_cons, List.foldl_cons, stp_congr (h p List.mem_cons_self)]
    exact ih (fun q hq => h q (List.mem_cons_of_mem _ hq)) _
theorem stp_at (A : Af) (s : List (Str × Str) × Bd) (p q : Str) : getB (stp A s p).2 q = if q = p then A p else getB s.2 q := by
  unfold stp
  split
  · rename_i h
    split
    · rename_i e; rw [e, h]
    · rfl
  · rw [getB_put]
/-- behind, all that is visible is declared as it is bound -/
theorem slf_at (A : Af) (t : Bd) (vs : List Str) : ∀ q ∈ vs, getB (slf A t vs).2 q = A q := by
  unfold slf
  generalize (([], t) : List (Str × Str) × Bd) = s
  have oth : ∀ (vs : List Str) (s : List (Str × Str) × Bd) (q : Str), q ∉ vs → getB (vs.foldl (stp A) s).2 q = getB s.2 q := by
    intro vs
    induction vs with
    | nil => intro s q _; rfl
    | cons p vs ih =>
      intro s q hq
      rw [List.foldl_cons, ih _ _ fun z => hq (List.mem_cons_of_mem _ z), stp_at, if_neg fun z => hq (by rw [z]; exact List.mem_cons_self)]
  induction vs generalizing s with
  | nil => intro q hq; cases hq
  | cons p vs ih =>
    intro q hq
    rw [List.foldl_cons]
    by_cases hv : q ∈ vs
    · exact ih _ q hv
    · rw [oth _ _ _ hv, stp_at]
      rcases List.mem_cons.mp hq with e | e
      · rw [if_pos e, e]
      · exact absurd e hv
/-- what is declared leads from what was bound around to what is bound within -/
theorem slf_own (A : Af) (t : Bd) (vs : List Str) : bndA (slf A t vs).1 (getB t) = getB (slf A t vs).2 := by
  unfold slf
  have gen : ∀ (vs : List Str) (s : List (Str × Str) × Bd), bndA s.1 (getB t) = getB s.2 → bndA (vs.foldl (stp A) s).1 (getB t) = getB (vs.foldl (stp A) s).2 := by
    intro vs
    induction vs with
    | nil => intro s h; exact h
    | cons p vs ih =>
      intro s h
      rw [List.foldl_cons]
      refine ih _ ?_
      unfold stp
      split
      · exact h
      · funext q
        rw [bndA_snoc, getB_put, h]
  exact gen vs _ rfl
theorem slf_mem (A : Af) (t : Bd) (vs : List Str) : ∀ q ∈ (slf A t vs).1, q.1 ∈ vs ∧ q.2 = A q.1 := by
  unfold slf
  have gen : ∀ (vs us : List Str) (s : List (Str × Str) × Bd), (∀ q ∈ s.1, q.1 ∈ us ∧ q.2 = A q.1) → ∀ q ∈ (vs.foldl (stp A) s).1, q.1 ∈ us ++ vs ∧ q.2 = A q.1 := by
    intro vs
    induction vs with
    | nil => intro us s h q hq; rw [List.append_nil]; exact h q hq
    | cons p vs ih =>
      intro us s h q hq
      rw [List.foldl_cons] at hq
      have := ih (us ++ [p]) _ (fun q hq => ?_) q hq
      · rwa [List.append_assoc] at this
      · unfold stp at hq
        split at hq
        · obtain ⟨h1, h2⟩ := h q hq
          exact ⟨List.mem_append_left _ h1, h2⟩
        · rcases List.mem_append.mp hq with hq | hq
          · obtain ⟨h1, h2⟩ := h q hq
            exact ⟨List.mem_append_left _ h1, h2⟩
          · rw [List.mem_singleton.mp hq]
            exact ⟨by simp, rfl⟩
  intro q hq
  have := gen vs [] ([], t) (fun q hq => nomatch hq) q hq
  rwa [List.nil_append] at this
theorem slf_nd (A : Af) (t : Bd) {vs : List Str} (nd : vs.Nodup) : ((slf A t vs).1.map (·.1)).Nodup := by
  unfold slf
  have gen : ∀ (vs us : List Str) (s : List (Str × Str) × Bd), (us ++ vs).Nodup → (∀ q ∈ s.1, q.1 ∈ us) → (s.1.map (·.1)).Nodup → ((vs.foldl (stp A) s).1.map (·.1)).Nodup := by
    intro vs
    induction vs with
    | nil => intro us s _ _ h; exact h
    | cons p vs ih =>
      intro us s hn hm h
      rw [List.foldl_cons]
      have hp : p ∉ us := fun z => (List.nodup_append.mp hn).2.2 p z p List.mem_cons_self rfl
      refine ih (us ++ [p]) _ (by rw [List.append_assoc]; exact hn) (fun q hq => ?_) ?_
      · unfold stp at hq
        split at hq
        · exact List.mem_append_left _ (hm q hq)
        · rcases List.mem_append.mp hq with hq | hq
          · exact List.mem_append_left _ (hm q hq)
          · rw [List.mem_singleton.mp hq]; simp
      · unfold stp
        split
        · exact h
        · rw [List.map_append, List.nodup_append]
          refine ⟨h, by simp, fun a ha b hb e => ?_⟩
          obtain ⟨q, hq, rfl⟩ := List.mem_map.mp ha
          have hb := List.mem_singleton.mp hb
          exact hp (by have := hm q hq; rw [e, hb] at this; exact this)
  exact gen vs [] ([], t) (by simpa using nd) (fun q hq => nomatch hq) List.nodup_nil
theorem slf_len (A : Af) (t : Bd) (vs : List Str) : (slf A t vs).1.length ≤ vs.length ∧ (slf A t vs).2.length ≤ t.length + vs.length := by
  unfold slf
  have gen : ∀ (vs : List Str) (s : List (Str × Str) × Bd), (vs.foldl (stp A) s).1.length ≤ s.1.length + vs.length ∧ (vs.foldl (stp A) s).2.length ≤ s.2.length + vs.length := by
    intro vs
    induction vs with
    | nil => intro s; exact ⟨Nat.le_refl _, Nat.le_refl _⟩
    | cons p vs ih =>
      intro s
      rw [List.foldl_cons]
      obtain ⟨h1, h2⟩ := ih (stp A s p)
      have h3 : (stp A s p).1.length ≤ s.1.length + 1 ∧ (stp A s p).2.length ≤ s.2.length + 1 := by
        unfold stp
        split
        · exact ⟨Nat.le_succ _, Nat.le_succ _⟩
        · exact ⟨by rw [List.length_append]; exact Nat.le_refl _, putB_len _ _ _⟩
      rw [List.length_cons]
      omega
  have := gen vs ([], t)
  simp only [List.length_nil, Nat.zero_add] at this
  exact this
/-! ### the sealed form -/
mutual
/-- A: what prefixes are bound to around it; t: what the sealed form has declared around it -/
def sealN (l : List Str) (A : Af) (t : Bd) : Nd → Nd
  | .el p lo ds as cs => .el p lo (slf (bndA ds A) t (visE p as l)).1 as (sealNs l (bndA ds A) (slf (bndA ds A) t (visE p as l)).2 cs)
  | .s x => .s x
  | .h x => .h x
def sealNs (l : List Str) (A : Af) (t : Bd) : List Nd → List Nd
  | [] => []
  | c :: cs => sealN l A t c :: sealNs l A t cs
end
theorem sealNs_map (l : List Str) (A : Af) (t : Bd) (cs : List Nd) : sealNs l A t cs = cs.map (sealN l A t) := by
  induction cs with
  | nil => rw [sealNs]; rfl
  | cons c cs ih => rw [sealNs, ih]; rfl
mutual
/-- sealed once more, where all is bound as it has declared it, it is itself -/
theorem seal_seal (l : List Str) : ∀ (x : Nd) (A : Af) (t : Bd), sealN l (getB t) t (sealN l A t x) = sealN l A t x
  | .el p lo ds as cs, A, t => by
    rw [sealN, sealN, slf_own]
    have e : slf (getB (slf (bndA ds A) t (visE p as l)).2) t (visE p as l) = slf (bndA ds A) t (visE p as l) := slf_congr t (slf_at _ _ _)
    rw [e, seals_seal l cs]
  | .s x, _, _ => by rw [sealN, sealN]
  | .h x, _, _ => by rw [sealN, sealN]
theorem seals_seal (l : List Str) : ∀ (cs : List Nd) (A : Af) (t : Bd), sealNs l (getB t) t (sealNs l A t cs) = sealNs l A t cs
  | [], _, _ => by rw [sealNs, sealNs]
  | c :: cs, A, t => by rw [sealNs, sealNs, seal_seal l c A t, seals_seal l cs A t]
end
mutual
theorem seal_congr {l l' : List Str} (h : ∀ y, y ∈ l ↔ y ∈ l') : ∀ (x : Nd) (A : Af) (t : Bd), sealN l A t x = sealN l' A t x
  | .el p lo ds as cs, A, t => by
    have e : visE p as l = visE p as l' := visE_congr fun y => by rw [List.mem_append, List.mem_append, h]
    rw [sealN, sealN, e, seals_congr h cs]
  | .s x, _, _ => by rw [sealN, sealN]
  | .h x, _, _ => by rw [sealN, sealN]
theorem seals_congr {l l' : List Str} (h : ∀ y, y ∈ l ↔ y ∈ l') : ∀ (cs : List Nd) (A : Af) (t : Bd), sealNs l A t cs = sealNs l' A t cs
  | [], _, _ => by rw [sealNs, sealNs]
  | c :: cs, A, t => by rw [sealNs, sealNs, seal_congr h c A t, seals_congr h cs A t]
end
/-! ### plainer -/
def plainV : Vl → Vl
  | .s x => .s x
  | .q _ _ => .s "x"
def plainA (as : List ((Str × Str) × Vl)) : List ((Str × Str) × Vl) := as.map fun q => (q.1, plainV q.2)
mutual
def plainN : Nd → Nd
  | .el p lo ds as cs => .el p lo ds (plainA as) (plainNs cs)
  | .s x => .s x
  | .h x => .h x
def plainNs : List Nd → List Nd
  | [] => []
  | c :: cs => plainN c :: plainNs cs
end
theorem plainNs_map (cs : List Nd) : plainNs cs = cs.map plainN := by
  induction cs with
  | nil => rw [plainNs]; rfl
  | cons c cs ih => rw [plainNs, ih]; rfl
/-! ### meanings of plain parts -/
def addrOf (A : Af) (own : Str) : Str := if own = "" then "" else A own
def rowM (A : Af) (q : (Str × Str) × Vl) : D := .tup [.tup [.str (addrOf A q.1.1), .str q.1.2], q.2.d]
/-- the rows of attributes, if none is refused; nm: the full names ahead -/
def attM (A : Af) : List (Str × Str) → List ((Str × Str) × Vl) → Option (List D)
  | _, [] => some []
  | nm, q :: r => if (q.1.1 ≠ "" ∧ addrOf A q.1.1 = "") ∨ (addrOf A q.1.1, q.1.2) ∈ nm then none else (attM A (nm ++ [(addrOf A q.1.1, q.1.2)]) r).map fun ds => rowM A q :: ds
theorem attM_congr {A B : Af} : ∀ (as : List ((Str × Str) × Vl)) (nm : List (Str × Str)), (∀ q ∈ as, q.1.1 ≠ "" → A q.1.1 = B q.1.1) → attM A nm as = attM B nm as
  | [], nm, _ => rfl
  | q :: r, nm, h => by
    have e : addrOf A q.1.1 = addrOf B q.1.1 := by
      unfold addrOf
      by_cases hq : q.1.1 = ""
      · rw [if_pos hq, if_pos hq]
      · rw [if_neg hq, if_neg hq, h q List.mem_cons_self hq]
    unfold attM
    rw [e, attM_congr r _ fun q' hq => h q' (List.mem_cons_of_mem _ hq)]
    have e2 : rowM A q = rowM B q := by unfold rowM; rw [e]
    rw [e2]
mutual
def mean (A : Af) : Nd → Option D
  | .el p lo ds as cs => if p ≠ "" ∧ bndA ds A p = "" then none else match attM (bndA ds A) [] as with
    | none => none
    | some rows => match means (bndA ds A) cs with
      | none => none
      | some ins => some (.tup [.str "element", .tup [.str (bndA ds A p), .str lo], .tup (srtBy fstOf rows), .tup ins])
  | .s x => some (.str x)
  | .h _ => none
def means (A : Af) : List Nd → Option (List D)
  | [] => some []
  | c :: cs => match mean A c with
    | none => none
    | some d => (means A cs).map fun ds => d :: ds
end
theorem seen_own (p : Str) (as : List ((Str × Str) × Vl)) : p ∈ seenL p as := by
  unfold seenL
  exact List.mem_append_left _ List.mem_cons_self
theorem seen_att {p : Str} {as : List ((Str × Str) × Vl)} {q : (Str × Str) × Vl} (h : q ∈ as) (hq : q.1.1 ≠ "") : q.1.1 ∈ seenL p as := by
  unfold seenL
  refine List.mem_append_right _ (List.mem_map.mpr ⟨q, List.mem_filter.mpr ⟨h, ?_⟩, rfl⟩)
  show (!decide (q.1.1 = ("" : Str))) = true
  rw [decide_eq_false hq]
  rfl
mutual
/-- a part, and its sealed form alone, mean the same but for quoted names -/
theorem mean_seal (l : List Str) : ∀ (x : Nd) (A : Af) (t : Bd), mean (getB t) (plainN (sealN l A t x)) = mean A (plainN x)
  | .el p lo ds as cs, A, t => by
    rw [sealN, plainN, plainN, mean, mean, slf_own]
    have at_ : ∀ y ∈ seenL p as, getB (slf (bndA ds A) t (visE p as l)).2 y = bndA ds A y := fun y hy => slf_at _ _ _ y (((visE_is p as l).2.2 y).mpr (List.mem_append_left _ hy))
    have e1 : attM (getB (slf (bndA ds A) t (visE p as l)).2) [] (plainA as) = attM (bndA ds A) [] (plainA as) := attM_congr _ _ fun q hq hn => by
      obtain ⟨r, hr, rfl⟩ := List.mem_map.mp hq
      exact at_ r.1.1 (seen_att (q := r) hr hn)
    rw [at_ p (seen_own p as), e1, means_seal l cs]
  | .s x, _, _ => by rw [sealN, plainN, mean, mean]
  | .h x, _, _ => by rw [sealN, plainN, mean, mean]
theorem means_seal (l : List Str) : ∀ (cs : List Nd) (A : Af) (t : Bd), means (getB t) (plainNs (sealNs l A t cs)) = means A (plainNs cs)
  | [], _, _ => by rw [sealNs, plainNs, means, means]
  | c :: cs, A, t => by rw [sealNs, plainNs, plainNs, means, means, mean_seal l c A t, means_seal l cs A t]
end
end G
set_option Elab.async false
set_option linter.all false
set_option maxRecDepth 100000
set_option maxHeartbeats 4000000
/-! The elements in their order, with what the sealed form has declared around each; without holes. -/
namespace G
open PySem PD L2
mutual
/-- without holes -/
def noH : Nd → Bool
  | .el _ _ _ _ cs => noHs cs
  | .s _ => true
  | .h _ => false
def noHs : List Nd → Bool
  | [] => true
  | c :: cs => noH c && noHs cs
end
theorem noHs_mem : ∀ {cs : List Nd}, noHs cs = true → ∀ c ∈ cs, noH c = true
  | c :: cs, h, d, hd => by
    rw [noHs, Bool.and_eq_true] at h
    rcases List.mem_cons.mp hd with rfl | hd
    · exact h.1
    · exact noHs_mem h.2 d hd
theorem noHs_of : ∀ {cs : List Nd}, (∀ c ∈ cs, noH c = true) → noHs cs = true
  | [], _ => by rw [noHs]
  | c :: cs, h => by rw [noHs, h c List.mem_cons_self, noHs_of fun d hd => h d (List.mem_cons_of_mem _ hd)]; rfl
theorem holeStrs_no : ∀ {cs : List Nd}, noHs cs = true → holeStrs (ndsD cs) = []
  | [], _ => by rw [ndsD]; rfl
  | c :: cs, h => by
    rw [noHs, Bool.and_eq_true] at h
    have hb : begins "hole" c.d = false := by
      cases c with
      | s x => rw [Nd.d]; rfl
      | h x => have := h.1; rw [noH] at this; cases this
      | el p l ds as cs => rw [Nd.d]; exact (by decide +kernel : decide (("element" : Str) = "hole") = false)
    rw [ndsD, holeStrs, hb]
    exact holeStrs_no h.2
mutual
theorem wk_noH : ∀ (x : Nd) (p : List Nat) (m : Bd), noH x = true → ∀ r ∈ wk p m x, noH r.2.1 = true
  | .el q l ds as cs, p, m, h, r, hr => by
    rw [wk] at hr
    rcases List.mem_cons.mp hr with rfl | hr
    · exact h
    · rw [noH] at h
      exact wks_noH cs p 0 (bnd ds m) h r hr
  | .s _, _, _, _, _, hr => by rw [wk] at hr; cases hr
  | .h _, _, _, _, _, hr => by rw [wk] at hr; cases hr
theorem wks_noH : ∀ (cs : List Nd) (p : List Nat) (k : Nat) (m : Bd), noHs cs = true → ∀ r ∈ wks p k m cs, noH r.2.1 = true
  | [], _, _, _, _, _, hr => by rw [wks] at hr; cases hr
  | c :: cs, p, k, m, h, r, hr => by
    rw [noHs, Bool.and_eq_true] at h
    rw [wks] at hr
    rcases List.mem_append.mp hr with hr | hr
    · exact wk_noH c _ m h.1 r hr
    · exact wks_noH cs p (k + 1) m h.2 r hr
end
/-- the children of every element are as they have to be -/
theorem prt_kids {x : Nd} (h : Prt x) {r : Rw3} (hr : r ∈ wk [] [] x) {q l : Str} {ds : List (Str × Str)} {as : List ((Str × Str) × Vl)} {cs : List Nd} (e : r.2.1 = .el q l ds as cs) : sm (.tup (ndsD cs)) = true ∧ kidsOk false (ndsD cs) = true := by
  have e0 := pre_wk x [] [] h.el
  rw [show pthD [] = [] from rfl] at e0
  have hm : (pthD r.1, r.2.1.d) ∈ pre [] x.d := by
    rw [e0]
    exact List.mem_map.mpr ⟨r, hr, rfl⟩
  have hw := fw_mem (fw_of_good h.good) _ hm
  obtain ⟨n, de, at_, ks, e1, _, _, _, hk⟩ := wrong_none hw
  have hs := pre_sm _ _ _ (Nat.le_refl _) h.good.1.1 _ hm
  simp only at e1 hs
  rw [e, Nd.d] at e1
  injection e1 with e1
  injection e1 with _ e1
  injection e1 with _ e1
  injection e1 with _ e1
  injection e1 with _ e1
  injection e1 with e1 _
  injection e1 with e1
  rw [e1]
  refine ⟨?_, hk⟩
  rw [e, Nd.d] at hs
  rw [← e1]
  exact sm_mem (sm_tup hs).2 (by simp)
/-! ### rows -/
abbrev Rw4 := List Nat × Nd × Bd × Bd
def visN : Nd → List Str → List Str
  | .el p _ _ as _, l => visE p as l
  | _, _ => []
/-- what a row's element declares in the sealed form, and what is declared behind -/
def ownQ (W : Bd) (l : List Str) (r : Rw4) : List (Str × Str) × Bd := slf (adr r.2.2.1 W) r.2.2.2 (visN r.2.1 l)
mutual
def wq (W : Bd) (l : List Str) (p : List Nat) (m t : Bd) : Nd → List Rw4
  | .el q lo ds as cs => (p, .el q lo ds as cs, bnd ds m, t) :: wqs W l p 0 (bnd ds m) (slf (adr (bnd ds m) W) t (visE q as l)).2 cs
  | .s _ => []
  | .h _ => []
def wqs (W : Bd) (l : List Str) (p : List Nat) (k : Nat) (m t : Bd) : List Nd → List Rw4
  | [] => []
  | c :: cs => wq W l (p ++ [k]) m t c ++ wqs W l p (k + 1) m t cs
end
def drp (r : Rw4) : Rw3 := (r.1, r.2.1, r.2.2.1)
mutual
theorem wq_wk (W : Bd) (l : List Str) : ∀ (x : Nd) (p : List Nat) (m t : Bd), (wq W l p m t x).map drp = wk p m x
  | .el q lo ds as cs, p, m, t => by
    rw [wq, wk, List.map_cons, wqs_wk W l cs]
    rfl
  | .s _, _, _, _ => by rw [wq, wk]; rfl
  | .h _, _, _, _ => by rw [wq, wk]; rfl
theorem wqs_wk (W : Bd) (l : List Str) : ∀ (cs : List Nd) (p : List Nat) (k : Nat) (m t : Bd), (wqs W l p k m t cs).map drp = wks p k m cs
  | [], _, _, _, _ => by rw [wqs, wks]; rfl
  | c :: cs, p, k, m, t => by rw [wqs, wks, List.map_append, wq_wk W l c, wqs_wk W l cs]
end
def Par4 (W : Bd) (l : List Str) (top : List Nat) (t : Bd) (ah : List Rw4) (r : Rw4) : Prop :=
  (∃ j, r.1 = top ++ [j] ∧ r.2.2.2 = t) ∨ ∃ r' ∈ ah, ∃ i, r.1 = r'.1 ++ [i] ∧ r.2.2.2 = (ownQ W l r').2
mutual
theorem wq_par (W : Bd) (l : List Str) : ∀ (x : Nd) (p : List Nat) (m t : Bd) (ah : List Rw4) (r : Rw4) (post : List Rw4), wq W l p m t x = ah ++ r :: post → (ah = [] ∧ r.1 = p ∧ r.2.2.2 = t) ∨ ∃ r' ∈ ah, ∃ i, r.1 = r'.1 ++ [i] ∧ r.2.2.2 = (ownQ W l r').2
  | .el q lo ds as cs, p, m, t, ah, r, post, h => by
    rw [wq] at h
    cases ah with
    | nil =>
      rw [List.nil_append, List.cons.injEq] at h
      refine .inl ⟨rfl, ?_⟩
      rw [← h.1]
      exact ⟨rfl, rfl⟩
    | cons a ah =>
      rw [List.cons_append, List.cons.injEq] at h
      obtain ⟨h1, h2⟩ := h
      rcases wqs_par W l cs p 0 (bnd ds m) _ ah r post h2 with ⟨j, e1, e2⟩ | ⟨r', hr, i, e1, e2⟩
      · refine .inr ⟨a, List.mem_cons_self, j, ?_⟩
        rw [← h1]
        exact ⟨e1, e2⟩
      · exact .inr ⟨r', List.mem_cons_of_mem _ hr, i, e1, e2⟩
  | .s _, _, _, _, ah, r, post, h => by rw [wq] at h; cases ah <;> cases h
  | .h _, _, _, _, ah, r, post, h => by rw [wq] at h; cases ah <;> cases h
theorem wqs_par (W : Bd) (l : List Str) : ∀ (cs : List Nd) (p : List Nat) (k : Nat) (m t : Bd) (ah : List Rw4) (r : Rw4) (post : List Rw4), wqs W l p k m t cs = ah ++ r :: post → Par4 W l p t ah r
  | [], p, k, m, t, ah, r, post, h => by rw [wqs] at h; cases ah <;> cases h
  | c :: cs, p, k, m, t, ah, r, post, h => by
    rw [wqs] at h
    rcases List.append_eq_append_iff.mp h with ⟨a', e1, e2⟩ | ⟨b', e1, e2⟩
    · rcases wqs_par W l cs p (k + 1) m t a' r post e2 with z | ⟨r', hr, i, z⟩
      · exact .inl z
      · exact .inr ⟨r', by rw [e1]; exact List.mem_append_right _ hr, i, z⟩
    · cases b' with
      | nil =>
        rw [List.nil_append] at e2
        rcases wqs_par W l cs p (k + 1) m t [] r post (by rw [← e2]; rfl) with z | ⟨r', hr, _⟩
        · exact .inl z
        · cases hr
      | cons b b' =>
        rw [List.cons_append, List.cons.injEq] at e2
        obtain ⟨rfl, e3⟩ := e2
        rcases wq_par W l c (p ++ [k]) m t ah r b' e1 with ⟨_, z1, z2⟩ | z
        · exact .inl ⟨k, z1, z2⟩
        · exact .inr z
end
theorem dd_len : ∀ xs : List Str, (dd xs).length ≤ xs.length
  | [] => Nat.le_refl _
  | x :: xs => by
    rw [dd]
    split
    · exact Nat.le_succ_of_le (dd_len xs)
    · exact Nat.succ_le_succ (dd_len xs)
theorem visE_len (p : Str) (as : List ((Str × Str) × Vl)) (l : List Str) : (visE p as l).length ≤ 1 + as.length + l.length := by
  unfold visE srtS
  rw [List.length_map, (srtD_perm _).length_eq, List.length_map]
  have h1 := dd_len (seenL p as ++ l)
  have h2 := List.length_filter_le (fun q : (Str × Str) × Vl => !decide (q.1.1 = ("" : Str))) as
  have h3 : (seenL p as).length ≤ 1 + as.length := by
    unfold seenL
    simp only [List.length_append, List.length_cons, List.length_nil, List.length_map]
    omega
  rw [List.length_append] at h1
  omega
mutual
theorem wq_len (W : Bd) (l : List Str) : ∀ (x : Nd) (p : List Nat) (m t : Bd), x.ok = true → ∀ r ∈ wq W l p m t x, r.2.2.2.length + (5 + l.length) ≤ t.length + (5 + l.length) * x.dep
  | .el q lo ds as cs, p, m, t, hx, r, hr => by
    have ho := ok_el.mp hx
    have h1 := visE_len q as l
    have h2 := (slf_len (adr (bnd ds m) W) t (visE q as l)).2
    have h3 := ho.na
    rw [wq] at hr
    rw [Nd.dep]
    rcases List.mem_cons.mp hr with rfl | hr
    · rw [Nat.mul_add]
      show t.length + _ ≤ _
      omega
    · have := wqs_len W l cs p 0 (bnd ds m) _ ho.hc r hr
      rw [Nat.mul_add]
      omega
  | .s _, _, _, _, _, _, hr => by rw [wq] at hr; cases hr
  | .h _, _, _, _, _, _, hr => by rw [wq] at hr; cases hr
theorem wqs_len (W : Bd) (l : List Str) : ∀ (cs : List Nd) (p : List Nat) (k : Nat) (m t : Bd), (∀ c ∈ cs, c.ok = true) → ∀ r ∈ wqs W l p k m t cs, r.2.2.2.length + (5 + l.length) ≤ t.length + (5 + l.length) * ndsDep cs
  | [], _, _, _, _, _, _, hr => by rw [wqs] at hr; cases hr
  | c :: cs, p, k, m, t, hx, r, hr => by
    rw [wqs] at hr
    rw [ndsDep]
    rcases List.mem_append.mp hr with hr | hr
    · have h1 := wq_len W l c _ m t (hx c List.mem_cons_self) r hr
      have h2 := Nat.mul_le_mul_left (5 + l.length) (Nat.le_max_left c.dep (ndsDep cs))
      omega
    · have h1 := wqs_len W l cs p (k + 1) m t (fun e he => hx e (List.mem_cons_of_mem _ he)) r hr
      have h2 := Nat.mul_le_mul_left (5 + l.length) (Nat.le_max_right c.dep (ndsDep cs))
      omega
end
theorem wq_nd (W : Bd) (l : List Str) (x : Nd) (p : List Nat) (m t : Bd) : ((wq W l p m t x).map (·.1)).Nodup := by
  have h := wk_nd x p m
  rw [← wq_wk W l x p m t, List.map_map] at h
  exact h
/-! ### the dicts by paths -/
theorem val_of {κ : Type} [DecidableEq κ] {α : Type} {key : α → κ} {f : α → D} : ∀ {rs : List α}, (rs.map key).Nodup → ∀ {r : α}, r ∈ rs → valD (rs.map fun r => (key r, f r)) (key r) = some (f r)
  | a :: rs, nd, r, h => by
    rw [List.map_cons, List.nodup_cons] at nd
    unfold valD
    rw [List.map_cons, List.find?_cons]
    by_cases e : key a = key r
    · rw [decide_eq_true (show (key a, f a).1 = key r from e)]
      rcases List.mem_cons.mp h with rfl | h
      · rfl
      · exact absurd (List.mem_map.mpr ⟨r, h, e.symm⟩) nd.1
    · rw [decide_eq_false (show ¬ (key a, f a).1 = key r from e)]
      rcases List.mem_cons.mp h with rfl | h
      · exact absurd rfl e
      · exact val_of nd.2 h
theorem put_new {κ : Type} [DecidableEq κ] {kvs : List (κ × D)} {k : κ} {d : D} (h : ∀ q ∈ kvs, q.1 ≠ k) : putD kvs k d = kvs ++ [(k, d)] := by
  unfold putD
  have e : (kvs.any fun kv => decide (kv.1 = k)) = false := by
    rw [List.any_eq_false]
    intro q hq z
    exact h q hq (of_decide_eq_true z)
  rw [e]
  rfl
def lastD (W : Bd) (l : List Str) (rs : List Rw4) : List (List Key × D) := rs.map fun r => (pkey r.1, suD (ownQ W l r).2)
theorem pk_nd {rs : List Rw4} (nd : (rs.map (·.1)).Nodup) : (rs.map fun r => pkey r.1).Nodup := by
  have : (rs.map fun r => pkey r.1) = (rs.map (·.1)).map pkey := by rw [List.map_map]; rfl
  rw [this]
  exact List.pairwise_map.mpr (nd.imp fun h z => h (pkey_inj _ _ z))
theorem lastD_val {W : Bd} {l : List Str} {rs : List Rw4} (nd : (rs.map (·.1)).Nodup) {r : Rw4} (h : r ∈ rs) : valD (lastD W l rs) (pkey r.1) = some (suD (ownQ W l r).2) := val_of (pk_nd nd) h
theorem lastD_new {W : Bd} {l : List Str} {rs : List Rw4} {r : Rw4} (h : ∀ r' ∈ rs, r'.1 ≠ r.1) : putD (lastD W l rs) (pkey r.1) (suD (ownQ W l r).2) = lastD W l (rs ++ [r]) := by
  rw [put_new]
  · unfold lastD; rw [List.map_append]; rfl
  · intro q hq z
    obtain ⟨r', hr, rfl⟩ := List.mem_map.mp hq
    exact h r' hr (pkey_inj _ _ z)
/-- declarations by paths -/
abbrev Dec := List (List Nat × List (Str × Str))
def decT (W : Bd) (l : List Str) (rs : List Rw4) : Dec := (rs.filter fun r => !(ownQ W l r).1.isEmpty).map fun r => (r.1, (ownQ W l r).1)
def decL (dec : Dec) : List (List Key × List D) := dec.map fun q => (pkey q.1, q.2.map dclD)
def decD (dec : Dec) : List (List Key × D) := dec.map fun q => (pkey q.1, .lst (q.2.map dclD))
theorem decL_frz (dec : Dec) : frzL (decL dec) = decD dec := by
  unfold frzL decL decD
  rw [List.map_map]
  rfl
/-- with what the element at p has declared so far -/
def decS (dec : Dec) (p : List Nat) (o : List (Str × Str)) : Dec := if o.isEmpty then dec else dec ++ [(p, o)]
theorem valL_none {kvs : List (List Key × List D)} {k : List Key} (h : ∀ q ∈ kvs, q.1 ≠ k) : valL kvs k = none := by
  induction kvs with
  | nil => rfl
  | cons q kvs ih =>
    obtain ⟨j, es⟩ := q
    rw [valL, if_neg (h (j, es) List.mem_cons_self)]
    exact ih fun q hq => h q (List.mem_cons_of_mem _ hq)
theorem valL_app {kvs : List (List Key × List D)} {k : List Key} {es : List D} (h : ∀ q ∈ kvs, q.1 ≠ k) : valL (kvs ++ [(k, es)]) k = some es := by
  induction kvs with
  | nil => rw [List.nil_append, valL, if_pos rfl]
  | cons q kvs ih =>
    obtain ⟨j, fs⟩ := q
    rw [List.cons_append, valL, if_neg (h (j, fs) List.mem_cons_self)]
    exact ih fun q hq => h q (List.mem_cons_of_mem _ hq)
theorem addL_app {kvs : List (List Key × List D)} {k : List Key} {es : List D} {d : D} (h : ∀ q ∈ kvs, q.1 ≠ k) : addL (kvs ++ [(k, es)]) k d = kvs ++ [(k, es ++ [d])] := by
  induction kvs with
  | nil => rw [List.nil_append, addL, if_pos rfl]; rfl
  | cons q kvs ih =>
    obtain ⟨j, fs⟩ := q
    rw [List.cons_append, addL, if_neg (h (j, fs) List.mem_cons_self), ih fun q hq => h q (List.mem_cons_of_mem _ hq)]
    rfl
theorem dec_ens {dec : Dec} {p : List Nat} {o : List (Str × Str)} (h : ∀ q ∈ dec, q.1 ≠ p) : ensL (decL (decS dec p o)) (pkey p) = decL dec ++ [(pkey p, o.map dclD)] := by
  have hk : ∀ q ∈ decL dec, q.1 ≠ pkey p := fun q hq z => by
    obtain ⟨r, hr, rfl⟩ := List.mem_map.mp hq
    exact h r hr (pkey_inj _ _ z)
  unfold decS ensL
  cases o with
  | nil =>
    rw [if_pos (show ([] : List (Str × Str)).isEmpty = true from rfl), valL_none hk]
    rfl
  | cons q o =>
    rw [if_neg (show ¬ (q :: o).isEmpty = true from fun z => nomatch z)]
    have e : decL (dec ++ [(p, q :: o)]) = decL dec ++ [(pkey p, (q :: o).map dclD)] := by
      unfold decL
      rw [List.map_append]
      rfl
    rw [e, valL_app hk]
    rfl
theorem dec_add {dec : Dec} {p : List Nat} {o : List (Str × Str)} (h : ∀ q ∈ dec, q.1 ≠ p) (q : Str × Str) : addL (ensL (decL (decS dec p o)) (pkey p)) (pkey p) (dclD q) = decL (decS dec p (o ++ [q])) := by
  have hk : ∀ q ∈ decL dec, q.1 ≠ pkey p := fun q hq z => by
    obtain ⟨r, hr, rfl⟩ := List.mem_map.mp hq
    exact h r hr (pkey_inj _ _ z)
  rw [dec_ens h, addL_app hk]
  unfold decS
  rw [if_neg (by simp)]
  unfold decL
  rw [List.map_append, List.map_cons, List.map_nil, List.map_append]
  rfl
theorem decT_snoc (W : Bd) (l : List Str) (rs : List Rw4) (r : Rw4) : decT W l (rs ++ [r]) = decS (decT W l rs) r.1 (ownQ W l r).1 := by
  unfold decT decS
  rw [List.filter_append, List.map_append]
  cases h : (ownQ W l r).1.isEmpty with
  | true =>
    rw [if_pos rfl, List.filter_cons, h]
    simp
  | false =>
    rw [if_neg (by decide), List.filter_cons, h]
    rfl
theorem decT_mem {W : Bd} {l : List Str} {rs : List Rw4} {q : List Nat × List (Str × Str)} (h : q ∈ decT W l rs) : ∃ r ∈ rs, r.1 = q.1 ∧ (ownQ W l r).1 = q.2 := by
  obtain ⟨r, hr, rfl⟩ := List.mem_map.mp h
  exact ⟨r, (List.mem_filter.mp hr).1, rfl, rfl⟩
def lookT (dec : Dec) (p : List Nat) : List (Str × Str) := ((dec.find? fun q => decide (q.1 = p)).map (·.2)).getD []
theorem decD_val (dec : Dec) (p : List Nat) : valD (decD dec) (pkey p) = (dec.find? fun q => decide (q.1 = p)).map fun q => .lst (q.2.map dclD) := by
  unfold valD decD
  induction dec with
  | nil => rfl
  | cons q dec ih =>
    rw [List.map_cons, List.find?_cons, List.find?_cons]
    by_cases e : q.1 = p
    · rw [decide_eq_true e, decide_eq_true (show pkey q.1 = pkey p by rw [e])]
      rfl
    · rw [decide_eq_false e, decide_eq_false (show ¬ pkey q.1 = pkey p from fun z => e (pkey_inj _ _ z))]
      exact ih
theorem look_own {W : Bd} {l : List Str} : ∀ {rs : List Rw4}, (rs.map (·.1)).Nodup → ∀ {r : Rw4}, r ∈ rs → lookT (decT W l rs) r.1 = (ownQ W l r).1
  | a :: rs, nd, r, h => by
    have nd' := nd
    rw [List.map_cons, List.nodup_cons] at nd
    have hcons : decT W l (a :: rs) = if (ownQ W l a).1.isEmpty = true then decT W l rs else (a.1, (ownQ W l a).1) :: decT W l rs := by
      unfold decT
      rw [List.filter_cons]
      cases (ownQ W l a).1.isEmpty <;> rfl
    rw [hcons]
    by_cases e : a.1 = r.1
    · have er : r = a := by
        rcases List.mem_cons.mp h with z | z
        · exact z
        · exact absurd (List.mem_map.mpr ⟨r, z, e.symm⟩) nd.1
      subst er
      cases ho : (ownQ W l r).1 with
      | nil =>
        rw [if_pos (show ([] : List (Str × Str)).isEmpty = true from rfl)]
        unfold lookT
        rw [List.find?_eq_none.mpr fun q hq z => ?_]
        · rfl
        · obtain ⟨r', hr', e1, _⟩ := decT_mem hq
          exact nd.1 (List.mem_map.mpr ⟨r', hr', e1.trans (of_decide_eq_true z)⟩)
      | cons q o =>
        rw [if_neg (show ¬ (q :: o).isEmpty = true from fun z => nomatch z)]
        unfold lookT
        rw [List.find?_cons, decide_eq_true rfl]
        rfl
    · have hr : r ∈ rs := by
        rcases List.mem_cons.mp h with rfl | z
        · exact absurd rfl e
        · exact z
      have ih := look_own (W := W) (l := l) nd.2 hr
      cases (ownQ W l a).1.isEmpty with
      | true => rw [if_pos rfl]; exact ih
      | false =>
        rw [if_neg (by decide)]
        unfold lookT at ih ⊢
        rw [List.find?_cons, decide_eq_false e]
        exact ih
/-! ### other declarations -/
mutual
def redN (dec : Dec) (p : List Nat) : Nd → Nd
  | .el q lo ds as cs => .el q lo (lookT dec p) as (redNs dec p 0 cs)
  | .s x => .s x
  | .h x => .h x
def redNs (dec : Dec) (p : List Nat) (k : Nat) : List Nd → List Nd
  | [] => []
  | c :: cs => redN dec (p ++ [k]) c :: redNs dec p (k + 1) cs
end
mutual
theorem red_seal {W : Bd} {l : List Str} {dec : Dec} : ∀ (x : Nd) (p : List Nat) (m t : Bd), (∀ r ∈ wq W l p m t x, lookT dec r.1 = (ownQ W l r).1) → redN dec p x = sealN l (adr m W) t x
  | .el q lo ds as cs, p, m, t, h => by
    rw [wq] at h
    rw [redN, sealN, ← bndA_adr]
    have h1 := h _ List.mem_cons_self
    rw [reds_seal cs p 0 (bnd ds m) _ fun r hr => h r (List.mem_cons_of_mem _ hr)]
    have h1' : lookT dec p = (slf (adr (bnd ds m) W) t (visE q as l)).1 := h1
    rw [h1']
  | .s x, _, _, _, _ => by rw [redN, sealN]
  | .h x, _, _, _, _ => by rw [redN, sealN]
theorem reds_seal {W : Bd} {l : List Str} {dec : Dec} : ∀ (cs : List Nd) (p : List Nat) (k : Nat) (m t : Bd), (∀ r ∈ wqs W l p k m t cs, lookT dec r.1 = (ownQ W l r).1) → redNs dec p k cs = sealNs l (adr m W) t cs
  | [], _, _, _, _, _ => by rw [redNs, sealNs]
  | c :: cs, p, k, m, t, h => by
    rw [wqs] at h
    rw [redNs, sealNs, red_seal c _ m t fun r hr => h r (List.mem_append_left _ hr), reds_seal cs p (k + 1) m t fun r hr => h r (List.mem_append_right _ hr)]
end
/-- the sealed form, as the program makes it -/
theorem sealed_eq (W : Bd) (l : List Str) (x : Nd) : redN (decT W l (wq W l [] [] [] x)) [] x = sealN l (getB W) [] x := by
  rw [red_seal x [] [] [] fun r hr => look_own (wq_nd W l x [] [] []) hr]
  rfl
end G
set_option Elab.async false
set_option linter.all false
set_option maxRecDepth 100000
set_option maxHeartbeats 4000000
namespace PD
open PySem PySem.Spec PyProof.Rows L2
/-! ### dicts written down, compared, sorted, walked by pairs -/
theorem Fr.upd0 {M : Addr → Prop} {H H' : Hp} {p : Addr} {o : HO} (f : Fr M H H') (n : H p = none) : Fr M H (upd H' p o) := fun a u e => by
  have ne : a ≠ p := fun z => by rw [z, n] at e; cases e
  rw [upd_ne ne]
  exact f a u e
section
variable {C : Cn} {b : Nat} {δ : List Sl} {P : Nat → Res → Prop} {Pt : Nat → Bool → Prop} {pos p0 : Pos} {e e1 e2 e3 e4 : Expr}
/-- {k: v} -/
theorem ev_disp1 (h : EV C b δ e1 (fun b1 r1 => EV C b1 δ e2 fun b2 r2 => ∃ k d, r1 = .va (kD k) ∧ r2 = .va d ∧ P b2 (.od (.k [(k, d)])))) : EV C b δ (.Dict [some e1] [e2] pos) P := by
  intro os σ H st Q q
  refine WE.of (pe_disp (pps_cons peW peW pps_nil) rfl rfl (by simp) (Nat.le_of_ble_eq_true rfl)) ?_
  intro p hn
  have f0 : Fr C.Z.S H (upd H p (.dK [])) := Fr.new hn
  have j0 : C.Z.J b (upd H p (.dK [])) := jnew st.j hn
  refine h os σ _ (st.on f0 j0) _ fun v1 H1 b1 r1 f1 j1 rv1 h2 => ?_
  refine h2 os σ H1 ((st.on f0 j0).on f1 j1) _ fun v2 H2 b2 r2 f2 j2 rv2 h3 => ?_
  obtain ⟨k, d, rfl, rfl, hq⟩ := h3
  cases rv1 with | va rv1 => ?_
  cases rv2 with | va rv2 => ?_
  have ns : ¬ C.Z.S p := snew st.j hn
  have e2 : H2 p = some (.dK []) := f2.keep ns (f1.keep ns upd_same)
  have ek : v1 = kV k := by
    cases k with
    | inl i => cases rv1; rfl
    | inr x => cases rv1; rfl
  subst ek
  refine ⟨e2, [(k, v2)], rfl, Nat.le_of_ble_eq_true rfl, ?_⟩
  have f3 : Fr C.Z.S H (upd H2 p (.dK (mergeK [] [(k, v2)]))) := ((f0.trans f1).trans f2).upd0 hn
  have f4 : Fr (fun a => ¬ C.Z.S a) H2 (upd H2 p (.dK (mergeK [] [(k, v2)]))) := Fr.putL ns e2 .k
  exact q _ _ b2 _ f3 (C.Z.stay _ _ _ j2 f4) (.od hn ns (.k (kv := [(k, v2)]) (ds := [(k, d)]) upd_same rfl (.cons (rv2.fr f4) .nil))) hq
/-- {k: v, k2: v2} -/
theorem ev_disp2 (h : EV C b δ e1 (fun b1 r1 => EV C b1 δ e2 fun b2 r2 => EV C b2 δ e3 fun b3 r3 => EV C b3 δ e4 fun b4 r4 => ∃ x d x' d', r1 = .va (.str x) ∧ r2 = .va d ∧ r3 = .va (.str x') ∧ r4 = .va d' ∧ x ≠ x' ∧ P b4 (.od (.k [(.inr x, d), (.inr x', d')])))) :
    EV C b δ (.Dict [some e1, some e3] [e2, e4] pos) P := by
  intro os σ H st Q q
  refine WE.of (pe_disp (pps_cons peW peW (pps_cons peW peW pps_nil)) rfl rfl (by simp) (Nat.le_of_ble_eq_true rfl)) ?_
  intro p hn
  have f0 : Fr C.Z.S H (upd H p (.dK [])) := Fr.new hn
  have j0 : C.Z.J b (upd H p (.dK [])) := jnew st.j hn
  refine h os σ _ (st.on f0 j0) _ fun v1 H1 b1 r1 f1 j1 rv1 h2 => ?_
  refine h2 os σ H1 ((st.on f0 j0).on f1 j1) _ fun v2 H2 b2 r2 f2 j2 rv2 h3 => ?_
  refine h3 os σ H2 (((st.on f0 j0).on f1 j1).on f2 j2) _ fun v3 H3 b3 r3 f3 j3 rv3 h4 => ?_
  refine h4 os σ H3 ((((st.on f0 j0).on f1 j1).on f2 j2).on f3 j3) _ fun v4 H4 b4 r4 f4 j4 rv4 h5 => ?_
  obtain ⟨x, d, x', d', rfl, rfl, rfl, rfl, hx, hq⟩ := h5
  cases rv1 with | va rv1 => ?_
  cases rv2 with | va rv2 => ?_
  cases rv3 with | va rv3 => ?_
  cases rv4 with | va rv4 => ?_
  cases rv1
  cases rv3
  have ns : ¬ C.Z.S p := snew st.j hn
  have ee : H4 p = some (.dK []) := f4.keep ns (f3.keep ns (f2.keep ns (f1.keep ns upd_same)))
  refine ⟨ee, [(.inr x, v2), (.inr x', v4)], rfl, Nat.le_of_ble_eq_true rfl, ?_⟩
  have em : mergeK [] [((.inr x : Key), v2), (.inr x', v4)] = [(.inr x, v2), (.inr x', v4)] := by
    unfold mergeK
    simp only [List.foldl_cons, List.foldl_nil]
    rw [putK_new (kvs := []) v2 rfl]
    exact putK_new v4 (by rw [List.nil_append]; exact (valV_neg (fun z => hx (Sum.inr.inj z))).trans rfl)
  rw [em]
  have f5 : Fr C.Z.S H (upd H4 p (.dK [(.inr x, v2), (.inr x', v4)])) := ((((f0.trans f1).trans f2).trans f3).trans f4).upd0 hn
  have f6 : Fr (fun a => ¬ C.Z.S a) H4 (upd H4 p (.dK [(.inr x, v2), (.inr x', v4)])) := Fr.putL ns ee .k
  exact q _ _ b4 _ f5 (C.Z.stay _ _ _ j4 f6) (.od hn ns (.k (kv := [(.inr x, v2), (.inr x', v4)]) (ds := [(.inr x, d), (.inr x', d')]) upd_same rfl (.cons (((rv2.fr f3).fr f4).fr f6) (.cons (rv4.fr f6) .nil)))) hq
/-! == of dicts of texts -/
theorem rpa_strs {K : PySem.W.Frag} {H : Hp} : ∀ {vs : List V} {ds : List D}, RpA K H vs ds → (∀ d ∈ ds, ∃ x, d = D.str x) → vs = ds.map fun d => match d with | .str x => V.str x | _ => .non
  | _, [], .nil, _ => rfl
  | _, d :: ds, .cons r rs, h => by
    obtain ⟨x, rfl⟩ := h d List.mem_cons_self
    cases r
    rw [List.map_cons, ← rpa_strs rs fun e he => h e (List.mem_cons_of_mem _ he)]
theorem pairs_eq {α β : Type} : ∀ {xs ys : List (α × β)}, xs.map (·.1) = ys.map (·.1) → xs.map (·.2) = ys.map (·.2) → xs = ys
  | [], [], _, _ => rfl
  | [], _ :: _, h, _ => by cases h
  | _ :: _, [], h, _ => by cases h
  | x :: xs, y :: ys, h1, h2 => by
    rw [List.map_cons, List.map_cons, List.cons.injEq] at h1 h2
    rw [Prod.ext h1.1 h2.1, pairs_eq h1.2 h2.2]
theorem et_neDk (hu : C.X.A.units < cLine) (h : EV C b δ e1 (fun b1 r1 => EV C b1 δ e2 fun b2 r2 => ∃ kvs : List (Key × D), r1 = .va (.dk kvs) ∧ r2 = .va (.dk kvs) ∧ (kvs.map (·.1)).Nodup ∧ (∀ q ∈ kvs, ∃ x, q.2 = D.str x) ∧ Pt b2 false)) (hm : behindInMarks .NotEq e2 = false := by rfl) :
    ET C b δ (.Compare e1 [.NotEq] [e2] pos) Pt := by
  refine et_cmp (r := fun x y H Q => ∃ (a c : Addr) (ks : List (Key × V)), x = .ref a ∧ y = .ref c ∧ Rd H a (.dK ks) ∧ Rd H c (.dK ks) ∧ (ks.map (·.1)).Nodup ∧ (∀ p ∈ ks, flatB p.2 = true) ∧ Q (.bl false) H) ?_ hm (h.imp fun b1 r1 h => h.imp fun b2 r2 h => ?_)
  · intro pins s σ H x y v u Q I rx ry h
    obtain ⟨a, c, ks, rfl, rfl, ea, ec, nd, fl, q⟩ := h
    obtain rfl : v = Value.ref a := rx
    obtain rfl : u = Value.ref c := ry
    obtain ⟨_, ya, va, ra, da⟩ := dk_rd I.hok ea
    obtain ⟨_, yc, vc, rc, dc⟩ := dk_rd I.hok ec
    have hl : va.length = vc.length := ra.length.symm.trans rc.length
    exact PySem.W.keq_ne (knd := mixKind C.X.prog C.X.w) (r := true) ya yc da dc hu (fun _ => hits_all rc ra fun p hp => ⟨val_nodup nd p hp, fl p hp⟩) (fin_bl I q (by simp [hl]))
  · obtain ⟨kvs, rfl, rfl, nd, tx, hq⟩ := h
    intro os H H' x y j rx ry Q q
    cases rx with | va rx => ?_
    cases ry with | va ry => ?_
    cases rx with | @dicK a o kv _ e l ra => ?_
    cases ry with | @dicK c o2 kv2 _ e2' l2 ra2 => ?_
    have tx2 : ∀ d ∈ kvs.map (·.2), ∃ x, d = D.str x := fun d hd => by
      obtain ⟨q, hq, rfl⟩ := List.mem_map.mp hd
      exact tx q hq
    have s1 := rpa_strs ra tx2
    have s2 := rpa_strs ra2 tx2
    have ek : kv2 = kv := pairs_eq (l2.trans l.symm) (s2.trans s1.symm)
    subst ek
    refine ⟨a, c, kv2, rfl, rfl, .inr ⟨o, e⟩, .inr ⟨o2, e2'⟩, by rw [l]; exact nd, fun p hp => ?_, q _ hq⟩
    have : p.2 ∈ kv2.map (·.2) := List.mem_map.mpr ⟨p, hp, rfl⟩
    rw [s1] at this
    obtain ⟨d, hd, e3⟩ := List.mem_map.mp this
    obtain ⟨x, rfl⟩ := tx2 d hd
    rw [← e3]
    rfl
/-! sorted(d) -/
theorem le_iff (x y : Str) : leD (.str x) (.str y) = !ltCps y.cps.toList x.cps.toList := by
  rw [leD_str]
  cases e : ltCps y.cps.toList x.cps.toList with
  | true => exact decide_eq_false fun z => by rw [ltCps_eq, decide_eq_true_eq] at e; exact List.not_le.mpr e z
  | false => exact decide_eq_true (List.not_lt.mp fun l => by rw [ltCps_eq, decide_eq_true l] at e; cases e)
theorem rising_pair : ∀ (p : Str) (r : List Str), risingS p r = true → ((p :: r).map D.str).Pairwise fun a c => leD a c = true
  | p, [], _ => by simp
  | p, x :: r, h => by
    have h' := Bool.and_eq_true_iff.mp (show (!ltCps x.cps.toList p.cps.toList && risingS x r) = true from h)
    have ih := rising_pair x r h'.2
    have le1 : leD (.str p) (.str x) = true := by rw [le_iff]; exact h'.1
    rw [List.map_cons, List.pairwise_cons]
    refine ⟨fun d hd => ?_, ih⟩
    rw [List.map_cons, List.mem_cons] at hd
    rcases hd with rfl | hd
    · exact le1
    · rw [List.map_cons, List.pairwise_cons] at ih
      exact leD_total.trans _ _ _ le1 (ih.1 d hd)
theorem srtD_rise {ys ks : List Str} (pm : ys.Perm ks) (h : sortedS ys = true) : ys.map D.str = srtD (ks.map D.str) := by
  have pw : (ys.map D.str).Pairwise fun a c => leD a c = true := by
    cases ys with
    | nil => exact List.Pairwise.nil
    | cons y r => exact rising_pair y r h
  refine ((pm.map D.str).trans (srtD_perm _).symm).eq_of_pairwise (fun a c ha hc h1 h2 => ?_) pw (srtD_pair _)
  obtain ⟨x, _, rfl⟩ := List.mem_map.mp ha
  obtain ⟨y, _, rfl⟩ := List.mem_map.mp ((srtD_perm _).mem_iff.mp hc)
  rw [leD_anti h1 h2]
theorem ev_sortDk (B : Blt C.X) (hc : C.X.calm = true) (h : EV C b δ e (fun b1 r => ∃ (kvs : List (Key × D)) (ks : List Str), r.kvs = some kvs ∧ kvs.map (·.1) = ks.map Sum.inr ∧ ks.length < 64 ∧ P b1 (.ow (srtD (ks.map D.str))))) (hg : Gl C.X "sorted" := by rfl)
    (hsx : starEach [e] C.X.env = (false, eval e C.X.env) :: starEach [] C.X.env := by rfl) (hpl : (backTo pos (starEach [] C.X.env)).any (·.1) = false := by rfl) : EV C b δ (.Call (.Name "sorted" p0) [e] [] pos) P := by
  refine ev_cb (call_sortedD hc) B.sorted (by decide +kernel) (eva_cons (h.imp fun b1 r hh => ?_) hsx) hg (by decide) (by decide) hsx hpl
  refine eva_nil ?_
  obtain ⟨kvs, ks, hr, hk, hl, hq⟩ := hh
  intro os H H' vs j rvs Q q
  cases rvs with | @cons v vs1 _ _ r1 rest => ?_
  cases rest
  obtain ⟨p, kv, rfl, rd, l, ra⟩ := r1.kvs_ hr
  refine ⟨p, kv, ks, rfl, rd, l.trans hk, hl, fun ys a pm so hn => ?_⟩
  have f : Fr C.Z.S H' (upd H' a (.lst (ys.map V.str))) := Fr.new hn
  refine q _ _ (.ow (srtD (ks.map D.str))) f (jnew j hn) (.ow hn upd_same (snew j hn) ?_) hq
  rw [← srtD_rise pm so]
  exact TX.rpa_texts ys
end
/-! for k, v in d.items() -/
section
variable {C : Cn} {b : Nat} {δ : List Sl} {P : Nat → List D → Prop} {e : Expr} {apos cpos tpos : Pos} {elts : List Expr} {kk : Nat}
theorem wk_items {K : PySem.W.Frag} {Z : Vol} {os : List Addr} {H : Hp} {a : Addr} {o : Obj} {kv : List (Key × V)} {ds : List (Key × D)} (e : H a = some (.frz o (.dK kv))) (l : kv.map (·.1) = ds.map (·.1)) (ra : RpA K H (kv.map (·.2)) (ds.map (·.2))) : Wk K Z (Iti a o kv) (pairsD ds) os H := by
  have hl : kv.length = ds.length := by
    have := congrArg List.length l
    rwa [List.length_map, List.length_map] at this
  have hp : (pairsD ds).length = kv.length := by unfold pairsD; rw [List.length_map, hl]
  refine ⟨fun os' H' g i hi => ?_, fun os' H' g i hi => ⟨g.fr.frz e, by omega⟩⟩
  refine ⟨⟨g.fr.frz e, by omega⟩, fun x H2 y => ?_⟩
  obtain ⟨T, k, v, hk, rfl, hT, rfl⟩ := y
  have hi' : i < ds.length := by omega
  have e1 : ds[i]? = some ds[i] := List.getElem?_eq_getElem hi'
  have ek : ds[i].1 = k := by
    have h1 := congrArg (fun m => m[i]?) l
    simp only [List.getElem?_map, hk, e1, Option.map_some, Option.some.injEq] at h1
    exact h1.symm
  obtain ⟨d, e2, rv⟩ := (ra.fr g.fr).getV (show (kv.map (·.2))[i]? = some v by rw [List.getElem?_map, hk]; rfl)
  rw [List.getElem?_map, e1] at e2
  have e2 : ds[i].2 = d := Option.some.inj e2
  have f : Fr (fun _ => False) H' (upd H' T (.tup [kV k, v])) := Fr.new hT
  refine ⟨f, .tup [kD k, d], ?_, .tup (.h upd_same) (.cons (rp_kV k) (.cons (rv.fr f) .nil))⟩
  unfold pairsD
  rw [List.getElem?_map, e1, Option.map_some, ek, e2]
theorem ei_items (h : EV C b δ e (fun b1 r => ∃ kvs, r = .va (.dk kvs) ∧ P b1 (pairsD kvs))) (hbase : attributeBase e "items" C.X.env (eval e C.X.env) = eval e C.X.env := by rfl) (hline : (apos.endLine == cpos.line) = true := by rfl) :
    EI C b δ (.Tuple elts kk tpos) (.Call (.Attribute e "items" apos) [] [] cpos) P := by
  intro os σ H st R k
  refine WI.of (pi_items peW hbase hline) ?_
  refine h os σ H st _ fun v H1 b1 r f1 j1 rv hh => ?_
  obtain ⟨kvs, rfl, q⟩ := hh
  cases rv with | va rv => ?_
  cases rv with | @dicK a o kv _ e l ra => exact ⟨a, o, kv, rfl, e, k _ H1 b1 _ f1 j1 (wk_items e l ra) q⟩
end
end PD
set_option Elab.async false
set_option linter.all false
set_option maxRecDepth 100000
set_option maxHeartbeats 4000000
namespace PD
open PySem PySem.Spec PyProof.Rows L2
/-! ### a def with a default -/
/-- one default at the end -/
abbrev FunX (K : PySem.W.Frag) (x : Str) (st : Stmt) (dv : V) (f : Addr) (fd : FuncData) : Prop := FunD K x x (defArgs st) (defBody st) (defScope st) [dv] [] f fd
section
variable {P : Program} {w : World} {K : PySem.W.Frag} {mg : Str → Option Value} {base : Heap} {Z : Vol}
theorem fn_pureD {x : Str} {st : Stmt} {dv : V} {f : Addr} {fd : FuncData} {N ps : List Str} {k n : Nat} {g : List D → Option Res} (F : FunX K x st dv f fd) (S : FnScope N ps (defScope st)) (hn : ps.length = n) (ho : ∀ ds r, g ds = some r → r.out = true)
    (body : ∀ (cdv : Value) (A : Around) (outer : List Env) (s : Shared) (H : Hp) (E : XK) (b : Nat) (ds : List D) (r : Res), Room k (A.deeper (envOfC x (defScope st) s.heap.objs.size f cdv)) → ds.length = n → g ds = some r →
      SV ⟨(cxOf CX0 P w K mg base N x (defScope st) f cdv A outer s H E).nox, Z, H⟩ b (ds.map Sl.va ++ List.replicate (N.length - n) .un) (defBody st) (retF fun b' r' => b' = b ∧ r' = r)) :
    FnOk P w K mg base CX0 (k + 1) f fd ps (spP Z K n g) := by
  refine F.ok S (fun vs H Q E h => ?_) (fun cdv A outer s H vs Q E hr h => ?_)
  · obtain ⟨b, as, hl, hv, _⟩ := h
    rw [hv.len, hl, hn]
  · obtain ⟨b, as, hl, hv, hj, ⟨ds, r, rfl, hg⟩, hq⟩ := h
    have e : (ds.map Ar.va).map Ar.sl = ds.map Sl.va := by rw [List.map_map]; rfl
    have hl' : ds.length = n := by simpa using hl
    refine ⟨_, PSs.nox pssW, ?_⟩
    have bd := (body cdv A outer s H E b ds r hr hl' hg).imp (F' := retF fun b' r' => b' = b ∧ ∃ ds', ds.map Ar.va = ds'.map Ar.va ∧ g ds' = some r') (fun b' _ h => ⟨h.1, ds, rfl, by rw [hg, h.2]⟩) (fun _ _ h => h.elim) (fun _ _ h => h.elim) (fun b' r' h => by
      obtain ⟨ho', rfl, rfl⟩ := h
      exact ⟨ho', rfl, ds, rfl, hg⟩)
    refine bd [] _ H ⟨Fr.refl, hj, fun p z => (nomatch z), [], List.nodup_nil, fun p z => (nomatch z), ?_⟩ _ ⟨fun b' δ' os' σ' H' z s g => ?_, fun _ _ _ _ _ z _ _ => z.elim, fun _ _ _ _ _ z _ _ => z.elim, fun v H' b' r z rv f j => ?_⟩
    · show Sls K Z [] H _ (L2.start N vs) []
      unfold L2.start
      rw [hv.len, hl, ← e]
      exact sls_start hv _
    · exact hq .non H' b' (.va .non) s.fr s.j (.va .non) rfl z
    · exact hq v H' b' r f j rv z.1 z.2
/-- called with all its arguments -/
theorem DfX.of {x : Str} {st : Stmt} {f : Addr} {fd : FuncData} {ps : List Str} {k : Nat} {sp : Sp} {dv : V} (F : FunX K x st dv f fd) (ok : FnOk P w K mg base CX0 k f fd ps sp) (hm : mg x = some (.ref f))
    (h : ∀ (T : Addr) (kV doc pm : Value) (an : Option Addr) (cdv ct : Value) (us its : List Value), us.length = ps.length → its.length = 1 →
      ∃ k, bindArgs (PySem.W.fnOf x x (defArgs st) (defBody st) (defScope st) (.ref T) kV doc pm an cdv ct) ⟨us, []⟩ = seqItems? (.ref T) >>= k ∧ k (some its.toArray) = pure (ps.zip us)) : Df P w K mg base x k ps sp := by
  obtain ⟨ds, hv, hb⟩ := FunD.binds1 (ps := ps) F ps.length 1 (by simp) (by simp) (fun T kV doc pm an cdv ct us its l1 l2 => by
    have e : its.drop 1 = [] := List.drop_eq_nil_of_le (by rw [l2]; exact Nat.le_refl _)
    rw [e, List.append_nil]
    exact h T kV doc pm an cdv ct us its l1 l2)
  cases hv
  exact ⟨f, fd, ok, hm, F.kp, hb⟩
end
end PD
set_option Elab.async false
set_option linter.all false
set_option maxRecDepth 100000
set_option maxHeartbeats 4000000
namespace G
open PySem PD L2
/-! ### skeletons may be compared -/
/-- data without truth values, its texts as they are, at most n deep -/
structure Cm (n : Nat) (d : D) : Prop where
  pl : d.pl = true
  lay : d.pd.canLay0 = true
  dep : d.pd.depth ≤ n
  nb : d.nb = true
theorem Cm.sh {n : Nat} {d : D} (h : Cm n d) (hn : n ≤ 64) : d.sh = true := by
  unfold D.sh SeqAt.shaped
  rw [h.pl, h.lay, decide_eq_true (Nat.le_trans h.dep hn)]
  rfl
theorem Cm.mono {n k : Nat} {d : D} (h : Cm n d) (hn : n ≤ k) : Cm k d := ⟨h.pl, h.lay, Nat.le_trans h.dep hn, h.nb⟩
theorem cm_str {x : Str} (h : okS x = true) : Cm 0 (.str x) := by
  refine ⟨by rw [D.pl], ?_, by rw [D.pd]; simp [PyData.depth], by rw [D.nb]⟩
  rw [D.pd]
  simp [PyData.canLay0, okS_1 h]
theorem cms {n : Nat} {ds : List D} (h : ∀ d ∈ ds, Cm n d) : pls ds = true ∧ PyData.canLayAll0 (pds ds) = true ∧ PyData.depthAll (pds ds) ≤ n ∧ nbs ds = true := by
  induction ds with
  | nil => simp [pls, pds, PyData.canLayAll0, PyData.depthAll, nbs]
  | cons d ds ih =>
    obtain ⟨h1, h2, h3, h4⟩ := ih fun e he => h e (List.mem_cons_of_mem _ he)
    have hd := h d List.mem_cons_self
    rw [pls, pds, nbs, hd.pl, hd.nb, h1, h4]
    simp only [PyData.canLayAll0, PyData.depthAll, hd.lay, h2]
    exact ⟨rfl, rfl, Nat.max_le.mpr ⟨hd.dep, h3⟩, rfl⟩
theorem cm_tup {n : Nat} {ds : List D} (h : ∀ d ∈ ds, Cm n d) : Cm (n + 1) (.tup ds) := by
  obtain ⟨h1, h2, h3, h4⟩ := cms h
  refine ⟨by rw [D.pl]; exact h1, ?_, ?_, by rw [D.nb]; exact h4⟩
  · rw [D.pd]
    simp only [PyData.canLay0]
    exact h2
  · rw [D.pd]
    simp only [PyData.depth]
    omega
theorem cm2 {n : Nat} {a c : D} (h1 : Cm n a) (h2 : Cm n c) : Cm (n + 1) (.tup [a, c]) := cm_tup fun d hd => by
  simp only [List.mem_cons, List.not_mem_nil, or_false] at hd
  rcases hd with rfl | rfl
  · exact h1
  · exact h2
theorem okS_hole : okS "hole" = true := by decide +kernel
theorem okS_el : okS "element" = true := by decide +kernel
theorem okS_no : okS "" = true := by decide +kernel
theorem srt_mem {key : D → D} {ds : List D} {d : D} : d ∈ srtBy key ds ↔ d ∈ ds := (List.mergeSort_perm _ _).mem_iff
end G
set_option Elab.async false
set_option linter.all false
set_option maxRecDepth 100000
set_option maxHeartbeats 4000000
/-! A law's state: the dict of its draws, behind its defs' back; a list of spare strings that a def takes from. The ghost b tells both: b % (10000000000000 : Nat) how much has been drawn, b / (10000000000000 : Nat) how many spare strings are left. -/
namespace PD
open PySem PySem.Spec PyProof.Rows L2
/-- where it stands: the dict, its lists, the table of the program's lambdas -/
structure LC where
  s : Addr
  l : Addr
  c : Addr
  T : Addr
  q : Str
  cells : List Int
def stKV (L : LC) (at_ : Nat) : List (Key × V) := [(.inr "cells", .ref L.c), (.inr "lefts", .ref L.l), (.inr "at", .int (at_ : Int)), (.inr "room", .int 0)]
def Spare (p : Option Addr) (H : Hp) (n : Nat) : Prop := match p with
  | none => n = 0
  | some p => ∃ xs : List Str, H p = some (.lst (xs.map V.str)) ∧ xs.length = n ∧ ∀ x ∈ xs, x = "h"
/-- how the state stands -/
structure St8 (L : LC) (p : Option Addr) (H : Hp) (at_ : Nat) (lefts : List Int) (n : Nat) : Prop where
  s : H L.s = some (.dK (stKV L at_))
  c : H L.c = some (.lst (L.cells.map V.int))
  l : H L.l = some (.lst (lefts.map V.int))
  len : lefts.length = L.cells.length
  pos : ∀ x ∈ lefts, 0 ≤ x
  sp : Spare p H n
  tab : LamX.TabS H L.T L.q
def lawVol (L : LC) (p : Option Addr) : Vol where
  S := fun a => a = L.s ∨ a = L.l ∨ a = L.c ∨ a = L.T ∨ some a = p
  J := fun b H => ∃ lefts, St8 L p H (b % (10000000000000 : Nat)) lefts (b / (10000000000000 : Nat))
  there := by
    rintro b H a ⟨lefts, h⟩ (rfl | rfl | rfl | rfl | e)
    · rw [h.s]; exact fun z => nomatch z
    · rw [h.l]; exact fun z => nomatch z
    · rw [h.c]; exact fun z => nomatch z
    · obtain ⟨ps, e, _⟩ := h.tab
      rw [e]
      exact fun z => nomatch z
    · have hs := h.sp
      rw [← e] at hs
      obtain ⟨xs, e2, _⟩ := hs
      rw [e2]
      exact fun z => nomatch z
  stay := by
    rintro b H H' ⟨lefts, h⟩ f
    refine ⟨lefts, f.keep (fun z => z (.inl rfl)) h.s, f.keep (fun z => z (.inr (.inr (.inl rfl)))) h.c, f.keep (fun z => z (.inr (.inl rfl))) h.l, h.len, h.pos, ?_, ?_⟩
    · have hs := h.sp
      cases p with
      | none => exact hs
      | some p =>
        obtain ⟨xs, e2, r⟩ := hs
        exact ⟨xs, f.keep (fun z => z (.inr (.inr (.inr (.inr rfl))))) e2, r⟩
    · obtain ⟨ps, e, ok, all⟩ := h.tab
      refine ⟨ps, f.keep (fun z => z (.inr (.inr (.inr (.inl rfl))))) e, ok, fun pos cv hc => ?_⟩
      obtain ⟨c, e1, e2⟩ := all pos cv hc
      exact ⟨c, e1, f.code e2⟩
/-- the places are unlike -/
structure LC.Ok (L : LC) (p : Option Addr) : Prop where
  sl : L.s ≠ L.l
  sc : L.s ≠ L.c
  sT : L.s ≠ L.T
  lc : L.l ≠ L.c
  lT : L.l ≠ L.T
  cT : L.c ≠ L.T
  pp : ∀ a, p = some a → a ≠ L.s ∧ a ≠ L.l ∧ a ≠ L.c ∧ a ≠ L.T
  few : L.cells.length ≤ 1000
  one : L.cells ≠ []
theorem tab_upd {H : Hp} {T : Addr} {q : Str} {a : Addr} {o : HO} {xs : HO} (h : LamX.TabS H T q) (ha : a ≠ T) (e : H a = some xs) (hx : ∀ φ, xs ≠ .ext φ) : LamX.TabS (upd H a o) T q := by
  obtain ⟨ps, e1, ok, all⟩ := h
  refine ⟨ps, by rw [upd_ne (Ne.symm ha)]; exact e1, ok, fun pos cv hc => ?_⟩
  obtain ⟨c, e2, e3⟩ := all pos cv hc
  refine ⟨c, e2, ?_⟩
  rw [upd_ne (fun z => ?_)]
  · exact e3
  · rw [z, e] at e3
    unfold LamX.CodeO at e3
    exact hx _ (Option.some.inj e3)
/-- the lambda's table, as the calls may change it -/
theorem lawVol_lam {L : LC} {p : Option Addr} (ok : L.Ok p) : LamZ (lawVol L p) L.T L.q where
  tab := fun b H ⟨_, h⟩ => h.tab
  S := .inr (.inr (.inr (.inl rfl)))
  J := by
    rintro b H H1 ⟨lefts, h⟩ g tab
    rcases g with rfl | ⟨ps, more, c0, hP, h0, rfl⟩
    · exact ⟨lefts, h.s, h.c, h.l, h.len, h.pos, h.sp, tab⟩
    · have ne : ∀ {a : Addr} {o o1 o2 : HO}, a ≠ L.T → H a = some o → upd (upd H L.T o1) c0 o2 a = some o := fun {a o o1 o2} hn e => by
        rw [upd_ne (ne_of_none e h0), upd_ne hn]
        exact e
      refine ⟨lefts, ne ok.sT h.s, ne ok.cT h.c, ne ok.lT h.l, h.len, h.pos, ?_, tab⟩
      have hs := h.sp
      cases p with
      | none => exact hs
      | some p =>
        obtain ⟨xs, e2, r⟩ := hs
        exact ⟨xs, ne (ok.pp p rfl).2.2.2 e2, r⟩
/-! ### looking at the state, changing it -/
section
variable {X : Cx} {L : LC} {p : Option Addr} {H0 : Hp} {b : Nat} {δ : List Sl} {P : Nat → Res → Prop} {F : Fin} {o i e e1 e2 value : Expr} {pos pos' p0 p1 : Pos} {rest : List Stmt}
abbrev LC.C (L : LC) (X : Cx) (p : Option Addr) (H0 : Hp) : Cn := ⟨X, lawVol L p, H0⟩
/-- the state's dict, the list of its cells, that of what is left -/
def LC.sD (L : LC) : D := .obj .dict L.s
def LC.cD (L : LC) : D := .obj .list L.c
def LC.lD (L : LC) : D := .obj .list L.l
theorem rp_obj {K : PySem.W.Frag} {H : Hp} {v : V} {t : Kd} {a : Addr} (h : Rp K H v (.obj t a)) : v = .ref a := by cases h; rfl
/-- state["cells"], state["lefts"] -/
theorem ev_zCells (hu : X.A.units + 1 < cLine) (h : EV (L.C X p H0) b δ o (fun b1 r1 => EV (L.C X p H0) b1 δ i fun b2 r2 => r1 = .va L.sD ∧ ((r2 = .va (.str "cells") ∧ P b2 (.va L.cD)) ∨ (r2 = .va (.str "lefts") ∧ P b2 (.va L.lD))))) (hs : NoSl i := by intro _ _; rfl) : EV (L.C X p H0) b δ (.Subscript o i pos) P := by
  intro os σ H st Q q
  refine WE.of (pe_dget hu peW peW hs) ?_
  refine h os σ H st _ fun v1 H1 b1 r1 f1 j1 rv1 h2 => ?_
  refine h2 os σ H1 (st.on f1 j1) _ fun v2 H2 b2 r2 f2 j2 rv2 h3 => ?_
  obtain ⟨rfl, h3⟩ := h3
  cases rv1 with | va rv1 => ?_
  obtain rfl := rp_obj rv1
  have j3 := j2
  obtain ⟨lefts, s8⟩ := j2
  rcases h3 with ⟨rfl, hq⟩ | ⟨rfl, hq⟩
  · cases rv2 with | va rv2 => ?_
    cases rv2
    exact ⟨L.s, .ref L.c, rfl, .inl ⟨_, .inr "cells", .inl s8.s, rfl, rfl⟩, q _ H2 b2 _ (f1.trans f2) j3 (.va (.obj (.l (.inl s8.c)))) hq⟩
  · cases rv2 with | va rv2 => ?_
    cases rv2
    exact ⟨L.s, .ref L.l, rfl, .inl ⟨_, .inr "lefts", .inl s8.s, rfl, rfl⟩, q _ H2 b2 _ (f1.trans f2) j3 (.va (.obj (.l (.inl s8.l)))) hq⟩
/-- one of the cells, of what is left -/
theorem ev_zIx (h : EV (L.C X p H0) b δ e1 (fun b1 r1 => EV (L.C X p H0) b1 δ e2 fun b2 r2 => ∃ j : Nat, r2 = .va (.int (j : Int)) ∧ j < L.cells.length ∧ ((r1 = .va L.cD ∧ ∀ x : Int, P b2 (.va (.int x))) ∨ (r1 = .va L.lD ∧ ∀ x : Int, 0 ≤ x → P b2 (.va (.int x)))))) (hs : PlainIx e2 := by exact fun _ _ => rfl) :
    EV (L.C X p H0) b δ (.Subscript e1 e2 pos) P := by
  intro os σ H st Q q
  refine WE.of (pe_ix ix_seq peW peW hs) ?_
  refine h os σ H st _ fun v1 H1 b1 r1 f1 j1 rv1 h2 => ?_
  refine h2 os σ H1 (st.on f1 j1) _ fun v2 H2 b2 r2 f2 j2 rv2 h3 => ?_
  obtain ⟨j, rfl, hj, h3⟩ := h3
  cases rv2 with | va rv2 => ?_
  cases rv2
  have j3 := j2
  obtain ⟨lefts, s8⟩ := j2
  rcases h3 with ⟨rfl, hq⟩ | ⟨rfl, hq⟩
  · cases rv1 with | va rv1 => ?_
    obtain rfl := rp_obj rv1
    have hx : j < (L.cells.map V.int).length := by rw [List.length_map]; exact hj
    refine .inl ⟨L.c, _, _, .int (L.cells[j]), rfl, rfl, .inl (.inl s8.c), ?_, q _ H2 b2 _ (f1.trans f2) j3 (.va (.int _)) (hq _)⟩
    exact atI_nat (by rw [List.getElem?_map, List.getElem?_eq_getElem hj]; rfl)
  · cases rv1 with | va rv1 => ?_
    obtain rfl := rp_obj rv1
    have hj' : j < lefts.length := by rw [s8.len]; exact hj
    refine .inl ⟨L.l, _, _, .int (lefts[j]), rfl, rfl, .inl (.inl s8.l), ?_, q _ H2 b2 _ (f1.trans f2) j3 (.va (.int _)) (hq _ (s8.pos _ (List.getElem_mem hj')))⟩
    exact atI_nat (by rw [List.getElem?_map, List.getElem?_eq_getElem hj']; rfl)
end
end PD
set_option Elab.async false
set_option linter.all false
set_option maxRecDepth 100000
set_option maxHeartbeats 4000000
namespace PD
open PySem PySem.Spec PyProof.Rows L2
section
variable {X : Cx} {L : LC} {p : Option Addr} {H0 : Hp} {b : Nat} {δ : List Sl} {P : Nat → Res → Prop} {F : Fin} {o i e e1 e2 value : Expr} {pos pos' p0 p1 p2 p3 p4 p5 p6 p7 p8 p9 : Pos} {rest : List Stmt}
/-- len(state["cells"]) -/
theorem ev_zLen (B : Blt X) (h : EV (L.C X p H0) b δ e (fun b1 r => r = .va L.cD ∧ P b1 (.va (.int (L.cells.length : Nat))))) (hg : Gl X "len" := by rfl)
    (hsx : starEach [e] X.env = (false, eval e X.env) :: starEach [] X.env := by rfl) (hpl : (backTo pos (starEach [] X.env)).any (·.1) = false := by rfl) : EV (L.C X p H0) b δ (.Call (.Name "len" p0) [e] [] pos) P := by
  intro os σ H st Q q
  refine WE.of (pe_callB call_len hg B.len PySem.boot_len (pa_cons peW pa_nil hsx) (by decide) (by decide) hsx hpl) ?_
  refine h os σ H st _ fun v H1 b1 r f1 j1 rv hh => ?_
  obtain ⟨rfl, hq⟩ := hh
  cases rv with | va rv => ?_
  obtain rfl := rp_obj rv
  have j2 := j1
  obtain ⟨lefts, s8⟩ := j1
  exact ⟨.ref L.c, L.cells.length, rfl, .inl ⟨_, .inl (.inl s8.c), (List.length_map _).symm⟩, q _ H1 b1 _ f1 j2 (.va (.int _)) hq⟩
/-- state["lefts"][place] = value -/
theorem sv_zLeft (ok : L.Ok p) (h : EV (L.C X p H0) b δ value (fun b1 r1 => EV (L.C X p H0) b1 δ o fun b2 r2 => EV (L.C X p H0) b2 δ i fun b3 r3 => ∃ (x : Int) (j : Nat), r1 = .va (.int x) ∧ 0 ≤ x ∧ r2 = .va L.lD ∧ r3 = .va (.int (j : Int)) ∧ j < L.cells.length ∧ SV (L.C X p H0) b3 δ rest F))
    (ha : ∀ v, assign (.Subscript o i pos') X.env v = (do
      let ov ← holding [v] (eval o X.env)
      let iv ← holding [v, ov] (eval i X.env)
      standAt pos'
      holding [v, ov, iv] (setItem ov iv v)
      release [v, ov, iv] []) := by intro _; rfl)
    (hs : swapsWithSole [.Subscript o i pos'] value pos.line X.env = pure false := by rfl) (hw : swappedStores [.Subscript o i pos'] value X.env = pure none := by rfl) (h1 : (assignEach [.Subscript o i pos'] X.env).map (·.2) = [assign (.Subscript o i pos') X.env] := by rfl) :
    SV (L.C X p H0) b δ (.Assign [.Subscript o i pos'] value pos :: rest) F := by
  intro os σ H st D ed
  refine WSs.of (pss_cons (ps_asg peW (pg_sub peW peW set_list ha) hs hw h1) pssW) ?_
  refine h os σ H st _ fun v1 H1 b1 r1 f1 j1 rv1 h2 => ?_
  refine h2 os σ H1 (st.on f1 j1) _ fun v2 H2 b2 r2 f2 j2 rv2 h3 => ?_
  refine h3 os σ H2 ((st.on f1 j1).on f2 j2) _ fun v3 H3 b3 r3 f3 j3 rv3 h4 => ?_
  obtain ⟨x, j, rfl, hx, rfl, rfl, hj, q⟩ := h4
  cases rv1 with | va rv1 => ?_
  cases rv2 with | va rv2 => ?_
  cases rv3 with | va rv3 => ?_
  cases rv1
  cases rv3
  obtain rfl := rp_obj rv2
  have st3 := ((st.on f1 j1).on f2 j2).on f3 j3
  obtain ⟨lefts, s8⟩ := j3
  have hjl : j < lefts.length := by rw [s8.len]; exact hj
  have hS : (lawVol L p).S L.l := .inr (.inl rfl)
  have fw : Fr (lawVol L p).S H3 (upd H3 L.l (.lst ((lefts.map V.int).set j (.int x)))) := Fr.put hS s8.l
  have em : (lefts.map V.int).set j (.int x) = (lefts.set j x).map V.int := by rw [List.map_set]
  have ne : ∀ {a : Addr} {u : HO}, a ≠ L.l → H3 a = some u → upd H3 L.l (.lst ((lefts.map V.int).set j (.int x))) a = some u := fun ha e => by rw [upd_ne ha]; exact e
  have j4 : (lawVol L p).J b3 (upd H3 L.l (.lst ((lefts.map V.int).set j (.int x)))) := by
    refine ⟨lefts.set j x, ne ok.sl s8.s, ne (Ne.symm ok.lc) s8.c, by rw [← em]; exact upd_same, by rw [List.length_set]; exact s8.len, fun y hy => ?_, ?_, tab_upd s8.tab ok.lT s8.l (fun φ z => nomatch z)⟩
    · rcases List.mem_or_eq_of_mem_set hy with z | z
      · exact s8.pos y z
      · rw [z]; exact hx
    · have hs := s8.sp
      cases p with
      | none => exact hs
      | some p =>
        obtain ⟨xs, e2, r⟩ := hs
        exact ⟨xs, ne (ok.pp p rfl).2.1 e2, r⟩
  refine ⟨L.l, _, (j : Int), j, rfl, rfl, s8.l, (by
    unfold ixN
    rw [List.length_map, if_pos (by omega), if_pos (by omega)]
    simp), ?_⟩
  have g : Gr (lawVol L p) os H os (upd H3 L.l (.lst ((lefts.map V.int).set j (.int x)))) := Gr.of (((f1.trans f2).trans f3).trans fw)
  exact q os σ _ (st3.on fw j4) D (ed.on g)
/-- at = state["at"]; state["at"] = at + 1 -/
theorem sv_zAt (ok : L.Ok p) (hu : X.A.units + 1 < cLine) (n0 na : Nat) {x0 xa : Str} {j1 j2 j3 : Nat} (h0 : δ[n0]? = some (.va L.sD)) (ha : na < δ.length) (h0a : n0 ≠ na) (hb : b % (10000000000000 : Nat) + 1 < (10000000000000 : Nat)) (k : ∀ k : Nat, k < (10000000000000 : Nat) → SV (L.C X p H0) (b + 1) (δ.set na (.va (.int (k : Int)))) rest F) (hN : X.N.Nodup)
    (hx0 : X.N[n0]? = some x0 := by rfl) (hxa : X.N[na]? = some xa := by rfl) (hv0 : Vis X.env.scope x0 := by first | exact Or.inl rfl | exact Or.inr (Or.inl rfl) | exact Or.inr (Or.inr rfl)) (hva : Vis X.env.scope xa := by first | exact Or.inl rfl | exact Or.inr (Or.inl rfl) | exact Or.inr (Or.inr rfl))
    (hl : Loc X.env.scope xa := by first | exact Or.inl rfl | exact Or.inr rfl) (hf : X.fn xa = true ∨ X.env.scope.names.lookup xa = some .local := by first | exact .inl rfl | exact .inr rfl)
    (hd0 : (x0 == ("__debug__" : Str)) = false := by decide) (hcd0 : (x0 == ("__classdict__" : Str)) = false := by decide) (hda : (xa == ("__debug__" : Str)) = false := by decide) (hcda : (xa == ("__classdict__" : Str)) = false := by decide)
    (hs1 : swapsWith (.Subscript (.Name x0 p1) (.Constant (.str "at") j1 p2) p3) (some (.Name xa p0)) pos.line X.env = pure false := by rfl)
    (hs2 : swapsWith (.BinOp (.Name xa p6) .Add (.Constant (.int 1) j3 p7) p8) (some (.Subscript (.Name x0 p4) (.Constant (.str "at") j2 p5) pos')) p9.line X.env = pure false := by rfl) :
    SV (L.C X p H0) b δ (.Assign [.Name xa p0] (.Subscript (.Name x0 p1) (.Constant (.str "at") j1 p2) p3) pos :: .Assign [.Subscript (.Name x0 p4) (.Constant (.str "at") j2 p5) pos'] (.BinOp (.Name xa p6) .Add (.Constant (.int 1) j3 p7) p8) p9 :: rest) F := by
  intro os σ H st D ed
  refine WSs.of (pss_cons (ps_set hN hxa hl (pe_dget hu (pe_var hx0 hv0 hd0 hcd0) pe_str (by intro _ _; rfl)) hs1 hf) (pss_cons (ps_dput hu (pe_var hx0 hv0 hd0 hcd0) pe_str (pe_op op_add (pe_var hxa hva hda hcda) pe_int) hs2) pssW)) ?_
  obtain ⟨o1, _, sub, sl⟩ := st.sl
  obtain ⟨w0, o2, e0, a0, _⟩ := sl.at h0
  cases a0 with | va r0 => ?_
  obtain rfl := rp_obj r0
  obtain ⟨lefts, s8⟩ := st.j
  have hkk : b % (10000000000000 : Nat) < (10000000000000 : Nat) := Nat.mod_lt _ (by decide)
  have e1 : (b + 1) % (10000000000000 : Nat) = b % (10000000000000 : Nat) + 1 := by omega
  have e2 : (b + 1) / (10000000000000 : Nat) = b / (10000000000000 : Nat) := by omega
  generalize hk : b % (10000000000000 : Nat) = kk at s8 hb hkk e1
  refine ⟨_, e0, L.s, .int (kk : Int), rfl, .inl ⟨_, .inr "at", .inl s8.s, rfl, rfl⟩, ?_⟩
  obtain ⟨os1, st1, g1⟩ := st.put (i := na) (b1 := b) (r := .va (.int (kk : Int))) Fr.refl st.j (.va (.int _)) rfl
  have hna : na < σ.length := by rw [sl.len]; exact ha
  refine ⟨.int (kk : Int), by rw [List.getElem?_set_self hna], (kk : Int), 1, rfl, rfl, ?_⟩
  refine ⟨.ref L.s, by rw [List.getElem?_set_ne (Ne.symm h0a)]; exact e0, L.s, _, rfl, DPut.k (k := .inr "at") s8.s (show 4 < sizeLine by decide), ?_⟩
  have ep : putK (stKV L kk) (.inr "at") (.int ((kk : Int) + 1)) = stKV L (kk + 1) := rfl
  rw [ep]
  have hS : (lawVol L p).S L.s := .inl rfl
  have fw : Fr (lawVol L p).S H (upd H L.s (.dK (stKV L (kk + 1)))) := Fr.putL hS s8.s .k
  have ne : ∀ {a : Addr} {u : HO}, a ≠ L.s → H a = some u → upd H L.s (.dK (stKV L (kk + 1))) a = some u := fun ha e => by rw [upd_ne ha]; exact e
  have j4 : (lawVol L p).J (b + 1) (upd H L.s (.dK (stKV L (kk + 1)))) := by
    refine ⟨lefts, by rw [e1]; exact upd_same, ne (Ne.symm ok.sc) s8.c, ne (Ne.symm ok.sl) s8.l, s8.len, s8.pos, ?_, tab_upd s8.tab ok.sT s8.s (fun φ z => nomatch z)⟩
    rw [e2]
    have hs := s8.sp
    cases p with
    | none => exact hs
    | some p =>
      obtain ⟨xs, e2, r⟩ := hs
      exact ⟨xs, ne (ok.pp p rfl).1 e2, r⟩
  exact k kk hkk os1 _ _ (st1.on fw j4) D (ed.on (g1.trans (Gr.of fw)))
end
end PD
set_option Elab.async false
set_option linter.all false
set_option maxRecDepth 100000
set_option maxHeartbeats 4000000
namespace PD
open PySem PySem.Spec PyProof.Rows L2
section
variable {C : Cn} {b : Nat} {δ : List Sl} {P : Nat → Res → Prop} {pos p0 : Pos} {e : Expr}
/-- int(i) -/
theorem ev_intI (B : Blt C.X) (h : EV C b δ e (fun b1 r => ∃ i : Int, r = .va (.int i) ∧ P b1 (.va (.int i)))) (hg : Gl C.X "int" := by rfl)
    (hs : starEach [e] C.X.env = (false, eval e C.X.env) :: starEach [] C.X.env := by rfl) (hpl : (backTo pos (starEach [] C.X.env)).any (·.1) = false := by rfl) : EV C b δ (.Call (.Name "int" p0) [e] [] pos) P := by
  intro os σ H st Q q
  refine WE.of (pe_callTy call_int1 hg B.int (by decide +kernel) (pa_cons peW pa_nil hs) (by decide) (by decide) hs hpl) ?_
  refine h os σ H st _ fun v H1 b1 r f1 j1 rv hr => ?_
  obtain ⟨i, rfl, hq⟩ := hr
  cases rv with | va rv => ?_
  cases rv
  exact .inl ⟨i, rfl, q _ H1 b1 _ f1 j1 (.va (.int _)) hq⟩
end
end PD
namespace G
open PySem PySem.Spec PyProof.Rows L2 PD
section
variable {P : Program} {w : World} {K : PySem.W.Frag} {mg : Str → Option Value} {base : Heap} {Z : Vol} {f : Addr} {fd : FuncData}
/-! ### _law_mixed, _law_draw -/
def mixI (c k : Int) : Int := (c % 2147483647 * (48271 + 2 * k * k) + 69621 * k + 11) % 2147483647 * 69621 % 2147483629
def gMix : List D → Option Res
  | [.int c, .int k] => if -1000000000000000000 < k ∧ k < 1000000000000000000 then some (.va (.int (mixI c k))) else none
  | _ => none
theorem gMix_out : ∀ (ds : List D) (r : Res), gMix ds = some r → r.out = true := by
  intro ds r h
  unfold gMix at h
  split at h
  · split at h
    · cases h; rfl
    · cases h
  · cases h
theorem gMix_of {c k : Int} (h : -1000000000000000000 < k ∧ k < 1000000000000000000) : gMix [.int c, .int k] = some (.va (.int (mixI c k))) := if_pos h
abbrev DMix (P : Program) (w : World) (K : PySem.W.Frag) (mg : Str → Option Value) (base : Heap) (Z : Vol) := Df P w K mg base "_law_mixed" 1 ["cell", "k"] (spP Z K 2 gMix)
abbrev sMix : Stmt := st__law_mixed
theorem ok_mix (F : Fun K "_law_mixed" "_law_mixed" sMix f fd) (T : Cst mg) : FnOk P w K mg base CX0 1 f fd ["cell", "k"] (spP Z K 2 gMix) := by
  have sc : FnScope ["cell", "k"] ["cell", "k"] (defScope sMix) := ⟨rfl, rfl, rfl, by decide +kernel, rfl, by decide +kernel, by decide +kernel⟩
  refine fn_pure F sc rfl gMix_out fun cdv A outer s H E b ds r hr hl hg => ?_
  have h : ∃ c k, ds = [.int c, .int k] ∧ (-1000000000000000000 < k ∧ k < 1000000000000000000) ∧ r = .va (.int (mixI c k)) := by
    unfold gMix at hg
    split at hg
    · split at hg
      · rename_i h
        cases hg; exact ⟨_, _, rfl, h, rfl⟩
      · cases hg
    · cases hg
  obtain ⟨c, k, rfl, hk, rfl⟩ := h
  have b0 := T.blt (cxOf CX0 P w K mg base ["cell", "k"] "_law_mixed" (defScope sMix) f cdv A outer s H E).nox rfl
  refine sv_set 0 (ev_mod (ev_intI b0 (ev_var 0 rfl ⟨c, rfl, ev_int ⟨_, _, rfl, rfl, by decide, _, rfl, ?_⟩⟩))) sc.nd
  have hc1 := Int.emod_nonneg c (show (2147483647 : Int) ≠ 0 by decide)
  have hc2 := Int.emod_lt_of_pos c (show (0 : Int) < 2147483647 by decide)
  have h64 : ∀ x : Int, 0 ≤ x → x < 2147483647 → -(2 ^ 64) < x ∧ x < 2 ^ 64 := fun x h1 h2 => ⟨by omega, by omega⟩
  have hk64 : -(2 ^ 64) < k ∧ k < 2 ^ 64 := ⟨by omega, by omega⟩
  refine sv_ret (ev_mod (ev_mul (ev_mod (ev_add (ev_add (ev_mul (ev_var 0 rfl (ev_add (ev_int (ev_mul (ev_mul (ev_int (ev_var 1 rfl ⟨2, k, rfl, rfl, .inr hk64, ?_⟩)))))))))))))
  refine ev_var 1 rfl ⟨2 * k, k, rfl, rfl, .inr hk64, 48271, 2 * k * k, rfl, rfl, c % 2147483647, _, rfl, rfl, .inl (h64 _ hc1 hc2), ?_⟩
  refine ev_mul (ev_int (ev_var 1 rfl ⟨69621, k, rfl, rfl, .inr hk64, _, _, rfl, rfl, ev_int ⟨_, 11, rfl, rfl, ev_int ⟨_, 2147483647, rfl, rfl, by decide, ev_int ⟨_, 69621, rfl, rfl, .inr ⟨by decide, by decide⟩, ev_int ⟨_, 2147483629, rfl, rfl, by decide, rfl, rfl, rfl⟩⟩⟩⟩⟩))
/-- a draw: L the law's state -/
def preDraw (L : LC) (b : Nat) (as : List Ar) : Prop := ∃ m : Nat, 1 ≤ m ∧ m ≤ 1000 ∧ b % (10000000000000 : Nat) ≤ 1000000000000 ∧ as = [.va L.sD, .va (.int (m : Int))]
def postDraw (L : LC) (b : Nat) (as : List Ar) (b' : Nat) (r : Res) : Prop := ∃ m x : Nat, as = [.va L.sD, .va (.int (m : Int))] ∧ x < m ∧ r = .va (.int (x : Int)) ∧ b' = b + 1
abbrev DDraw (P : Program) (w : World) (K : PySem.W.Frag) (mg : Str → Option Value) (base : Heap) (L : LC) (p : Option Addr) := Df P w K mg base "_law_draw" 2 ["state", "many"] (spD (lawVol L p) K 2 (preDraw L) (postDraw L))
abbrev sDraw : Stmt := st__law_draw
theorem ok_draw {L : LC} {p : Option Addr} (F : Fun K "_law_draw" "_law_draw" sDraw f fd) (T : Cst mg) (ok : L.Ok p) (D1 : DMix P w K mg base (lawVol L p)) : FnOk P w K mg base CX0 2 f fd ["state", "many"] (spD (lawVol L p) K 2 (preDraw L) (postDraw L)) := by
  have sc : FnScope ["state", "many", "at", "place", "left", "number"] ["state", "many"] (defScope sDraw) := ⟨rfl, rfl, rfl, by decide +kernel, rfl, by decide +kernel, by decide +kernel⟩
  refine fn_body F sc rfl fun cdv A outer s H E b as hr hl hp => ?_
  obtain ⟨m, hm1, hm2, hb, rfl⟩ := hp
  have b0 := T.blt (cxOf CX0 P w K mg base ["state", "many", "at", "place", "left", "number"] "_law_draw" (defScope sDraw) f cdv A outer s H E).nox rfl
  have hu := hu_of hr
  have hlen := ok.few
  have hone : 0 < L.cells.length := List.length_pos_iff.mpr ok.one
  have fin : ∀ (b' : Nat) (z : Int), b' = b + 1 → (retF (postDraw L b [.va L.sD, .va (.int (m : Int))])).R b' (.va (.int (z % (m : Int)))) := fun b' z e => by
    have h1 := Int.emod_nonneg z (show (m : Int) ≠ 0 by omega)
    have h2 := Int.emod_lt_of_pos z (show (0 : Int) < (m : Int) by omega)
    exact ⟨rfl, m, (z % (m : Int)).toNat, rfl, by omega, by rw [Int.toNat_of_nonneg h1], e⟩
  refine sv_zAt ok hu 0 2 rfl (show 2 < 6 by decide) (by decide) (by omega) (fun k hk => ?_) sc.nd
  refine sv_set 3 (ev_mod (ev_intI b0 (ev_var 2 rfl ⟨(k : Int), rfl, ev_zLen b0 (ev_zCells hu (ev_var 0 rfl (ev_str ⟨rfl, .inl ⟨rfl, rfl, _, _, rfl, rfl, by omega, _, rfl, ?_⟩⟩)))⟩))) sc.nd
  have hj : (k : Int) % (L.cells.length : Int) = ((k % L.cells.length : Nat) : Int) := by omega
  have hj2 : k % L.cells.length < L.cells.length := Nat.mod_lt _ hone
  rw [hj]
  generalize k % L.cells.length = j at hj2
  refine sv_set 4 (ev_zIx (ev_zCells hu (ev_var 0 rfl (ev_str ⟨rfl, .inr ⟨rfl, ev_var 3 rfl ⟨j, rfl, hj2, .inr ⟨rfl, fun x hx => ⟨_, rfl, ?_⟩⟩⟩⟩⟩)))) sc.nd
  refine sv_if (et_ord op_gt (nomark _) (ev_var 4 rfl (ev_int ⟨_, _, rfl, rfl, ?_⟩)))
  cases e : decide ((0 : Int) < x) with
  | true =>
    refine sv_zLeft ok (ev_fdiv (ev_var 4 rfl (ev_var 1 rfl ⟨x, (m : Int), rfl, rfl, ⟨by omega, by omega⟩, ?_⟩)))
    refine ev_zCells hu (ev_var 0 rfl (ev_str ⟨rfl, .inr ⟨rfl, ev_var 3 rfl ⟨x / (m : Int), j, rfl, Int.ediv_nonneg hx (by omega), rfl, rfl, hj2, ?_⟩⟩⟩))
    exact sv_ret (ev_mod (ev_intI b0 (ev_var 4 rfl ⟨x, rfl, ev_var 1 rfl ⟨_, _, rfl, rfl, by omega, fin _ _ rfl⟩⟩)))
  | false =>
    refine sv_nil ?_
    refine sv_set 5 (ev_callP D1 hr (eva_cons (ev_callP D1 hr (eva_cons (ev_zIx (ev_zCells hu (ev_var 0 rfl (ev_str ⟨rfl, .inl ⟨rfl, ev_var 3 rfl ⟨j, rfl, hj2, .inl ⟨rfl, fun c => ?_⟩⟩⟩⟩)))))))) sc.nd
    refine eva_cons (ev_var 2 rfl (eva_nil ⟨_, _, rfl, rfl, gMix_of ⟨by omega, by omega⟩, ?_⟩))
    refine eva_cons (ev_add (ev_int (ev_var 2 rfl ⟨_, _, rfl, rfl, eva_nil ⟨_, _, rfl, rfl, gMix_of ⟨by omega, by omega⟩, _, rfl, ?_⟩⟩)))
    refine sv_ret (ev_mod (ev_fdiv (ev_intI b0 (ev_add (ev_mul (ev_var 5 rfl (ev_int ⟨_, _, rfl, rfl, .inr ⟨by decide, by decide⟩, ?_⟩)))))))
    refine ev_callP D1 hr (eva_cons (ev_var 5 rfl (eva_cons (ev_add (ev_int (ev_var 2 rfl ⟨_, _, rfl, rfl, eva_nil ⟨_, _, rfl, rfl, gMix_of ⟨by omega, by omega⟩, ?_⟩⟩))))))
    exact ⟨_, _, rfl, rfl, _, rfl, ev_int ⟨_, _, rfl, rfl, ⟨by decide, by decide⟩, ev_var 1 rfl ⟨_, _, rfl, rfl, by omega, fin _ _ rfl⟩⟩⟩
end
end G
set_option Elab.async false
set_option linter.all false
set_option maxRecDepth 100000
set_option maxHeartbeats 4000000
namespace G
open PySem PySem.Spec PyProof.Rows L2 PD
/-- calling a draw -/
theorem ev_draw {X : Cx} {L : LC} {p : Option Addr} {H0 : Hp} {b : Nat} {δ : List Sl} {P : Nat → Res → Prop} {pos p0 : Pos} {e1 e2 : Expr} (D : DDraw X.prog X.w X.K X.mg X.base L p) (hr : Room 2 X.A)
    (h : EV (L.C X p H0) b δ e1 (fun b1 r1 => EV (L.C X p H0) b1 δ e2 fun b2 r2 => ∃ m : Nat, r1 = .va L.sD ∧ r2 = .va (.int (m : Int)) ∧ 1 ≤ m ∧ m ≤ 1000 ∧ b2 % (10000000000000 : Nat) ≤ 1000000000000 ∧ ∀ x : Nat, x < m → P (b2 + 1) (.va (.int (x : Int)))))
    (hg : Gl X "_law_draw" := by rfl) (he : starEach [e1, e2] X.env = (false, eval e1 X.env) :: starEach [e2] X.env := by rfl) (hpl : (backTo pos (starEach [e2] X.env)).any (·.1) = false := by rfl) (hs2 : starEach [e2] X.env = (false, eval e2 X.env) :: starEach [] X.env := by rfl) :
    EV (L.C X p H0) b δ (.Call (.Name "_law_draw" p0) [e1, e2] [] pos) P := by
  refine ev_call D hr (eva_cons (h.imp fun b1 r1 h2 => eva_cons (h2.imp fun b2 r2 h3 => eva_nil ?_) hs2) he) hg (by decide) he hpl
  obtain ⟨m, rfl, rfl, h1, h2, h3, hq⟩ := h3
  refine ⟨rfl, ⟨m, h1, h2, h3, rfl⟩, fun b' r _ po => ?_⟩
  obtain ⟨m', x, e, hx, rfl, rfl⟩ := po
  have em : m = m' := by
    have e' : ([Ar.va L.sD, Ar.va (.int (m : Int))] : List Ar) = [Ar.va L.sD, Ar.va (.int (m' : Int))] := e
    injection e' with _ e'
    injection e' with e' _
    injection e' with e'
    injection e' with e'
    omega
  subst em
  exact hq x hx
def pfxs : List Str := ["", "p", "q", "p", "", "r", "pp"]
def lcls : List Str := ["a", "b", "a", "c"]
section
variable {P : Program} {w : World} {K : PySem.W.Frag} {mg : Str → Option Value} {base : Heap} {Z : Vol} {f : Addr} {fd : FuncData}
/-! ### _law_prefix, _law_name -/
/-- a def of the state alone: n draws -/
abbrev preS (L : LC) (b : Nat) (as : List Ar) : Prop := b % (10000000000000 : Nat) ≤ 999999999000 ∧ as = [.va L.sD]
abbrev DPfx (P : Program) (w : World) (K : PySem.W.Frag) (mg : Str → Option Value) (base : Heap) (L : LC) (p : Option Addr) := Df P w K mg base "_law_prefix" 3 ["state"] (spD (lawVol L p) K 1 (preS L) fun b _ b' r => ∃ x ∈ pfxs, r = .va (.str x) ∧ b' = b + 1)
abbrev sPfx : Stmt := st__law_prefix
theorem at_texts {xs : List Str} {i : Nat} (h : i < xs.length) : atI (xs.map D.str) (i : Int) = some (.str xs[i]) := atI_nat (by rw [List.getElem?_map, List.getElem?_eq_getElem h]; rfl)
theorem ok_pfx {L : LC} {p : Option Addr} (F : Fun K "_law_prefix" "_law_prefix" sPfx f fd) (T : Cst mg) (D1 : DDraw P w K mg base L p) : FnOk P w K mg base CX0 3 f fd ["state"] (spD (lawVol L p) K 1 (preS L) fun b _ b' r => ∃ x ∈ pfxs, r = .va (.str x) ∧ b' = b + 1) := by
  have sc : FnScope ["state"] ["state"] (defScope sPfx) := ⟨rfl, rfl, rfl, by decide +kernel, rfl, by decide +kernel, by decide +kernel⟩
  refine fn_body F sc rfl fun cdv A outer s H E b as hr hl hp => ?_
  obtain ⟨hb, rfl⟩ := hp
  refine sv_ret (ev_ix (ev_lst (eva_cons (ev_str (eva_cons (ev_str (eva_cons (ev_str (eva_cons (ev_str (eva_cons (ev_str (eva_cons (ev_str (eva_cons (ev_str (eva_nil ⟨pfxs.map D.str, rfl, by decide, ?_⟩)))))))))))))))))
  exact ev_draw D1 hr (ev_var 0 rfl (ev_int ⟨7, rfl, rfl, by decide, by decide, by omega, fun x hx => ⟨pfxs.map D.str, _, _, .inr rfl, rfl, at_texts (xs := pfxs) hx, rfl, _, List.getElem_mem hx, rfl, rfl⟩⟩))
abbrev DNam (P : Program) (w : World) (K : PySem.W.Frag) (mg : Str → Option Value) (base : Heap) (L : LC) (p : Option Addr) := Df P w K mg base "_law_name" 4 ["state"] (spD (lawVol L p) K 1 (preS L) fun b _ b' r => ∃ x ∈ pfxs, ∃ y ∈ lcls, r = .va (nmD x y) ∧ b' = b + 2)
abbrev sNam : Stmt := st__law_name
theorem ok_nam {L : LC} {p : Option Addr} (F : Fun K "_law_name" "_law_name" sNam f fd) (T : Cst mg) (D1 : DDraw P w K mg base L p) (D2 : DPfx P w K mg base L p) : FnOk P w K mg base CX0 4 f fd ["state"] (spD (lawVol L p) K 1 (preS L) fun b _ b' r => ∃ x ∈ pfxs, ∃ y ∈ lcls, r = .va (nmD x y) ∧ b' = b + 2) := by
  have sc : FnScope ["state"] ["state"] (defScope sNam) := ⟨rfl, rfl, rfl, by decide +kernel, rfl, by decide +kernel, by decide +kernel⟩
  refine fn_body F sc rfl fun cdv A outer s H E b as hr hl hp => ?_
  obtain ⟨hb, rfl⟩ := hp
  refine sv_ret (ev_tup (eva_cons (ev_call D2 hr (eva_cons (ev_var 0 rfl (eva_nil ⟨rfl, ⟨hb, rfl⟩, fun b1 r1 _ po => ?_⟩))))))
  obtain ⟨x, hx, rfl, rfl⟩ := po
  refine eva_cons (ev_ix (ev_lst (eva_cons (ev_str (eva_cons (ev_str (eva_cons (ev_str (eva_cons (ev_str (eva_nil ⟨lcls.map D.str, rfl, by decide, ?_⟩)))))))))))
  exact ev_draw D1 (hr.mono (by decide)) (ev_var 0 rfl (ev_int ⟨4, rfl, rfl, by decide, by decide, by omega, fun y hy => ⟨lcls.map D.str, _, _, .inr rfl, rfl, at_texts (xs := lcls) hy, eva_nil ⟨_, rfl, by simp, rfl, x, hx, _, List.getElem_mem hy, rfl, rfl⟩⟩⟩))
end
end G
set_option Elab.async false
set_option linter.all false
set_option maxRecDepth 100000
set_option maxHeartbeats 4000000
namespace G
open PySem PySem.Spec PyProof.Rows L2 PD
/-! ### dicts of typed things -/
section
variable {α β : Type} [DecidableEq α]
def valG (m : List (α × β)) (p : α) : Option β := (m.find? fun q => decide (q.1 = p)).map (·.2)
def putG (m : List (α × β)) (p : α) (a : β) : List (α × β) := if (m.any fun q => decide (q.1 = p)) = true then m.map (fun q => if q.1 = p then (q.1, a) else q) else m ++ [(p, a)]
theorem putG_data {κ : Type} [DecidableEq κ] (f : α → κ) (inj : ∀ x y, f x = f y → x = y) (g : β → D) (m : List (α × β)) (p : α) (a : β) : putD (m.map fun q => (f q.1, g q.2)) (f p) (g a) = (putG m p a).map fun q => (f q.1, g q.2) := by
  unfold putD putG
  have dec : ∀ x, decide (f x = f p) = decide (x = p) := fun x => decide_eq_decide.mpr ⟨inj x p, fun z => by rw [z]⟩
  have e : ((m.map fun q => (f q.1, g q.2)).any fun kv => decide (kv.1 = f p)) = (m.any fun q => decide (q.1 = p)) := by
    rw [List.any_map]
    congr 1
    funext q
    exact dec q.1
  rw [e]
  cases (m.any fun q => decide (q.1 = p)) with
  | false => simp
  | true =>
    simp only [if_true]
    rw [List.map_map, List.map_map]
    refine List.map_congr_left fun q _ => ?_
    by_cases h : q.1 = p
    · simp [Function.comp, h]
    · have h2 : ¬ f q.1 = f p := fun z => h (inj _ _ z)
      simp [Function.comp, h, h2]
theorem valG_data {κ : Type} [DecidableEq κ] (f : α → κ) (inj : ∀ x y, f x = f y → x = y) (g : β → D) (m : List (α × β)) (p : α) : valD (m.map fun q => (f q.1, g q.2)) (f p) = (valG m p).map g := by
  have dec : ∀ x, decide (f x = f p) = decide (x = p) := fun x => decide_eq_decide.mpr ⟨inj x p, fun z => by rw [z]⟩
  unfold valD valG
  induction m with
  | nil => rfl
  | cons q m ih =>
    rw [List.map_cons, List.find?_cons, List.find?_cons]
    simp only [dec]
    cases decide (q.1 = p) with
    | true => rfl
    | false => exact ih
theorem putG_len (m : List (α × β)) (p : α) (a : β) : (putG m p a).length ≤ m.length + 1 := by
  unfold putG
  split
  · rw [List.length_map]; omega
  · rw [List.length_append]; exact Nat.le_refl _
theorem putG_keys (m : List (α × β)) (p : α) (a : β) (h : (m.map (·.1)).Nodup) : ((putG m p a).map (·.1)).Nodup := by
  unfold putG
  split
  · rw [List.map_map]
    have : m.map ((fun q : α × β => q.1) ∘ fun q => if q.1 = p then (q.1, a) else q) = m.map (·.1) := List.map_congr_left fun q _ => by
      simp only [Function.comp]
      split <;> rfl
    rw [this]
    exact h
  · rename_i hn
    rw [List.map_append, List.nodup_append]
    refine ⟨h, by simp, fun x hx y hy e => hn ?_⟩
    simp only [List.map_cons, List.map_nil, List.mem_singleton] at hy
    subst e
    obtain ⟨q, hq, e2⟩ := List.mem_map.mp hx
    exact List.any_eq_true.mpr ⟨q, hq, decide_eq_true (e2.trans hy)⟩
theorem putG_all {Q : α × β → Prop} {m : List (α × β)} {p : α} {a : β} (h : ∀ q ∈ m, Q q) (hp : Q (p, a)) : ∀ q ∈ putG m p a, Q q := by
  intro q hq
  unfold putG at hq
  split at hq
  · obtain ⟨r, hr, rfl⟩ := List.mem_map.mp hq
    split
    · rename_i e
      rw [e]; exact hp
    · exact h r hr
  · rcases List.mem_append.mp hq with hq | hq
    · exact h q hq
    · rw [List.mem_singleton.mp hq]; exact hp
theorem valG_mem {m : List (α × β)} (nd : (m.map (·.1)).Nodup) {q : α × β} (h : q ∈ m) : valG m q.1 = some q.2 := by
  unfold valG
  induction m with
  | nil => cases h
  | cons r m ih =>
    rw [List.map_cons, List.nodup_cons] at nd
    rw [List.find?_cons]
    rcases List.mem_cons.mp h with rfl | h
    · simp
    · have hne : r.1 ≠ q.1 := fun z => nd.1 (by rw [z]; exact List.mem_map.mpr ⟨q, h, rfl⟩)
      rw [decide_eq_false hne]
      exact ih nd.2 h
end
def adrs : List Str := ["u", "v", "u", "w.x", "", "u:1"]
/-- declarations as the law makes them -/
structure WD (m : List (Str × Str)) : Prop where
  nd : (m.map (·.1)).Nodup
  all : ∀ q ∈ m, q.1 ∈ pfxs ∧ q.2 ∈ adrs
section
variable {P : Program} {w : World} {K : PySem.W.Frag} {mg : Str → Option Value} {base : Heap} {Z : Vol} {f : Addr} {fd : FuncData}
/-! ### _law_declarations -/
abbrev preM (L : LC) (b : Nat) (as : List Ar) : Prop := ∃ m : Nat, m ≤ 100 ∧ b % (10000000000000 : Nat) ≤ 999999998000 ∧ as = [.va L.sD, .va (.int (m : Int))]
abbrev postDc (L : LC) (b : Nat) (as : List Ar) (b' : Nat) (r : Res) : Prop := ∃ (m : Nat) (ds : List (Str × Str)), as = [.va L.sD, .va (.int (m : Int))] ∧ WD ds ∧ ds.length ≤ m ∧ r = .va (.tup (ds.map dclD)) ∧ b ≤ b' ∧ b' ≤ b + 1 + 2 * m
abbrev DDc (P : Program) (w : World) (K : PySem.W.Frag) (mg : Str → Option Value) (base : Heap) (L : LC) (p : Option Addr) := Df P w K mg base "_law_declarations" 4 ["state", "most"] (spD (lawVol L p) K 2 (preM L) (postDc L))
abbrev sDc : Stmt := st__law_declarations
theorem kS_inj (x y : Str) (h : kS x = kS y) : x = y := Sum.inr.inj h
theorem ok_dc {L : LC} {p : Option Addr} (F : Fun K "_law_declarations" "_law_declarations" sDc f fd) (T : Cst mg) (kc : KC K) (D1 : DDraw P w K mg base L p) (D2 : DPfx P w K mg base L p) : FnOk P w K mg base CX0 4 f fd ["state", "most"] (spD (lawVol L p) K 2 (preM L) (postDc L)) := by
  have sc : FnScope ["state", "most", "found", "k", "prefix"] ["state", "most"] (defScope sDc) := ⟨rfl, rfl, rfl, by decide +kernel, rfl, by decide +kernel, by decide +kernel⟩
  refine fn_body F sc rfl fun cdv A outer s H E b as hr hl hp => ?_
  obtain ⟨m, hm, hb, rfl⟩ := hp
  have b0 := T.blt (cxOf CX0 P w K mg base ["state", "most", "found", "k", "prefix"] "_law_declarations" (defScope sDc) f cdv A outer s H E).nox rfl
  refine sv_set 2 (ev_dnewK ⟨_, rfl, ?_⟩) sc.nd
  refine sv_for (.nm 3) rfl PassesOwn.never (pg_name (i := 3) sc.nd rfl (Or.inl rfl)) (ei_range b0 (ev_draw D1 (hr.mono (by decide)) (ev_var 0 rfl (ev_add (ev_var 1 rfl (ev_int ⟨_, _, rfl, rfl, m + 1, rfl, rfl, by omega, by omega, by omega, fun n hn => ⟨n, rfl, by omega, ?_⟩⟩))))))
  refine ⟨fun pre b2 δ2 => (b ≤ b2 ∧ b2 ≤ b + 1 + 2 * pre.length) ∧ ∃ ds s3, δ2 = [.va L.sD, .va (.int (m : Int)), .od (.k (ds.map fun q => (kS q.1, D.str q.2))), s3, .un] ∧ WD ds ∧ ds.length ≤ pre.length, ⟨⟨Nat.le_succ _, Nat.le_refl _⟩, [], _, rfl, ⟨List.nodup_nil, fun q hq => (nomatch hq)⟩, Nat.le_refl _⟩, ?_, ?_⟩
  · rintro pre d post b2 δ2 e ⟨⟨hb1, hb2⟩, ds, s3, rfl, wd, hlen⟩
    have hpl : pre.length + 1 ≤ n := by
      have := congrArg List.length e
      rw [List.length_map, List.length_range, List.length_append, List.length_cons] at this
      omega
    refine ⟨_, rfl, ?_⟩
    refine sv_dput kc (hu_of hr) 2 (ev_ix (ev_lst (eva_cons (ev_str (eva_cons (ev_str (eva_cons (ev_str (eva_cons (ev_str (eva_cons (ev_str (eva_cons (ev_str (eva_nil ⟨adrs.map D.str, rfl, by decide, ?_⟩)))))))))))))))
    refine ev_draw D1 (hr.mono (by decide)) (ev_var 0 rfl (ev_int ⟨6, rfl, rfl, by decide, by decide, by omega, fun x hx => ⟨adrs.map D.str, _, _, .inr rfl, rfl, at_texts (xs := adrs) hx, ?_⟩⟩))
    refine ev_call D2 hr (eva_cons (ev_var 0 rfl (eva_nil ⟨rfl, ⟨by omega, rfl⟩, fun b4 r4 _ po => ?_⟩)))
    obtain ⟨y, hy, rfl, rfl⟩ := po
    refine ⟨_, _, rfl, rfl, .inl ⟨_, kS y, rfl, rfl, by rw [List.length_map]; omega, sv_nil ⟨?_, putG ds y adrs[x], .va d, ?_, ⟨putG_keys _ _ _ wd.nd, putG_all wd.all ⟨hy, List.getElem_mem hx⟩⟩, ?_⟩⟩⟩
    · rw [List.length_append, List.length_cons, List.length_nil]; exact ⟨by omega, by omega⟩
    · have := putG_data kS kS_inj D.str ds y adrs[x]
      show [_, _, Sl.od (.k (putD (ds.map fun q => (kS q.1, D.str q.2)) (kS y) (D.str adrs[x]))), _, _] = _
      rw [this]
    · have := putG_len ds y adrs[x]
      rw [List.length_append, List.length_cons, List.length_nil]; omega
  · rintro b2 δ2 ⟨⟨hb1, hb2⟩, ds, s3, rfl, wd, hlen⟩
    rw [List.length_map, List.length_range] at hb2 hlen
    refine sv_frzD 2 rfl ?_
    refine sv_ret (ev_tuple b0 (ev_mapT D.str (fun x y h => by injection h) (.nm 4) [("prefix", 4)] (fun x => dclD (x, (valG ds x).getD "")) rfl sc.nd (blkOk_by (N := ["state", "most", "found", "k", "prefix"]) (sc := defScope sDc) (by decide +kernel)) (fun _ _ _ _ _ => pg_name (i := 4) sc.nd rfl (Or.inl rfl)) (by simp [Pat.slots]) ?_))
    refine eic_keys (ev_var 2 rfl (.inl ⟨ds.map fun q => (kS q.1, D.str q.2), rfl, ds.map (·.1), by rw [List.map_map, List.map_map]; rfl, by rw [List.length_map]; omega, fun x hx => ⟨_, rfl, fun s H Cc cl fp => ?_⟩, (ds.map dclD), ?_, rfl, m, ds, rfl, wd, by omega, rfl, hb1, by omega⟩))
    · obtain ⟨q, hq, rfl⟩ := List.mem_map.mp hx
      refine ev_tup (eva_cons (ev_var 4 rfl (eva_cons (ev_dget kc (hu_of hr) (ev_var 2 rfl (ev_var 4 rfl ⟨_, D.str q.2, rfl, ?_, eva_nil ⟨_, rfl, by simp, rfl, ?_⟩⟩))))))
      · have h1 := valG_data kS kS_inj D.str ds q.1
        rw [valG_mem wd.nd hq] at h1
        rw [show some (D.str q.2) = valD (ds.map fun q => (kS q.1, D.str q.2)) (kS q.1) from h1.symm]
        exact Ask.str
      · rw [valG_mem wd.nd hq]
        rfl
    · show some ((ds.map (·.1)).map fun x => dclD (x, (valG ds x).getD "")) = _
      rw [List.map_map]
      refine congrArg some (List.map_congr_left fun q hq => ?_)
      simp only [Function.comp, valG_mem wd.nd hq]
      rfl
end
end G
set_option Elab.async false
set_option linter.all false
set_option maxRecDepth 100000
set_option maxHeartbeats 4000000
namespace G
open PySem PySem.Spec PyProof.Rows L2 PD
def plns : List Str := ["", "x", "x y", "1"]
def nkey (q : Str × Str) : List Key := [.inr q.1, .inr q.2]
theorem nkey_inj (x y : Str × Str) (h : nkey x = nkey y) : x = y := by
  unfold nkey at h
  injection h with h1 h
  injection h with h2 _
  exact Prod.ext (Sum.inr.inj h1) (Sum.inr.inj h2)
/-- a value as the law makes it -/
def okV : Vl → Prop
  | .s x => x ∈ plns
  | .q p l => p ∈ pfxs ∧ l ∈ lcls
/-- attributes as the law makes them -/
structure WA (as : List ((Str × Str) × Vl)) : Prop where
  nd : (as.map (·.1)).Nodup
  all : ∀ q ∈ as, q.1.1 ∈ pfxs ∧ q.1.2 ∈ lcls ∧ okV q.2
theorem kn_name {q : Str × Str} (h : q.2 ∈ lcls) : Kn (nkey q) := by
  intro z
  unfold nkey at z
  injection z with _ z
  injection z with z _
  have e := Sum.inr.inj z
  rw [e] at h
  revert h
  decide
section
variable {P : Program} {w : World} {K : PySem.W.Frag} {mg : Str → Option Value} {base : Heap} {Z : Vol} {f : Addr} {fd : FuncData}
/-! ### _law_attributes -/
abbrev postAs (L : LC) (b : Nat) (as : List Ar) (b' : Nat) (r : Res) : Prop := ∃ (m : Nat) (ds : List ((Str × Str) × Vl)), as = [.va L.sD, .va (.int (m : Int))] ∧ WA ds ∧ ds.length ≤ m ∧ r = .va (.tup (ds.map atrD)) ∧ b ≤ b' ∧ b' ≤ b + 1 + 5 * m
abbrev DAs (P : Program) (w : World) (K : PySem.W.Frag) (mg : Str → Option Value) (base : Heap) (L : LC) (p : Option Addr) := Df P w K mg base "_law_attributes" 5 ["state", "most"] (spD (lawVol L p) K 2 (preM L) (postAs L))
abbrev sAs : Stmt := st__law_attributes
abbrev asK (as : List ((Str × Str) × Vl)) : List (List Key × D) := as.map fun q => (nkey q.1, q.2.d)
theorem ok_as {L : LC} {p : Option Addr} (F : Fun K "_law_attributes" "_law_attributes" sAs f fd) (T : Cst mg) (kc : KC K) (D1 : DDraw P w K mg base L p) (D2 : DNam P w K mg base L p) : FnOk P w K mg base CX0 5 f fd ["state", "most"] (spD (lawVol L p) K 2 (preM L) (postAs L)) := by
  have sc : FnScope ["state", "most", "found", "k", "quoted", "name"] ["state", "most"] (defScope sAs) := ⟨rfl, rfl, rfl, by decide +kernel, rfl, by decide +kernel, by decide +kernel⟩
  refine fn_body F sc rfl fun cdv A outer s H E b as hr hl hp => ?_
  obtain ⟨m, hm, hb, rfl⟩ := hp
  have b0 := T.blt (cxOf CX0 P w K mg base ["state", "most", "found", "k", "quoted", "name"] "_law_attributes" (defScope sAs) f cdv A outer s H E).nox rfl
  refine sv_set 2 (ev_dnewT ⟨_, rfl, ?_⟩) sc.nd
  refine sv_for (.nm 3) rfl PassesOwn.never (pg_name (i := 3) sc.nd rfl (Or.inl rfl)) (ei_range b0 (ev_draw D1 (hr.mono (by decide)) (ev_var 0 rfl (ev_add (ev_var 1 rfl (ev_int ⟨_, _, rfl, rfl, m + 1, rfl, rfl, by omega, by omega, by omega, fun n hn => ⟨n, rfl, by omega, ?_⟩⟩))))))
  refine ⟨fun pre b2 δ2 => (b ≤ b2 ∧ b2 ≤ b + 1 + 5 * pre.length) ∧ ∃ ds s3 s4, δ2 = [.va L.sD, .va (.int (m : Int)), .od (.t (asK ds)), s3, s4, .un] ∧ WA ds ∧ ds.length ≤ pre.length, ⟨⟨Nat.le_succ _, Nat.le_refl _⟩, [], _, _, rfl, ⟨List.nodup_nil, fun q hq => (nomatch hq)⟩, Nat.le_refl _⟩, ?_, ?_⟩
  · rintro pre d post b2 δ2 e ⟨⟨hb1, hb2⟩, ds, s3, s4, rfl, wd, hlen⟩
    have hpl : pre.length + 1 ≤ n := by
      have := congrArg List.length e
      rw [List.length_map, List.length_range, List.length_append, List.length_cons] at this
      omega
    refine ⟨_, rfl, ?_⟩
    refine sv_set 4 (ev_eq (ev_draw D1 (hr.mono (by decide)) (ev_var 0 rfl (ev_int ⟨3, rfl, rfl, by decide, by decide, by omega, fun z hz => ev_int ⟨_, _, decide ((z : Int) = 0), rfl, rfl, rfl, _, rfl, ?_⟩⟩)))) sc.nd
    -- what is put in
    have fin : ∀ (b3 : Nat) (v : Vl) (y l : Str) (sq : Sl), okV v → y ∈ pfxs → l ∈ lcls → ∀ Fi : PD.Fin, (∀ ds' s3' s4', WA ds' → ds'.length ≤ pre.length + 1 → Fi.N b3 [.va L.sD, .va (.int (m : Int)), .od (.t (asK ds')), s3', s4', .un]) →
        SV (L.C (cxOf CX0 P w K mg base ["state", "most", "found", "k", "quoted", "name"] "_law_attributes" (defScope sAs) f cdv A outer s H E).nox p H) b3 [.va L.sD, .va (.int (m : Int)), .od (.t (putD (asK ds) (nkey (y, l)) v.d)), .va d, sq, .un] [] Fi := fun b3 v y l sq h2 h3 h4 Fi k => by
      have := putG_data nkey nkey_inj Vl.d ds (y, l) v
      unfold asK
      rw [this]
      refine sv_nil (k _ _ _ ⟨putG_keys _ _ _ wd.nd, putG_all (Q := fun q : (Str × Str) × Vl => q.1.1 ∈ pfxs ∧ q.1.2 ∈ lcls ∧ okV q.2) wd.all ⟨h3, h4, h2⟩⟩ ?_)
      have := putG_len ds (y, l) v
      omega
    have nxt : ∀ (b3 : Nat), b2 ≤ b3 → b3 ≤ b2 + 5 → ∀ ds' s3' s4', WA ds' → ds'.length ≤ pre.length + 1 → (b ≤ b3 ∧ b3 ≤ b + 1 + 5 * (pre ++ [d]).length) ∧ ∃ ds s3 s4, [.va L.sD, .va (.int (m : Int)), .od (.t (asK ds')), s3', s4', .un] = [Sl.va L.sD, .va (.int (m : Int)), .od (.t (asK ds)), s3, s4, .un] ∧ WA ds ∧ ds.length ≤ (pre ++ [d]).length := fun b3 h0 h ds' s3' s4' wa hl => by
      rw [List.length_append, List.length_cons, List.length_nil]
      exact ⟨⟨by omega, by omega⟩, ds', s3', s4', rfl, wa, hl⟩
    have hkl : (asK ds).length < 16000000 := by unfold asK; rw [List.length_map]; omega
    refine sv_dput kc (hu_of hr) 2 (ev_if (et_val (ev_var 4 rfl ⟨_, rfl, ?_⟩)))
    generalize decide ((z : Int) = 0) = quoted
    cases quoted with
    | true =>
      refine ev_call D2 hr (eva_cons (ev_var 0 rfl (eva_nil ⟨rfl, ⟨by omega, rfl⟩, fun b4 r4 _ po => ?_⟩)))
      obtain ⟨x, hx, y, hy, rfl, rfl⟩ := po
      refine ev_call D2 hr (eva_cons (ev_var 0 rfl (eva_nil ⟨rfl, ⟨by omega, rfl⟩, fun b5 r5 _ po => ?_⟩)))
      obtain ⟨x', hx', y', hy', rfl, rfl⟩ := po
      exact ⟨_, _, rfl, rfl, .inr ⟨asK ds, nkey (x', y'), rfl, kn_name hy', rfl, hkl, fin _ (.q x y) x' y' _ ⟨hx, hy⟩ hx' hy' _ (nxt _ (by omega) (by omega))⟩⟩
    | false =>
      refine ev_ix (ev_lst (eva_cons (ev_str (eva_cons (ev_str (eva_cons (ev_str (eva_cons (ev_str (eva_nil ⟨plns.map D.str, rfl, by decide, ?_⟩))))))))))
      refine ev_draw D1 (hr.mono (by decide)) (ev_var 0 rfl (ev_int ⟨4, rfl, rfl, by decide, by decide, by omega, fun x hx => ⟨plns.map D.str, _, _, .inr rfl, rfl, at_texts (xs := plns) hx, ?_⟩⟩))
      refine ev_call D2 hr (eva_cons (ev_var 0 rfl (eva_nil ⟨rfl, ⟨by omega, rfl⟩, fun b5 r5 _ po => ?_⟩)))
      obtain ⟨x', hx', y', hy', rfl, rfl⟩ := po
      exact ⟨_, _, rfl, rfl, .inr ⟨asK ds, nkey (x', y'), rfl, kn_name hy', rfl, hkl, fin _ (.s plns[x]) x' y' _ (List.getElem_mem hx) hx' hy' _ (nxt _ (by omega) (by omega))⟩⟩
  · rintro b2 δ2 ⟨⟨hb1, hb2⟩, ds, s3, s4, rfl, wd, hlen⟩
    rw [List.length_map, List.length_range] at hb2 hlen
    refine sv_frzD 2 rfl ?_
    refine sv_ret (ev_tuple b0 (ev_mapT (fun q : Str × Str => nmD q.1 q.2) (fun x y h => Prod.ext (nmD_inj h).1 (nmD_inj h).2) (.nm 5) [("name", 5)] (fun x => atrD (x, (valG ds x).getD (.s ""))) rfl sc.nd (blkOk_by (N := ["state", "most", "found", "k", "quoted", "name"]) (sc := defScope sAs) (by decide +kernel)) (fun _ _ _ _ _ => pg_name (i := 5) sc.nd rfl (Or.inl rfl)) (by simp [Pat.slots]) ?_))
    refine eic_keys (ev_var 2 rfl (.inr ⟨asK ds, rfl, ds.map (·.1), by unfold asK; rw [List.map_map, List.map_map]; rfl, by rw [List.length_map]; omega, fun x hx => ⟨_, rfl, fun s H Cc cl fp => ?_⟩, (ds.map atrD), ?_, rfl, m, ds, rfl, wd, by omega, rfl, hb1, by omega⟩))
    · obtain ⟨q, hq, rfl⟩ := List.mem_map.mp hx
      refine ev_tup (eva_cons (ev_var 5 rfl (eva_cons (ev_dget kc (hu_of hr) (ev_var 2 rfl (ev_var 5 rfl ⟨_, q.2.d, rfl, ?_, eva_nil ⟨_, rfl, by simp, rfl, ?_⟩⟩))))))
      · have h1 := valG_data nkey nkey_inj Vl.d ds q.1
        rw [valG_mem wd.nd hq] at h1
        rw [show some (Vl.d q.2) = valD (asK ds) (nkey q.1) from h1.symm]
        exact Ask.dt (kn_name (wd.all q hq).2.1)
      · rw [valG_mem wd.nd hq]
        rfl
    · show some ((ds.map (·.1)).map fun x => atrD (x, (valG ds x).getD (.s ""))) = _
      rw [List.map_map]
      refine congrArg some (List.map_congr_left fun q hq => ?_)
      simp only [Function.comp, valG_mem wd.nd hq]
      rfl
end
end G
set_option Elab.async false
set_option linter.all false
set_option maxRecDepth 100000
set_option maxHeartbeats 4000000
namespace G
open PySem PD L2
/-! ### elements as the law makes them -/
def txts : List Str := ["t", "some text", "-"]
def Nd.isT : Nd → Bool
  | .s _ => true
  | _ => false
/-- no two texts side by side -/
def noAdj : List Nd → Bool
  | a :: c :: cs => !(a.isT && c.isT) && noAdj (c :: cs)
  | _ => true
mutual
/-- its holes -/
def hls : Nd → Nat
  | .s _ => 0
  | .h _ => 1
  | .el _ _ _ _ cs => hlss cs
def hlss : List Nd → Nat
  | [] => 0
  | c :: cs => hls c + hlss cs
end
theorem noAdj_snoc : ∀ (cs : List Nd) (c : Nd), noAdj cs = true → ((∃ a, cs.getLast? = some a ∧ a.isT = true) → c.isT = false) → noAdj (cs ++ [c]) = true
  | [], _, _, _ => rfl
  | [a], c, _, h => by
    show (!(a.isT && c.isT) && noAdj [c]) = true
    cases ha : a.isT with
    | false => rfl
    | true => rw [h ⟨a, rfl, ha⟩]; rfl
  | a :: d :: cs, c, h0, h => by
    have h0' := Bool.and_eq_true_iff.mp (show (!(a.isT && d.isT) && noAdj (d :: cs)) = true from h0)
    show (!(a.isT && d.isT) && noAdj (d :: cs ++ [c])) = true
    rw [h0'.1, noAdj_snoc (d :: cs) c h0'.2 (fun ⟨x, hx, z⟩ => h ⟨x, by rw [List.getLast?_cons_cons]; exact hx, z⟩)]
    rfl
/-- parts may be compared -/
theorem cm_nm {p l : Str} (h1 : okS p = true) (h2 : okS l = true) : Cm 1 (nmD p l) := cm2 (cm_str h1) (cm_str h2)
mutual
theorem cm_nd : ∀ (x : Nd), x.ok = true → Cm (2 * x.dep + 6) x.d
  | .s x, h => by rw [Nd.ok] at h; rw [Nd.d]; exact (cm_str h).mono (by omega)
  | .h x, h => by rw [Nd.ok] at h; rw [Nd.d]; exact (cm2 (cm_str okS_hole) (cm_str h)).mono (by omega)
  | .el p l ds as cs, h => by
    have ho := ok_el.mp h
    rw [Nd.d, Nd.dep, show 2 * (ndsDep cs + 1) + 6 = (2 * ndsDep cs + 7) + 1 by omega]
    refine cm_tup fun d hd => ?_
    simp only [List.mem_cons, List.not_mem_nil, or_false] at hd
    rcases hd with rfl | rfl | rfl | rfl | rfl
    · exact (cm_str okS_el).mono (by omega)
    · exact (cm_nm ho.p ho.l).mono (by omega)
    · refine (cm_tup (n := 1) fun d hd => ?_).mono (by omega)
      obtain ⟨q, hq, rfl⟩ := List.mem_map.mp hd
      exact cm2 (cm_str (ho.hd q hq).1) (cm_str (ho.hd q hq).2)
    · refine (cm_tup (n := 3) fun d hd => ?_).mono (by omega)
      obtain ⟨q, hq, rfl⟩ := List.mem_map.mp hd
      obtain ⟨h1, h2, h3⟩ := ho.ha q hq
      refine cm2 ((cm_nm h1 h2).mono (by decide)) ?_
      obtain ⟨n, v⟩ := q
      cases v with
      | s x => exact (cm_str h3).mono (by decide)
      | q p' l' => exact (cm_nm (Bool.and_eq_true_iff.mp h3).1 (Bool.and_eq_true_iff.mp h3).2).mono (by decide)
    · exact (cm_tup (cm_nds cs ho.hc)).mono (by omega)
theorem cm_nds : ∀ (cs : List Nd), (∀ c ∈ cs, c.ok = true) → ∀ d ∈ ndsD cs, Cm (2 * ndsDep cs + 6) d
  | [], _, d, hd => by rw [ndsD] at hd; cases hd
  | c :: cs, h, d, hd => by
    rw [ndsD] at hd
    rw [ndsDep]
    rcases List.mem_cons.mp hd with rfl | hd
    · have := Nat.le_max_left c.dep (ndsDep cs)
      exact (cm_nd c (h c List.mem_cons_self)).mono (by omega)
    · have := Nat.le_max_right c.dep (ndsDep cs)
      exact (cm_nds cs (fun e he => h e (List.mem_cons_of_mem _ he)) d hd).mono (by omega)
end
end G
set_option Elab.async false
set_option linter.all false
set_option maxRecDepth 100000
set_option maxHeartbeats 4000000
namespace PD
open PySem PySem.Spec PyProof.Rows L2
/-! ### the list of spare strings -/
section
variable {X : Cx} {L : LC} {p : Addr} {H0 : Hp} {b : Nat} {δ : List Sl} {P : Nat → Res → Prop} {Pt : Nat → Bool → Prop} {F : Fin} {o i e e1 e2 e3 e4 value : Expr} {pos pos' p0 p1 p2 : Pos} {rest : List Stmt} {es : List Expr}
def spD' (p : Addr) : D := .obj .list p
theorem dp_strs {K : PySem.W.Frag} {H : Hp} : ∀ xs : List Str, DpAll K H (xs.map V.str) (xs.map PyData.str)
  | [] => .nil
  | x :: xs => .cons (.str x) (dp_strs xs)
/-- spare != [] -/
theorem et_zSpare (hu : X.A.units + 64 < cLine) (h : EV (L.C X (some p) H0) b δ e1 (fun b1 r1 => EV (L.C X (some p) H0) b1 δ e2 fun b2 r2 => r1 = .va (spD' p) ∧ r2 = .ow [] ∧ Pt b2 (decide (b2 / (10000000000000 : Nat) ≠ 0)))) : ET (L.C X (some p) H0) b δ (.Compare e1 [.NotEq] [e2] pos) Pt := by
  intro os σ H st Q k
  refine WT.of (pt_cmpR (op_neD hu) peW peW (nomark _)) ?_
  refine h os σ H st _ fun v1 H1 b1 r1 f1 j1 rv1 h2 => ?_
  refine h2 os σ H1 (st.on f1 j1) _ fun v2 H2 b2 r2 f2 j2 rv2 h3 => ?_
  obtain ⟨rfl, rfl, q⟩ := h3
  cases rv1 with | va rv1 => ?_
  obtain rfl := rp_obj rv1
  have j3 := j2
  obtain ⟨lefts, s8⟩ := j2
  obtain ⟨xs, e, hl, hh⟩ := s8.sp
  cases rv2 with
  | @ow p2 ys _ n2 e2' ns2 ra =>
    cases ra
    have d1 : Dp X.K H2 (.ref p) (.list (xs.map PyData.str)) := .lst (.inl (.inl e)) (dp_strs xs)
    have d2 : Dp X.K H2 (.ref p2) (.list []) := .lst (.inl (.inl e2')) .nil
    have ok : ∀ x ∈ xs, PyData.strOk x = true := fun x hx => by rw [hh x hx]; decide +kernel
    have c1 : PyData.canLayAll0 (xs.map PyData.str) = true ∧ PyData.depthAll (xs.map PyData.str) = 0 := by
      clear e hl s8 d1
      induction xs with
      | nil => exact ⟨rfl, rfl⟩
      | cons x xs ih =>
        have := ih (fun y hy => hh y (List.mem_cons_of_mem _ hy)) fun y hy => ok y (List.mem_cons_of_mem _ hy)
        rw [List.map_cons]
        simp [PyData.canLayAll0, PyData.canLay0, PyData.depthAll, PyData.depth, ok x List.mem_cons_self, this.1, this.2]
    refine ⟨_, _, d1, d2, ?_, by decide, ?_⟩
    · simp [SeqAt.shaped, PyData.canLay0, PyData.depth, c1.1, c1.2]
    · have eb : (!PyData.eqv (.list (xs.map PyData.str)) (.list [])) = decide (b2 / (10000000000000 : Nat) ≠ 0) := by
        cases xs with
        | nil =>
          rw [← hl]
          rfl
        | cons x xs =>
          rw [← hl]
          simp [PyData.eqv, PyData.eqvAll]
      rw [eb]
      exact ⟨_, rfl, k _ H2 b2 (f1.trans f2) j3 q⟩
end
/-! ### a def that is handed a new list to take from -/
structure DfA (P : Program) (w : World) (K : PySem.W.Frag) (mg : Str → Option Value) (base : Heap) (x : Str) (k : Nat) (ps : List Str) (ok : Addr → Prop) (sp : Addr → Sp) : Prop where
  at_ : ∃ f fd, (∀ p, ok p → FnOk P w K mg base CX0 k f fd ps (sp p)) ∧ mg x = some (.ref f) ∧ PySem.W.keepIn K (.ref f) = true ∧ Binds K fd ps []
/-- what any of several promises says -/
theorem fnOk_any {P : Program} {w : World} {K : PySem.W.Frag} {mg : Str → Option Value} {base : Heap} {k : Nat} {f : Addr} {fd : FuncData} {ps : List Str} {ok : Addr → Prop} {sp : Addr → Sp} (F : ∀ p, ok p → FnOk P w K mg base CX0 k f fd ps (sp p)) :
    FnOk P w K mg base CX0 k f fd ps (fun vs H Q E => ∃ p, ok p ∧ sp p vs H Q E) :=
  ⟨fun vs H Q E ⟨p, hp, h⟩ => (F p hp).len vs H Q E h, fun A outer s H args us vs Q E hr e0 hb r ⟨p, hp, h⟩ => (F p hp).run A outer s H args us vs Q E hr e0 hb r h⟩
end PD
set_option Elab.async false
set_option linter.all false
set_option maxRecDepth 100000
set_option maxHeartbeats 4000000
namespace G
open PySem PySem.Spec PyProof.Rows L2 PD
theorem et_imp {C : Cn} {b : Nat} {δ : List Sl} {e : Expr} {Pt Pt' : Nat → Bool → Prop} (h : ET C b δ e Pt) (i : ∀ b' k, Pt b' k → Pt' b' k) : ET C b δ e Pt' := fun os σ H st Q q => h os σ H st Q fun kk H' b' f j z => q kk H' b' f j (i b' kk z)
theorem lst_sh {ds : List D} (h : ∀ d ∈ ds, Cm 40 d) : (D.lst ds).sh = true := by
  obtain ⟨h1, h2, h3, h4⟩ := cms h
  unfold D.sh SeqAt.shaped
  have hd : (PyData.list (pds ds)).depth ≤ 64 := by simp only [PyData.depth]; omega
  have hl : (PyData.list (pds ds)).canLay0 = true := by simp only [PyData.canLay0]; exact h2
  rw [D.pl, D.pd, h1, hl, decide_eq_true hd]
  rfl
theorem eqv_nil (ds : List D) : (D.lst ds).eqv (.lst []) = ds.isEmpty := by
  unfold D.eqv
  rw [D.pd, D.pd, pds]
  cases ds with
  | nil => rfl
  | cons d ds => rw [pds]; rfl
theorem atI_last (ds : List D) (d : D) : atI (ds ++ [d]) (-1) = some d := by
  unfold atI ixN
  rw [if_neg (by decide)]
  simp only [List.length_append, List.length_cons, List.length_nil]
  rw [if_pos (by omega), show ((-1 : Int) + ((ds.length + (0 + 1) : Nat) : Int)).toNat = ds.length by omega]
  simp
theorem isS_d (x : Nd) : x.d.isS = x.isT := by
  cases x <;> (rw [Nd.d]; rfl)
section
variable {P : Program} {w : World} {K : PySem.W.Frag} {mg : Str → Option Value} {base : Heap} {Z : Vol} {f : Addr} {fd : FuncData}
/-! ### _law_element -/
abbrev sEl : Stmt := st__law_element
end
end G
set_option Elab.async false
set_option linter.all false
set_option maxRecDepth 100000
set_option maxHeartbeats 4000000
namespace G
open PySem PySem.Spec PyProof.Rows L2 PD
/-- a part with another element at a path -/
def chg : List Nat → Nd → Nd → Nd
  | [], _, y => y
  | i :: r, .el p l ds as cs, y => match cs[i]? with
    | some c => .el p l ds as (cs.set i (chg r c y))
    | none => .el p l ds as cs
  | _ :: _, x, _ => x
/-- a path in a part -/
def okPath : List Nat → Nd → Prop
  | [], _ => True
  | i :: r, .el _ _ _ _ cs => ∃ c, cs[i]? = some c ∧ okPath r c
  | _ :: _, _ => False
theorem cm_int (i : Int) : Cm 0 (.int i) := ⟨by rw [D.pl], by rw [D.pd]; simp [PyData.canLay0], by rw [D.pd]; simp [PyData.depth], by rw [D.nb]⟩
end G
set_option Elab.async false
set_option linter.all false
set_option maxRecDepth 100000
set_option maxHeartbeats 4000000
namespace G
open PySem PySem.Spec PyProof.Rows L2 PD
/-! ### the elements with their paths -/
def enumN : Nat → List Nd → List (Nat × Nd)
  | _, [] => []
  | k, c :: cs => (k, c) :: enumN (k + 1) cs
/-- the elements among children -/
def kidsE (p : List Nat) (k : Nat) (cs : List Nd) : List (List Nat × Nd) := ((enumN k cs).filter fun q => q.2.isEl).map fun q => (p ++ [q.1], q.2)
mutual
def ew (p : List Nat) : Nd → List (List Nat × Nd)
  | .el q l ds as cs => (p, .el q l ds as cs) :: ews p 0 cs
  | .s _ => []
  | .h _ => []
def ews (p : List Nat) (k : Nat) : List Nd → List (List Nat × Nd)
  | [] => []
  | c :: cs => ew (p ++ [k]) c ++ ews p (k + 1) cs
end
theorem ews_kids : ∀ (cs : List Nd) (p : List Nat) (k : Nat), ews p k cs = (kidsE p k cs).flatMap fun q => ew q.1 q.2
  | [], p, k => by rw [ews]; rfl
  | c :: cs, p, k => by
    rw [ews, ews_kids cs p (k + 1)]
    unfold kidsE
    rw [enumN, List.filter_cons]
    cases hc : c.isEl with
    | true => simp only [if_true, List.map_cons, List.flatMap_cons]
    | false =>
      simp only [Bool.false_eq_true, if_false]
      cases c with
      | el _ _ _ _ _ => cases hc
      | s _ => rw [ew]; rfl
      | h _ => rw [ew]; rfl
mutual
theorem ew_wk : ∀ (x : Nd) (p : List Nat) (m : Bd), (wk p m x).map prj = ew p x
  | .el q l ds as cs, p, m => by rw [wk, ew, List.map_cons, ews_wks cs p 0 (bnd ds m)]; rfl
  | .s _, _, _ => by rw [wk, ew]; rfl
  | .h _, _, _ => by rw [wk, ew]; rfl
theorem ews_wks : ∀ (cs : List Nd) (p : List Nat) (k : Nat) (m : Bd), (wks p k m cs).map prj = ews p k cs
  | [], p, k, m => by rw [wks, ews]; rfl
  | c :: cs, p, k, m => by rw [wks, ews, List.map_append, ew_wk c (p ++ [k]) m, ews_wks cs p (k + 1) m]
end
def ewAll (st : List (List Nat × Nd)) : List (List Nat × Nd) := st.flatMap fun q => ew q.1 q.2
theorem ewAll_cons (p : List Nat) (q l : Str) (ds : List (Str × Str)) (as : List ((Str × Str) × Vl)) (cs : List Nd) (st : List (List Nat × Nd)) : ewAll ((p, .el q l ds as cs) :: st) = (p, .el q l ds as cs) :: ewAll (kidsE p 0 cs ++ st) := by
  unfold ewAll
  rw [List.flatMap_cons, ew, ews_kids, List.flatMap_append]
  rfl
theorem enumN_d : ∀ (cs : List Nd) (k : Nat), enumD k (ndsD cs) = (enumN k cs).map fun q => D.tup [.int (q.1 : Int), q.2.d]
  | [], k => by rw [ndsD]; rfl
  | c :: cs, k => by rw [ndsD, enumD, enumN, enumN_d cs (k + 1)]; rfl
theorem enumN_mem : ∀ {cs : List Nd} {k : Nat} {q : Nat × Nd}, q ∈ enumN k cs → q.2 ∈ cs
  | c :: cs, k, q, h => by
    rcases List.mem_cons.mp h with rfl | h
    · exact List.mem_cons_self
    · exact List.mem_cons_of_mem _ (enumN_mem h)
theorem enumN_len : ∀ (cs : List Nd) (k : Nat), (enumN k cs).length = cs.length
  | [], _ => rfl
  | c :: cs, k => by rw [enumN, List.length_cons, List.length_cons, enumN_len cs]
theorem kidsE_mem {p : List Nat} {k : Nat} {cs : List Nd} {q : List Nat × Nd} (h : q ∈ kidsE p k cs) : q.2 ∈ cs ∧ q.2.isEl = true := by
  obtain ⟨r, hr, rfl⟩ := List.mem_map.mp h
  obtain ⟨h1, h2⟩ := List.mem_filter.mp hr
  exact ⟨enumN_mem h1, h2⟩
theorem isT_d (x : Nd) : x.d.isT = !x.isT := by
  cases x <;> (rw [Nd.d]; rfl)
theorem ewAll_len (st : List (List Nat × Nd)) (h : ∀ q ∈ st, q.2.isEl = true) : st.length ≤ (ewAll st).length := by
  induction st with
  | nil => exact Nat.le_refl _
  | cons q st ih =>
    obtain ⟨p, x⟩ := q
    obtain ⟨a, l, ds, as, cs, rfl⟩ := el_of (h _ List.mem_cons_self)
    have ih := ih fun r hr => h r (List.mem_cons_of_mem _ hr)
    unfold ewAll at ih ⊢
    rw [List.flatMap_cons, ew, List.length_append, List.length_cons, List.length_cons]
    omega
end G
set_option Elab.async false
set_option linter.all false
set_option maxRecDepth 100000
set_option maxHeartbeats 4000000
namespace G
open PySem PySem.Spec PyProof.Rows L2 PD
/-- one that may be walked -/
structure Wlk (x : Nd) : Prop where
  el : x.isEl = true
  ok : x.ok = true
  dep : x.dep ≤ 8
  len : (ew [] x).length ≤ 1000
def stE (st : List (List Nat × Nd)) : List D := st.reverse.map peD
theorem peD_cm {q : List Nat × Nd} (h : q.2.ok = true) (hd : q.2.dep ≤ 8) : Cm 40 (peD q) := by
  refine (cm2 (n := 22) ((cm_tup (n := 0) fun d hd => ?_).mono (by decide)) ((cm_nd q.2 h).mono (by omega))).mono (by decide)
  obtain ⟨i, _, rfl⟩ := List.mem_map.mp hd
  exact cm_int _
section
variable {P : Program} {w : World} {K : PySem.W.Frag} {mg : Str → Option Value} {base : Heap} {Z : Vol} {f : Addr} {fd : FuncData}
/-! ### _law_elements -/
noncomputable def gElems : List D → Option Res := gT (fun x : Nd => [x.d]) Wlk fun x => .ow ((ew [] x).map peD)
theorem gElems_of {x : Nd} (h : Wlk x) : gElems [x.d] = some (.ow ((ew [] x).map peD)) := gT_of (enc := fun x : Nd => [x.d]) one_inj h
abbrev sElems : Stmt := st__law_elements
abbrev nmE : List Str := ["part", "found", "left", "path", "one", "inside", "k", "child", "pair"]
theorem ok_elems (F : Fun K "_law_elements" "_law_elements" sElems f fd) (T : Cst mg) : FnOk P w K mg base CX0 1 f fd ["part"] (spP Z K 1 gElems) := by
  have sc : FnScope nmE ["part"] (defScope sElems) := ⟨rfl, rfl, rfl, by decide +kernel, rfl, by decide +kernel, by decide +kernel⟩
  refine fn_pure F sc rfl (gT_out fun x hx => rfl) fun cdv A outer s H E b ds r hr hl hg => ?_
  obtain ⟨x, rfl, hx, rfl⟩ := gT_one hg
  have b0 := T.blt (cxOf CX0 P w K mg base nmE "_law_elements" (defScope sElems) f cdv A outer s H E).nox rfl
  refine sv_set2W 1 2 rfl sc.nd (by decide) (eva_cons (ev_lst (eva_nil ⟨[], rfl, by decide, ?_⟩)))
  refine eva_cons (ev_lst (eva_cons (ev_tup (eva_cons (ev_tup (eva_nil ⟨[], rfl, by decide, ?_⟩))))))
  refine eva_cons (ev_var 0 rfl (eva_nil ⟨[.tup [], x.d], rfl, by simp, ?_⟩))
  refine eva_nil ⟨[peD ([], x)], rfl, by simp, ?_⟩
  refine eva_nil ⟨_, _, rfl, by simp, ?_⟩
  refine sv_while (fun b' δ' => b' = b ∧ ∃ done st s3 s4 s5, δ' = [.va x.d, .ow (done.map peD), .ow (stE st), s3, s4, s5, .un, .un, .un] ∧ ew [] x = done ++ ewAll st ∧ ∀ q ∈ st, q.2.isEl = true ∧ q.2.ok = true ∧ q.1.length + q.2.dep ≤ 8)
    (fun δ' => match δ' with | [_, .ow fs, _, _, _, _, _, _, _] => (ew [] x).length - fs.length | _ => 0) PassesOwn.never ⟨rfl, [], [([], x)], _, _, _, rfl, by simp [ewAll], fun q hq => by rw [List.mem_singleton.mp hq]; exact ⟨hx.el, hx.ok, by have := hx.dep; simpa using this⟩⟩ ?_
  rintro b2 δ2 ⟨rfl, done, st, s3, s4, s5, rfl, hp, hst⟩
  have cmS : ∀ d ∈ stE st, Cm 40 d := fun d hd => by
    obtain ⟨q, hq, rfl⟩ := List.mem_map.mp hd
    obtain ⟨_, h2, h3⟩ := hst q (List.mem_reverse.mp hq)
    exact peD_cm h2 (by omega)
  refine et_neD hr.units (ev_varO 2 rfl (ev_lst (eva_nil ⟨[], rfl, by decide, .lst (stE st), .lst [], rfl, rfl, lst_sh cmS, lst_sh (fun d hd => nomatch hd), ?_⟩)))
  rw [eqv_nil]
  cases st with
  | nil =>
    have e0 : ewAll [] = [] := rfl
    rw [e0, List.append_nil] at hp
    exact sv_retO 1 rfl ⟨rfl, rfl, by rw [hp]⟩
  | cons q st =>
    obtain ⟨p, y⟩ := q
    obtain ⟨hel, hok, hdp⟩ := hst _ List.mem_cons_self
    obtain ⟨a, l, de, as, cs, rfl⟩ := el_of hel
    have ho := ok_el.mp hok
    rw [ewAll_cons] at hp
    have hlen := hx.len
    rw [hp, List.length_append, List.length_cons] at hlen
    have kel : ∀ q ∈ kidsE p 0 cs ++ st, q.2.isEl = true ∧ q.2.ok = true ∧ q.1.length + q.2.dep ≤ 8 := fun q hq => by
      rcases List.mem_append.mp hq with hq | hq
      · obtain ⟨h1, h2⟩ := kidsE_mem hq
        refine ⟨h2, ho.hc _ h1, ?_⟩
        obtain ⟨r, hr', rfl⟩ := List.mem_map.mp hq
        have := dep_mem (show r.2 ∈ cs from h1)
        rw [Nd.dep] at hdp
        rw [List.length_append, List.length_cons, List.length_nil]
        simp only at hdp ⊢
        omega
      · exact hst q (List.mem_cons_of_mem _ hq)
    have hl2 := ewAll_len (kidsE p 0 cs ++ st) fun q hq => (kel q hq).1
    have ecs : stE ((p, .el a l de as cs) :: st) = stE st ++ [peD (p, .el a l de as cs)] := by simp [stE]
    have ne : (!(stE ((p, Nd.el a l de as cs) :: st)).isEmpty) = true := by rw [ecs]; simp
    rw [ne]
    refine sv_popU (.tp [.nm 3, .nm 4]) 2 (ds := stE st) (d := peD (p, .el a l de as cs)) (pg_tup rfl (pgs_cons (pg_name (i := 3) sc.nd rfl (Or.inr rfl)) (pgs_cons (pg_name (i := 4) sc.nd rfl (Or.inl rfl)) pgs_nil))) (by rw [ecs]; rfl) rfl ?_ rfl
    have hd4 : (Nd.el a l de as cs).d = .tup [.str "element", nmD a l, .tup (de.map dclD), .tup (as.map atrD), .tup (ndsD cs)] := by rw [Nd.d]
    refine sv_append 1 rfl (ev_tup (eva_cons (ev_var 3 rfl (eva_cons (ev_var 4 rfl (eva_nil ⟨[.tup (pthD p), (Nd.el a l de as cs).d], rfl, by simp, _, done.map peD, rfl, rfl, ?_, ?_⟩))))))
    · rw [List.length_map]; omega
    refine sv_setLc 5 (.tp [.nm 6, .nm 7]) [("k", 6), ("child", 7)] rfl sc.nd (blkOk_by (N := nmE) (sc := defScope sElems) (by decide +kernel)) (fun _ _ _ _ _ => pg_tup rfl (pgs_cons (pg_name (i := 6) sc.nd rfl (Or.inl rfl)) (pgs_cons (pg_name (i := 7) sc.nd rfl (Or.inl rfl)) pgs_nil))) (by simp [Pat.slots, slotsAll])
      (lc_filtT (fun q : Nat × Nd => D.tup [.int (q.1 : Int), q.2.d]) (.tp [.nm 6, .nm 7]) [("k", 6), ("child", 7)] (fun q => !q.2.isT) (fun q => peD (p ++ [q.1], q.2)) (EI.c (ei_enum b0 (ev_ix (ev_var 4 rfl (ev_int ⟨[.str "element", nmD a l, .tup (de.map dclD), .tup (as.map atrD), .tup (ndsD cs)], _, _, .inl ?_, rfl, atN (j := 4) rfl, ndsD cs, rfl, enumN 0 cs, enumN_d cs 0, ?_, fun q hq => ⟨_, rfl, fun s H Cc cl fp => ?_, fun _ s H Cc cl fp => ?_⟩, _, rfl, ?_⟩))))))
    · show Res.va (Nd.el a l de as cs).d = _
      rw [hd4]
    · rw [enumN_len]; exact Nat.le_trans ho.nc (by decide)
    · refine et_val (ev_isi (t := "tuple") (T.blt _ rfl) (T.blt _ rfl).tuple (by decide +kernel) (ev_var 7 rfl ⟨_, isi_t _, _, rfl, rfl, ?_⟩))
      rw [isT_d]
    · refine ev_tup (eva_cons (ev_cat (ev_var 3 rfl (ev_tup (eva_cons (ev_var 6 rfl (eva_nil ⟨[.int (q.1 : Int)], rfl, by simp, pthD p, _, rfl, rfl, ?_, ?_⟩)))))))
      · unfold pthD
        rw [List.length_map, List.length_cons, List.length_nil]
        simp only at hdp
        omega
      · refine eva_cons (ev_var 7 rfl (eva_nil ⟨_, rfl, by simp, rfl, ?_⟩))
        rw [← pthD_snoc]
        rfl
    refine sv_set 2 (ev_catL (ev_varO 2 rfl (ev_filtT peD peD_inj (.nm 8) [("pair", 8)] (fun q => q.2.isEl) peD rfl sc.nd (blkOk_by (N := nmE) (sc := defScope sElems) (by decide +kernel)) (fun _ _ _ _ _ => pg_name (i := 8) sc.nd rfl (Or.inl rfl)) (by simp [Pat.slots]) ?_))) sc.nd
    have exs : ((((enumN 0 cs).filter fun q => !q.2.isT).map fun q => peD (p ++ [q.1], q.2)).reverse) = ((((enumN 0 cs).filter fun q => !q.2.isT).map fun q => (p ++ [q.1], q.2)).reverse).map peD := by
      rw [List.map_reverse, List.map_map]
      rfl
    have efl : ((((enumN 0 cs).filter fun q => !q.2.isT).map fun q => (p ++ [q.1], q.2)).reverse.filter fun q : List Nat × Nd => q.2.isEl) = (kidsE p 0 cs).reverse := by
      rw [List.filter_reverse, List.filter_map, List.filter_filter]
      unfold kidsE
      congr 3
      funext q
      obtain ⟨k, c⟩ := q
      cases c <;> rfl
    refine eic_list (ev_revL (ev_varO 5 rfl ⟨_, rfl, _, rfl, _, exs, ?_, fun q hq => ⟨_, rfl, fun s H Cc cl fp => ?_, fun _ s H Cc cl fp => ev_var 8 rfl ⟨rfl, rfl⟩⟩, _, _, rfl, rfl, ?_, _, rfl, ?_⟩))
    · rw [List.length_reverse, List.length_map]
      have := List.length_filter_le (fun q : Nat × Nd => !q.2.isT) (enumN 0 cs)
      rw [enumN_len] at this
      have := ho.nc
      omega
    · have hq := List.mem_reverse.mp hq
      obtain ⟨r, hr', rfl⟩ := List.mem_map.mp hq
      obtain ⟨_, ht⟩ := List.mem_filter.mp hr'
      obtain ⟨k, c⟩ := r
      cases c with
      | s x => cases ht
      | h x =>
        refine et_eq (ev_ix (ev_ix (ev_var 8 rfl (ev_int ⟨[.tup (pthD (p ++ [k])), .tup [.str "hole", .str x]], _, _, .inl (by show Res.va (peD (p ++ [k], Nd.h x)) = _; unfold peD; rw [Nd.d]), rfl, at1, ev_int ⟨_, _, _, .inl rfl, rfl, at0, ev_str ⟨_, _, _, rfl, rfl, str_sc _ _, rfl, ?_⟩⟩⟩))))
        show decide (("hole" : Str) = "element") = false
        decide +kernel
      | el a' l' de' as' cs' =>
        refine et_eq (ev_ix (ev_ix (ev_var 8 rfl (ev_int ⟨[.tup (pthD (p ++ [k])), .tup [.str "element", nmD a' l', .tup (de'.map dclD), .tup (as'.map atrD), .tup (ndsD cs')]], _, _, .inl (by show Res.va (peD (p ++ [k], Nd.el a' l' de' as' cs')) = _; unfold peD; rw [Nd.d]), rfl, at1, ev_int ⟨_, _, _, .inl rfl, rfl, at0, ev_str ⟨_, _, _, rfl, rfl, str_sc _ _, rfl, ?_⟩⟩⟩))))
        show decide (("element" : Str) = "element") = true
        decide +kernel
    · rw [efl, List.length_map, List.length_reverse]
      unfold stE
      rw [List.length_map, List.length_reverse]
      rw [List.length_append] at hl2
      omega
    · rw [efl]
      refine sv_nil ⟨⟨rfl, done ++ [(p, .el a l de as cs)], kidsE p 0 cs ++ st, .va (.tup (pthD p)), .va (Nd.el a l de as cs).d, .ow (((enumN 0 cs).filter fun q => !q.2.isT).map fun q => peD (p ++ [q.1], q.2)), ?_, by rw [hp, List.append_assoc]; rfl, kel⟩, ?_⟩
      · unfold stE
        rw [List.reverse_append, List.map_append, List.map_append]
        rfl
      · show (ew [] x).length - (done.map peD ++ [_]).length < (ew [] x).length - (done.map peD).length
        rw [hp]
        simp only [List.length_append, List.length_map, List.length_cons, List.length_nil]
        omega
end
end G
set_option Elab.async false
set_option linter.all false
set_option maxRecDepth 100000
set_option maxHeartbeats 4000000
namespace G
open PySem PD L2
/-! ### another element at a path keeps what the law's elements are -/
def elP : List Nat → Nd → Option Nd
  | [], x => some x
  | i :: r, .el _ _ _ _ cs => (cs[i]?).bind fun c => elP r c
  | _ :: _, _ => none
mutual
theorem ew_at : ∀ (x : Nd) (p : List Nat) (q : List Nat × Nd), q ∈ ew p x → ∃ r, q.1 = p ++ r ∧ elP r x = some q.2 ∧ okPath r x ∧ q.2.isEl = true ∧ r.length < x.dep
  | .el a l ds as cs, p, q, h => by
    rw [ew] at h
    rcases List.mem_cons.mp h with rfl | h
    · exact ⟨[], by simp, rfl, trivial, rfl, by rw [Nd.dep]; exact Nat.succ_pos _⟩
    · obtain ⟨j, r, c, hc, e1, e2, e3, e4, e5⟩ := ews_at cs p 0 q h
      refine ⟨j :: r, by rw [e1]; simp, ?_, ⟨c, hc, e3⟩, e4, ?_⟩
      · rw [elP, hc]; exact e2
      · have := dep_mem (List.mem_of_getElem? hc)
        rw [Nd.dep, List.length_cons]
        omega
  | .s _, _, _, h => by rw [ew] at h; cases h
  | .h _, _, _, h => by rw [ew] at h; cases h
theorem ews_at : ∀ (cs : List Nd) (p : List Nat) (k : Nat) (q : List Nat × Nd), q ∈ ews p k cs → ∃ j r c, cs[j]? = some c ∧ q.1 = p ++ (k + j) :: r ∧ elP r c = some q.2 ∧ okPath r c ∧ q.2.isEl = true ∧ r.length < c.dep
  | [], _, _, _, h => by rw [ews] at h; cases h
  | c :: cs, p, k, q, h => by
    rw [ews] at h
    rcases List.mem_append.mp h with h | h
    · obtain ⟨r, e1, e2⟩ := ew_at c (p ++ [k]) q h
      exact ⟨0, r, c, rfl, by rw [e1]; simp, e2⟩
    · obtain ⟨j, r, c', hc, e1, e2⟩ := ews_at cs p (k + 1) q h
      exact ⟨j + 1, r, c', by simpa using hc, by rw [e1, show k + 1 + j = k + (j + 1) by omega], e2⟩
end
theorem noAdj_map : ∀ (cs ds : List Nd), cs.map Nd.isT = ds.map Nd.isT → noAdj cs = noAdj ds
  | [], [], _ => rfl
  | [], _ :: _, h => by cases h
  | _ :: _, [], h => by cases h
  | [a], [c], _ => rfl
  | [a], _ :: _ :: _, h => by simp at h
  | _ :: _ :: _, [c], h => by simp at h
  | a :: a2 :: cs, c :: c2 :: ds, h => by
    have h' := h
    rw [List.map_cons, List.map_cons, List.map_cons, List.map_cons, List.cons.injEq, List.cons.injEq] at h'
    show (!(a.isT && a2.isT) && noAdj (a2 :: cs)) = (!(c.isT && c2.isT) && noAdj (c2 :: ds))
    rw [h'.1, h'.2.1, noAdj_map (a2 :: cs) (c2 :: ds) (by rw [List.map_cons, List.map_cons, h'.2.1, h'.2.2])]
theorem isT_el {x : Nd} (h : x.isEl = true) : x.isT = false := by cases x <;> first | rfl | cases h
end G
set_option Elab.async false
set_option linter.all false
set_option maxRecDepth 100000
set_option maxHeartbeats 4000000
namespace G
open PySem PySem.Spec PyProof.Rows L2 PD
section
variable {P : Program} {w : World} {K : PySem.W.Frag} {mg : Str → Option Value} {base : Heap} {Z : Vol} {f : Addr} {fd : FuncData}
/-! ### holes, of a part without -/
structure PrtH (x : Nd) : Prop where
  p : Prt x
  h : noH x = true
noncomputable def gHol : List D → Option Res := gT (fun x : Nd => [x.d]) PrtH fun _ => .va (.tup [])
theorem gHol_of {x : Nd} (h : PrtH x) : gHol [x.d] = some (.va (.tup [])) := gT_of (enc := fun x : Nd => [x.d]) one_inj h
abbrev DHol (P : Program) (w : World) (K : PySem.W.Frag) (mg : Str → Option Value) (base : Heap) (Z : Vol) := Df P w K mg base "holes" 10 ["part"] (spP Z K 1 gHol)
abbrev sHol : Stmt := st_holes
theorem srt_nil : Srt [] := TX.srt_texts []
theorem srtD_nil : srtD [] = [] := List.Perm.eq_nil (srtD_perm [])
theorem ok_hol (F : Fun K "holes" "holes" sHol f fd) (T : Cst mg) (D0 : DNeed P w K mg base Z) (D1 : DWalk P w K mg base Z) (D2 : Df P w K mg base "holes_among" 2 ["children"] (spP Z K 1 gHoles)) : FnOk P w K mg base CX0 10 f fd ["part"] (spP Z K 1 gHol) := by
  have sc : FnScope ["part", "_", "element", "hole"] ["part"] (defScope sHol) := ⟨rfl, rfl, rfl, by decide +kernel, rfl, by decide +kernel, by decide +kernel⟩
  refine fn_pure F sc rfl (gT_out fun x hx => rfl) fun cdv A outer s H E b ds r hr hl hg => ?_
  obtain ⟨x, rfl, hx, rfl⟩ := gT_one hg
  have b0 := T.blt (cxOf CX0 P w K mg base ["part", "_", "element", "hole"] "holes" (defScope sHol) f cdv A outer s H E).nox rfl
  refine sv_expr (ev_callP D0 hr (eva_cons (ev_var 0 rfl (eva_nil ⟨_, _, rfl, rfl, if_pos hx.p.good, ?_⟩))))
  refine sv_ret (ev_tupleU b0 (ev_sorted (hu40 hr) b0 (ev_flat (.tp [.nm 1, .nm 2]) (.nm 3) [("_", 1), ("element", 2), ("hole", 3)] rfl sc.nd (blkOk_by (N := ["part", "_", "element", "hole"]) (sc := defScope sHol) (by decide +kernel)) (fun _ _ _ _ _ => pg_tup rfl (pgs_cons (pg_name (i := 1) sc.nd rfl (by first | exact Or.inl rfl | exact Or.inr rfl)) (pgs_cons (pg_name (i := 2) sc.nd rfl (by first | exact Or.inl rfl | exact Or.inr rfl)) pgs_nil))) (fun _ _ _ _ _ => pg_name (i := 3) sc.nd rfl (by first | exact Or.inl rfl | exact Or.inr rfl)) (by simp [Pat.slots, slotsAll]) (by simp [Pat.slots])
    (eic_list (ev_callP D1 (hr.mono (by decide)) (eva_cons (ev_var 0 rfl (eva_nil ⟨_, _, rfl, rfl, hx.p.walk, _, rfl, fun _ => [], fun _ d => d, by rw [List.flatMap_eq_nil_iff.mpr fun _ _ => rfl]; exact Nat.zero_le _, fun d hd => ?_, ?_⟩))))))))
  · obtain ⟨r, hr0, rfl⟩ := List.mem_map.mp hd
    obtain ⟨rok, _⟩ := wk_ok x [] [] hx.p.ok rfl r hr0
    obtain ⟨p, l, de, as, cs, hel⟩ := el_of rok.el
    obtain ⟨h1, h2⟩ := prt_kids hx.p hr0 hel
    have h3 := wk_noH x [] [] hx.h r hr0
    rw [hel, noH] at h3
    refine ⟨_, rfl, fun s H Cc cl fp => ?_, fun y hy => nomatch hy⟩
    refine ei_list (ev_callP D2 (hr.mono (by decide)) (eva_cons (ev_ix (ev_var 2 rfl (ev_int ⟨[.str "element", nmD p l, .tup (de.map dclD), .tup (as.map atrD), .tup (ndsD cs)], _, _, .inl ?_, rfl, atN (j := 4) rfl, eva_nil ⟨_, _, rfl, rfl, gHoles_of h1 h2, _, .inl rfl, rfl, holeStrs_no h3⟩⟩)))))
    show Res.va r.2.1.d = _
    rw [hel, Nd.d]
  · have e : ((wk [] [] x).map fun r => peD (prj r)).flatMap (fun d => (([] : List D)).map fun d => d) = [] := by simp
    refine ⟨_, rfl, ?_⟩
    rw [e]
    exact ⟨srt_nil, _, .inl rfl, rfl, rfl, by rw [srtD_nil]⟩
/-! ### need_surrounding -/
structure SuOk (W : Bd) : Prop where
  pf : ∀ q ∈ W, isPrefix (.str q.1) = true ∧ isAddr (.str q.2) = true
  nd : (W.map (·.1)).Nodup
  len : W.length ≤ 100
noncomputable def gSur : List D → Option Res := gT (fun W : Bd => [suD W]) SuOk fun W => .va (suD W)
theorem su1_inj (x y : Bd) (h : [suD x] = [suD y]) : x = y := su_inj x y (by injection h)
theorem gSur_of {W : Bd} (h : SuOk W) : gSur [suD W] = some (.va (suD W)) := gT_of (enc := fun W : Bd => [suD W]) su1_inj h
abbrev DSur (P : Program) (w : World) (K : PySem.W.Frag) (mg : Str → Option Value) (base : Heap) (Z : Vol) := Df P w K mg base "need_surrounding" 3 ["thing"] (spP Z K 1 gSur)
abbrev sSur : Stmt := st_need_surrounding
theorem adr_sm {p : Str} (h : isAddr (.str p) = true) : sm (.str p) = true := by
  unfold isAddr mdo at h
  simp only [Bool.and_eq_true, decide_eq_true_eq] at h
  have := h.1.2
  show decide (p.length ≤ 100000) = true
  exact decide_eq_true (by omega)
theorem pairs_su (W : Bd) : pairsD (suK W) = W.map dclD := by
  unfold pairsD suK
  rw [List.map_map]
  rfl
theorem ok_sur (F : Fun K "need_surrounding" "need_surrounding" sSur f fd) (T : Cst mg) (D1 : DB P w K mg base Z "is_prefix" 2 isPrefix) (D2 : DB P w K mg base Z "is_address" 2 isAddr) : FnOk P w K mg base CX0 3 f fd ["thing"] (spP Z K 1 gSur) := by
  have sc : FnScope ["thing", "prefix", "address"] ["thing"] (defScope sSur) := ⟨rfl, rfl, rfl, by decide +kernel, rfl, by decide +kernel, by decide +kernel⟩
  refine fn_pure F sc rfl (gT_out fun x hx => rfl) fun cdv A outer s H E b ds r hr hl hg => ?_
  obtain ⟨W, rfl, hW, rfl⟩ := gT_one hg
  have b0 := T.blt (cxOf CX0 P w K mg base ["thing", "prefix", "address"] "need_surrounding" (defScope sSur) f cdv A outer s H E).nox rfl
  refine sv_if (et_not (et_val (ev_isi (t := "dict") b0 b0.dict (by decide +kernel) (ev_var 0 rfl ⟨_, isi_d (suD W), _, rfl, ?_⟩))))
  refine sv_nil ?_
  refine sv_forT dclD dclD_inj (.tp [.nm 1, .nm 2]) rfl PassesOwn.never (pg_tup rfl (pgs_cons (pg_name (i := 1) sc.nd rfl (by first | exact Or.inl rfl | exact Or.inr rfl)) (pgs_cons (pg_name (i := 2) sc.nd rfl (by first | exact Or.inl rfl | exact Or.inr rfl)) pgs_nil)))
    (ei_items (ev_var 0 rfl ⟨suK W, rfl, W, pairs_su W, fun _ b2 δ2 => b2 = b ∧ ∃ s1 s2, δ2 = [.va (suD W), s1, s2], ⟨rfl, _, _, rfl⟩, ?_, ?_⟩))
  · rintro pre q post b2 δ2 e ⟨rfl, s1, s2, rfl⟩
    obtain ⟨h1, h2⟩ := hW.pf q (by rw [e]; simp)
    refine ⟨_, rfl, ?_⟩
    refine sv_if (et_pw (ew_or (et_not (et_val (ev_callP D1 hr (eva_cons (ev_var 1 rfl (eva_nil ⟨_, _, rfl, rfl, gB_of (pfx_sm h1), _, rfl, ?_⟩))))))))
    rw [h1]
    refine ew_or1 (et_not (et_val (ev_callP D2 hr (eva_cons (ev_var 2 rfl (eva_nil ⟨_, _, rfl, rfl, gB_of (adr_sm h2), _, rfl, ?_⟩))))))
    rw [h2]
    exact sv_nil (sv_nil ⟨rfl, _, _, rfl⟩)
  · rintro b2 δ2 ⟨rfl, s1, s2, rfl⟩
    exact sv_ret (ev_var 0 rfl ⟨rfl, rfl, rfl⟩)
/-! ### element_at, at an element's path -/
noncomputable def gEat : List D → Option Res := gT (fun q : Nd × List Nat => [q.1.d, .tup (pthD q.2)]) (fun q => Prt q.1 ∧ ∃ y, elP q.2 q.1 = some y ∧ y.isEl = true) fun q => .va ((elP q.2 q.1).getD (.s "")).d
theorem eat_inj (x y : Nd × List Nat) (h : ([x.1.d, .tup (pthD x.2)] : List D) = [y.1.d, .tup (pthD y.2)]) : x = y := by
  injection h with h1 h
  injection h with h2 _
  injection h2 with h2
  exact Prod.ext (nd_inj _ _ h1) (pthD_inj _ _ h2)
theorem gEat_of {x y : Nd} {p : List Nat} (h : Prt x) (e : elP p x = some y) (he : y.isEl = true) : gEat [x.d, .tup (pthD p)] = some (.va y.d) := by
  have := gT_of (enc := fun q : Nd × List Nat => [q.1.d, .tup (pthD q.2)]) (ok := fun q => Prt q.1 ∧ ∃ y, elP q.2 q.1 = some y ∧ y.isEl = true) (f := fun q => .va ((elP q.2 q.1).getD (.s "")).d) eat_inj (x := (x, p)) ⟨h, y, e, he⟩
  simp only [e] at this
  exact this
abbrev DEat (P : Program) (w : World) (K : PySem.W.Frag) (mg : Str → Option Value) (base : Heap) (Z : Vol) := Df P w K mg base "element_at" 10 ["part", "path"] (spP Z K 2 gEat)
abbrev sEat : Stmt := st_element_at
theorem elP_el {i : Nat} {r : List Nat} {x y : Nd} (h : elP (i :: r) x = some y) : ∃ p l ds as cs c, x = .el p l ds as cs ∧ cs[i]? = some c ∧ elP r c = some y := by
  cases x with
  | el p l ds as cs =>
    rw [elP] at h
    obtain ⟨c, hc, h⟩ := Option.bind_eq_some_iff.mp h
    exact ⟨p, l, ds, as, cs, c, rfl, hc, h⟩
  | s _ => cases h
  | h _ => cases h
theorem elP_isEl : ∀ {r : List Nat} {x y : Nd}, elP r x = some y → y.isEl = true → x.isEl = true
  | [], x, y, h, he => by
    have e : x = y := Option.some.inj h
    rw [e]; exact he
  | i :: r, x, y, h, he => by
    obtain ⟨p, l, ds, as, cs, c, rfl, _⟩ := elP_el h
    rfl
theorem ok_eat (F : Fun K "element_at" "element_at" sEat f fd) (T : Cst mg) (D0 : DNeed P w K mg base Z) (D1 : DNum P w K mg base Z) (D2 : DElem P w K mg base Z) : FnOk P w K mg base CX0 10 f fd ["part", "path"] (spP Z K 2 gEat) := by
  have sc : FnScope ["part", "path", "element", "number"] ["part", "path"] (defScope sEat) := ⟨rfl, rfl, rfl, by decide +kernel, rfl, by decide +kernel, by decide +kernel⟩
  refine fn_pure F sc rfl (gT_out fun x hx => rfl) fun cdv A outer s H E b ds r hr hl hg => ?_
  obtain ⟨⟨x, p⟩, rfl, ⟨hx, y, hy, hel⟩, rfl⟩ := gT_one hg
  have hy : elP p x = some y := hy
  have b0 := T.blt (cxOf CX0 P w K mg base ["part", "path", "element", "number"] "element_at" (defScope sEat) f cdv A outer s H E).nox rfl
  refine sv_expr (ev_callP D0 hr (eva_cons (ev_var 0 rfl (eva_nil ⟨_, _, rfl, rfl, if_pos hx.good, ?_⟩))))
  refine sv_if (et_not (et_val (ev_isi (t := "tuple") b0 b0.tuple (by decide +kernel) (ev_var 1 rfl ⟨_, isi_t (.tup (pthD p)), _, rfl, ?_⟩))))
  refine sv_nil ?_
  refine sv_set 2 (ev_var 0 rfl ⟨_, rfl, ?_⟩) sc.nd
  have inj : ∀ i j : Nat, D.int (i : Int) = .int (j : Int) → i = j := fun i j h => by injection h with h; omega
  refine sv_forT (fun i : Nat => D.int (i : Int)) inj (.nm 3) rfl PassesOwn.never (pg_name (i := 3) sc.nd rfl (by first | exact Or.inl rfl | exact Or.inr rfl))
    (ei_tup (ev_var 1 rfl ⟨pthD p, rfl, p, rfl, fun pre b2 δ2 => b2 = b ∧ ∃ z post s3, p = pre ++ post ∧ elP post z = some y ∧ z.ok = true ∧ δ2 = [.va x.d, .va (.tup (pthD p)), .va z.d, s3], ⟨rfl, x, p, _, rfl, hy, hx.ok, rfl⟩, ?_, ?_⟩))
  · rintro pre i post b2 δ2 e ⟨rfl, z, post', s3, e', hz, hok, rfl⟩
    rw [e] at e'
    have e' := List.append_cancel_left e'
    subst e'
    obtain ⟨q, l, de, as, cs, c, rfl, hc, hz⟩ := elP_el hz
    have ho := ok_el.mp hok
    have hcm := List.mem_of_getElem? hc
    have hlt : i < cs.length := (List.getElem?_eq_some_iff.mp hc).1
    have hzd : (Nd.el q l de as cs).d = .tup [.str "element", nmD q l, .tup (de.map dclD), .tup (as.map atrD), .tup (ndsD cs)] := by rw [Nd.d]
    have hcl : (ndsD cs).length = cs.length := by rw [ndsD_map, List.length_map]
    refine ⟨_, rfl, ?_⟩
    refine sv_if (et_not (et_val (ev_callP D1 (hr.mono (by decide)) (eva_cons (ev_var 3 rfl (eva_cons (ev_len b0 (ev_ix (ev_var 2 rfl (ev_int ⟨[.str "element", nmD q l, .tup (de.map dclD), .tup (as.map atrD), .tup (ndsD cs)], _, _, .inl (by rw [hzd]), rfl, atN (j := 4) rfl, _, .tup, eva_nil ⟨_, _, rfl, rfl, rfl, _, rfl, ?_⟩⟩))))))))))
    have hn : numB (.int (i : Int)) ((ndsD cs).length : Int) = true := by
      show (decide ((0 : Int) ≤ (i : Int)) && decide ((i : Int) < ((ndsD cs).length : Int))) = true
      rw [decide_eq_true (by omega), decide_eq_true (by omega)]
      rfl
    rw [hn]
    refine sv_nil ?_
    refine sv_set 2 (ev_ix (ev_ix (ev_var 2 rfl (ev_int ⟨[.str "element", nmD q l, .tup (de.map dclD), .tup (as.map atrD), .tup (ndsD cs)], _, _, .inl (by rw [hzd]), rfl, atN (j := 4) rfl, ev_var 3 rfl ⟨ndsD cs, _, c.d, .inl rfl, rfl, atN (j := i) (by rw [ndsD_map, List.getElem?_map, hc]; rfl), _, rfl, ?_⟩⟩)))) sc.nd
    have hce := elP_isEl hz hel
    refine sv_if (et_not (et_val (ev_callP D2 (hr.mono (by decide)) (eva_cons (ev_var 2 rfl (eva_nil ⟨_, _, rfl, rfl, gB_of (ok_sm c (ho.hc c hcm)), _, rfl, ?_⟩))))))
    rw [begins_el, hce]
    exact sv_nil (sv_nil ⟨rfl, c, post, _, by rw [e, List.append_assoc]; rfl, hz, ho.hc c hcm, rfl⟩)
  · rintro b2 δ2 ⟨rfl, z, post, s3, e, hz, hok, rfl⟩
    have hp : post = [] := by
      have := congrArg List.length e
      rw [List.length_append] at this
      exact List.eq_nil_of_length_eq_zero (by omega)
    subst hp
    have ez : z = y := Option.some.inj hz
    subst ez
    refine sv_ret (ev_var 2 rfl ⟨rfl, rfl, ?_⟩)
    show Res.va z.d = .va ((elP p x).getD (.s "")).d
    rw [hy]
    rfl
/-! ### _need_sealable -/
structure SlOk (q : Nd × Ls) : Prop where
  x : PrtH q.1
  l : LsOk q.2
noncomputable def gNs : List D → Option Res := gT (fun q : Nd × Ls => [q.1.d, q.2.d]) SlOk fun _ => .va .non
theorem gNs_of {x : Nd} {l : Ls} (h : PrtH x) (hl : LsOk l) : gNs [x.d, l.d] = some (.va .non) := gT_of (enc := fun q : Nd × Ls => [q.1.d, q.2.d]) (x := (x, l)) nl_inj ⟨h, hl⟩
abbrev DNs (P : Program) (w : World) (K : PySem.W.Frag) (mg : Str → Option Value) (base : Heap) (Z : Vol) := Df P w K mg base "_need_sealable" 11 ["part", "listed"] (spP Z K 2 gNs)
abbrev sNs : Stmt := st__need_sealable
theorem ok_ns (F : Fun K "_need_sealable" "_need_sealable" sNs f fd) (T : Cst mg) (D1 : DIsL P w K mg base Z) (D2 : DHol P w K mg base Z) : FnOk P w K mg base CX0 11 f fd ["part", "listed"] (spP Z K 2 gNs) := by
  have sc : FnScope ["part", "listed"] ["part", "listed"] (defScope sNs) := ⟨rfl, rfl, rfl, by decide +kernel, rfl, by decide +kernel, by decide +kernel⟩
  refine fn_pure F sc rfl (gT_out fun x hx => rfl) fun cdv A outer s H E b ds r hr hl hg => ?_
  obtain ⟨⟨x, l⟩, rfl, ⟨hx, hl⟩, rfl⟩ := gT_one hg
  refine sv_if (et_not (et_val (ev_callP D1 (hr.mono (by decide)) (eva_cons (ev_var 1 rfl (eva_nil ⟨_, _, rfl, rfl, gIsL_of hl, _, rfl, ?_⟩))))))
  refine sv_nil ?_
  refine sv_if (et_tup (ev_callP D2 hr (eva_cons (ev_var 0 rfl (eva_nil ⟨_, _, rfl, rfl, gHol_of hx, _, rfl, ?_⟩)))))
  exact sv_nil (sv_nil ⟨rfl, rfl⟩)
/-! ### visible -/
structure VsOk (q : (Nd × List Nat) × Ls) : Prop where
  x : PrtH q.1.1
  y : ∃ y, elP q.1.2 q.1.1 = some y ∧ y.isEl = true
  l : LsOk q.2
theorem vs_inj (x y : (Nd × List Nat) × Ls) (h : ([x.1.1.d, .tup (pthD x.1.2), x.2.d] : List D) = [y.1.1.d, .tup (pthD y.1.2), y.2.d]) : x = y := by
  injection h with h1 h
  injection h with h2 h
  injection h with h3 _
  injection h2 with h2
  exact Prod.ext (Prod.ext (nd_inj _ _ h1) (pthD_inj _ _ h2)) (ls_inj _ _ h3)
noncomputable def gVb : List D → Option Res := gT (fun q : (Nd × List Nat) × Ls => [q.1.1.d, .tup (pthD q.1.2), q.2.d]) VsOk fun q => .va (.tup (visL ((elP q.1.2 q.1.1).getD (.s "")) q.2.xs))
theorem gVb_of {x y : Nd} {p : List Nat} {l : Ls} (h : PrtH x) (e : elP p x = some y) (he : y.isEl = true) (hl : LsOk l) : gVb [x.d, .tup (pthD p), l.d] = some (.va (.tup (visL y l.xs))) := by
  have := gT_of (enc := fun q : (Nd × List Nat) × Ls => [q.1.1.d, .tup (pthD q.1.2), q.2.d]) (ok := VsOk) (f := fun q => .va (.tup (visL ((elP q.1.2 q.1.1).getD (.s "")) q.2.xs))) vs_inj (x := ((x, p), l)) ⟨h, ⟨y, e, he⟩, hl⟩
  simp only [e] at this
  exact this
theorem elP_ok : ∀ {r : List Nat} {x y : Nd}, elP r x = some y → x.ok = true → y.ok = true
  | [], x, y, h, ho => by
    have e : x = y := Option.some.inj h
    rw [← e]; exact ho
  | i :: r, x, y, h, ho => by
    obtain ⟨p, l, ds, as, cs, c, rfl, hc, h⟩ := elP_el h
    exact elP_ok h ((ok_el.mp ho).hc c (List.mem_of_getElem? hc))
theorem seen_len {p : Str} {as : List ((Str × Str) × Vl)} : (seenL p as).length ≤ 1 + as.length := by
  unfold seenL
  have := List.length_filter_le (fun q : (Str × Str) × Vl => !decide (q.1.1 = ("" : Str))) as
  simp only [List.length_append, List.length_cons, List.length_nil, List.length_map]
  omega
abbrev sVb : Stmt := st_visible
theorem ok_vb {dv : V} (F : FunX K "visible" sVb dv f fd) (T : Cst mg) (D1 : DEat P w K mg base Z) (D2 : DNs P w K mg base Z) (D3 : DVis P w K mg base Z) : FnOk P w K mg base CX0 12 f fd ["part", "path", "listed"] (spP Z K 3 gVb) := by
  have sc : FnScope ["part", "path", "listed", "element"] ["part", "path", "listed"] (defScope sVb) := ⟨rfl, rfl, rfl, by decide +kernel, rfl, by decide +kernel, by decide +kernel⟩
  refine fn_pureD F sc rfl (gT_out fun x hx => rfl) fun cdv A outer s H E b ds r hr hl hg => ?_
  obtain ⟨⟨⟨x, p⟩, l⟩, rfl, ⟨hx, ⟨y, hy, hel⟩, hl⟩, rfl⟩ := gT_one hg
  have hy : elP p x = some y := hy
  have hl : LsOk l := hl
  have hx : PrtH x := hx
  have b0 := T.blt (cxOf CX0 P w K mg base ["part", "path", "listed", "element"] "visible" (defScope sVb) f cdv A outer s H E).nox rfl
  refine sv_set 3 (ev_callP D1 (hr.mono (by decide)) (eva_cons (ev_var 0 rfl (eva_cons (ev_var 1 rfl (eva_nil ⟨_, _, rfl, rfl, gEat_of hx.p hy hel, _, rfl, ?_⟩)))))) sc.nd
  refine sv_expr (ev_callP D2 hr (eva_cons (ev_var 0 rfl (eva_cons (ev_var 2 rfl (eva_nil ⟨_, _, rfl, rfl, gNs_of hx hl, ?_⟩))))))
  have hyo := elP_ok hy hx.p.ok
  obtain ⟨q, lo, de, as, cs, rfl⟩ := el_of hel
  have ho := ok_el.mp hyo
  have h4 := ho.na
  have hs : (seenN (.el q lo de as cs)).length ≤ 1 + as.length := seen_len
  refine sv_ret (ev_tuple b0 (ev_callP D3 (hr.mono (by decide)) (eva_cons (ev_var 3 rfl (eva_cons (ev_var 2 rfl (eva_nil ⟨_, _, rfl, rfl, gVis_of (x := .el q lo de as cs) (l := l) ho.fit (by have := hl.len; omega), _, rfl, rfl, rfl, ?_⟩)))))))
  show Res.va (.tup (visL (.el q lo de as cs) l.xs)) = .va (.tup (visL ((elP p x).getD (.s "")) l.xs))
  rw [hy]
  rfl
end
end G
set_option Elab.async false
set_option linter.all false
set_option maxRecDepth 100000
set_option maxHeartbeats 4000000
namespace PD
open PySem PySem.Spec PyProof.Rows L2
section
variable {C : Cn} {b : Nat} {δ : List Sl} {F : Fin} {pos px py pz pt pt2 q1 q2 : Pos} {e1 e2 e3 : Expr} {rest : List Stmt} {kt k2 : Nat}
/-- two new things of one's own -/
theorem Sts.putTwo {os : List Addr} {σ : L2.St} {H H1 : Hp} {b1 : Nat} {i j : Nat} {p1 p2 : Addr} {t1 t2 : Sl} (st : Sts C os b δ σ H) (f : Fr C.Z.S H H1) (jj : C.Z.J b1 H1) (n1 : H p1 = none) (e1 : ∃ o, H1 p1 = some o) (s1 : ¬ C.Z.S p1) (r1 : ∀ os, Slot C.K C.Z os H1 t1 (some (.ref p1)) [p1])
    (n2 : H p2 = none) (e2 : ∃ o, H1 p2 = some o) (s2 : ¬ C.Z.S p2) (r2 : ∀ os, Slot C.K C.Z os H1 t2 (some (.ref p2)) [p2]) (ne : p1 ≠ p2) :
    ∃ os', Sts C os' b1 ((δ.set i t1).set j t2) ((σ.set i (some (.ref p1))).set j (some (.ref p2))) H1 ∧ Gr C.Z os H os' H1 := by
  have no : ∀ {p : Addr}, H p = none → p ∉ os := fun {p} n z => by
    obtain ⟨x, q⟩ := (st.new p z).2.2
    rw [n] at q; cases q
  obtain ⟨o0, nd0, sub0, sl0⟩ := st.sl
  have sla : Sls C.K C.Z (p2 :: p1 :: os) H δ σ o0 := (sl0.more n1).more n2
  have sl1 : Sls C.K C.Z (p2 :: p1 :: os) H1 δ σ o0 := sla.fr f fun q hq => (st.new q (sub0 q hq)).2.1
  obtain ⟨o1, nd1, sb1, l1⟩ := sl1.put (i := i) nd0 (q := [p1]) (by simp) (fun q hq z => no n1 (sub0 p1 (by rw [← List.mem_singleton.mp hq]; exact z))) (r1 _)
  obtain ⟨o2, nd2, sb2, l2⟩ := l1.put (i := j) nd1 (q := [p2]) (by simp) (fun q hq z => by
    rw [List.mem_singleton.mp hq] at z
    rcases sb1 p2 z with y | y
    · exact ne (List.mem_singleton.mp y).symm
    · exact no n2 (sub0 p2 y)) (r2 _)
  have st1 := st.on f jj
  refine ⟨p2 :: p1 :: os, ⟨st1.fr, jj, fun q hq => ?_, o2, nd2, fun q hq => ?_, l2⟩, ⟨f.wide fun _ => .inl, fun q hq => ?_⟩⟩
  · rcases List.mem_cons.mp hq with z | z
    · rw [z]; exact ⟨st.fr.back n2, s2, e2⟩
    · rcases List.mem_cons.mp z with z | z
      · rw [z]; exact ⟨st.fr.back n1, s1, e1⟩
      · exact st1.new q z
  · rcases sb2 q hq with z | z
    · exact List.mem_cons.mpr (.inl (List.mem_singleton.mp z))
    · rcases sb1 q z with y | y
      · exact List.mem_cons_of_mem _ (List.mem_cons.mpr (.inl (List.mem_singleton.mp y)))
      · exact List.mem_cons_of_mem _ (List.mem_cons_of_mem _ (sub0 q y))
  · rcases List.mem_cons.mp hq with z | z
    · rw [z]; exact .inr n2
    · rcases List.mem_cons.mp z with z | z
      · rw [z]; exact .inr n1
      · exact .inl z
/-- a, b = [], [] -/
theorem sv_set2N (i j : Nat) {x y : Str} (hc : C.X.calm = true) (hN : C.X.N.Nodup) (hij : i ≠ j) (h : SV C b ((δ.set i (.ow [])).set j (.ow [])) rest F) (hi : C.X.N[i]? = some x := by rfl) (hj : C.X.N[j]? = some y := by rfl)
    (hx : C.X.env.scope.names.lookup x = some .local := by rfl) (hy : C.X.env.scope.names.lookup y = some .local := by rfl)
    (hw : swappedStores [.Tuple [.Name x px, .Name y py] kt pt] (.Tuple [.List [] q1, .List [] q2] k2 pt2) C.X.env = pure (some [x, y]) := by rfl)
    (hs : swapsWithSole [.Tuple [.Name x px, .Name y py] kt pt] (.Tuple [.List [] q1, .List [] q2] k2 pt2) pos.line C.X.env = pure false := by rfl) : SV C b δ (.Assign [.Tuple [.Name x px, .Name y py] kt pt] (.Tuple [.List [] q1, .List [] q2] k2 pt2) pos :: rest) F := by
  intro os σ H st D ed
  refine WSs.of (pss_cons (ps_par hc hN hi hj hij hx hy (pa_cons (pe_lst pa_nil) (pa_cons (pe_lst pa_nil) pa_nil)) hw hs) pssW) ?_
  refine ⟨Nat.zero_le _, fun p1 n1 => ⟨Nat.zero_le _, fun p2 n2 => ⟨_, _, rfl, ?_⟩⟩⟩
  have ne : p1 ≠ p2 := fun z => by rw [← z, upd_same] at n2; cases n2
  rw [upd_ne (Ne.symm ne)] at n2
  have e1 : upd (upd H p1 (.lst [])) p2 (.lst []) p1 = some (.lst []) := by rw [upd_ne ne]; exact upd_same
  have f : Fr C.Z.S H (upd (upd H p1 (.lst [])) p2 (.lst [])) := (Fr.new n1).upd0 n2
  have n2' : upd H p1 (.lst []) p2 = none := by rw [upd_ne (Ne.symm ne)]; exact n2
  obtain ⟨os2, st2, g2⟩ := st.putTwo (i := i) (j := j) (t1 := .ow []) (t2 := .ow []) f (jnew (jnew st.j n1) n2') n1 ⟨_, e1⟩ (snew st.j n1) (fun _ => .ow e1 .nil) n2 ⟨_, upd_same⟩ (snew st.j n2) (fun _ => .ow upd_same .nil) ne
  exact h os2 _ _ st2 D (ed.on g2)
/-- a, b, c = e1, e2, e3: data, a new dict, a new list -/
theorem sv_set3X (i j l : Nat) {x y z : Str} (hc : C.X.calm = true) (hN : C.X.N.Nodup) (hij : i ≠ j) (hil : i ≠ l) (hjl : j ≠ l) (h : EVA C b δ [e1, e2, e3] (fun b1 rs => ∃ d1 c ds, rs = [.va d1, .od c, .ow ds] ∧ SV C b1 (((δ.set i (.va d1)).set j (.od c)).set l (.ow ds)) rest F)) (hi : C.X.N[i]? = some x := by rfl) (hj : C.X.N[j]? = some y := by rfl) (hl : C.X.N[l]? = some z := by rfl)
    (hx : C.X.env.scope.names.lookup x = some .local := by rfl) (hy : C.X.env.scope.names.lookup y = some .local := by rfl) (hz : C.X.env.scope.names.lookup z = some .local := by rfl)
    (hw : swappedStores [.Tuple [.Name x px, .Name y py, .Name z pz] kt pt] (.Tuple [e1, e2, e3] k2 pt2) C.X.env = pure (some [x, y, z]) := by rfl)
    (hs : swapsWithSole [.Tuple [.Name x px, .Name y py, .Name z pz] kt pt] (.Tuple [e1, e2, e3] k2 pt2) pos.line C.X.env = pure false := by rfl) : SV C b δ (.Assign [.Tuple [.Name x px, .Name y py, .Name z pz] kt pt] (.Tuple [e1, e2, e3] k2 pt2) pos :: rest) F := by
  intro os σ H st D ed
  refine WSs.of (pss_cons (ps_par3 hc hN hi hj hl hij hil hjl hx hy hz paW hw hs) pssW) ?_
  refine h os σ H st _ fun vs H1 b1 rs f1 j1 rv hr => ?_
  obtain ⟨d1, c, ds, rfl, q⟩ := hr
  cases rv with | @cons v1 vs1 _ _ r1 rv => ?_
  cases rv with | @cons v2 vs2 _ _ r2 rv => ?_
  cases rv with | @cons v3 vs3 _ _ r3 rv => ?_
  cases rv
  cases r1 with | va r1 => ?_
  cases r2 with | @od p2 _ n2 ns2 d2 => ?_
  cases r3 with | @ow p3 xs _ n3 a3 ns3 ra => ?_
  have ne : p2 ≠ p3 := fun z => by
    subst z
    cases d2 with
    | k e _ _ => rw [a3] at e; cases e
    | t e _ _ => rw [a3] at e; cases e
  refine ⟨v1, _, _, rfl, ?_⟩
  obtain ⟨o0, nd0, sub0, sl0⟩ := st.sl
  obtain ⟨o1, nd1, sb1, l1⟩ := sl0.put (i := i) (s := .un) (w := some v1) nd0 List.nodup_nil (fun p z => (nomatch z)) Slot.un
  have st0 : Sts C os b (δ.set i .un) (σ.set i (some v1)) H := ⟨st.fr, st.j, st.new, o1, nd1, fun p hp => (sb1 p hp).elim (fun z => (nomatch z)) (sub0 p), l1⟩
  obtain ⟨os2, st2, g2⟩ := st0.putTwo (i := j) (j := l) (t1 := .od c) (t2 := .ow ds) f1 j1 n2 d2.some ns2 (fun _ => .od d2) n3 ⟨_, a3⟩ ns3 (fun _ => .ow a3 ra) ne
  -- the data, put at last
  obtain ⟨o3, nd3, sub3, sl3⟩ := st2.sl
  obtain ⟨o4, nd4, sb4, l4⟩ := sl3.put (i := i) nd3 List.nodup_nil (fun p z => (nomatch z)) (Slot.va r1)
  have e1 : (((δ.set i .un).set j (.od c)).set l (.ow ds)).set i (.va d1) = ((δ.set i (.va d1)).set j (.od c)).set l (.ow ds) := by
    rw [List.set_comm _ _ (Ne.symm hil), List.set_comm _ _ (Ne.symm hij), List.set_set]
  have e2 : (((σ.set i (some v1)).set j (some (.ref p2))).set l (some (.ref p3))).set i (some v1) = ((σ.set i (some v1)).set j (some (.ref p2))).set l (some (.ref p3)) := by
    rw [List.set_comm _ _ (Ne.symm hil), List.set_comm _ _ (Ne.symm hij), List.set_set]
  rw [e1, e2] at l4
  exact q os2 _ H1 ⟨st2.fr, st2.j, st2.new, o4, nd4, fun p hp => (sb4 p hp).elim (fun z => (nomatch z)) (sub3 p), l4⟩ D (ed.on g2)
/-- the same where the names are cells: the tuple is made, and taken apart -/
theorem sv_set3T (i j l : Nat) {es ts : List Expr} (hij : i ≠ j) (hil : i ≠ l) (hjl : j ≠ l) (hg : PG C.X (.Tuple ts kt pt) (gPat C.X.K (.tp [.nm i, .nm j, .nm l]))) (h : EVA C b δ es (fun b1 rs => ∃ d1 c ds, rs = [.va d1, .od c, .ow ds] ∧ SV C b1 (((δ.set i (.va d1)).set j (.od c)).set l (.ow ds)) rest F))
    (hs : swapsWithSole [.Tuple ts kt pt] (.Tuple es k2 pt2) pos.line C.X.env = pure false := by rfl) (hw : swappedStores [.Tuple ts kt pt] (.Tuple es k2 pt2) C.X.env = pure none := by rfl) (h1 : (assignEach [.Tuple ts kt pt] C.X.env).map (·.2) = [assign (.Tuple ts kt pt) C.X.env] := by rfl) : SV C b δ (.Assign [.Tuple ts kt pt] (.Tuple es k2 pt2) pos :: rest) F := by
  intro os σ H st D ed
  refine WSs.of (pss_cons (ps_asg (pe_tup paW) hg hs hw h1) pssW) ?_
  refine h os σ H st _ fun vs H1 b1 rs f1 j1 rv hr => ?_
  obtain ⟨d1, c, ds, rfl, q⟩ := hr
  cases rv with | @cons v1 vs1 _ _ r1 rv => ?_
  cases rv with | @cons v2 vs2 _ _ r2 rv => ?_
  cases rv with | @cons v3 vs3 _ _ r3 rv => ?_
  cases rv
  cases r1 with | va r1 => ?_
  cases r2 with | @od p2 _ n2 ns2 d2 => ?_
  cases r3 with | @ow p3 xs _ n3 a3 ns3 ra => ?_
  have ne : p2 ≠ p3 := fun z => by
    subst z
    cases d2 with
    | k e _ _ => rw [a3] at e; cases e
    | t e _ _ => rw [a3] at e; cases e
  refine ⟨(show 3 ≤ sizeLine by decide), fun p hp => ⟨p, [v1, .ref p2, .ref p3], rfl, .inl (.inl upd_same), rfl, v1, _, rfl, _, _, rfl, _, _, rfl, rfl, ?_⟩⟩
  have fp : Fr C.Z.S H1 (upd H1 p (.tup [v1, .ref p2, .ref p3])) := Fr.new hp
  have jp := jnew j1 hp (o := .tup [v1, .ref p2, .ref p3])
  have f2 := f1.trans fp
  have d2' := d2.fr fp ns2
  have a3' : upd H1 p (.tup [v1, .ref p2, .ref p3]) p3 = some (.lst xs) := fp.keep ns3 a3
  have ra' := ra.fr fp
  have r1' := r1.fr fp
  generalize upd H1 p (.tup [v1, .ref p2, .ref p3]) = H2 at *
  obtain ⟨o0, nd0, sub0, sl0⟩ := st.sl
  obtain ⟨o1, nd1, sb1, l1⟩ := sl0.put (i := i) (s := .un) (w := some v1) nd0 List.nodup_nil (fun p z => (nomatch z)) Slot.un
  have st0 : Sts C os b (δ.set i .un) (σ.set i (some v1)) H := ⟨st.fr, st.j, st.new, o1, nd1, fun p hp => (sb1 p hp).elim (fun z => (nomatch z)) (sub0 p), l1⟩
  obtain ⟨os2, st2, g2⟩ := st0.putTwo (i := j) (j := l) (t1 := .od c) (t2 := .ow ds) f2 jp n2 d2'.some ns2 (fun _ => .od d2') n3 ⟨_, a3'⟩ ns3 (fun _ => .ow a3' ra') ne
  obtain ⟨o3, nd3, sub3, sl3⟩ := st2.sl
  obtain ⟨o4, nd4, sb4, l4⟩ := sl3.put (i := i) nd3 List.nodup_nil (fun p z => (nomatch z)) (Slot.va r1')
  have e1 : (((δ.set i .un).set j (.od c)).set l (.ow ds)).set i (.va d1) = ((δ.set i (.va d1)).set j (.od c)).set l (.ow ds) := by
    rw [List.set_comm _ _ (Ne.symm hil), List.set_comm _ _ (Ne.symm hij), List.set_set]
  have e2 : (((σ.set i (some v1)).set j (some (.ref p2))).set l (some (.ref p3))).set i (some v1) = ((σ.set i (some v1)).set j (some (.ref p2))).set l (some (.ref p3)) := by
    rw [List.set_comm _ _ (Ne.symm hil), List.set_comm _ _ (Ne.symm hij), List.set_set]
  rw [e1, e2] at l4
  exact q os2 _ _ ⟨st2.fr, st2.j, st2.new, o4, nd4, fun p hp => (sb4 p hp).elim (fun z => (nomatch z)) (sub3 p), l4⟩ D (ed.on g2)
/-- a, b, c = e1, e2, e3 of data -/
theorem sv_set3 (i j l : Nat) {x y z : Str} (hc : C.X.calm = true) (hN : C.X.N.Nodup) (hij : i ≠ j) (hil : i ≠ l) (hjl : j ≠ l) (h : EVA C b δ [e1, e2, e3] (fun b1 rs => ∃ d1 d2 d3, rs = [.va d1, .va d2, .va d3] ∧ SV C b1 (((δ.set i (.va d1)).set j (.va d2)).set l (.va d3)) rest F)) (hi : C.X.N[i]? = some x := by rfl) (hj : C.X.N[j]? = some y := by rfl) (hl : C.X.N[l]? = some z := by rfl)
    (hx : C.X.env.scope.names.lookup x = some .local := by rfl) (hy : C.X.env.scope.names.lookup y = some .local := by rfl) (hz : C.X.env.scope.names.lookup z = some .local := by rfl)
    (hw : swappedStores [.Tuple [.Name x px, .Name y py, .Name z pz] kt pt] (.Tuple [e1, e2, e3] k2 pt2) C.X.env = pure (some [x, y, z]) := by rfl)
    (hs : swapsWithSole [.Tuple [.Name x px, .Name y py, .Name z pz] kt pt] (.Tuple [e1, e2, e3] k2 pt2) pos.line C.X.env = pure false := by rfl) : SV C b δ (.Assign [.Tuple [.Name x px, .Name y py, .Name z pz] kt pt] (.Tuple [e1, e2, e3] k2 pt2) pos :: rest) F := by
  intro os σ H st D ed
  refine WSs.of (pss_cons (ps_par3 hc hN hi hj hl hij hil hjl hx hy hz paW hw hs) pssW) ?_
  refine h os σ H st _ fun vs H1 b1 rs f1 j1 rv hr => ?_
  obtain ⟨d1, d2, d3, rfl, q⟩ := hr
  cases rv with | @cons v1 vs1 _ _ r1 rv => ?_
  cases rv with | @cons v2 vs2 _ _ r2 rv => ?_
  cases rv with | @cons v3 vs3 _ _ r3 rv => ?_
  cases rv
  cases r1 with | va r1 => ?_
  cases r2 with | va r2 => ?_
  cases r3 with | va r3 => ?_
  refine ⟨v1, v2, v3, rfl, ?_⟩
  obtain ⟨os1, st1, g1⟩ := st.put (i := i) f1 j1 (.va r1) rfl
  obtain ⟨os2, st2, g2⟩ := st1.put (i := j) (r := .va d2) Fr.refl j1 (.va r2) rfl
  obtain ⟨os3, st3, g3⟩ := st2.put (i := l) (r := .va d3) Fr.refl j1 (.va r3) rfl
  exact q os3 _ H1 st3 D (ed.on ((g1.trans g2).trans g3))
end
end PD
set_option Elab.async false
set_option linter.all false
set_option maxRecDepth 100000
set_option maxHeartbeats 4000000
namespace G
open PySem PySem.Spec PyProof.Rows L2 PD
/-! ### the keys of a dict of truth values -/
def tk (ks : List Str) : List (Key × D) := ks.map fun p => (kS p, D.bl true)
def insS (ks : List Str) (p : Str) : List Str := if p ∈ ks then ks else ks ++ [p]
theorem tk_put (ks : List Str) (p : Str) : putD (tk ks) (kS p) (.bl true) = tk (insS ks p) := by
  unfold putD insS
  have e : ((tk ks).any fun kv => decide (kv.1 = kS p)) = decide (p ∈ ks) := by
    unfold tk
    rw [List.any_map]
    by_cases h : p ∈ ks
    · rw [decide_eq_true h, List.any_eq_true]
      exact ⟨p, h, decide_eq_true rfl⟩
    · rw [decide_eq_false h, List.any_eq_false]
      intro q hq z
      exact h (by rw [← Sum.inr.inj (of_decide_eq_true z)]; exact hq)
  rw [e]
  by_cases h : p ∈ ks
  · rw [decide_eq_true h, if_pos rfl, if_pos h]
    unfold tk
    rw [List.map_map]
    refine List.map_congr_left fun q _ => ?_
    show (if kS q = kS p then (kS q, D.bl true) else (kS q, D.bl true)) = _
    split <;> rfl
  · rw [decide_eq_false h, if_neg (by decide), if_neg h]
    unfold tk
    rw [List.map_append]
    rfl
theorem insS_nd {ks : List Str} {p : Str} (h : ks.Nodup) : (insS ks p).Nodup := by
  unfold insS
  split
  · exact h
  · rename_i hp
    rw [List.nodup_append]
    exact ⟨h, by simp, fun a ha b hb e => hp (by rw [← List.mem_singleton.mp hb, ← e]; exact ha)⟩
theorem insS_mem {ks : List Str} {p y : Str} : y ∈ insS ks p ↔ y ∈ ks ∨ y = p := by
  unfold insS
  split
  · rename_i h
    exact ⟨.inl, fun z => z.elim id fun e => by rw [e]; exact h⟩
  · rw [List.mem_append, List.mem_singleton]
theorem insS_len (ks : List Str) (p : Str) : (insS ks p).length ≤ ks.length + 1 := by
  unfold insS
  split
  · exact Nat.le_succ _
  · rw [List.length_append]; exact Nat.le_refl _
def seenA (ks : List Str) (as : List ((Str × Str) × Vl)) : List Str := as.foldl (fun (ks : List Str) (q : (Str × Str) × Vl) => if q.1.1 = ("" : Str) then ks else insS ks q.1.1) ks
def seenR (ks row : List Str) : List Str := row.foldl insS ks
theorem seenA_snoc (ks : List Str) (as : List ((Str × Str) × Vl)) (q : (Str × Str) × Vl) : seenA ks (as ++ [q]) = if q.1.1 = "" then seenA ks as else insS (seenA ks as) q.1.1 := by
  unfold seenA
  rw [List.foldl_append]
  rfl
theorem seenR_snoc (ks row : List Str) (p : Str) : seenR ks (row ++ [p]) = insS (seenR ks row) p := by
  unfold seenR
  rw [List.foldl_append]
  rfl
theorem seenA_is : ∀ (as : List ((Str × Str) × Vl)) (ks : List Str), ks.Nodup → (seenA ks as).Nodup ∧ (∀ y, y ∈ seenA ks as ↔ y ∈ ks ∨ ∃ q ∈ as, q.1.1 ≠ "" ∧ y = q.1.1) ∧ (seenA ks as).length ≤ ks.length + as.length
  | [], ks, h => ⟨h, fun y => ⟨.inl, fun z => z.elim id fun ⟨_, hq, _⟩ => nomatch hq⟩, Nat.le_refl _⟩
  | q :: as, ks, h => by
    have e : seenA ks (q :: as) = seenA (if q.1.1 = "" then ks else insS ks q.1.1) as := rfl
    rw [e]
    by_cases hq : q.1.1 = ""
    · rw [if_pos hq]
      obtain ⟨h1, h2, h3⟩ := seenA_is as ks h
      refine ⟨h1, fun y => (h2 y).trans ⟨fun z => z.imp id fun ⟨r, hr, z⟩ => ⟨r, List.mem_cons_of_mem _ hr, z⟩, fun z => z.imp id fun ⟨r, hr, z1, z2⟩ => ?_⟩, by rw [List.length_cons]; omega⟩
      rcases List.mem_cons.mp hr with rfl | hr
      · exact absurd hq z1
      · exact ⟨r, hr, z1, z2⟩
    · rw [if_neg hq]
      obtain ⟨h1, h2, h3⟩ := seenA_is as (insS ks q.1.1) (insS_nd h)
      have h4 := insS_len ks q.1.1
      refine ⟨h1, fun y => (h2 y).trans ⟨fun z => ?_, fun z => ?_⟩, by rw [List.length_cons]; omega⟩
      · rcases z with z | ⟨r, hr, z⟩
        · rcases insS_mem.mp z with z | z
          · exact .inl z
          · exact .inr ⟨q, List.mem_cons_self, hq, z⟩
        · exact .inr ⟨r, List.mem_cons_of_mem _ hr, z⟩
      · rcases z with z | ⟨r, hr, z1, z2⟩
        · exact .inl (insS_mem.mpr (.inl z))
        · rcases List.mem_cons.mp hr with rfl | hr
          · exact .inl (insS_mem.mpr (.inr z2))
          · exact .inr ⟨r, hr, z1, z2⟩
theorem seenR_is : ∀ (row ks : List Str), ks.Nodup → (seenR ks row).Nodup ∧ (∀ y, y ∈ seenR ks row ↔ y ∈ ks ∨ y ∈ row) ∧ (seenR ks row).length ≤ ks.length + row.length
  | [], ks, h => ⟨h, fun y => ⟨.inl, fun z => z.elim id fun hq => nomatch hq⟩, Nat.le_refl _⟩
  | p :: row, ks, h => by
    have e : seenR ks (p :: row) = seenR (insS ks p) row := rfl
    rw [e]
    obtain ⟨h1, h2, h3⟩ := seenR_is row (insS ks p) (insS_nd h)
    have h4 := insS_len ks p
    refine ⟨h1, fun y => (h2 y).trans ?_, by rw [List.length_cons]; omega⟩
    rw [insS_mem, List.mem_cons, or_assoc]
/-- the law's keys, sorted: what is visible -/
theorem law_seen (p : Str) (as : List ((Str × Str) × Vl)) (row : List Str) : srtD ((seenR (seenA [p] as) row).map D.str) = srtS (seenL p as ++ row) ∧ (seenR (seenA [p] as) row).length ≤ 1 + as.length + row.length := by
  obtain ⟨a1, a2, a3⟩ := seenA_is as [p] (by simp)
  obtain ⟨b1, b2, b3⟩ := seenR_is row (seenA [p] as) a1
  refine ⟨srtS_of b1 fun y => ?_, by simp at a3; omega⟩
  rw [b2, a2, List.mem_append]
  unfold seenL
  rw [List.mem_append]
  refine or_congr (or_congr Iff.rfl ?_) Iff.rfl
  constructor
  · rintro ⟨q, hq, h1, rfl⟩
    refine List.mem_map.mpr ⟨q, List.mem_filter.mpr ⟨hq, ?_⟩, rfl⟩
    show (!decide (q.1.1 = ("" : Str))) = true
    rw [decide_eq_false h1]; rfl
  · intro z
    obtain ⟨q, hq, rfl⟩ := List.mem_map.mp z
    obtain ⟨h1, h2⟩ := List.mem_filter.mp hq
    refine ⟨q, h1, fun z => ?_, rfl⟩
    rw [z] at h2
    exact nomatch (show (!decide (("" : Str) = "")) = true from h2)
section
variable {P : Program} {w : World} {K : PySem.W.Frag} {mg : Str → Option Value} {base : Heap} {Z : Vol} {f : Addr} {fd : FuncData}
/-! ### _law_bound -/
noncomputable def gLB : List D → Option Res := gT (fun x : List (Str × Str) × Bd => [.tup (x.1.map dclD), suD x.2]) (fun x => x.1.length + x.2.length ≤ 1000000) fun x => .od (.k (suK (bnd x.1 x.2)))
theorem lb_inj (x y : List (Str × Str) × Bd) (h : ([.tup (x.1.map dclD), suD x.2] : List D) = [.tup (y.1.map dclD), suD y.2]) : x = y := by
  injection h with h1 h
  injection h with h2 _
  injection h1 with h1
  exact Prod.ext (map_inj dclD_inj _ _ h1) (su_inj _ _ h2)
theorem gLB_of {ds : List (Str × Str)} {m : Bd} (h : ds.length + m.length ≤ 1000000) : gLB [.tup (ds.map dclD), suD m] = some (.od (.k (suK (bnd ds m)))) := gT_of (enc := fun x : List (Str × Str) × Bd => [.tup (x.1.map dclD), suD x.2]) (x := (ds, m)) lb_inj h
abbrev DLB (P : Program) (w : World) (K : PySem.W.Frag) (mg : Str → Option Value) (base : Heap) (Z : Vol) := Df P w K mg base "_law_bound" 1 ["declarations", "outside"] (spP Z K 2 gLB)
abbrev sLB : Stmt := st__law_bound
abbrev nmLB : List Str := ["declarations", "outside", "found", "prefix", "address"]
theorem ok_lb (F : Fun K "_law_bound" "_law_bound" sLB f fd) (T : Cst mg) (kc : KC K) : FnOk P w K mg base CX0 1 f fd ["declarations", "outside"] (spP Z K 2 gLB) := by
  have sc : FnScope nmLB ["declarations", "outside"] (defScope sLB) := ⟨rfl, rfl, rfl, by decide +kernel, rfl, by decide +kernel, by decide +kernel⟩
  refine fn_pure F sc rfl (gT_out fun x hx => rfl) fun cdv A outer s H E b ds r hr hl hg => ?_
  obtain ⟨⟨ds, m⟩, rfl, hlen, rfl⟩ := gT_one hg
  have hlen : ds.length + m.length ≤ 1000000 := hlen
  have b0 := T.blt (cxOf CX0 P w K mg base nmLB "_law_bound" (defScope sLB) f cdv A outer s H E).nox rfl
  refine sv_set 2 (ev_dcopy b0 (ev_var 1 rfl ⟨suK m, rfl, _, rfl, ?_⟩)) sc.nd
  refine sv_forT dclD dclD_inj (.tp [.nm 3, .nm 4]) rfl PassesOwn.never (pg_tup rfl (pgs_cons (pg_name (i := 3) sc.nd rfl (Or.inl rfl)) (pgs_cons (pg_name (i := 4) sc.nd rfl (Or.inl rfl)) pgs_nil)))
    (ei_tup (ev_var 0 rfl ⟨ds.map dclD, rfl, ds, rfl, fun pre b2 δ2 => b2 = b ∧ ∃ s3 s4, δ2 = [.va (.tup (ds.map dclD)), .va (suD m), .od (.k (suK (bnd pre m))), s3, s4], ⟨rfl, _, _, rfl⟩, ?_, ?_⟩))
  · rintro pre q post b2 δ2 e ⟨rfl, s3, s4, rfl⟩
    refine ⟨_, rfl, ?_⟩
    refine sv_dput kc (hu_of hr) 2 (ev_var 4 rfl (ev_var 3 rfl ⟨_, _, rfl, rfl, .inl ⟨_, kS q.1, rfl, rfl, ?_, sv_nil ⟨rfl, .va (.str q.1), .va (.str q.2), ?_⟩⟩⟩))
    · have h1 := bnd_len pre m
      have h2 := congrArg List.length e
      rw [List.length_append, List.length_cons] at h2
      unfold suK
      rw [List.length_map]
      omega
    · rw [bnd_snoc, ← suK_put]
      rfl
  · rintro b2 δ2 ⟨rfl, s3, s4, rfl⟩
    exact sv_retD 2 rfl ⟨rfl, rfl, rfl⟩
/-! ### _law_seen -/
structure LsnOk (q : Nd × List Str) : Prop where
  el : q.1.isEl = true
  ok : q.1.ok = true
  len : q.2.length ≤ 50
noncomputable def gLsn : List D → Option Res := gT (fun q : Nd × List Str => [q.1.d, .tup (q.2.map D.str)]) LsnOk fun q => .ow (visL q.1 q.2)
theorem lsn_inj (x y : Nd × List Str) (h : ([x.1.d, .tup (x.2.map D.str)] : List D) = [y.1.d, .tup (y.2.map D.str)]) : x = y := by
  injection h with h1 h
  injection h with h2 _
  injection h2 with h2
  exact Prod.ext (nd_inj _ _ h1) (map_inj str_inj _ _ h2)
theorem gLsn_of {x : Nd} {row : List Str} (h : LsnOk (x, row)) : gLsn [x.d, .tup (row.map D.str)] = some (.ow (visL x row)) := gT_of (enc := fun q : Nd × List Str => [q.1.d, .tup (q.2.map D.str)]) (x := (x, row)) lsn_inj h
abbrev DLsn (P : Program) (w : World) (K : PySem.W.Frag) (mg : Str → Option Value) (base : Heap) (Z : Vol) := Df P w K mg base "_law_seen" 1 ["one", "row"] (spP Z K 2 gLsn)
abbrev sLsn : Stmt := st__law_seen
abbrev nmLsn : List Str := ["one", "row", "found", "prefix", "local", "value"]
theorem ok_lsn (F : Fun K "_law_seen" "_law_seen" sLsn f fd) (T : Cst mg) (kc : KC K) : FnOk P w K mg base CX0 1 f fd ["one", "row"] (spP Z K 2 gLsn) := by
  have sc : FnScope nmLsn ["one", "row"] (defScope sLsn) := ⟨rfl, rfl, rfl, by decide +kernel, rfl, by decide +kernel, by decide +kernel⟩
  refine fn_pure F sc rfl (gT_out fun x hx => rfl) fun cdv A outer s H E b ds r hr hl hg => ?_
  obtain ⟨⟨x, row⟩, rfl, ⟨hel, hok, hlen⟩, rfl⟩ := gT_one hg
  have hel : x.isEl = true := hel
  have hok : x.ok = true := hok
  have hlen : row.length ≤ 50 := hlen
  have b0 := T.blt (cxOf CX0 P w K mg base nmLsn "_law_seen" (defScope sLsn) f cdv A outer s H E).nox rfl
  obtain ⟨p, lo, de, as, cs, rfl⟩ := el_of hel
  have ho := ok_el.mp hok
  have ha4 := ho.na
  have hzd : (Nd.el p lo de as cs).d = .tup [.str "element", nmD p lo, .tup (de.map dclD), .tup (as.map atrD), .tup (ndsD cs)] := by rw [Nd.d]
  refine sv_set 2 (ev_disp1 (ev_ix (ev_ix (ev_var 0 rfl (ev_int ⟨[.str "element", nmD p lo, .tup (de.map dclD), .tup (as.map atrD), .tup (ndsD cs)], _, _, .inl (by rw [hzd]), rfl, at1, ev_int ⟨[.str p, .str lo], _, _, .inl rfl, rfl, at0, ev_bl ⟨kS p, _, rfl, rfl, _, rfl, ?_⟩⟩⟩))))) sc.nd
  refine sv_forT atrD atrD_inj (.tp [.tp [.nm 3, .nm 4], .nm 5]) rfl PassesOwn.never (pg_tup rfl (pgs_cons (pg_tup rfl (pgs_cons (pg_name (i := 3) sc.nd rfl (Or.inl rfl)) (pgs_cons (pg_name (i := 4) sc.nd rfl (Or.inl rfl)) pgs_nil))) (pgs_cons (pg_name (i := 5) sc.nd rfl (Or.inl rfl)) pgs_nil)))
    (ei_tup (ev_ix (ev_var 0 rfl (ev_int ⟨[.str "element", nmD p lo, .tup (de.map dclD), .tup (as.map atrD), .tup (ndsD cs)], _, _, .inl (by rw [hzd]), rfl, atN (j := 3) rfl, as.map atrD, rfl, as, rfl, fun pre b2 δ2 => b2 = b ∧ ∃ s3 s4 s5, δ2 = [.va (Nd.el p lo de as cs).d, .va (.tup (row.map D.str)), .od (.k (tk (seenA [p] pre))), s3, s4, s5], ⟨rfl, _, _, _, rfl⟩, ?_, ?_⟩))))
  · rintro pre q post b2 δ2 e ⟨rfl, s3, s4, s5, rfl⟩
    refine ⟨_, rfl, ?_⟩
    refine sv_if (et_ne (ev_var 3 rfl (ev_str ⟨_, _, _, rfl, rfl, str_sc _ _, ?_⟩)))
    by_cases hq : q.1.1 = ""
    · rw [decide_eq_true hq]
      refine sv_nil (sv_nil ⟨rfl, .va (.str q.1.1), .va (.str q.1.2), .va q.2.d, ?_⟩)
      rw [seenA_snoc, if_pos hq]
      rfl
    · rw [decide_eq_false hq]
      refine sv_dput kc (hu_of hr) 2 (ev_bl (ev_var 3 rfl ⟨_, _, rfl, rfl, .inl ⟨_, kS q.1.1, rfl, rfl, ?_, sv_nil (sv_nil ⟨rfl, .va (.str q.1.1), .va (.str q.1.2), .va q.2.d, ?_⟩)⟩⟩))
      · have h1 := (seenA_is pre [p] (by simp)).2.2
        have h2 := congrArg List.length e
        rw [List.length_append, List.length_cons] at h2
        unfold tk
        rw [List.length_map]
        simp at h1
        omega
      · rw [seenA_snoc, if_neg hq, ← tk_put]
        rfl
  · rintro b2 δ2 ⟨rfl, s3, s4, s5, rfl⟩
    refine sv_forT D.str str_inj (.nm 3) rfl PassesOwn.never (pg_name (i := 3) sc.nd rfl (Or.inl rfl))
      (ei_tup (ev_var 1 rfl ⟨row.map D.str, rfl, row, rfl, fun pre b3 δ3 => b3 = b2 ∧ ∃ s3 s4 s5, δ3 = [.va (Nd.el p lo de as cs).d, .va (.tup (row.map D.str)), .od (.k (tk (seenR (seenA [p] as) pre))), s3, s4, s5], ⟨rfl, _, _, _, rfl⟩, ?_, ?_⟩))
    · rintro pre y post b3 δ3 e ⟨rfl, s3, s4, s5, rfl⟩
      refine ⟨_, rfl, ?_⟩
      refine sv_dput kc (hu_of hr) 2 (ev_bl (ev_var 3 rfl ⟨_, _, rfl, rfl, .inl ⟨_, kS y, rfl, rfl, ?_, sv_nil ⟨rfl, .va (.str y), s4, s5, ?_⟩⟩⟩))
      · have h1 := (seenA_is as [p] (by simp))
        have h3 := (seenR_is pre (seenA [p] as) h1.1).2.2
        have h2 := congrArg List.length e
        rw [List.length_append, List.length_cons] at h2
        unfold tk
        rw [List.length_map]
        have h4 := h1.2.2
        simp at h4
        omega
      · rw [seenR_snoc, ← tk_put]
        rfl
    · rintro b3 δ3 ⟨rfl, s3, s4, s5, rfl⟩
      obtain ⟨l1, l2⟩ := law_seen p as row
      refine sv_ret (ev_sortDk b0 rfl (ev_varD 2 rfl ⟨tk (seenR (seenA [p] as) row), seenR (seenA [p] as) row, rfl, by unfold tk; rw [List.map_map]; rfl, by omega, rfl, rfl, ?_⟩))
      rw [l1]
      rfl
end
end G
set_option Elab.async false
set_option linter.all false
set_option maxRecDepth 100000
set_option maxHeartbeats 4000000
namespace G
open PySem PySem.Spec PyProof.Rows L2 PD
theorem noH_isT {c : Nd} (h : noH c = true) : c.d.isT = c.isEl := by
  cases c with
  | s x => rw [Nd.d]; rfl
  | h x => rw [noH] at h; cases h
  | el p l ds as cs => rw [Nd.d]; rfl
section
variable {P : Program} {w : World} {K : PySem.W.Frag} {mg : Str → Option Value} {base : Heap} {Z : Vol} {f : Addr} {fd : FuncData}
/-! ### _law_seal -/
structure LslOk (n : Nat) (q : ((Nd × Bd) × Bd) × List Str) : Prop where
  el : q.1.1.1.isEl = true
  ok : q.1.1.1.ok = true
  h : noH q.1.1.1 = true
  dep : q.1.1.1.dep ≤ n
  B : q.1.1.2.length + 50 * q.1.1.1.dep ≤ 100000
  t : q.1.2.length + 100 * q.1.1.1.dep ≤ 100000
  len : q.2.length ≤ 50
noncomputable def gLsl (n : Nat) : List D → Option Res := gT (fun q : ((Nd × Bd) × Bd) × List Str => [q.1.1.1.d, suD q.1.1.2, suD q.1.2, .tup (q.2.map D.str)]) (LslOk n) fun q => .va (sealN q.2 (getB q.1.1.2) q.1.2 q.1.1.1).d
theorem lsl_inj (x y : ((Nd × Bd) × Bd) × List Str) (h : ([x.1.1.1.d, suD x.1.1.2, suD x.1.2, .tup (x.2.map D.str)] : List D) = [y.1.1.1.d, suD y.1.1.2, suD y.1.2, .tup (y.2.map D.str)]) : x = y := by
  injection h with h1 h
  injection h with h2 h
  injection h with h3 h
  injection h with h4 _
  injection h4 with h4
  exact Prod.ext (Prod.ext (Prod.ext (nd_inj _ _ h1) (su_inj _ _ h2)) (su_inj _ _ h3)) (map_inj str_inj _ _ h4)
theorem gLsl_of {n : Nat} {x : Nd} {B t : Bd} {row : List Str} (h : LslOk n (((x, B), t), row)) : gLsl n [x.d, suD B, suD t, .tup (row.map D.str)] = some (.va (sealN row (getB B) t x).d) := gT_of (enc := fun q : ((Nd × Bd) × Bd) × List Str => [q.1.1.1.d, suD q.1.1.2, suD q.1.2, .tup (q.2.map D.str)]) (x := (((x, B), t), row)) lsl_inj h
abbrev DLsl (P : Program) (w : World) (K : PySem.W.Frag) (mg : Str → Option Value) (base : Heap) (Z : Vol) (n : Nat) := Df P w K mg base "_law_seal" (2 + n) ["one", "outside", "last", "row"] (spP Z K 4 (gLsl n))
abbrev sLsl : Stmt := st__law_seal
abbrev nmLsl : List Str := ["one", "outside", "last", "row", "word", "name", "declarations", "attributes", "inside", "bound", "own", "prefix", "address", "child"]
theorem lsl_step {n : Nat} (F : Fun K "_law_seal" "_law_seal" sLsl f fd) (T : Cst mg) (kc : KC K) (D1 : DLB P w K mg base Z) (D2 : DLsn P w K mg base Z) (D3 : n ≠ 0 → DLsl P w K mg base Z n) : FnOk P w K mg base CX0 (2 + (n + 1)) f fd ["one", "outside", "last", "row"] (spP Z K 4 (gLsl (n + 1))) := by
  have sc : FnScope nmLsl ["one", "outside", "last", "row"] (defScope sLsl) := ⟨rfl, rfl, rfl, by decide +kernel, rfl, by decide +kernel, by decide +kernel⟩
  rw [show 2 + (n + 1) = (2 + n) + 1 by omega]
  refine fn_pure F sc rfl (gT_out fun x hx => rfl) fun cdv A outer s H E b ds r hr hl hg => ?_
  obtain ⟨⟨⟨⟨x, B⟩, t⟩, row⟩, rfl, ⟨hel, hok, hnh, hdep, hB, ht, hrow⟩, rfl⟩ := gT_one hg
  have hel : x.isEl = true := hel
  have hok : x.ok = true := hok
  have hnh : noH x = true := hnh
  have hdep : x.dep ≤ n + 1 := hdep
  have hB : B.length + 50 * x.dep ≤ 100000 := hB
  have ht : t.length + 100 * x.dep ≤ 100000 := ht
  have hrow : row.length ≤ 50 := hrow
  have b0 := T.blt (cxOf CX0 P w K mg base nmLsl "_law_seal" (defScope sLsl) f cdv A outer s H E).nox rfl
  obtain ⟨p, lo, de, as, cs, rfl⟩ := el_of hel
  have ho := ok_el.mp hok
  have ha4 := ho.na
  have hd4 := ho.nd
  rw [Nd.dep] at hdep hB ht
  rw [noH] at hnh
  have hzd : (Nd.el p lo de as cs).d = .tup [.str "element", nmD p lo, .tup (de.map dclD), .tup (as.map atrD), .tup (ndsD cs)] := by rw [Nd.d]
  have bl := bnd_len de B
  refine sv_unpack (.tp [.nm 4, .nm 5, .nm 6, .nm 7, .nm 8]) (pg_tup rfl (pgs_cons (pg_name (i := 4) sc.nd rfl (Or.inl rfl)) (pgs_cons (pg_name (i := 5) sc.nd rfl (Or.inl rfl)) (pgs_cons (pg_name (i := 6) sc.nd rfl (Or.inl rfl)) (pgs_cons (pg_name (i := 7) sc.nd rfl (Or.inl rfl)) (pgs_cons (pg_name (i := 8) sc.nd rfl (Or.inl rfl)) pgs_nil)))))) (ev_var 0 rfl ⟨(Nd.el p lo de as cs).d, [.va (Nd.el p lo de as cs).d, .va (suD B), .va (suD t), .va (.tup (row.map D.str)), .va (.str "element"), .va (nmD p lo), .va (.tup (de.map dclD)), .va (.tup (as.map atrD)), .va (.tup (ndsD cs)), .un, .un, .un, .un, .un], rfl, by rw [hzd]; rfl, ?_⟩)
  refine sv_set3T 9 2 10 (by decide) (by decide) (by decide) (pg_tup rfl (pgs_cons (pg_name (i := 9) sc.nd rfl (by first | exact Or.inl rfl | exact Or.inr rfl)) (pgs_cons (pg_name (i := 2) sc.nd rfl (by first | exact Or.inl rfl | exact Or.inr rfl)) (pgs_cons (pg_name (i := 10) sc.nd rfl (by first | exact Or.inl rfl | exact Or.inr rfl)) pgs_nil)))) (eva_cons (ev_frzD (ev_callP D1 (hr.mono (by omega)) (eva_cons (ev_var 6 rfl (eva_cons (ev_var 1 rfl (eva_nil ⟨_, _, rfl, rfl, gLB_of (by omega), _, rfl, ?_⟩))))))))
  refine eva_cons (ev_dcopy b0 (ev_var 2 rfl ⟨suK t, rfl, eva_cons (ev_lst (eva_nil ⟨[], rfl, by decide, eva_nil ⟨suD (bnd de B), .k (suK t), [], rfl, ?_⟩⟩))⟩))
  generalize hA : getB (bnd de B) = A
  have hA2 : A = bndA de (getB B) := by rw [← hA, bndA_get]
  obtain ⟨v1, v2, v3⟩ := visE_is p as row
  have vlen := visE_len p as row
  refine sv_forT D.str str_inj (.nm 11) rfl PassesOwn.never (pg_name (i := 11) sc.nd rfl (by first | exact Or.inl rfl | exact Or.inr rfl))
    (ei_list (ev_callP D2 (hr.mono (by omega)) (eva_cons (ev_var 0 rfl (eva_cons (ev_var 3 rfl (eva_nil ⟨[(Nd.el p lo de as cs).d, .tup (row.map D.str)], _, rfl, rfl, gLsn_of ⟨hel, hok, hrow⟩, _, .inl rfl, visE p as row, v1, ?_⟩)))))))
  refine ⟨fun pre b3 δ3 => b3 = b ∧ pre.length ≤ 200 ∧ ∃ s11 s12, δ3 = [.va (Nd.el p lo de as cs).d, .va (suD B), .od (.k (suK (slf A t pre).2)), .va (.tup (row.map D.str)), .va (.str "element"), .va (nmD p lo), .va (.tup (de.map dclD)), .va (.tup (as.map atrD)), .va (.tup (ndsD cs)), .va (suD (bnd de B)), .ow ((slf A t pre).1.map dclD), s11, s12, .un], ⟨rfl, by simp, _, _, rfl⟩, ?_, ?_⟩
  · rintro pre q post b3 δ3 e3 ⟨rfl, hpl, s11, s12, rfl⟩
    have hpl2 : (pre ++ [q]).length ≤ 200 := by
      have := congrArg List.length e3
      rw [List.length_append, List.length_cons] at this
      rw [List.length_append, List.length_cons, List.length_nil]
      omega
    obtain ⟨sl1, sl2⟩ := slf_len A t pre
    refine ⟨_, rfl, ?_⟩
    refine sv_set 12 (ev_getd kc (hu_of hr) (ev_var 9 rfl ⟨rfl, ev_var 11 rfl (ev_str ⟨_, _, _, rfl, rfl, Ask.str, .va (.str (A q)), ?_, ?_⟩)⟩)) sc.nd
    · rw [← hA]
      exact congrArg (fun z => some (Sl.va z)) (suK_get _ _)
    · refine sv_if (et_ne (ev_getd kc (hu_of hr) (ev_varD 2 rfl ⟨rfl, ev_var 11 rfl (ev_str ⟨_, _, _, rfl, rfl, Ask.strR, ev_var 12 rfl ⟨.str (getB (slf A t pre).2 q), .str (A q), decide (getB (slf A t pre).2 q = A q), congrArg Res.va (suK_get _ _), rfl, rfl, ?_⟩⟩)⟩)))
      by_cases hq : A q = getB (slf A t pre).2 q
      · rw [decide_eq_true hq.symm]
        refine sv_nil (sv_nil ⟨rfl, hpl2, .va (.str q), .va (.str (A q)), ?_⟩)
        have es : slf A t (pre ++ [q]) = slf A t pre := by rw [slf_snoc]; unfold stp; rw [if_pos hq]
        rw [es]
        rfl
      · rw [decide_eq_false fun z => hq z.symm]
        have es : slf A t (pre ++ [q]) = ((slf A t pre).1 ++ [(q, A q)], putB (slf A t pre).2 q (A q)) := by rw [slf_snoc]; unfold stp; rw [if_neg hq]
        refine sv_append 10 rfl (ev_tup (eva_cons (ev_var 11 rfl (eva_cons (ev_var 12 rfl (eva_nil ⟨[.str q, .str (A q)], rfl, by simp, _, _, rfl, rfl, ?_, ?_⟩))))))
        · rw [List.length_map]; omega
        · refine sv_dput kc (hu_of hr) 2 (ev_var 12 rfl (ev_var 11 rfl ⟨_, _, rfl, rfl, .inl ⟨_, kS q, rfl, rfl, ?_, sv_nil (sv_nil ⟨rfl, hpl2, .va (.str q), .va (.str (A q)), ?_⟩)⟩⟩))
          · unfold suK
            rw [List.length_map]
            omega
          · rw [suK_put, es, List.map_append]
            rfl
  · rintro b3 δ3 ⟨rfl, hpl, s11, s12, rfl⟩
    refine sv_frzD 2 rfl ?_
    refine sv_setLc 8 (.nm 13) [("child", 13)] rfl sc.nd (blkOk_by (N := nmLsl) (sc := defScope sLsl) (by decide +kernel)) (fun _ _ _ _ _ => pg_name (i := 13) sc.nd rfl (by first | exact Or.inl rfl | exact Or.inr rfl)) (by simp [Pat.slots, slotsAll])
      (lc_mapT Nd.d (.nm 13) [("child", 13)] (fun c => (sealN row A (slf A t (visE p as row)).2 c).d) (EI.c (ei_tup (ev_var 8 rfl ⟨ndsD cs, rfl, cs, ndsD_map cs, Nat.le_trans ho.nc (by decide), fun c hc => ⟨_, rfl, fun s H Cc cl fp => ?_⟩, _, rfl, ?_⟩))))
    · have hcn := noHs_mem hnh c hc
      have hcd := dep_mem hc
      refine ev_if (et_val (ev_isi (t := "tuple") (T.blt _ rfl) (T.blt _ rfl).tuple (by decide +kernel) (ev_var 13 rfl ⟨_, isi_t _, _, rfl, ?_⟩)))
      rw [noH_isT hcn]
      cases hce : c.isEl with
      | true =>
        have hn : n ≠ 0 := fun z => by
          obtain ⟨_, _, _, _, _, e⟩ := el_of hce
          rw [e, Nd.dep] at hcd
          omega
        obtain ⟨sl1, sl2⟩ := slf_len A t (visE p as row)
        refine ev_callP (D3 hn) hr (eva_cons (ev_var 13 rfl (eva_cons (ev_var 9 rfl (eva_cons (ev_var 2 rfl (eva_cons (ev_var 3 rfl (eva_nil ⟨[c.d, suD (bnd de B), suD (slf A t (visE p as row)).2, .tup (row.map D.str)], _, rfl, rfl, gLsl_of ⟨hce, ho.hc c hc, hcn, ?_, ?_, ?_, hrow⟩, rfl, ?_⟩)))))))))
        · show c.dep ≤ n
          omega
        · show (bnd de B).length + 50 * c.dep ≤ 100000
          omega
        · show (slf A t (visE p as row)).2.length + 100 * c.dep ≤ 100000
          omega
        · show Res.va (sealN row (getB (bnd de B)) _ c).d = _
          rw [hA]
      | false =>
        refine ev_var 13 rfl ⟨rfl, ?_⟩
        cases c with
        | el _ _ _ _ _ => cases hce
        | s _ => rw [sealN]
        | h _ => rw [sealN]
    · refine sv_ret (ev_tup (eva_cons (ev_var 4 rfl (eva_cons (ev_var 5 rfl (eva_cons (ev_tuple b0 (ev_varO 10 rfl ⟨_, rfl, eva_cons (ev_var 7 rfl (eva_cons (ev_tuple b0 (ev_varO 8 rfl ⟨_, rfl, eva_nil ⟨_, rfl, by simp, rfl, rfl, ?_⟩⟩))))⟩))))))))
      show Res.va _ = .va (sealN row (getB B) t (.el p lo de as cs)).d
      rw [sealN, Nd.d, sealNs_map, ndsD_map, List.map_map, ← hA2]
      rfl
theorem lsl_all (F : Fun K "_law_seal" "_law_seal" sLsl f fd) (hm : mg "_law_seal" = some (.ref f)) (hb : Binds K fd ["one", "outside", "last", "row"] []) (T : Cst mg) (kc : KC K) (D1 : DLB P w K mg base Z) (D2 : DLsn P w K mg base Z) : ∀ n, DLsl P w K mg base Z (n + 1)
  | 0 => Df.of F (lsl_step F T kc D1 D2 fun z => absurd rfl z) hm hb
  | n + 1 => Df.of F (lsl_step F T kc D1 D2 fun _ => lsl_all F hm hb T kc D1 D2 n) hm hb
/-! ### _law_plainer -/
structure LplOk (n : Nat) (x : Nd) : Prop where
  el : x.isEl = true
  ok : x.ok = true
  h : noH x = true
  dep : x.dep ≤ n
noncomputable def gLpl (n : Nat) : List D → Option Res := gT (fun x : Nd => [x.d]) (LplOk n) fun x => .va (plainN x).d
theorem gLpl_of {n : Nat} {x : Nd} (h : LplOk n x) : gLpl n [x.d] = some (.va (plainN x).d) := gT_of (enc := fun x : Nd => [x.d]) one_inj h
abbrev DLpl (P : Program) (w : World) (K : PySem.W.Frag) (mg : Str → Option Value) (base : Heap) (Z : Vol) (n : Nat) := Df P w K mg base "_law_plainer" (1 + n) ["part"] (spP Z K 1 (gLpl n))
abbrev sLpl : Stmt := st__law_plainer
abbrev nmLpl : List Str := ["part", "attributes", "inside", "name", "value", "child"]
theorem lpl_step {n : Nat} (F : Fun K "_law_plainer" "_law_plainer" sLpl f fd) (T : Cst mg) (D3 : n ≠ 0 → DLpl P w K mg base Z n) : FnOk P w K mg base CX0 (1 + (n + 1)) f fd ["part"] (spP Z K 1 (gLpl (n + 1))) := by
  have sc : FnScope nmLpl ["part"] (defScope sLpl) := ⟨rfl, rfl, rfl, by decide +kernel, rfl, by decide +kernel, by decide +kernel⟩
  rw [show 1 + (n + 1) = (1 + n) + 1 by omega]
  refine fn_pure F sc rfl (gT_out fun x hx => rfl) fun cdv A outer s H E b ds r hr hl hg => ?_
  obtain ⟨x, rfl, ⟨hel, hok, hnh, hdep⟩, rfl⟩ := gT_one hg
  have b0 := T.blt (cxOf CX0 P w K mg base nmLpl "_law_plainer" (defScope sLpl) f cdv A outer s H E).nox rfl
  obtain ⟨p, lo, de, as, cs, rfl⟩ := el_of hel
  have ho := ok_el.mp hok
  have ha4 := ho.na
  rw [Nd.dep] at hdep
  rw [noH] at hnh
  have hzd : (Nd.el p lo de as cs).d = .tup [.str "element", nmD p lo, .tup (de.map dclD), .tup (as.map atrD), .tup (ndsD cs)] := by rw [Nd.d]
  refine sv_set 1 (ev_tuple b0 (ev_mapT atrD atrD_inj (.tp [.nm 3, .nm 4]) [("name", 3), ("value", 4)] (fun q => atrD (q.1, plainV q.2)) rfl sc.nd (blkOk_by (N := nmLpl) (sc := defScope sLpl) (by decide +kernel)) (fun _ _ _ _ _ => pg_tup rfl (pgs_cons (pg_name (i := 3) sc.nd rfl (by first | exact Or.inl rfl | exact Or.inr rfl)) (pgs_cons (pg_name (i := 4) sc.nd rfl (by first | exact Or.inl rfl | exact Or.inr rfl)) pgs_nil))) (by simp [Pat.slots, slotsAll])
    (EI.c (ei_tup (ev_ix (ev_var 0 rfl (ev_int ⟨[.str "element", nmD p lo, .tup (de.map dclD), .tup (as.map atrD), .tup (ndsD cs)], _, _, .inl (by rw [hzd]), rfl, atN (j := 3) rfl, as.map atrD, rfl, as, rfl, Nat.le_trans ha4 (by decide), fun q hq => ⟨_, rfl, fun s H Cc cl fp => ?_⟩, _, rfl, _, rfl, ?_⟩))))))) sc.nd
  · refine ev_tup (eva_cons (ev_var 3 rfl (eva_cons (ev_if (et_val (ev_isi (t := "tuple") (T.blt _ rfl) (T.blt _ rfl).tuple (by decide +kernel) (ev_var 4 rfl ⟨_, isi_t _, _, rfl, ?_⟩)))))))
    obtain ⟨nm, v⟩ := q
    cases v with
    | s z => exact ev_var 4 rfl (eva_nil ⟨_, rfl, by simp, rfl, rfl⟩)
    | q a c => exact ev_str (eva_nil ⟨_, rfl, by simp, rfl, rfl⟩)
  · refine sv_set 2 (ev_tuple b0 (ev_mapT Nd.d nd_inj (.nm 5) [("child", 5)] (fun c => (plainN c).d) rfl sc.nd (blkOk_by (N := nmLpl) (sc := defScope sLpl) (by decide +kernel)) (fun _ _ _ _ _ => pg_name (i := 5) sc.nd rfl (by first | exact Or.inl rfl | exact Or.inr rfl)) (by simp [Pat.slots])
      (EI.c (ei_tup (ev_ix (ev_var 0 rfl (ev_int ⟨[.str "element", nmD p lo, .tup (de.map dclD), .tup (as.map atrD), .tup (ndsD cs)], _, _, .inl (by rw [hzd]), rfl, atN (j := 4) rfl, ndsD cs, rfl, cs, ndsD_map cs, Nat.le_trans ho.nc (by decide), fun c hc => ⟨_, rfl, fun s H Cc cl fp => ?_⟩, _, rfl, _, rfl, ?_⟩))))))) sc.nd
    · have hcn := noHs_mem hnh c hc
      have hcd := dep_mem hc
      refine ev_if (et_val (ev_isi (t := "tuple") (T.blt _ rfl) (T.blt _ rfl).tuple (by decide +kernel) (ev_var 5 rfl ⟨_, isi_t _, _, rfl, ?_⟩)))
      rw [noH_isT hcn]
      cases hce : c.isEl with
      | true =>
        have hn : n ≠ 0 := fun z => by
          obtain ⟨_, _, _, _, _, e⟩ := el_of hce
          rw [e, Nd.dep] at hcd
          omega
        exact ev_callP (D3 hn) hr (eva_cons (ev_var 5 rfl (eva_nil ⟨[c.d], _, rfl, rfl, gLpl_of ⟨hce, ho.hc c hc, hcn, by omega⟩, rfl, rfl⟩)))
      | false =>
        refine ev_var 5 rfl ⟨rfl, ?_⟩
        cases c with
        | el _ _ _ _ _ => cases hce
        | s _ => rw [plainN]
        | h _ => rw [plainN]
    · refine sv_ret (ev_cat (ev_slTh (ev_var 0 rfl (ev_int ⟨[.str "element", nmD p lo, .tup (de.map dclD), .tup (as.map atrD), .tup (ndsD cs)], 3, by rw [hzd], rfl, ev_tup (eva_cons (ev_var 1 rfl (eva_cons (ev_var 2 rfl (eva_nil ⟨_, rfl, by simp, _, _, rfl, rfl, ?_, rfl, rfl, ?_⟩)))))⟩))))
      · exact Nat.le_of_ble_eq_true rfl
      · show Res.va _ = .va (plainN (.el p lo de as cs)).d
        rw [plainN, Nd.d, plainNs_map, ndsD_map (cs.map plainN), List.map_map]
        unfold plainA
        rw [List.map_map]
        rfl
theorem lpl_all (F : Fun K "_law_plainer" "_law_plainer" sLpl f fd) (hm : mg "_law_plainer" = some (.ref f)) (hb : Binds K fd ["part"] []) (T : Cst mg) : ∀ n, DLpl P w K mg base Z (n + 1)
  | 0 => Df.of F (lpl_step F T fun z => absurd rfl z) hm hb
  | n + 1 => Df.of F (lpl_step F T fun _ => lpl_all F hm hb T n) hm hb
end
end G
set_option Elab.async false
set_option linter.all false
set_option maxRecDepth 100000
set_option maxHeartbeats 4000000
/-! What the law makes is a part. -/
namespace G
open PySem PD L2
theorem nodupB_of {α : Type} [DecidableEq α] : ∀ {xs : List α}, xs.Nodup → nodupB xs = true
  | [], _ => rfl
  | x :: xs, h => by
    obtain ⟨h1, h2⟩ := List.nodup_cons.mp h
    show (!decide (x ∈ xs) && nodupB xs) = true
    rw [nodupB_of h2, decide_eq_false h1]
    rfl
theorem nodupB_one {xs : List Str} (h : xs.length ≤ 1) : nodupB xs = true := by
  match xs, h with
  | [], _ => rfl
  | [x], _ => rfl
  | _ :: _ :: _, h => simp at h
/-! ### names, values by names -/
/-! ### elements -/
theorem isS_isT (x : Nd) : x.d.isS = x.isT := by
  cases x <;> (rw [Nd.d]; rfl)
/-! ### along its elements -/
theorem wks_len (B : Nat) (m : Bd) : ∀ (cs : List Nd) (p : List Nat) (k : Nat), (∀ c ∈ cs, ∀ p, (wk p m c).length ≤ B) → (wks p k m cs).length ≤ cs.length * B
  | [], p, k, _ => by rw [wks]; simp
  | c :: cs, p, k, h => by
    rw [wks, List.length_append, List.length_cons, Nat.succ_mul]
    have h1 := h c List.mem_cons_self (p ++ [k])
    have h2 := wks_len B m cs p (k + 1) fun d hd => h d (List.mem_cons_of_mem _ hd)
    omega
theorem wks_mem {m : Bd} {r : Rw3} : ∀ (cs : List Nd) (p : List Nat) (k : Nat), r ∈ wks p k m cs → ∃ c ∈ cs, ∃ j, r ∈ wk (p ++ [j]) m c
  | [], p, k, h => by rw [wks] at h; cases h
  | c :: cs, p, k, h => by
    rw [wks] at h
    rcases List.mem_append.mp h with h | h
    · exact ⟨c, List.mem_cons_self, k, h⟩
    · obtain ⟨d, hd, j, hj⟩ := wks_mem cs p (k + 1) h
      exact ⟨d, List.mem_cons_of_mem _ hd, j, hj⟩
def Nd.isH : Nd → Bool
  | .h _ => true
  | _ => false
/-- the holes among its children -/
def ownH : Nd → Nat
  | .el _ _ _ _ cs => (cs.filter Nd.isH).length
  | _ => 0
mutual
theorem holes_wk : ∀ (x : Nd) (p : List Nat) (m : Bd), x.isEl = true → ((wk p m x).map fun r => ownH r.2.1).sum = hls x
  | .el q l ds as cs, p, m, _ => by
    rw [wk, List.map_cons, List.sum_cons, hls]
    exact holes_wks cs p 0 (bnd ds m)
  | .s _, _, _, h => nomatch h
  | .h _, _, _, h => nomatch h
theorem holes_wks : ∀ (cs : List Nd) (p : List Nat) (k : Nat) (m : Bd), (cs.filter Nd.isH).length + ((wks p k m cs).map fun r => ownH r.2.1).sum = hlss cs
  | [], p, k, m => by rw [wks, hlss]; rfl
  | c :: cs, p, k, m => by
    have ih := holes_wks cs p (k + 1) m
    rw [wks, hlss, List.map_append, List.sum_append, List.filter_cons]
    cases c with
    | s x => rw [wk, hls]; simp [Nd.isH] at ih ⊢; omega
    | h x => rw [wk, hls]; simp [Nd.isH] at ih ⊢; omega
    | el a b de at_ ks =>
      have := holes_wk (.el a b de at_ ks) (p ++ [k]) m rfl
      simp only [Nd.isH, Bool.false_eq_true, if_false]
      omega
end
theorem begins_hole (c : Nd) : begins "hole" c.d = c.isH := by
  cases c with
  | s x => rw [Nd.d]; rfl
  | h x => rw [Nd.d]; rfl
  | el p l ds as cs =>
    rw [Nd.d]
    show decide (("element" : Str) = "hole") = false
    decide +kernel
theorem holeStrs_len : ∀ cs : List Nd, (holeStrs (ndsD cs)).length = (cs.filter Nd.isH).length
  | [] => by rw [ndsD]; rfl
  | c :: cs => by
    rw [ndsD]
    unfold holeStrs
    rw [begins_hole, List.filter_cons]
    cases c.isH with
    | true => simp [holeStrs_len cs]
    | false => simp [holeStrs_len cs]
theorem ownH_d {x : Nd} (h : x.isEl = true) : (holeStrs (kidsOf x.d)).length = ownH x := by
  cases x with
  | s _ => cases h
  | h _ => cases h
  | el p l ds as cs =>
    have hk : kidsOf (Nd.el p l ds as cs).d = ndsD cs := by rw [Nd.d]; rfl
    rw [hk, holeStrs_len]
    rfl
theorem fw_none : ∀ (l : List (List D × D)) (n : Nat), n + l.length ≤ 60 → (∀ q ∈ l, q.1.length < 8 ∧ wrongItem q.2 = none) → fw n l = none
  | [], n, _, _ => rfl
  | (p, d) :: l, n, hl, h => by
    have := h (p, d) List.mem_cons_self
    rw [List.length_cons] at hl
    unfold fw
    rw [if_pos ⟨by omega, this.1⟩, this.2]
    exact fw_none l (n + 1) (by omega) fun q hq => h q (List.mem_cons_of_mem _ hq)
theorem fh_none : ∀ (l : List (List D × D)) (told : List Str), told.length + holesIn l ≤ 1 → fh told l = none
  | [], _, _ => rfl
  | (p, d) :: l, told, h => by
    have e : holesIn ((p, d) :: l) = (holeStrs (kidsOf d)).length + holesIn l := rfl
    rw [e] at h
    have hl : (told ++ (holeStrs (kidsOf d)).map strOf).length = told.length + (holeStrs (kidsOf d)).length := by rw [List.length_append, List.length_map]
    unfold fh
    rw [if_pos (nodupB_one (by omega))]
    exact fh_none l _ (by omega)
/-! ### the barred part -/
end G
set_option Elab.async false
set_option linter.all false
set_option maxRecDepth 100000
set_option maxHeartbeats 4000000
/-! Elements of parts without holes; what the law makes, and its sealed forms, are parts. -/
namespace G
open PySem PD L2
def gP (x : Str) : Bool := isPrefix (.str x) && okS x
def gL (x : Str) : Bool := isLocal (.str x) && okS x
def gA (x : Str) : Bool := (isAddr (.str x) || isEmptyS (.str x)) && okS x
def gTx (x : Str) : Bool := !isEmptyS (.str x) && isPlain (.str x) && okS x
def gV : Vl → Bool
  | .s x => isPlain (.str x) && okS x
  | .q p l => gP p && gL l
/-- of at most n levels, of three children at most -/
def Gd : Nat → Nd → Prop
  | n + 1, .el p l ds as cs => gP p = true ∧ gL l = true ∧ (ds.map (·.1)).Nodup ∧ (∀ q ∈ ds, gP q.1 = true ∧ gA q.2 = true) ∧ ds.length ≤ 50 ∧ (as.map (·.1)).Nodup ∧ (∀ q ∈ as, gP q.1.1 = true ∧ gL q.1.2 = true ∧ gV q.2 = true) ∧ as.length ≤ 4 ∧ cs.length ≤ 3 ∧ noAdj cs = true ∧ ∀ c ∈ cs, (∃ t, gTx t = true ∧ c = .s t) ∨ Gd n c
  | _, _ => False
theorem gP_ok {x : Str} (h : gP x = true) : okS x = true := (Bool.and_eq_true_iff.mp h).2
theorem gL_ok {x : Str} (h : gL x = true) : okS x = true := (Bool.and_eq_true_iff.mp h).2
theorem gA_ok {x : Str} (h : gA x = true) : okS x = true := (Bool.and_eq_true_iff.mp h).2
theorem gTx_ok {x : Str} (h : gTx x = true) : okS x = true := (Bool.and_eq_true_iff.mp h).2
theorem gV_ok {v : Vl} (h : gV v = true) : v.ok = true := by
  cases v with
  | s x => exact (Bool.and_eq_true_iff.mp h).2
  | q p l =>
    obtain ⟨h1, h2⟩ := Bool.and_eq_true_iff.mp h
    exact Bool.and_eq_true_iff.mpr ⟨gP_ok h1, gL_ok h2⟩
theorem gd_el {n : Nat} {x : Nd} (h : Gd n x) : x.isEl = true := by
  cases n <;> cases x <;> first | exact h.elim | rfl
theorem gd_ok : ∀ (n : Nat) (x : Nd), Gd n x → x.ok = true
  | n + 1, .el p l ds as cs, h => by
    obtain ⟨h1, h2, h3, h4, h5, h6, h7, h8, h9, h10, h11⟩ := h
    refine ok_el.mpr ⟨gP_ok h1, gL_ok h2, fun q hq => ⟨gP_ok (h4 q hq).1, gA_ok (h4 q hq).2⟩, fun q hq => ?_, h5, h8, by omega, fun c hc => ?_⟩
    · obtain ⟨a, c, d⟩ := h7 q hq
      exact ⟨gP_ok a, gL_ok c, gV_ok d⟩
    · rcases h11 c hc with ⟨t, ht, rfl⟩ | h
      · rw [Nd.ok]; exact gTx_ok ht
      · exact gd_ok n c h
  | 0, .el _ _ _ _ _, h => h.elim
  | 0, .s _, h => h.elim
  | 0, .h _, h => h.elim
  | _ + 1, .s _, h => h.elim
  | _ + 1, .h _, h => h.elim
theorem ndsDep_le {n : Nat} : ∀ cs : List Nd, (∀ c ∈ cs, c.dep ≤ n) → ndsDep cs ≤ n
  | [], _ => by rw [ndsDep]; exact Nat.zero_le _
  | c :: cs, h => by
    rw [ndsDep]
    exact Nat.max_le.mpr ⟨h c List.mem_cons_self, ndsDep_le cs fun d hd => h d (List.mem_cons_of_mem _ hd)⟩
theorem gd_dep : ∀ (n : Nat) (x : Nd), Gd n x → x.dep ≤ n
  | n + 1, .el p l ds as cs, h => by
    obtain ⟨h1, h2, h3, h4, h5, h6, h7, h8, h9, h10, h11⟩ := h
    rw [Nd.dep]
    refine Nat.succ_le_succ (ndsDep_le cs fun c hc => ?_)
    rcases h11 c hc with ⟨t, ht, rfl⟩ | h
    · rw [Nd.dep]; exact Nat.zero_le _
    · exact gd_dep n c h
  | 0, .el _ _ _ _ _, h => h.elim
  | 0, .s _, h => h.elim
  | 0, .h _, h => h.elim
  | _ + 1, .s _, h => h.elim
  | _ + 1, .h _, h => h.elim
theorem gd_noH : ∀ (n : Nat) (x : Nd), Gd n x → noH x = true
  | n + 1, .el p l ds as cs, h => by
    obtain ⟨h1, h2, h3, h4, h5, h6, h7, h8, h9, h10, h11⟩ := h
    rw [noH]
    refine noHs_of fun c hc => ?_
    rcases h11 c hc with ⟨t, ht, rfl⟩ | h
    · rw [noH]
    · exact gd_noH n c h
  | 0, .el _ _ _ _ _, h => h.elim
  | 0, .s _, h => h.elim
  | 0, .h _, h => h.elim
  | _ + 1, .s _, h => h.elim
  | _ + 1, .h _, h => h.elim
theorem g_name {p l : Str} (hp : gP p = true) (hl : gL l = true) : isName (nmD p l) = true := by
  show (isPrefix (.str p) && isLocal (.str l)) = true
  rw [(Bool.and_eq_true_iff.mp hp).1, (Bool.and_eq_true_iff.mp hl).1]
  rfl
theorem g_decl {q : Str × Str} (h : gP q.1 = true ∧ gA q.2 = true) : isDecl (dclD q) = true := by
  show (isPrefix (.str q.1) && (isAddr (.str q.2) || isEmptyS (.str q.2))) = true
  rw [(Bool.and_eq_true_iff.mp h.1).1, (Bool.and_eq_true_iff.mp h.2).1]
  rfl
theorem g_attr {q : (Str × Str) × Vl} (h : gP q.1.1 = true ∧ gL q.1.2 = true ∧ gV q.2 = true) : isAttr (atrD q) = true := by
  show (isName (nmD q.1.1 q.1.2) && (isPlain q.2.d || isName q.2.d)) = true
  rw [g_name h.1 h.2.1]
  obtain ⟨nm, v⟩ := q
  cases v with
  | s x =>
    have := (Bool.and_eq_true_iff.mp h.2.2).1
    show (true && (isPlain (.str x) || _)) = true
    rw [this]
    rfl
  | q p l =>
    obtain ⟨a, c⟩ := Bool.and_eq_true_iff.mp h.2.2
    show (true && (_ || isName (nmD p l))) = true
    rw [g_name a c, Bool.or_true]
    rfl
theorem gkids {n : Nat} : ∀ (cs : List Nd) (bt : Bool), noAdj cs = true → (bt = true → ∀ c, cs.head? = some c → c.isT = false) → (∀ c ∈ cs, (∃ t, gTx t = true ∧ c = .s t) ∨ Gd n c) → kidsOk bt (ndsD cs) = true
  | [], bt, _, _, _ => by rw [ndsD]; rfl
  | c :: cs, bt, na, hb, h => by
    have na2 : noAdj cs = true := by
      cases cs with
      | nil => rfl
      | cons d cs => exact (Bool.and_eq_true_iff.mp (show (!(c.isT && d.isT) && noAdj (d :: cs)) = true from na)).2
    have hb2 : c.isT = true → ∀ d, cs.head? = some d → d.isT = false := fun hc d hd => by
      cases cs with
      | nil => cases hd
      | cons e cs =>
        cases hd
        have := (Bool.and_eq_true_iff.mp (show (!(c.isT && d.isT) && noAdj (d :: cs)) = true from na)).1
        rw [hc] at this
        simpa using this
    have rest : ∀ bt, (bt = true → c.isT = true) → kidsOk bt (ndsD cs) = true := fun bt h2 => gkids cs bt na2 (fun z => hb2 (h2 z)) fun d hd => h d (List.mem_cons_of_mem _ hd)
    rw [ndsD]
    unfold kidsOk
    rw [isS_isT]
    rcases h c List.mem_cons_self with ⟨t, ht, rfl⟩ | hw
    · have hbf : bt = false := by
        cases bt with
        | false => rfl
        | true => exact nomatch hb rfl _ rfl
      obtain ⟨p1, p2⟩ := Bool.and_eq_true_iff.mp (Bool.and_eq_true_iff.mp ht).1
      rw [rest true fun _ => rfl, hbf, Nd.d]
      have p1' : isEmptyS (.str t) = false := by simpa using p1
      rw [p1', p2]
      rfl
    · rw [rest false fun z => (nomatch z), begins_el, gd_el hw, isT_el (gd_el hw)]
      rfl
theorem gd_wrong {n : Nat} {x : Nd} (h : Gd n x) : wrongItem x.d = none := by
  cases n with
  | zero => cases x <;> exact h.elim
  | succ n =>
    cases x with
    | s _ => exact h.elim
    | h _ => exact h.elim
    | el p l ds as cs =>
      obtain ⟨h1, h2, h3, h4, h5, h6, h7, h8, h9, h10, h11⟩ := h
      have hd : areDecls (.tup (ds.map dclD)) = true := by
        show ((ds.map dclD).all isDecl && nodupB ((ds.map dclD).map fun d => strOf (fstOf d))) = true
        have e1 : (ds.map dclD).all isDecl = true := List.all_eq_true.mpr fun d hd => by
          obtain ⟨q, hq, rfl⟩ := List.mem_map.mp hd
          exact g_decl (h4 q hq)
        have e2 : (ds.map dclD).map (fun d => strOf (fstOf d)) = ds.map (·.1) := by rw [List.map_map]; rfl
        rw [e1, e2, nodupB_of h3]
        rfl
      have ha : areAttrs (.tup (as.map atrD)) = true := by
        show ((as.map atrD).all isAttr && nodupB ((as.map atrD).map fun d => nameOf (fstOf d))) = true
        have e1 : (as.map atrD).all isAttr = true := List.all_eq_true.mpr fun d hd => by
          obtain ⟨q, hq, rfl⟩ := List.mem_map.mp hd
          exact g_attr (h7 q hq)
        have e2 : (as.map atrD).map (fun d => nameOf (fstOf d)) = as.map (·.1) := by rw [List.map_map]; rfl
        rw [e1, e2, nodupB_of h6]
        rfl
      have hc : areChildren (.tup (ndsD cs)) = true := gkids cs false h10 (fun z => nomatch z) h11
      have hb := begins_el (Nd.el p l ds as cs)
      rw [Nd.d] at hb ⊢
      have hb : begins "element" (.tup [.str "element", nmD p l, .tup (ds.map dclD), .tup (as.map atrD), .tup (ndsD cs)]) = true := hb
      show (if begins "element" (.tup [.str "element", nmD p l, .tup (ds.map dclD), .tup (as.map atrD), .tup (ndsD cs)]) then
        if isName (nmD p l) then if areDecls (.tup (ds.map dclD)) then if areAttrs (.tup (as.map atrD)) then if areChildren (.tup (ndsD cs)) then none else some "children" else some "attributes" else some "declarations" else some "name"
        else some "form" : Option Str) = none
      rw [if_pos hb, if_pos (g_name h1 h2), if_pos hd, if_pos ha, if_pos hc]
def most3 : Nat → Nat
  | 0 => 0
  | n + 1 => 1 + 3 * most3 n
theorem gd_len : ∀ (n : Nat) (x : Nd) (p : List Nat) (m : Bd), Gd n x → (wk p m x).length ≤ most3 n
  | n + 1, .el q l ds as cs, p, m, h => by
    obtain ⟨h1, h2, h3, h4, h5, h6, h7, h8, h9, h10, h11⟩ := h
    have := wks_len (most3 n) (bnd ds m) cs p 0 fun c hc p => by
      rcases h11 c hc with ⟨t, _, rfl⟩ | h
      · rw [wk]; exact Nat.zero_le _
      · exact gd_len n c p _ h
    have h10 := Nat.mul_le_mul_right (most3 n) h9
    rw [wk, List.length_cons, most3]
    omega
  | 0, .el _ _ _ _ _, _, _, h => h.elim
  | 0, .s _, _, _, h => h.elim
  | 0, .h _, _, _, h => h.elim
  | _ + 1, .s _, _, _, h => h.elim
  | _ + 1, .h _, _, _, h => h.elim
theorem gd_wk : ∀ (n : Nat) (x : Nd) (p : List Nat) (m : Bd) (r : Rw3), Gd n x → r ∈ wk p m x → (∃ k, Gd k r.2.1) ∧ r.1.length < p.length + n
  | n + 1, .el q l ds as cs, p, m, r, h, hr => by
    have h11 := h.2.2.2.2.2.2.2.2.2.2
    rw [wk] at hr
    rcases List.mem_cons.mp hr with rfl | hr
    · exact ⟨⟨n + 1, h⟩, by show p.length < _; omega⟩
    · obtain ⟨c, hc, j, hj⟩ := wks_mem cs p 0 hr
      rcases h11 c hc with ⟨t, _, rfl⟩ | hw
      · rw [wk] at hj; cases hj
      · obtain ⟨h1, h2⟩ := gd_wk n c (p ++ [j]) _ r hw hj
        exact ⟨h1, by rw [List.length_append] at h2; simp only [List.length_cons, List.length_nil] at h2; omega⟩
  | 0, .el _ _ _ _ _, _, _, _, h, _ => h.elim
  | 0, .s _, _, _, _, h, _ => h.elim
  | 0, .h _, _, _, _, h, _ => h.elim
  | _ + 1, .s _, _, _, _, h, _ => h.elim
  | _ + 1, .h _, _, _, _, h, _ => h.elim
mutual
theorem hls_no : ∀ x : Nd, noH x = true → hls x = 0
  | .el _ _ _ _ cs, h => by rw [noH] at h; rw [hls]; exact hlss_no cs h
  | .s _, _ => by rw [hls]
  | .h _, h => by rw [noH] at h; cases h
theorem hlss_no : ∀ cs : List Nd, noHs cs = true → hlss cs = 0
  | [], _ => by rw [hlss]
  | c :: cs, h => by
    rw [noHs, Bool.and_eq_true] at h
    rw [hlss, hls_no c h.1, hlss_no cs h.2]
end
theorem gd_prt {n : Nat} {x : Nd} (hn : n ≤ 3) (h : Gd n x) : PrtH x := by
  have hel := gd_el h
  have hpre : pre [] x.d = (wk [] [] x).map rowPD := pre_wk x [] [] hel
  have hall := fun r hr => gd_wk n x [] [] r h hr
  have hlen : (wk [] [] x).length ≤ 13 := by
    have h1 := gd_len n x [] [] h
    have h2 : most3 n ≤ 13 := by
      have e : n = 0 ∨ n = 1 ∨ n = 2 ∨ n = 3 := by omega
      rcases e with rfl | rfl | rfl | rfl <;> decide
    omega
  have hno := gd_noH n x h
  have hho : holesIn (pre [] x.d) = hls x := by
    rw [hpre, ← holes_wk x [] [] hel]
    unfold holesIn
    rw [List.map_map]
    congr 1
    refine List.map_congr_left fun r hr => ?_
    obtain ⟨⟨k, hk⟩, _⟩ := hall r hr
    exact ownH_d (gd_el hk)
  have hfw : fw 0 (pre [] x.d) = none := by
    rw [hpre]
    refine fw_none _ 0 (by rw [List.length_map]; omega) fun q hq => ?_
    obtain ⟨r, hr, rfl⟩ := List.mem_map.mp hq
    obtain ⟨⟨k, hk⟩, h2⟩ := hall r hr
    refine ⟨?_, gd_wrong hk⟩
    show (pthD r.1).length < 8
    unfold pthD
    rw [List.length_map]
    have : ([] : List Nat).length = 0 := rfl
    omega
  refine ⟨⟨hel, gd_ok n x h, ⟨⟨ok_sm x (gd_ok n x h), ?_, by rw [hho, hls_no x hno]; exact Nat.zero_le _⟩, ?_⟩, Nat.le_trans (gd_dep n x h) (by omega)⟩, hno⟩
  · unfold fewAll
    rw [hpre, List.all_map]
    refine List.all_eq_true.mpr fun r hr => ?_
    obtain ⟨⟨k, hk⟩, _⟩ := hall r hr
    show fewA r.2.1.d = true
    obtain ⟨a, l, de, at_, cs, e⟩ := el_of (gd_el hk)
    rw [e] at hk ⊢
    cases k with
    | zero => exact hk.elim
    | succ k =>
      obtain ⟨h1, h2, h3, h4, h5, h6, h7, h8, h9, h10, h11⟩ := hk
      rw [Nd.d]
      show (decide ((de.map dclD).length ≤ 50) && decide ((at_.map atrD).length ≤ 4)) = true
      rw [List.length_map, List.length_map, decide_eq_true h5, decide_eq_true h8]
      rfl
  · unfold fault
    rw [hfw]
    exact fh_none _ [] (by rw [hho, hls_no x hno]; exact Nat.zero_le _)
theorem gd_wlk {n : Nat} {x : Nd} (hn : n ≤ 3) (h : Gd n x) : Wlk x := by
  have hp := (gd_prt hn h).p
  refine ⟨hp.el, hp.ok, hp.dep, ?_⟩
  rw [← ew_wk x [] [], List.length_map]
  exact Nat.le_trans hp.len (by decide)
/-! ### sealed forms -/
theorem seal_isT (l : List Str) (A : Af) (t : Bd) (c : Nd) : (sealN l A t c).isT = c.isT := by
  cases c <;> rw [sealN] <;> first | done | rfl
theorem bndA_gA {ds : List (Str × Str)} {A : Af} (hd : ∀ q ∈ ds, gA q.2 = true) (hA : ∀ p, gA (A p) = true) : ∀ p, gA (bndA ds A p) = true := by
  induction ds generalizing A with
  | nil => exact hA
  | cons q ds ih =>
    refine ih (A := fun p => if p = q.1 then q.2 else A p) (fun r hr => hd r (List.mem_cons_of_mem _ hr)) fun p => ?_
    show gA (if p = q.1 then q.2 else A p) = true
    split
    · exact hd q List.mem_cons_self
    · exact hA p
theorem gd_seal {row : List Str} (hrow : ∀ p ∈ row, gP p = true) (hlen : row.length ≤ 40) : ∀ (n : Nat) (x : Nd) (A : Af) (t : Bd), (∀ p, gA (A p) = true) → Gd n x → Gd n (sealN row A t x)
  | n + 1, .el p l ds as cs, A, t, hA, h => by
    obtain ⟨h1, h2, h3, h4, h5, h6, h7, h8, h9, h10, h11⟩ := h
    have hA' := bndA_gA (fun q hq => (h4 q hq).2) hA
    obtain ⟨v1, v2, v3⟩ := visE_is p as row
    have vlen := visE_len p as row
    have slen := (slf_len (bndA ds A) t (visE p as row)).1
    rw [sealN]
    refine ⟨h1, h2, slf_nd _ _ v2, fun q hq => ?_, by omega, h6, h7, h8, ?_, ?_, fun c hc => ?_⟩
    · obtain ⟨m1, m2⟩ := slf_mem (bndA ds A) t (visE p as row) q hq
      refine ⟨?_, by rw [m2]; exact hA' _⟩
      rcases List.mem_append.mp ((v3 _).mp m1) with z | z
      · unfold seenL at z
        rcases List.mem_append.mp z with z | z
        · rw [List.mem_singleton.mp z]; exact h1
        · obtain ⟨r, hr, e⟩ := List.mem_map.mp z
          rw [← e]
          exact (h7 r (List.mem_filter.mp hr).1).1
      · exact hrow _ z
    · rw [sealNs_map, List.length_map]; exact h9
    · rw [sealNs_map, noAdj_map _ cs]
      · exact h10
      · rw [List.map_map]
        exact List.map_congr_left fun c _ => seal_isT row _ _ c
    · rw [sealNs_map] at hc
      obtain ⟨d, hd, rfl⟩ := List.mem_map.mp hc
      rcases h11 d hd with ⟨u, hu, rfl⟩ | hw
      · exact .inl ⟨u, hu, by rw [sealN]⟩
      · exact .inr (gd_seal hrow hlen n d _ _ hA' hw)
  | 0, .el _ _ _ _ _, _, _, _, h => h.elim
  | 0, .s _, _, _, _, h => h.elim
  | 0, .h _, _, _, _, h => h.elim
  | _ + 1, .s _, _, _, _, h => h.elim
  | _ + 1, .h _, _, _, _, h => h.elim
/-! ### what the law draws from -/
theorem g_pfxs {x : Str} (h : x ∈ pfxs) : gP x = true := by
  have : pfxs.all gP = true := by decide +kernel
  exact List.all_eq_true.mp this x h
theorem g_lcls {x : Str} (h : x ∈ lcls) : gL x = true := by
  have : lcls.all gL = true := by decide +kernel
  exact List.all_eq_true.mp this x h
theorem g_adrs {x : Str} (h : x ∈ adrs) : gA x = true := by
  have : adrs.all gA = true := by decide +kernel
  exact List.all_eq_true.mp this x h
theorem g_txts {x : Str} (h : x ∈ txts) : gTx x = true := by
  have : txts.all gTx = true := by decide +kernel
  exact List.all_eq_true.mp this x h
theorem g_plns {x : Str} (h : x ∈ plns) : (isPlain (.str x) && okS x) = true := by
  have : (plns.all fun x => isPlain (.str x) && okS x) = true := by decide +kernel
  exact List.all_eq_true.mp this x h
theorem g_okV {v : Vl} (h : okV v) : gV v = true := by
  cases v with
  | s x => exact g_plns h
  | q p l => exact Bool.and_eq_true_iff.mpr ⟨g_pfxs h.1, g_lcls h.2⟩
end G
set_option Elab.async false
set_option linter.all false
set_option maxRecDepth 100000
set_option maxHeartbeats 4000000
namespace PD
open PySem PySem.Spec PyProof.Rows L2
theorem fnOk_up {P : Program} {w : World} {K : PySem.W.Frag} {mg : Str → Option Value} {base : Heap} {k k' : Nat} {f : Addr} {fd : FuncData} {ps : List Str} {sp : Sp} (h : k ≤ k') (F : FnOk P w K mg base CX0 k f fd ps sp) : FnOk P w K mg base CX0 k' f fd ps sp :=
  ⟨F.len, fun A outer s H args us vs Q E hr e0 hb r hs => F.run A outer s H args us vs Q E (hr.mono h) e0 hb r hs⟩
section
variable {X : Cx} {L : LC} {H0 : Hp} {b : Nat} {δ : List Sl} {P : Nat → Res → Prop} {e : Expr} {es : List Expr} {pos p0 : Pos}
/-- a call that hands a new empty list on -/
theorem ev_callNew0 {x : Str} {k : Nat} {ps : List Str} {pre : Addr → Nat → List Ar → Prop} {post : Addr → Nat → List Ar → Nat → Res → Prop} (ok : L.Ok none) (F : DfA X.prog X.w X.K X.mg X.base x k ps (fun p => L.Ok (some p)) (fun p => spD (lawVol L (some p)) X.K 4 (pre p) (post p))) (hr : Room k X.A)
    (h : EVA (L.C X none H0) b δ (e :: es) (fun b1 rs => ∃ d1 d2 d3, rs = [.va d1, .va d2, .va d3, .ow []] ∧ b1 < (10000000000000 : Nat) ∧ ∀ p, pre p b1 [.va d1, .va d2, .va d3, .va (spD' p)] ∧ ∀ b2 r, post p b1 [.va d1, .va d2, .va d3, .va (spD' p)] b2 r → ∃ d, r = .va d ∧ P (b2 % (10000000000000 : Nat)) (.va d))) (hg : Gl X x := by rfl)
    (hdb : (x == ("__debug__" : Str)) = false := by decide) (he : starEach (e :: es) X.env = (false, eval e X.env) :: starEach es X.env := by rfl) (hpl : (backTo pos (starEach es X.env)).any (·.1) = false := by rfl) :
    EV (L.C X none H0) b δ (.Call (.Name x p0) (e :: es) [] pos) P := by
  obtain ⟨f, fd, oks, hm, hk, hb⟩ := F.at_
  intro os σ H st Q q
  refine WE.of (pe_call (fnOk_any oks) hr hg hm hk hb .nil pass0 paW hdb he hpl) ?_
  refine h os σ H st _ fun vs H1 b1 rs f1 j1 rv hh => ?_
  obtain ⟨d1, d2, d3, rfl, hb1, hp⟩ := hh
  cases rv with | @cons v1 vs1 _ _ r1 rv => ?_
  cases rv with | @cons v2 vs2 _ _ r2 rv => ?_
  cases rv with | @cons v3 vs3 _ _ r3 rv => ?_
  cases rv with | @cons v4 vs4 _ _ r4 rv => ?_
  cases rv
  cases r1 with | va r1 => ?_
  cases r2 with | va r2 => ?_
  cases r3 with | va r3 => ?_
  cases r4 with | @ow p xs _ n e4 ns ra => ?_
  cases ra
  obtain ⟨lefts, s8⟩ := j1
  have hp0 : ∀ a o, H a = some o → p ≠ a := fun a o ha z => by rw [← z, n] at ha; cases ha
  have ns' : p ≠ L.s ∧ p ≠ L.l ∧ p ≠ L.c ∧ p ≠ L.T := ⟨fun z => ns (.inl z), fun z => ns (.inr (.inl z)), fun z => ns (.inr (.inr (.inl z))), fun z => ns (.inr (.inr (.inr (.inl z))))⟩
  have okp : L.Ok (some p) := ⟨ok.sl, ok.sc, ok.sT, ok.lc, ok.lT, ok.cT, fun a ha => by cases ha; exact ns', ok.few, ok.one⟩
  obtain ⟨pr, po⟩ := hp p
  have j2 : (lawVol L (some p)).J b1 H1 := by
    have m2 : b1 / (10000000000000 : Nat) = 0 := by omega
    refine ⟨lefts, ?_⟩
    rw [m2]
    exact ⟨s8.s, s8.c, s8.l, s8.len, s8.pos, ⟨[], e4, rfl, fun x hx => nomatch hx⟩, s8.tab⟩
  show ∃ p', L.Ok (some p') ∧ spD (lawVol L (some p')) X.K 4 (pre p') (post p') ([v1, v2, v3, .ref p] ++ []) H1 Q E0
  refine ⟨p, okp, b1, [.va d1, .va d2, .va d3, .va (spD' p)], rfl, .cons (.va r1) (.cons (.va r2) (.cons (.va r3) (.cons (.va (.obj (.l (.inl e4)))) .nil))), j2, pr, fun v H' b' r f2 j3 rv2 ho hpo => ?_⟩
  obtain ⟨d, rfl, hP⟩ := po b' r hpo
  cases rv2 with | va rv2 => ?_
  obtain ⟨lefts', s9⟩ := j3
  have j4 : (lawVol L none).J (b' % (10000000000000 : Nat)) H' := by
    have m1 : (b' % (10000000000000 : Nat)) % (10000000000000 : Nat) = b' % (10000000000000 : Nat) := by omega
    have m2 : (b' % (10000000000000 : Nat)) / (10000000000000 : Nat) = 0 := by omega
    refine ⟨lefts', ?_⟩
    rw [m1, m2]
    exact ⟨s9.s, s9.c, s9.l, s9.len, s9.pos, rfl, s9.tab⟩
  have f3 : Fr (lawVol L none).S H H' := fun a o ha => by
    rcases f1 a o ha with z | ⟨m, u, e1, l⟩
    · rcases f2 a o z with z2 | ⟨m, l⟩
      · exact .inl z2
      · refine .inr ⟨?_, l⟩
        rcases m with m | m | m | m | m
        · exact .inl m
        · exact .inr (.inl m)
        · exact .inr (.inr (.inl m))
        · exact .inr (.inr (.inr (.inl m)))
        · exact absurd (Option.some.inj m).symm (hp0 a o ha)
    · rcases f2 a u e1 with z2 | ⟨_, v, z2, l2⟩
      · exact .inr ⟨m, u, z2, l⟩
      · exact .inr ⟨m, v, z2, l.trans l2⟩
  exact q v H' _ _ f3 j4 (.va rv2) hP
end
end PD
namespace G
open PySem PySem.Spec PyProof.Rows L2 PD
theorem gd_up : ∀ (n : Nat) (x : Nd), Gd n x → Gd (n + 1) x
  | n + 1, .el p l ds as cs, h => by
    obtain ⟨h1, h2, h3, h4, h5, h6, h7, h8, h9, h10, h11⟩ := h
    exact ⟨h1, h2, h3, h4, h5, h6, h7, h8, h9, h10, fun c hc => (h11 c hc).imp id (gd_up n c)⟩
  | 0, .el _ _ _ _ _, h => h.elim
  | 0, .s _, h => h.elim
  | 0, .h _, h => h.elim
  | _ + 1, .s _, h => h.elim
  | _ + 1, .h _, h => h.elim
section
variable {P : Program} {w : World} {K : PySem.W.Frag} {mg : Str → Option Value} {base : Heap} {Z : Vol} {f : Addr} {fd : FuncData}
/-! ### _law_element, of three children at most, without holes -/
abbrev preE3 (L : LC) (n : Nat) (p : Addr) (b : Nat) (as : List Ar) : Prop := b % (10000000000000 : Nat) + 10000 * n ≤ 999999990000 ∧ b / (10000000000000 : Nat) = 0 ∧ as = [.va L.sD, .va (.int (n : Int)), .va (.int 3), .va (spD' p)]
abbrev postE3 (n c : Nat) (p : Addr) (b : Nat) (as : List Ar) (b' : Nat) (r : Res) : Prop := ∃ x, Gd n x ∧ r = .va x.d ∧ b' % (10000000000000 : Nat) ≤ b % (10000000000000 : Nat) + c ∧ b' / (10000000000000 : Nat) = 0
abbrev DE3 (P : Program) (w : World) (K : PySem.W.Frag) (mg : Str → Option Value) (base : Heap) (L : LC) (p : Addr) (n c : Nat) := Df P w K mg base "_law_element" (5 + n) ["state", "deep", "most", "spare"] (spD (lawVol L (some p)) K 4 (preE3 L n p) (postE3 n c p))
theorem ok_elem3 {L : LC} {p : Addr} {n c : Nat} (hn : n ≤ 3) (hc : c ≤ 1000) (F : Fun K "_law_element" "_law_element" sEl f fd) (T : Cst mg) (ok : L.Ok (some p)) (D1 : DDraw P w K mg base L (some p)) (D2 : DDc P w K mg base L (some p)) (D3 : DAs P w K mg base L (some p)) (D4 : DNam P w K mg base L (some p))
    (D5 : n ≠ 0 → DE3 P w K mg base L p n c) : FnOk P w K mg base CX0 (5 + (n + 1)) f fd ["state", "deep", "most", "spare"] (spD (lawVol L (some p)) K 4 (preE3 L (n + 1) p) (postE3 (n + 1) (3 * c + 25) p)) := by
  have sc : FnScope ["state", "deep", "most", "spare", "inside", "k", "way", "declarations", "attributes"] ["state", "deep", "most", "spare"] (defScope sEl) := ⟨rfl, rfl, rfl, by decide +kernel, rfl, by decide +kernel, by decide +kernel⟩
  rw [show 5 + (n + 1) = (5 + n) + 1 by omega]
  refine fn_body F sc rfl fun cdv A outer s H E b as hr hl hp => ?_
  obtain ⟨hb, hb0, rfl⟩ := hp
  have b0 := T.blt (cxOf CX0 P w K mg base ["state", "deep", "most", "spare", "inside", "k", "way", "declarations", "attributes"] "_law_element" (defScope sEl) f cdv A outer s H E).nox rfl
  refine sv_set 4 (ev_lst (eva_nil ⟨[], rfl, by decide, _, rfl, ?_⟩)) sc.nd
  refine sv_for (.nm 5) rfl PassesOwn.never (pg_name (i := 5) sc.nd rfl (Or.inl rfl)) (ei_range b0 (EV.imp (P := fun b1 r => ∃ N : Nat, r = .va (.int (N : Int)) ∧ N ≤ 3 * n ∧ N ≤ 3 ∧ b ≤ b1 ∧ b1 ≤ b + 1) ?_ fun b1 r hh => ?_))
  · refine ev_if (et_ord op_gt (nomark _) (ev_var 1 rfl (ev_int ⟨_, _, rfl, rfl, ?_⟩)))
    by_cases h0 : n = 0
    · subst h0
      exact ev_int ⟨0, rfl, by omega, by omega, by omega, by omega⟩
    · rw [decide_eq_true (by omega)]
      exact ev_draw D1 (hr.mono (by omega)) (ev_var 0 rfl (ev_add (ev_var 2 rfl (ev_int ⟨_, _, rfl, rfl, 4, rfl, rfl, by decide, by decide, by omega, fun x hx => ⟨x, rfl, by omega, by omega, by omega, by omega⟩⟩))))
  · obtain ⟨N, rfl, hN, hN2, hb1, hb2⟩ := hh
    refine ⟨N, rfl, by omega, ?_⟩
    refine ⟨fun pre b2 δ2 => (b2 % (10000000000000 : Nat) ≤ b % (10000000000000 : Nat) + 1 + (c + 2) * pre.length) ∧ b2 / (10000000000000 : Nat) = 0 ∧ ∃ cs sk sw, δ2 = [.va L.sD, .va (.int ((n + 1 : Nat) : Int)), .va (.int 3), .va (spD' p), .ow (ndsD cs), sk, sw, .un, .un] ∧ cs.length ≤ pre.length ∧ noAdj cs = true ∧ (∀ c ∈ cs, (∃ t, gTx t = true ∧ c = .s t) ∨ Gd n c), ⟨by simp; omega, by omega, [], _, _, by rw [ndsD]; rfl, Nat.le_refl _, rfl, fun c hc => (nomatch hc)⟩, ?_, ?_⟩
    · rintro pre d post b2 δ2 e ⟨hb3, hb4, cs, sk, sw, rfl, hl, hna, hall⟩
      have hpl : pre.length + 1 ≤ N := by
        have := congrArg List.length e
        rw [List.length_map, List.length_range, List.length_append, List.length_cons] at this
        omega
      have hn0 : n ≠ 0 := by omega
      have hmul : (c + 2) * (pre ++ [d]).length = (c + 2) * pre.length + (c + 2) := by
        rw [List.length_append, List.length_cons, List.length_nil, Nat.mul_add, Nat.mul_one]
      have hml : (c + 2) * pre.length ≤ (c + 2) * 2 := Nat.mul_le_mul_left _ (by omega)
      have oks : ∀ x ∈ cs, x.ok = true := fun x hx => by
        rcases hall x hx with ⟨t, ht, rfl⟩ | h
        · rw [Nd.ok]; exact gTx_ok ht
        · exact gd_ok n x h
      have cms_ : ∀ d ∈ ndsD cs, Cm 40 d := fun d hd => by
        refine (cm_nds cs oks d hd).mono ?_
        have := ndsDep_le (n := n) cs fun x hx => by
          rcases hall x hx with ⟨t, ht, rfl⟩ | h
          · rw [Nd.dep]; exact Nat.zero_le _
          · exact gd_dep n x h
        omega
      -- a child more
      have nxt : ∀ (b3 : Nat) (x : Nd) (sk' sw' : Sl), b3 % (10000000000000 : Nat) ≤ b2 % (10000000000000 : Nat) + (c + 2) → b3 / (10000000000000 : Nat) = 0 → ((∃ t, gTx t = true ∧ x = .s t) ∨ Gd n x) → noAdj (cs ++ [x]) = true →
          (b3 % (10000000000000 : Nat) ≤ b % (10000000000000 : Nat) + 1 + (c + 2) * (pre ++ [d]).length) ∧ b3 / (10000000000000 : Nat) = 0 ∧ ∃ cs' sk sw, [Sl.va L.sD, .va (.int ((n + 1 : Nat) : Int)), .va (.int 3), .va (spD' p), .ow (ndsD cs ++ [x.d]), sk', sw', .un, .un] = [.va L.sD, .va (.int ((n + 1 : Nat) : Int)), .va (.int 3), .va (spD' p), .ow (ndsD cs'), sk, sw, .un, .un] ∧ cs'.length ≤ (pre ++ [d]).length ∧ noAdj cs' = true ∧ (∀ c ∈ cs', (∃ t, gTx t = true ∧ c = .s t) ∨ Gd n c) := fun b3 x sk' sw' h1 h4 h2 h3 => by
        refine ⟨by rw [hmul]; omega, h4, cs ++ [x], sk', sw', by rw [ndsD_map, ndsD_map, List.map_append]; rfl, by rw [List.length_append, List.length_append]; simp only [List.length_cons, List.length_nil]; omega, h3, fun y hy => ?_⟩
        rcases List.mem_append.mp hy with hy | hy
        · exact hall y hy
        · rw [List.mem_singleton.mp hy]; exact h2
      refine ⟨_, rfl, ?_⟩
      refine sv_set 6 (ev_draw D1 (hr.mono (by omega)) (ev_var 0 rfl (ev_int ⟨6, rfl, rfl, by decide, by decide, by omega, fun way hway => ⟨_, rfl, ?_⟩⟩))) sc.nd
      have hdl : (ndsD cs).length < 16000000 := by rw [ndsD_map, List.length_map]; omega
      refine sv_if (et_imp (Pt := fun b' k => b' = b2 + 1 ∧ (k = true → ¬ ∃ a, cs.getLast? = some a ∧ a.isT = true)) ?_ fun b' k hk => ?_)
      · refine et_pw (ew_and (et_eq (ev_var 6 rfl (ev_int ⟨_, _, decide ((way : Int) = 0), rfl, rfl, rfl, ?_⟩))))
        cases decide ((way : Int) = 0) with
        | false => exact ⟨rfl, fun z => nomatch z⟩
        | true =>
          refine ew_and1 (et_pw (ew_or (et_eqD hr.units (ev_varO 4 rfl (ev_lst (eva_nil ⟨[], rfl, by decide, .lst (ndsD cs), .lst [], rfl, rfl, lst_sh cms_, lst_sh (fun d hd => nomatch hd), ?_⟩))))))
          rw [eqv_nil]
          rcases List.eq_nil_or_concat cs with rfl | ⟨cs0, a, rfl⟩
          · exact ⟨rfl, fun _ ⟨a, h, _⟩ => nomatch h⟩
          · have e1 : ndsD (cs0 ++ [a]) = ndsD cs0 ++ [a.d] := by rw [ndsD_map, ndsD_map, List.map_append]; rfl
            rw [List.concat_eq_append] at *
            rw [e1]
            have e2 : (ndsD cs0 ++ [a.d]).isEmpty = false := by cases ndsD cs0 <;> rfl
            rw [e2]
            refine ew_or1 (et_not (et_val (ev_isi (t := "str") b0 b0.str (by decide +kernel) (ev_ix (ev_varO 4 rfl (ev_neg (ev_int ⟨1, rfl, ndsD cs0 ++ [a.d], _, _, .inr ?_, rfl, atI_last _ _, _, isi_s _, _, rfl, rfl, fun z => ?_⟩)))))))
            · rfl
            · rintro ⟨a', h1, h2⟩
              rw [List.getLast?_append] at h1
              simp at h1
              subst h1
              rw [isS_d, h2] at z
              cases z
      · obtain ⟨rfl, hk⟩ := hk
        cases k with
        | true =>
          refine sv_append 4 rfl (ev_ix (ev_lst (eva_cons (ev_str (eva_cons (ev_str (eva_cons (ev_str (eva_nil ⟨txts.map D.str, rfl, by decide, ?_⟩)))))))))
          refine ev_draw D1 (hr.mono (by omega)) (ev_var 0 rfl (ev_int ⟨3, rfl, rfl, by decide, by decide, by omega, fun x hx => ⟨txts.map D.str, _, _, .inr rfl, rfl, at_texts (xs := txts) hx, _, _, rfl, rfl, hdl, sv_nil (sv_nil ?_)⟩⟩))
          have := nxt (b2 + 1 + 1) (.s txts[x]) (.va d) (.va (.int (way : Int))) (by omega) (by omega) (.inl ⟨_, g_txts (List.getElem_mem hx), rfl⟩) (noAdj_snoc _ _ hna fun z => absurd z (hk rfl))
          rw [Nd.d] at this
          exact this
        | false =>
          refine sv_if (et_imp (Pt := fun b' k => b' = b2 + 1 ∧ k = false) ?_ fun b' k hk => ?_)
          · refine et_pw (ew_and (et_eq (ev_var 6 rfl (ev_int ⟨_, _, decide ((way : Int) = 1), rfl, rfl, rfl, ?_⟩))))
            cases decide ((way : Int) = 1) with
            | false => exact ⟨rfl, rfl⟩
            | true => exact ew_and1 (et_zSpare hr.units (ev_var 3 rfl (ev_lst (eva_nil ⟨[], rfl, by decide, rfl, rfl, rfl, decide_eq_false (by omega)⟩))))
          · obtain ⟨rfl, rfl⟩ := hk
            refine sv_append 4 rfl (ev_call (D5 hn0) hr (eva_cons (ev_var 0 rfl (eva_cons (ev_sub (ev_var 1 rfl (ev_int ⟨_, _, rfl, rfl, eva_cons (ev_var 2 rfl (eva_cons (ev_var 3 rfl (eva_nil ⟨rfl, ⟨by omega, by omega, congrArg (fun z : Int => [Ar.va L.sD, .va (.int z), .va (.int 3), .va (spD' p)]) (by omega : (((n + 1 : Nat) : Int) - 1) = (n : Int))⟩, fun b5 r5 _ po => ?_⟩))))⟩)))))))
            obtain ⟨x, hx, rfl, h1, h2⟩ := po
            exact ⟨_, _, rfl, rfl, hdl, sv_nil (sv_nil (sv_nil (nxt b5 x _ _ (by omega) h2 (.inr hx) (noAdj_snoc _ _ hna fun _ => isT_el (gd_el hx)))))⟩
    · rintro b2 δ2 ⟨hb3, hb4, cs, sk, sw, rfl, hl, hna, hall⟩
      rw [List.length_map, List.length_range] at hb3 hl
      have hml : (c + 2) * N ≤ (c + 2) * 3 := Nat.mul_le_mul_left _ hN2
      refine sv_set2 7 8 rfl sc.nd (by decide) (eva_cons (ev_call D2 (hr.mono (by omega)) (eva_cons (ev_var 0 rfl (eva_cons (ev_int (eva_nil ⟨rfl, ⟨2, by decide, by omega, rfl⟩, fun b4 r4 _ po => ?_⟩)))))))
      obtain ⟨m', ds, em, wd, hl2, rfl, h1, h2⟩ := po
      obtain rfl : m' = 2 := by
        injection em with _ em
        injection em with em _
        injection em with em
        injection em with em
        omega
      refine eva_cons (ev_call D3 (hr.mono (by omega)) (eva_cons (ev_var 0 rfl (eva_cons (ev_int (eva_nil ⟨rfl, ⟨2, by decide, by omega, rfl⟩, fun b5 r5 _ po => ?_⟩))))))
      obtain ⟨m', as, em, wa, hl3, rfl, h3, h4⟩ := po
      obtain rfl : m' = 2 := by
        injection em with _ em
        injection em with em _
        injection em with em
        injection em with em
        omega
      refine eva_nil ⟨_, _, rfl, ?_⟩
      refine sv_ret (ev_tup (eva_cons (ev_str (eva_cons (ev_call D4 (hr.mono (by omega)) (eva_cons (ev_var 0 rfl (eva_nil ⟨rfl, ⟨by omega, rfl⟩, fun b6 r6 _ po => ?_⟩))))))))
      obtain ⟨x, hx, y, hy, rfl, rfl⟩ := po
      refine eva_cons (ev_var 7 rfl (eva_cons (ev_var 8 rfl (eva_cons (ev_tuple b0 (ev_varO 4 rfl ⟨_, rfl, eva_nil ⟨_, rfl, by simp, rfl, .el x y ds as cs, ⟨g_pfxs hx, g_lcls hy, wd.nd, fun q hq => ⟨g_pfxs (wd.all q hq).1, g_adrs (wd.all q hq).2⟩, by omega, wa.nd, fun q hq => ⟨g_pfxs (wa.all q hq).1, g_lcls (wa.all q hq).2.1, g_okV (wa.all q hq).2.2⟩, by omega, by omega, hna, hall⟩, ?_, ?_, ?_⟩⟩))))))
      · rw [Nd.d]
      · omega
      · omega
/-- of one to three levels -/
abbrev preW (L : LC) (p : Addr) (b : Nat) (as : List Ar) : Prop := ∃ n : Nat, 1 ≤ n ∧ n ≤ 3 ∧ b % (10000000000000 : Nat) ≤ 999999900000 ∧ b / (10000000000000 : Nat) = 0 ∧ as = [.va L.sD, .va (.int (n : Int)), .va (.int 3), .va (spD' p)]
abbrev postW (p : Addr) (b : Nat) (as : List Ar) (b' : Nat) (r : Res) : Prop := ∃ x, Gd 3 x ∧ r = .va x.d ∧ b' % (10000000000000 : Nat) ≤ b % (10000000000000 : Nat) + 400 ∧ b' / (10000000000000 : Nat) = 0
abbrev DEls3 (P : Program) (w : World) (K : PySem.W.Frag) (mg : Str → Option Value) (base : Heap) (L : LC) := DfA P w K mg base "_law_element" 8 ["state", "deep", "most", "spare"] (fun p => L.Ok (some p)) (fun p => spD (lawVol L (some p)) K 4 (preW L p) (postW p))
theorem els3_ok {L : LC} (F : Fun K "_law_element" "_law_element" sEl f fd) (hm : mg "_law_element" = some (.ref f)) (hb : Binds K fd ["state", "deep", "most", "spare"] []) (T : Cst mg) (D1 : ∀ p, L.Ok (some p) → DDraw P w K mg base L (some p)) (D2 : ∀ p, L.Ok (some p) → DDc P w K mg base L (some p)) (D3 : ∀ p, L.Ok (some p) → DAs P w K mg base L (some p))
    (D4 : ∀ p, L.Ok (some p) → DNam P w K mg base L (some p)) : DEls3 P w K mg base L := by
  refine ⟨f, fd, fun p ok => ?_, hm, F.kp, hb⟩
  have f1 := ok_elem3 (n := 0) (c := 0) (by decide) (by decide) F T ok (D1 p ok) (D2 p ok) (D3 p ok) (D4 p ok) fun z => absurd rfl z
  have e1 : DE3 P w K mg base L p 1 25 := Df.of F f1 hm hb
  have f2 := ok_elem3 (n := 1) (c := 25) (by decide) (by decide) F T ok (D1 p ok) (D2 p ok) (D3 p ok) (D4 p ok) fun _ => e1
  have e2 : DE3 P w K mg base L p 2 100 := Df.of F f2 hm hb
  have f3 := ok_elem3 (n := 2) (c := 100) (by decide) (by decide) F T ok (D1 p ok) (D2 p ok) (D3 p ok) (D4 p ok) fun _ => e2
  have g1 := fnOk_up (show 5 + (0 + 1) ≤ 8 by decide) f1
  have g2 := fnOk_up (show 5 + (1 + 1) ≤ 8 by decide) f2
  have g3 := fnOk_up (show 5 + (2 + 1) ≤ 8 by decide) f3
  -- one of the three
  have way : ∀ vs H Q E, spD (lawVol L (some p)) K 4 (preW L p) (postW p) vs H Q E → spD (lawVol L (some p)) K 4 (preE3 L (0 + 1) p) (postE3 (0 + 1) (3 * 0 + 25) p) vs H Q E ∨ spD (lawVol L (some p)) K 4 (preE3 L (1 + 1) p) (postE3 (1 + 1) (3 * 25 + 25) p) vs H Q E ∨ spD (lawVol L (some p)) K 4 (preE3 L (2 + 1) p) (postE3 (2 + 1) (3 * 100 + 25) p) vs H Q E := by
    rintro vs H Q E ⟨b, as, hl, hv, hj, ⟨n, n1, n3, hb1, hb2, rfl⟩, hq⟩
    have e : n = 1 ∨ n = 2 ∨ n = 3 := by omega
    rcases e with rfl | rfl | rfl
    · exact .inl ⟨b, _, hl, hv, hj, ⟨by omega, hb2, rfl⟩, fun v H' b' r fr j rv ho ⟨x, hx, e1, e2, e3⟩ => hq v H' b' r fr j rv ho ⟨x, gd_up _ _ (gd_up _ _ hx), e1, by omega, e3⟩⟩
    · exact .inr (.inl ⟨b, _, hl, hv, hj, ⟨by omega, hb2, rfl⟩, fun v H' b' r fr j rv ho ⟨x, hx, e1, e2, e3⟩ => hq v H' b' r fr j rv ho ⟨x, gd_up _ _ hx, e1, by omega, e3⟩⟩)
    · exact .inr (.inr ⟨b, _, hl, hv, hj, ⟨by omega, hb2, rfl⟩, fun v H' b' r fr j rv ho ⟨x, hx, e1, e2, e3⟩ => hq v H' b' r fr j rv ho ⟨x, hx, e1, by omega, e3⟩⟩)
  refine ⟨fun vs H Q E h => ?_, fun A outer s H args us vs Q E hr e0 hb r h => ?_⟩
  · rcases way vs H Q E h with h | h | h
    · exact g1.len vs H Q E h
    · exact g2.len vs H Q E h
    · exact g3.len vs H Q E h
  · rcases way vs H Q E h with h | h | h
    · exact g1.run A outer s H args us vs Q E hr e0 hb r h
    · exact g2.run A outer s H args us vs Q E hr e0 hb r h
    · exact g3.run A outer s H args us vs Q E hr e0 hb r h
/-! ### _law_whole -/
abbrev preL (L : LC) (b : Nat) (as : List Ar) : Prop := b ≤ 999999000000 ∧ as = [.va L.sD]
abbrev postWh (b b' : Nat) (r : Res) : Prop := ∃ x, Gd 3 x ∧ r = .va x.d ∧ b' ≤ b + 500
abbrev DWh (P : Program) (w : World) (K : PySem.W.Frag) (mg : Str → Option Value) (base : Heap) (L : LC) := Df P w K mg base "_law_whole" 9 ["state"] (spD (lawVol L none) K 1 (preL L) fun b _ b' r => postWh b b' r)
abbrev sWh : Stmt := st__law_whole
theorem ok_wh {L : LC} (F : Fun K "_law_whole" "_law_whole" sWh f fd) (T : Cst mg) (ok : L.Ok none) (D1 : DEls3 P w K mg base L) (D2 : DDraw P w K mg base L none) : FnOk P w K mg base CX0 9 f fd ["state"] (spD (lawVol L none) K 1 (preL L) fun b _ b' r => postWh b b' r) := by
  have sc : FnScope ["state"] ["state"] (defScope sWh) := ⟨rfl, rfl, rfl, by decide +kernel, rfl, by decide +kernel, by decide +kernel⟩
  refine fn_body F sc rfl fun cdv A outer s H E b as hr hl hp => ?_
  obtain ⟨hb, rfl⟩ := hp
  refine sv_ret (ev_callNew0 ok D1 hr (eva_cons (ev_var 0 rfl (eva_cons (ev_add (ev_int (ev_draw D2 (hr.mono (by decide)) (ev_var 0 rfl (ev_int ⟨3, rfl, rfl, by decide, by decide, by omega, fun d hd => ⟨_, _, rfl, rfl, ?_⟩⟩))))))))) fun _ _ h => h.1
  refine eva_cons (ev_int (eva_cons (ev_lst (eva_nil ⟨[], rfl, by decide, eva_nil ⟨_, _, _, rfl, by omega, fun p => ⟨⟨d + 1, by omega, by omega, by omega, by omega, ?_⟩, fun b2 r po => ?_⟩⟩⟩))))
  · exact congrArg (fun z : Int => [Ar.va L.sD, .va (.int z), .va (.int 3), .va (spD' p)]) (by omega : (1 + (d : Int)) = ((d + 1 : Nat) : Int))
  · obtain ⟨x, hx, rfl, h1, h2⟩ := po
    exact ⟨_, rfl, rfl, x, hx, rfl, by omega⟩
end
end G
set_option Elab.async false
set_option linter.all false
set_option maxRecDepth 100000
set_option maxHeartbeats 4000000
namespace G
open PySem PySem.Spec PyProof.Rows L2 PD
def rws : List Str := ["p", "q", "", "r", "pp", "z"]
def wvs : List Str := ["", "u", "v", "out"]
def wks_ : List Str := ["p", "q", "", "r", "pp"]
theorem g_rws {x : Str} (h : x ∈ rws) : gP x = true := by
  have : rws.all gP = true := by decide +kernel
  exact List.all_eq_true.mp this x h
theorem g_wks {x : Str} (h : x ∈ wks_) : gP x = true := by
  have : wks_.all gP = true := by decide +kernel
  exact List.all_eq_true.mp this x h
theorem str_eqv (x y : Str) : (D.str x).eqv (.str y) = decide (x = y) := by
  have h := eqv_iff (.str x) (.str y) (by rw [D.nb]) (by rw [D.nb])
  by_cases e : x = y
  · rw [decide_eq_true e]
    exact h.mpr (by rw [e])
  · rw [decide_eq_false e]
    cases z : (D.str x).eqv (.str y) with
    | false => rfl
    | true => exact absurd (D.str.inj (h.mp z)) e
theorem any_str (row : List Str) (x : Str) : ((row.map D.str).any fun z => z.eqv (.str x)) = decide (x ∈ row) := by
  by_cases h : x ∈ row
  · rw [decide_eq_true h, List.any_eq_true]
    exact ⟨.str x, List.mem_map.mpr ⟨x, h, rfl⟩, by rw [str_eqv]; exact decide_eq_true rfl⟩
  · rw [decide_eq_false h, List.any_eq_false]
    intro d hd
    obtain ⟨y, hy, rfl⟩ := List.mem_map.mp hd
    rw [str_eqv]
    intro z
    exact h (by rw [← of_decide_eq_true z]; exact hy)
theorem strs_sh {row : List Str} (h : ∀ p ∈ row, okS p = true) : (D.lst (row.map D.str)).sh = true := lst_sh fun d hd => by
  obtain ⟨x, hx, rfl⟩ := List.mem_map.mp hd
  exact (cm_str (h x hx)).mono (by decide)
section
variable {P : Program} {w : World} {K : PySem.W.Frag} {mg : Str → Option Value} {base : Heap} {Z : Vol} {f : Addr} {fd : FuncData}
/-! ### _law_row -/
/-- a list of prefixes as the law draws it -/
structure RowOk (row : List Str) : Prop where
  g : ∀ p ∈ row, gP p = true
  nd : row.Nodup
  len : row.length ≤ 3
abbrev postRw (b b' : Nat) (r : Res) : Prop := ∃ row, RowOk row ∧ r = .va (.tup (row.map D.str)) ∧ b' ≤ b + 10
abbrev DRw (P : Program) (w : World) (K : PySem.W.Frag) (mg : Str → Option Value) (base : Heap) (L : LC) := Df P w K mg base "_law_row" 3 ["state"] (spD (lawVol L none) K 1 (preL L) fun b _ b' r => postRw b b' r)
abbrev sRw : Stmt := st__law_row
abbrev nmRw : List Str := ["state", "found", "k", "prefix"]
theorem ok_rw {L : LC} (F : Fun K "_law_row" "_law_row" sRw f fd) (T : Cst mg) (D1 : DDraw P w K mg base L none) : FnOk P w K mg base CX0 3 f fd ["state"] (spD (lawVol L none) K 1 (preL L) fun b _ b' r => postRw b b' r) := by
  have sc : FnScope nmRw ["state"] (defScope sRw) := ⟨rfl, rfl, rfl, by decide +kernel, rfl, by decide +kernel, by decide +kernel⟩
  refine fn_body F sc rfl fun cdv A outer s H E b as hr hl hp => ?_
  obtain ⟨hb, rfl⟩ := hp
  have b0 := T.blt (cxOf CX0 P w K mg base nmRw "_law_row" (defScope sRw) f cdv A outer s H E).nox rfl
  have hu65 : (A.deeper (envOfC "_law_row" (defScope sRw) s.heap.objs.size f cdv)).units + 65 < cLine := by have := hr.un; omega
  refine sv_set 1 (ev_lst (eva_nil ⟨[], rfl, by decide, _, rfl, ?_⟩)) sc.nd
  refine sv_for (.nm 2) rfl PassesOwn.never (pg_name (i := 2) sc.nd rfl (Or.inl rfl)) (ei_range b0 (ev_draw D1 hr (ev_var 0 rfl (ev_int ⟨4, rfl, rfl, by decide, by decide, by omega, fun N hN => ⟨N, rfl, by omega, ?_⟩⟩))))
  refine ⟨fun pre b2 δ2 => b2 ≤ b + 1 + pre.length ∧ ∃ row s2 s3, δ2 = [.va L.sD, .ow (row.map D.str), s2, s3] ∧ row.Nodup ∧ (∀ p ∈ row, gP p = true) ∧ row.length ≤ pre.length, ⟨Nat.le_refl _, [], _, _, rfl, List.nodup_nil, fun p hp => (nomatch hp), Nat.le_refl _⟩, ?_, ?_⟩
  · rintro pre d post b2 δ2 e ⟨hb2, row, s2, s3, rfl, nd, hg, hlen⟩
    have hpl : pre.length + 1 ≤ N := by
      have := congrArg List.length e
      rw [List.length_map, List.length_range, List.length_append, List.length_cons] at this
      omega
    refine ⟨_, rfl, ?_⟩
    refine sv_set 3 (ev_ix (ev_lst (eva_cons (ev_str (eva_cons (ev_str (eva_cons (ev_str (eva_cons (ev_str (eva_cons (ev_str (eva_cons (ev_str (eva_nil ⟨rws.map D.str, rfl, by decide, ?_⟩))))))))))))))) sc.nd
    refine ev_draw D1 hr (ev_var 0 rfl (ev_int ⟨6, rfl, rfl, by decide, by decide, by omega, fun x hx => ⟨rws.map D.str, _, _, .inr rfl, rfl, at_texts (xs := rws) hx, _, rfl, ?_⟩⟩))
    have hgx := g_rws (List.getElem_mem hx)
    refine sv_if (et_ninL hu65 (ev_var 3 rfl (ev_varO 1 rfl ⟨.str rws[x], row.map D.str, rfl, rfl, (cm_str (gP_ok hgx)).sh (by decide), strs_sh fun p hp => gP_ok (hg p hp), ?_⟩)))
    rw [any_str]
    by_cases hm : rws[x] ∈ row
    · rw [decide_eq_true hm]
      refine sv_nil (sv_nil ⟨by rw [List.length_append, List.length_cons, List.length_nil]; omega, row, .va d, .va (.str rws[x]), rfl, nd, hg, by rw [List.length_append]; omega⟩)
    · rw [decide_eq_false hm]
      refine sv_append 1 rfl (ev_var 3 rfl ⟨_, _, rfl, rfl, by rw [List.length_map]; omega, sv_nil (sv_nil ⟨by rw [List.length_append, List.length_cons, List.length_nil]; omega, row ++ [rws[x]], .va d, .va (.str rws[x]), by rw [List.map_append]; rfl, ?_, fun p hp => ?_, ?_⟩)⟩)
      · rw [List.nodup_append]
        exact ⟨nd, by simp, fun a ha c hc e => hm (by rw [← List.mem_singleton.mp hc, ← e]; exact ha)⟩
      · rcases List.mem_append.mp hp with hp | hp
        · exact hg p hp
        · rw [List.mem_singleton.mp hp]; exact hgx
      · rw [List.length_append, List.length_append]
        simp only [List.length_cons, List.length_nil]
        omega
  · rintro b2 δ2 ⟨hb2, row, s2, s3, rfl, nd, hg, hlen⟩
    rw [List.length_map, List.length_range] at hb2 hlen
    exact sv_ret (ev_tuple b0 (ev_varO 1 rfl ⟨_, rfl, rfl, row, ⟨hg, nd, by omega⟩, rfl, by omega⟩))
/-! ### _law_world -/
structure WldOk (W : Bd) : Prop where
  su : SuOk W
  g : ∀ q ∈ W, gP q.1 = true ∧ gA q.2 = true
abbrev postWd (b b' : Nat) (r : Res) : Prop := ∃ W, WldOk W ∧ r = .od (.k (suK W)) ∧ b' ≤ b + 10
abbrev DWd (P : Program) (w : World) (K : PySem.W.Frag) (mg : Str → Option Value) (base : Heap) (L : LC) := Df P w K mg base "_law_world" 3 ["state"] (spD (lawVol L none) K 1 (preL L) fun b _ b' r => postWd b b' r)
abbrev sWd : Stmt := st__law_world
abbrev nmWd : List Str := ["state", "found", "prefix", "way"]
theorem g_wvs {i : Nat} (h : i < wvs.length) (h0 : 0 < i) : isAddr (.str wvs[i]) = true ∧ gA wvs[i] = true := by
  have : i = 1 ∨ i = 2 ∨ i = 3 := by
    have : wvs.length = 4 := rfl
    omega
  rcases this with rfl | rfl | rfl
  · exact ⟨show isAddr (.str "u") = true by decide +kernel, show gA "u" = true by decide +kernel⟩
  · exact ⟨show isAddr (.str "v") = true by decide +kernel, show gA "v" = true by decide +kernel⟩
  · exact ⟨show isAddr (.str "out") = true by decide +kernel, show gA "out" = true by decide +kernel⟩
theorem ok_wd {L : LC} (F : Fun K "_law_world" "_law_world" sWd f fd) (T : Cst mg) (kc : KC K) (D1 : DDraw P w K mg base L none) : FnOk P w K mg base CX0 3 f fd ["state"] (spD (lawVol L none) K 1 (preL L) fun b _ b' r => postWd b b' r) := by
  have sc : FnScope nmWd ["state"] (defScope sWd) := ⟨rfl, rfl, rfl, by decide +kernel, rfl, by decide +kernel, by decide +kernel⟩
  refine fn_body F sc rfl fun cdv A outer s H E b as hr hl hp => ?_
  obtain ⟨hb, rfl⟩ := hp
  have b0 := T.blt (cxOf CX0 P w K mg base nmWd "_law_world" (defScope sWd) f cdv A outer s H E).nox rfl
  refine sv_set 1 (ev_dnewK ⟨_, rfl, ?_⟩) sc.nd
  refine sv_forT D.str str_inj (.nm 2) rfl PassesOwn.never (pg_name (i := 2) sc.nd rfl (Or.inl rfl))
    (ei_tup (ev_tup (eva_cons (ev_str (eva_cons (ev_str (eva_cons (ev_str (eva_cons (ev_str (eva_cons (ev_str (eva_nil ⟨wks_.map D.str, rfl, by decide, wks_.map D.str, rfl, wks_, rfl, ?_⟩)))))))))))))
  refine ⟨fun pre b2 δ2 => b2 ≤ b + pre.length ∧ ∃ W s2 s3, δ2 = [.va L.sD, .od (.k (suK W)), s2, s3] ∧ (W.map (·.1)).Nodup ∧ (∀ q ∈ W, q.1 ∈ pre ∧ isAddr (.str q.2) = true ∧ gA q.2 = true) ∧ W.length ≤ pre.length, ⟨Nat.le_refl _, [], _, _, rfl, List.nodup_nil, fun p hp => (nomatch hp), Nat.le_refl _⟩, ?_, ?_⟩
  · rintro pre q post b2 δ2 e ⟨hb2, W, s2, s3, rfl, nd, hW, hlen⟩
    have hpl : pre.length + 1 ≤ 5 := by
      have := congrArg List.length e
      rw [List.length_append, List.length_cons] at this
      have : wks_.length = 5 := rfl
      omega
    have hq : q ∉ pre := fun z => by
      have n5 : wks_.Nodup := by decide +kernel
      rw [e, List.nodup_append] at n5
      exact n5.2.2 q z q List.mem_cons_self rfl
    refine ⟨_, rfl, ?_⟩
    refine sv_set 3 (ev_draw D1 hr (ev_var 0 rfl (ev_int ⟨4, rfl, rfl, by decide, by decide, by omega, fun x hx => ⟨_, rfl, ?_⟩⟩))) sc.nd
    refine sv_if (et_ord op_gt (nomark _) (ev_var 3 rfl (ev_int ⟨_, _, rfl, rfl, ?_⟩)))
    by_cases h0 : 0 < x
    · rw [decide_eq_true (by omega)]
      obtain ⟨ga, gb⟩ := g_wvs (i := x) hx h0
      refine sv_dput kc (hu_of hr) 1 (ev_ix (ev_lst (eva_cons (ev_str (eva_cons (ev_str (eva_cons (ev_str (eva_cons (ev_str (eva_nil ⟨wvs.map D.str, rfl, by decide, ev_var 3 rfl ⟨wvs.map D.str, _, _, .inr rfl, rfl, at_texts (xs := wvs) hx, ?_⟩⟩)))))))))))
      refine ev_var 2 rfl ⟨_, _, rfl, rfl, .inl ⟨_, kS q, rfl, rfl, by unfold suK; rw [List.length_map]; omega, sv_nil (sv_nil ⟨by rw [List.length_append, List.length_cons, List.length_nil]; omega, putB W q wvs[x], .va (.str q), .va (.int (x : Int)), by rw [← suK_put]; rfl, ?_, ?_, ?_⟩)⟩⟩
      all_goals
        have ep : putB W q wvs[x] = W ++ [(q, wvs[x])] := by
          unfold putB
          rw [if_neg]
          intro z
          obtain ⟨r, hr1, hr2⟩ := List.any_eq_true.mp z
          exact hq (by rw [← of_decide_eq_true hr2]; exact (hW r hr1).1)
        rw [ep]
      · rw [List.map_append, List.nodup_append]
        refine ⟨nd, by simp, fun a ha c hc e => ?_⟩
        obtain ⟨r, hr1, hr2⟩ := List.mem_map.mp ha
        have hc : c = q := List.mem_singleton.mp hc
        exact hq (by rw [← hc, ← e, ← hr2]; exact (hW r hr1).1)
      · intro r hr1
        rcases List.mem_append.mp hr1 with hr1 | hr1
        · obtain ⟨a1, a2⟩ := hW r hr1
          exact ⟨List.mem_append_left _ a1, a2⟩
        · rw [List.mem_singleton.mp hr1]
          exact ⟨by simp, ga, gb⟩
      · rw [List.length_append, List.length_append]
        simp only [List.length_cons, List.length_nil]
        omega
    · rw [decide_eq_false (by omega)]
      refine sv_nil (sv_nil ⟨by rw [List.length_append, List.length_cons, List.length_nil]; omega, W, .va (.str q), .va (.int (x : Int)), rfl, nd, fun r hr1 => ?_, by rw [List.length_append]; omega⟩)
      obtain ⟨a1, a2⟩ := hW r hr1
      exact ⟨List.mem_append_left _ a1, a2⟩
  · rintro b2 δ2 ⟨hb2, W, s2, s3, rfl, nd, hW, hlen⟩
    have h5 : wks_.length = 5 := rfl
    refine sv_retD 1 rfl ⟨rfl, W, ⟨⟨fun q hq => ?_, nd, by omega⟩, fun q hq => ?_⟩, rfl, by omega⟩
    · obtain ⟨a1, a2, _⟩ := hW q hq
      exact ⟨(Bool.and_eq_true_iff.mp (g_wks a1)).1, a2⟩
    · obtain ⟨a1, _, a3⟩ := hW q hq
      exact ⟨g_wks a1, a3⟩
end
end G
set_option Elab.async false
set_option linter.all false
set_option maxRecDepth 100000
set_option maxHeartbeats 4000000
namespace G
open PySem PySem.Spec PyProof.Rows L2 PD
/-! ### plain parts, their meanings as data -/
def isPlV : Vl → Bool
  | .s _ => true
  | .q _ _ => false
mutual
def plN : Nd → Bool
  | .el _ _ _ as cs => (as.all fun q => isPlV q.2) && plNs cs
  | .s _ => true
  | .h _ => true
def plNs : List Nd → Bool
  | [] => true
  | c :: cs => plN c && plNs cs
end
theorem plNs_mem : ∀ {cs : List Nd}, plNs cs = true → ∀ c ∈ cs, plN c = true
  | c :: cs, h, d, hd => by
    rw [plNs, Bool.and_eq_true] at h
    rcases List.mem_cons.mp hd with rfl | hd
    · exact h.1
    · exact plNs_mem h.2 d hd
mutual
theorem plain_pl : ∀ x : Nd, plN (plainN x) = true
  | .el p l ds as cs => by
    rw [plainN, plN, plains_pl cs, Bool.and_true]
    refine List.all_eq_true.mpr fun q hq => ?_
    obtain ⟨r, _, rfl⟩ := List.mem_map.mp hq
    obtain ⟨n, v⟩ := r
    cases v <;> rfl
  | .s _ => by rw [plainN, plN]
  | .h _ => by rw [plainN, plN]
theorem plains_pl : ∀ cs : List Nd, plNs (plainNs cs) = true
  | [] => by rw [plainNs, plNs]
  | c :: cs => by rw [plainNs, plNs, plain_pl c, plains_pl cs]; rfl
end
mutual
theorem plain_same : ∀ x : Nd, x.ok = true → (plainN x).ok = true ∧ noH (plainN x) = noH x ∧ (plainN x).dep = x.dep ∧ (plainN x).isEl = x.isEl
  | .el p l ds as cs, h => by
    have ho := ok_el.mp h
    obtain ⟨h1, h2, h3⟩ := plains_same cs ho.hc
    rw [plainN]
    refine ⟨ok_el.mpr ⟨ho.p, ho.l, ho.hd, fun q hq => ?_, ho.nd, by unfold plainA; rw [List.length_map]; exact ho.na, by rw [plainNs_map, List.length_map]; exact ho.nc, h1⟩, by rw [noH, noH, h2], by rw [Nd.dep, Nd.dep, h3], rfl⟩
    obtain ⟨r, hr, rfl⟩ := List.mem_map.mp hq
    obtain ⟨a1, a2, a3⟩ := ho.ha r hr
    refine ⟨a1, a2, ?_⟩
    obtain ⟨n, v⟩ := r
    cases v with
    | s x => exact a3
    | q a c => exact (by decide +kernel : okS "x" = true)
  | .s _, h => by rw [plainN]; exact ⟨h, rfl, rfl, rfl⟩
  | .h _, h => by rw [plainN]; exact ⟨h, rfl, rfl, rfl⟩
theorem plains_same : ∀ cs : List Nd, (∀ c ∈ cs, c.ok = true) → (∀ c ∈ plainNs cs, c.ok = true) ∧ noHs (plainNs cs) = noHs cs ∧ ndsDep (plainNs cs) = ndsDep cs
  | [], _ => by rw [plainNs]; exact ⟨fun c hc => (nomatch hc), rfl, rfl⟩
  | c :: cs, h => by
    obtain ⟨a1, a2, a3, _⟩ := plain_same c (h c List.mem_cons_self)
    obtain ⟨b1, b2, b3⟩ := plains_same cs fun d hd => h d (List.mem_cons_of_mem _ hd)
    rw [plainNs]
    refine ⟨fun d hd => ?_, by rw [noHs, noHs, a2, b2], by rw [ndsDep, ndsDep, a3, b3]⟩
    rcases List.mem_cons.mp hd with rfl | hd
    · exact a1
    · exact b1 d hd
end
def mnD : Option D → D
  | none => .non
  | some d => d
theorem bndA_ok {ds : List (Str × Str)} {A : Af} (hd : ∀ q ∈ ds, okS q.2 = true) (hA : ∀ p, okS (A p) = true) : ∀ p, okS (bndA ds A p) = true := by
  induction ds generalizing A with
  | nil => exact hA
  | cons q ds ih =>
    refine ih (A := fun p => if p = q.1 then q.2 else A p) (fun r hr => hd r (List.mem_cons_of_mem _ hr)) fun p => ?_
    show okS (if p = q.1 then q.2 else A p) = true
    split
    · exact hd q List.mem_cons_self
    · exact hA p
theorem addrOf_ok {A : Af} (hA : ∀ p, okS (A p) = true) (p : Str) : okS (addrOf A p) = true := by
  unfold addrOf
  split
  · exact okS_no
  · exact hA p
theorem attM_cons (A : Af) (nm : List (Str × Str)) (q : (Str × Str) × Vl) (r : List ((Str × Str) × Vl)) : attM A nm (q :: r) = if (q.1.1 ≠ "" ∧ addrOf A q.1.1 = "") ∨ (addrOf A q.1.1, q.1.2) ∈ nm then none else (attM A (nm ++ [(addrOf A q.1.1, q.1.2)]) r).map fun ds => rowM A q :: ds := rfl
theorem attM_mem {A : Af} : ∀ (as : List ((Str × Str) × Vl)) (nm : List (Str × Str)) (ds : List D), attM A nm as = some ds → ds = as.map (rowM A)
  | [], nm, ds, h => by cases h; rfl
  | q :: as, nm, ds, h => by
    unfold attM at h
    split at h
    · cases h
    · obtain ⟨es, e1, e2⟩ := Option.map_eq_some_iff.mp h
      rw [← e2, attM_mem as _ es e1]
      rfl
theorem rowM_cm {A : Af} (hA : ∀ p, okS (A p) = true) {q : (Str × Str) × Vl} (h : okS q.1.2 = true ∧ q.2.ok = true) : Cm 3 (rowM A q) := by
  refine cm2 ((cm2 (cm_str (addrOf_ok hA _)) (cm_str h.1)).mono (by decide)) ?_
  obtain ⟨n, v⟩ := q
  cases v with
  | s x => exact (cm_str h.2).mono (by decide)
  | q p l => exact (cm_nm (Bool.and_eq_true_iff.mp h.2).1 (Bool.and_eq_true_iff.mp h.2).2).mono (by decide)
theorem means_snoc (A : Af) (c : Nd) : ∀ cs : List Nd, means A (cs ++ [c]) = (means A cs).bind fun ds => (mean A c).map fun d => ds ++ [d]
  | [] => by
    rw [List.nil_append, means, means]
    cases mean A c <;> simp [means]
  | d :: cs => by
    rw [List.cons_append, means, means, means_snoc A c cs]
    cases mean A d with
    | none => rfl
    | some e =>
      cases means A cs with
      | none => rfl
      | some es => cases mean A c <;> rfl
theorem means_none (A : Af) (c : Nd) (h : mean A c = none) : ∀ (cs ds : List Nd), means A (cs ++ c :: ds) = none
  | [], ds => by rw [List.nil_append, means, h]
  | d :: cs, ds => by
    rw [List.cons_append, means, means_none A c h cs ds]
    cases mean A d <;> rfl
mutual
theorem mean_cm : ∀ (x : Nd) (A : Af) (d : D), x.ok = true → (∀ p, okS (A p) = true) → mean A x = some d → Cm (2 * x.dep + 6) d
  | .el p lo ds as cs, A, d, hx, hA, h => by
    have ho := ok_el.mp hx
    have hB := bndA_ok (fun q hq => (ho.hd q hq).2) hA
    rw [mean] at h
    split at h
    · cases h
    · cases ea : attM (bndA ds A) [] as with
      | none => rw [ea] at h; cases h
      | some rows =>
        rw [ea] at h
        cases em : means (bndA ds A) cs with
        | none => rw [em] at h; cases h
        | some ins =>
          rw [em] at h
          rw [← Option.some.inj h, Nd.dep, show 2 * (ndsDep cs + 1) + 6 = (2 * ndsDep cs + 7) + 1 by omega]
          refine cm_tup fun d hd => ?_
          simp only [List.mem_cons, List.not_mem_nil, or_false] at hd
          rcases hd with rfl | rfl | rfl | rfl
          · exact (cm_str okS_el).mono (by omega)
          · exact (cm2 (cm_str (hB p)) (cm_str ho.l)).mono (by omega)
          · refine (cm_tup (n := 3) fun d hd => ?_).mono (by omega)
            have hd := srt_mem.mp hd
            rw [attM_mem as [] rows ea] at hd
            obtain ⟨q, hq, rfl⟩ := List.mem_map.mp hd
            exact rowM_cm hB (ho.ha q hq).2
          · exact (cm_tup (means_cm cs (bndA ds A) ins ho.hc hB em)).mono (by omega)
  | .s x, A, d, hx, hA, h => by
    rw [mean] at h
    rw [← Option.some.inj h]
    rw [Nd.ok] at hx
    exact (cm_str hx).mono (by omega)
  | .h _, _, _, _, _, h => by rw [mean] at h; cases h
theorem means_cm : ∀ (cs : List Nd) (A : Af) (ds : List D), (∀ c ∈ cs, c.ok = true) → (∀ p, okS (A p) = true) → means A cs = some ds → ∀ d ∈ ds, Cm (2 * ndsDep cs + 6) d
  | [], A, ds, _, _, h, d, hd => by rw [means] at h; cases h; cases hd
  | c :: cs, A, ds, hx, hA, h, d, hd => by
    rw [means] at h
    cases ec : mean A c with
    | none => rw [ec] at h; cases h
    | some e =>
      rw [ec] at h
      obtain ⟨es, e1, e2⟩ := Option.map_eq_some_iff.mp h
      rw [ndsDep]
      rw [← e2] at hd
      rcases List.mem_cons.mp hd with rfl | hd
      · have := Nat.le_max_left c.dep (ndsDep cs)
        exact (mean_cm c A _ (hx c List.mem_cons_self) hA ec).mono (by omega)
      · have := Nat.le_max_right c.dep (ndsDep cs)
        exact (means_cm cs A es (fun e he => hx e (List.mem_cons_of_mem _ he)) hA e1 d hd).mono (by omega)
end
def pr2 (q : Str × Str) : D := .tup [.str q.1, .str q.2]
theorem pr2_srt (ks : List (Str × Str)) : Srt (ks.map pr2) := by
  have hp := pds_map (ks.map pr2)
  have pd : ∀ q : Str × Str, (pr2 q).pd = .tuple [.str q.1, .str q.2] := fun q => by simp [pr2, D.pd, pds]
  refine ⟨?_, ?_, ?_, fun d hd => ?_⟩
  · rw [pls_all, List.all_eq_true]
    intro d hd
    obtain ⟨x, _, rfl⟩ := List.mem_map.mp hd
    simp [pr2, D.pl, pls]
  · rw [hp, List.map_map]
    intro d hd d' hd'
    obtain ⟨x, _, rfl⟩ := List.mem_map.mp hd
    obtain ⟨y, _, rfl⟩ := List.mem_map.mp hd'
    show PySem.W.alike (pr2 x).pd (pr2 y).pd = true
    rw [pd, pd]
    simp [PySem.W.alike, PySem.W.alikeAll]
  · rw [hp, List.map_map]
    refine .inl fun d hd => ?_
    obtain ⟨x, _, rfl⟩ := List.mem_map.mp hd
    exact ⟨_, _, pd x⟩
  · obtain ⟨x, _, rfl⟩ := List.mem_map.mp hd
    rw [pd]
    simp [PyData.depth, PyData.depthAll]
theorem pr2_any {nm : List (Str × Str)} {q : Str × Str} : ((nm.map pr2).any fun z => z.eqv (pr2 q)) = decide (q ∈ nm) := by
  have nb : ∀ q : Str × Str, (pr2 q).nb = true := fun q => by simp [pr2, D.nb, nbs]
  have inj : ∀ x y : Str × Str, pr2 x = pr2 y → x = y := fun x y h => dclD_inj x y h
  by_cases h : q ∈ nm
  · rw [decide_eq_true h, List.any_eq_true]
    exact ⟨pr2 q, List.mem_map.mpr ⟨q, h, rfl⟩, (eqv_iff _ _ (nb q) (nb q)).mpr rfl⟩
  · rw [decide_eq_false h, List.any_eq_false]
    intro d hd z
    obtain ⟨y, hy, rfl⟩ := List.mem_map.mp hd
    exact h (by rw [← inj _ _ ((eqv_iff _ _ (nb y) (nb q)).mp z)]; exact hy)
section
variable {P : Program} {w : World} {K : PySem.W.Frag} {mg : Str → Option Value} {base : Heap} {Z : Vol} {f : Addr} {fd : FuncData}
/-! ### _law_meaning, of plain parts -/
structure MnOk (n : Nat) (q : Nd × Bd) : Prop where
  el : q.1.isEl = true
  ok : q.1.ok = true
  h : noH q.1 = true
  pl : plN q.1 = true
  dep : q.1.dep ≤ n
  m : q.2.length + 50 * q.1.dep ≤ 100000
  okm : ∀ p, okS (getB q.2 p) = true
noncomputable def gMn (n : Nat) : List D → Option Res := gT (fun q : Nd × Bd => [q.1.d, suD q.2, .dk []]) (MnOk n) fun q => .va (mnD (mean (getB q.2) q.1))
theorem mn_inj (x y : Nd × Bd) (h : ([x.1.d, suD x.2, .dk []] : List D) = [y.1.d, suD y.2, .dk []]) : x = y := by
  injection h with h1 h
  injection h with h2 _
  exact Prod.ext (nd_inj _ _ h1) (su_inj _ _ h2)
theorem gMn_of {n : Nat} {x : Nd} {m : Bd} (h : MnOk n (x, m)) : gMn n [x.d, suD m, .dk []] = some (.va (mnD (mean (getB m) x))) := gT_of (enc := fun q : Nd × Bd => [q.1.d, suD q.2, .dk []]) (x := (x, m)) mn_inj h
abbrev DMn (P : Program) (w : World) (K : PySem.W.Frag) (mg : Str → Option Value) (base : Heap) (Z : Vol) (n : Nat) := Df P w K mg base "_law_meaning" (4 + n) ["part", "outside", "filling"] (spP Z K 3 (gMn n))
abbrev sMn : Stmt := st__law_meaning
abbrev nmMn : List Str := ["part", "outside", "filling", "word", "name", "declarations", "attributes", "children", "bound", "prefix", "local", "found", "names", "own", "value", "address", "inside", "child"]
theorem mn_step {n : Nat} {c Tb : Addr} (F : FunC K "_law_meaning" "_law_meaning" sMn f fd c) (T : Cst mg) (kc : KC K) (TB : LamX.TabB base mg c Tb) (LZ : LamZ Z Tb "_law_meaning.<locals>.<lambda>") (D1 : DLB P w K mg base Z) (D2 : n ≠ 0 → DMn P w K mg base Z n) : FnOk P w K mg base CX0 (4 + (n + 1)) f fd ["part", "outside", "filling"] (spP Z K 3 (gMn (n + 1))) := by
  have sc : FnScope nmMn ["part", "outside", "filling"] (defScope sMn) := ⟨rfl, rfl, rfl, by decide +kernel, rfl, by decide +kernel, by decide +kernel⟩
  rw [show 4 + (n + 1) = (4 + n) + 1 by omega]
  refine fn_pureC F sc rfl (gT_out fun x hx => rfl) fun A outer s H E b ds r hr hl hg => ?_
  obtain ⟨⟨x, m⟩, rfl, ⟨hel, hok, hnh, hpl, hdep, hm, hokm⟩, rfl⟩ := gT_one hg
  have hel : x.isEl = true := hel
  have hok : x.ok = true := hok
  have hnh : noH x = true := hnh
  have hpl : plN x = true := hpl
  have hdep : x.dep ≤ n + 1 := hdep
  have hm : m.length + 50 * x.dep ≤ 100000 := hm
  have hokm : ∀ p, okS (getB m p) = true := hokm
  have b0 := T.blt (cxOf CX0 P w K mg base nmMn "_law_meaning" (defScope sMn) f (.ref c) A outer s H E).nox rfl
  have hu := hu_of hr
  have hu65 : (A.deeper (envOfC "_law_meaning" (defScope sMn) s.heap.objs.size f (.ref c))).units + 65 < cLine := by have := hr.un; omega
  obtain ⟨p, lo, de, as, cs, rfl⟩ := el_of hel
  have ho := ok_el.mp hok
  have ha4 := ho.na
  have hd4 := ho.nd
  rw [Nd.dep] at hdep hm
  rw [noH] at hnh
  rw [plN, Bool.and_eq_true] at hpl
  have bl := bnd_len de m
  have hzd : (Nd.el p lo de as cs).d = .tup [.str "element", nmD p lo, .tup (de.map dclD), .tup (as.map atrD), .tup (ndsD cs)] := by rw [Nd.d]
  refine sv_unpack (.tp [.nm 3, .nm 4, .nm 5, .nm 6, .nm 7]) (pg_tup rfl (pgs_cons (pg_name (i := 3) sc.nd rfl (Or.inl rfl)) (pgs_cons (pg_name (i := 4) sc.nd rfl (Or.inl rfl)) (pgs_cons (pg_name (i := 5) sc.nd rfl (Or.inl rfl)) (pgs_cons (pg_name (i := 6) sc.nd rfl (Or.inl rfl)) (pgs_cons (pg_name (i := 7) sc.nd rfl (Or.inl rfl)) pgs_nil)))))) (ev_var 0 rfl ⟨(Nd.el p lo de as cs).d, [.va (Nd.el p lo de as cs).d, .va (suD m), .va (.dk []), .va (.str "element"), .va (nmD p lo), .va (.tup (de.map dclD)), .va (.tup (as.map atrD)), .va (.tup (ndsD cs)), .un, .un, .un, .un, .un, .un, .un, .un, .un, .un], rfl, by rw [hzd]; rfl, ?_⟩)
  refine sv_set 8 (ev_frzD (ev_callP D1 (hr.mono (by omega)) (eva_cons (ev_var 5 rfl (eva_cons (ev_var 1 rfl (eva_nil ⟨_, _, rfl, rfl, gLB_of (by omega), _, rfl, _, rfl, ?_⟩))))))) sc.nd
  refine sv_unpack (.tp [.nm 9, .nm 10]) (pg_tup rfl (pgs_cons (pg_name (i := 9) sc.nd rfl (Or.inl rfl)) (pgs_cons (pg_name (i := 10) sc.nd rfl (Or.inl rfl)) pgs_nil))) (ev_var 4 rfl ⟨_, _, rfl, rfl, ?_⟩)
  generalize hA : bndA de (getB m) = B
  have hgB : ∀ q, (valD (suK (bnd de m)) (kS q)).getD (.str "") = .str (B q) := fun q => by rw [suK_get, bndA_get, hA]
  have hBo : ∀ q, okS (B q) = true := by rw [← hA]; exact bndA_ok (fun q hq => (ho.hd q hq).2) hokm
  have emean : mean (getB m) (.el p lo de as cs) = if p ≠ "" ∧ B p = "" then none else match attM B [] as with
    | none => none
    | some rows => match means B cs with
      | none => none
      | some ins => some (.tup [.str "element", .tup [.str (B p), .str lo], .tup (srtBy fstOf rows), .tup ins]) := by
    first | (rw [mean, hA]; done) | (rw [mean, hA]; rfl)
  refine sv_if (et_imp (Pt := fun b' k => b' = b ∧ k = decide (p ≠ "" ∧ B p = "")) ?_ fun b' k hk => ?_)
  · refine et_pw (ew_and (et_ne (ev_var 9 rfl (ev_str ⟨_, _, _, rfl, rfl, str_sc _ _, ?_⟩))))
    by_cases hp : p = ""
    · rw [decide_eq_true hp]
      exact ⟨rfl, (decide_eq_false fun z => z.1 hp).symm⟩
    · rw [decide_eq_false hp]
      refine ew_and1 (et_eq (ev_getd kc hu (ev_var 8 rfl ⟨rfl, ev_var 9 rfl (ev_str ⟨_, _, _, rfl, rfl, Ask.str, ev_str ⟨.str (B p), .str "", decide (B p = ""), congrArg Res.va (hgB p), rfl, rfl, rfl, ?_⟩⟩)⟩)))
      exact decide_eq_decide.mpr ⟨fun z => ⟨hp, z⟩, fun z => z.2⟩
  · obtain ⟨rfl, rfl⟩ := hk
    by_cases hc : p ≠ "" ∧ B p = ""
    · rw [decide_eq_true hc]
      refine sv_ret (ev_non ⟨rfl, rfl, ?_⟩)
      show Res.va .non = .va (mnD (mean (getB m) (.el p lo de as cs)))
      rw [emean, if_pos hc]
      rfl
    · rw [decide_eq_false hc]
      rw [if_neg hc] at emean
      refine sv_nil ?_
      refine sv_set2N 11 12 rfl sc.nd (by decide) ?_
      refine sv_forT atrD atrD_inj (.tp [.tp [.nm 13, .nm 3], .nm 14]) rfl PassesOwn.never (pg_tup rfl (pgs_cons (pg_tup rfl (pgs_cons (pg_name (i := 13) sc.nd rfl (Or.inl rfl)) (pgs_cons (pg_name (i := 3) sc.nd rfl (Or.inl rfl)) pgs_nil))) (pgs_cons (pg_name (i := 14) sc.nd rfl (Or.inl rfl)) pgs_nil)))
        (ei_tup (ev_var 6 rfl ⟨as.map atrD, rfl, as, rfl, ?_⟩))
      refine ⟨fun pre b2 δ2 => b2 = b' ∧ ∃ s3 s13 s14 s15, δ2 = [.va (Nd.el p lo de as cs).d, .va (suD m), .va (.dk []), s3, .va (nmD p lo), .va (.tup (de.map dclD)), .va (.tup (as.map atrD)), .va (.tup (ndsD cs)), .va (suD (bnd de m)), .va (.str p), .va (.str lo), .ow (pre.map (rowM B)), .ow ((pre.map fun q => (addrOf B q.1.1, q.1.2)).map pr2), s13, s14, s15, .un, .un] ∧
        ∀ post, as = pre ++ post → attM B [] as = (attM B (pre.map fun q => (addrOf B q.1.1, q.1.2)) post).map fun ds => pre.map (rowM B) ++ ds, ⟨rfl, _, _, _, _, rfl, fun post e => ?_⟩, ?_, ?_⟩
      · rw [e]
        show attM B [] post = (attM B [] post).map fun ds => [] ++ ds
        cases attM B [] post <;> rfl
      · rintro pre q post b2 δ2 e ⟨rfl, s3, s13, s14, s15, rfl, hat⟩
        have hat := hat (q :: post) e
        have hqm : q ∈ as := by rw [e]; simp
        obtain ⟨qa, qb, qc⟩ := ho.ha q hqm
        have hqp := List.all_eq_true.mp hpl.1 q hqm
        obtain ⟨⟨own, wd⟩, v⟩ := q
        cases v with
        | q _ _ => cases hqp
        | s vx =>
        have hlen : pre.length + 1 ≤ 4 := by
          have := congrArg List.length e
          rw [List.length_append, List.length_cons] at this
          omega
        refine ⟨_, rfl, ?_⟩
        refine sv_set 15 (EV.imp (P := fun b1 rr => b1 = b2 ∧ rr = Res.va (.str (addrOf B own))) (ev_if (et_ne (ev_var 13 rfl (ev_str ⟨_, _, _, rfl, rfl, str_sc _ _, ?_⟩)))) fun b1 rr hh => ?_) sc.nd
        · unfold addrOf
          by_cases ho0 : own = ""
          · rw [decide_eq_true ho0, if_pos ho0]
            exact ev_str ⟨rfl, rfl⟩
          · rw [decide_eq_false ho0, if_neg ho0]
            exact ev_getd kc hu (ev_var 8 rfl ⟨rfl, ev_var 13 rfl (ev_str ⟨_, _, _, rfl, rfl, Ask.str, rfl, congrArg Res.va (hgB own)⟩)⟩)
        · obtain ⟨rfl, rfl⟩ := hh
          refine ⟨_, rfl, ?_⟩
          rw [attM_cons] at hat
          generalize hnm : (pre.map fun q => (addrOf B q.1.1, q.1.2)) = nm at hat
          simp only at hat
          have hnl : nm.length = pre.length := by rw [← hnm, List.length_map]
          have hnc : ∀ d ∈ nm.map pr2, Cm 40 d := fun d hd => by
            obtain ⟨z, hz, rfl⟩ := List.mem_map.mp hd
            rw [← hnm] at hz
            obtain ⟨r, hr1, rfl⟩ := List.mem_map.mp hz
            exact (cm2 (cm_str (addrOf_ok hBo _)) (cm_str (ho.ha r (by rw [e]; exact List.mem_append_left _ hr1)).2.1)).mono (by decide)
          refine sv_if (et_imp (Pt := fun b' k => b' = b1 ∧ k = decide ((own ≠ "" ∧ addrOf B own = "") ∨ (addrOf B own, wd) ∈ nm)) ?_ fun b' k hk => ?_)
          · refine et_pw (ew_or (et_imp (Pt := fun b' k => b' = b1 ∧ k = decide (own ≠ "" ∧ addrOf B own = "")) ?_ fun b' k hk => ?_))
            · refine et_pw (ew_and (et_ne (ev_var 13 rfl (ev_str ⟨_, _, _, rfl, rfl, str_sc _ _, ?_⟩))))
              by_cases ho0 : own = ""
              · rw [decide_eq_true ho0]
                exact ⟨rfl, (decide_eq_false fun z => z.1 ho0).symm⟩
              · rw [decide_eq_false ho0]
                refine ew_and1 (et_eq (ev_var 15 rfl (ev_str ⟨_, _, _, rfl, rfl, str_sc _ _, rfl, ?_⟩)))
                exact decide_eq_decide.mpr ⟨fun z => ⟨ho0, z⟩, fun z => z.2⟩
            · obtain ⟨rfl, rfl⟩ := hk
              by_cases h1 : own ≠ "" ∧ addrOf B own = ""
              · rw [decide_eq_true h1]
                exact ⟨rfl, (decide_eq_true (Or.inl h1)).symm⟩
              · rw [decide_eq_false h1]
                refine ew_or1 (et_inL hu65 (ev_tup (eva_cons (ev_var 15 rfl (eva_cons (ev_var 3 rfl (eva_nil ⟨[.str (addrOf B own), .str wd], rfl, by simp, ev_varO 12 rfl ⟨pr2 (addrOf B own, wd), _, rfl, rfl, (cm2 (cm_str (addrOf_ok hBo _)) (cm_str qb)).sh (by decide), ?_, rfl, ?_⟩⟩)))))))
                · exact lst_sh hnc
                · rw [pr2_any]
                  exact decide_eq_decide.mpr ⟨Or.inr, fun z => z.elim (fun y => absurd y h1) id⟩
          · obtain ⟨rfl, rfl⟩ := hk
            by_cases hcond : (own ≠ "" ∧ addrOf B own = "") ∨ (addrOf B own, wd) ∈ nm
            · rw [decide_eq_true hcond]
              rw [if_pos hcond] at hat
              refine sv_ret (ev_non ⟨rfl, rfl, ?_⟩)
              show Res.va .non = .va (mnD (mean (getB m) (.el p lo de as cs)))
              rw [emean, hat]
              rfl
            · rw [decide_eq_false hcond]
              rw [if_neg hcond] at hat
              refine sv_nil ?_
              refine sv_append 12 rfl (ev_tup (eva_cons (ev_var 15 rfl (eva_cons (ev_var 3 rfl (eva_nil ⟨[.str (addrOf B own), .str wd], rfl, by simp, _, _, rfl, rfl, ?_, ?_⟩))))))
              · rw [List.length_map]; omega
              refine sv_if (et_val (ev_isi (t := "tuple") b0 b0.tuple (by decide +kernel) (ev_var 14 rfl ⟨_, isi_t (.str vx), _, rfl, ?_⟩)))
              refine sv_nil ?_
              refine sv_append 11 rfl (ev_tup (eva_cons (ev_tup (eva_cons (ev_var 15 rfl (eva_cons (ev_var 3 rfl (eva_nil ⟨[.str (addrOf B own), .str wd], rfl, by simp, eva_cons (ev_var 14 rfl (eva_nil ⟨_, rfl, by simp, _, _, rfl, rfl, ?_, sv_nil ⟨rfl, .va (.str wd), .va (.str own), .va (.str vx), .va (.str (addrOf B own)), ?_, fun post' e' => ?_⟩⟩))⟩))))))))
              · rw [List.length_map]; omega
              · rw [← hnm, List.map_append, List.map_append, List.map_append]
                rfl
              · rw [e, List.append_assoc] at e'
                have e' := List.append_cancel_left e'
                have e' : post = post' := by
                  rw [List.singleton_append, List.cons.injEq] at e'
                  exact e'.2
                subst e'
                rw [hat, List.map_append (f := fun q : (Str × Str) × Vl => (addrOf B q.1.1, q.1.2)), hnm, Option.map_map]
                exact congrFun (congrArg Option.map (funext fun ds => by simp)) _
      · rintro b2 δ2 ⟨rfl, s3, s13, s14, s15, rfl, hat⟩
        have hat := hat [] (by simp)
        have erows : attM B [] as = some (as.map (rowM B)) := by
          rw [hat]
          show some (as.map (rowM B) ++ []) = _
          rw [List.append_nil]
        rw [erows] at emean
        simp only at emean
        refine sv_set 16 (ev_lst (eva_nil ⟨[], rfl, by decide, _, rfl, ?_⟩)) sc.nd
        refine sv_forT Nd.d nd_inj (.nm 17) rfl PassesOwn.never (pg_name (i := 17) sc.nd rfl (Or.inl rfl)) (ei_tup (ev_var 7 rfl ⟨ndsD cs, rfl, cs, ndsD_map cs, ?_⟩))
        refine ⟨fun pre b3 δ3 => b3 = b2 ∧ ∃ s17 ins, δ3 = [.va (Nd.el p lo de as cs).d, .va (suD m), .va (.dk []), s3, .va (nmD p lo), .va (.tup (de.map dclD)), .va (.tup (as.map atrD)), .va (.tup (ndsD cs)), .va (suD (bnd de m)), .va (.str p), .va (.str lo), .ow (as.map (rowM B)), .ow ((as.map fun q => (addrOf B q.1.1, q.1.2)).map pr2), s13, s14, s15, .ow ins, s17] ∧ means B pre = some ins ∧ ins.length ≤ pre.length, ⟨rfl, _, [], rfl, by rw [means], Nat.le_refl _⟩, ?_, ?_⟩
        · rintro pre cc post b3 δ3 e ⟨rfl, s17, ins, rfl, hins, hil⟩
          have hcm : cc ∈ cs := by rw [e]; simp
          have hcn := noHs_mem hnh cc hcm
          have hcd := dep_mem hcm
          have hcp := plNs_mem hpl.2 cc hcm
          have hil2 : ins.length < 16000000 := by
            have := congrArg List.length e
            rw [List.length_append, List.length_cons] at this
            have := ho.nc
            omega
          have fin : ∀ (dd : D) (s17' : Sl), mean B cc = some dd → b3 = b3 ∧ ∃ s17 ins', [Sl.va (Nd.el p lo de as cs).d, .va (suD m), .va (.dk []), s3, .va (nmD p lo), .va (.tup (de.map dclD)), .va (.tup (as.map atrD)), .va (.tup (ndsD cs)), .va (suD (bnd de m)), .va (.str p), .va (.str lo), .ow (as.map (rowM B)), .ow ((as.map fun q => (addrOf B q.1.1, q.1.2)).map pr2), s13, s14, s15, .ow (ins ++ [dd]), s17'] = [.va (Nd.el p lo de as cs).d, .va (suD m), .va (.dk []), s3, .va (nmD p lo), .va (.tup (de.map dclD)), .va (.tup (as.map atrD)), .va (.tup (ndsD cs)), .va (suD (bnd de m)), .va (.str p), .va (.str lo), .ow (as.map (rowM B)), .ow ((as.map fun q => (addrOf B q.1.1, q.1.2)).map pr2), s13, s14, s15, .ow ins', s17] ∧ means B (pre ++ [cc]) = some ins' ∧ ins'.length ≤ (pre ++ [cc]).length := fun dd s17' hmc => by
            refine ⟨rfl, s17', ins ++ [dd], rfl, by rw [means_snoc, hins, hmc]; rfl, ?_⟩
            rw [List.length_append, List.length_append]
            simp only [List.length_cons, List.length_nil]
            omega
          refine ⟨_, rfl, ?_⟩
          refine sv_if (et_val (ev_isi (t := "tuple") b0 b0.tuple (by decide +kernel) (ev_var 17 rfl ⟨_, isi_t _, _, rfl, ?_⟩)))
          rw [noH_isT hcn]
          cases hce : cc.isEl with
          | false =>
            obtain ⟨t, rfl⟩ : ∃ t, cc = .s t := by
              cases cc with
              | s t => exact ⟨t, rfl⟩
              | h t => rw [noH] at hcn; cases hcn
              | el _ _ _ _ _ => cases hce
            refine sv_nil (sv_append 16 rfl (ev_var 17 rfl ⟨_, _, rfl, rfl, hil2, sv_nil ?_⟩))
            have := fin (.str t) (.va (.str t)) (by rw [mean])
            rw [Nd.d]
            exact this
          | true =>
            have hn : n ≠ 0 := fun z => by
              obtain ⟨_, _, _, _, _, e⟩ := el_of hce
              rw [e, Nd.dep] at hcd
              omega
            obtain ⟨q', l', de', as', cs', hcc⟩ := el_of hce
            have hccd : cc.d = .tup [.str "element", nmD q' l', .tup (de'.map dclD), .tup (as'.map atrD), .tup (ndsD cs')] := by rw [hcc, Nd.d]
            refine sv_set 17 (ev_callP (D2 hn) hr (eva_cons (ev_if (et_eq (ev_ix (ev_var 17 rfl (ev_int ⟨[.str "element", nmD q' l', .tup (de'.map dclD), .tup (as'.map atrD), .tup (ndsD cs')], _, _, .inl (by rw [hccd]), rfl, at0, ev_str ⟨_, _, decide (("element" : Str) = "hole"), rfl, rfl, rfl, ?_⟩⟩))))))) sc.nd
            rw [show decide (("element" : Str) = "hole") = false by decide +kernel]
            refine ev_var 17 rfl (eva_cons (ev_var 8 rfl (eva_cons (ev_var 2 rfl (eva_nil ⟨[cc.d, suD (bnd de m), .dk []], _, rfl, rfl, gMn_of ⟨hce, ho.hc cc hcm, hcn, hcp, ?_, ?_, ?_⟩, _, rfl, ?_⟩)))))
            · show cc.dep ≤ n
              omega
            · show (bnd de m).length + 50 * cc.dep ≤ 100000
              omega
            · intro q
              show okS (getB (bnd de m) q) = true
              rw [bndA_get, hA]
              exact hBo q
            · have eB : getB (bnd de m) = B := by rw [bndA_get, hA]
              rw [eB]
              cases hmc : mean B cc with
              | none =>
                refine sv_if (et_isN (ev_var 17 rfl ⟨.non, rfl, ?_⟩))
                refine sv_ret (ev_non ⟨rfl, rfl, ?_⟩)
                show Res.va .non = .va (mnD (mean (getB m) (.el p lo de as cs)))
                rw [emean, e, means_none B cc hmc pre post]
                rfl
              | some dd =>
                have hdn : dd.isN = false := by
                  rw [hcc, mean] at hmc
                  split at hmc
                  · cases hmc
                  · split at hmc
                    · cases hmc
                    · split at hmc
                      · cases hmc
                      · rw [← Option.some.inj hmc]; rfl
                refine sv_if (et_isN (ev_var 17 rfl ⟨dd, rfl, ?_⟩))
                rw [hdn]
                exact sv_nil (sv_nil (sv_append 16 rfl (ev_var 17 rfl ⟨_, _, rfl, rfl, hil2, sv_nil (fin dd (.va dd) hmc)⟩)))
        · rintro b3 δ3 ⟨rfl, s17, ins, rfl, hins, hil⟩
          rw [hins] at emean
          refine sv_set 11 (ev_sortLam fstOf b0 (hr.mono (by omega)) rfl rfl TB LZ ⟨⟨rfl, rfl, rfl, rfl⟩, rfl, fun _ _ _ _ _ => rfl⟩ (ev_varO 11 rfl ⟨as.map (rowM B), rfl, ?_, ⟨_, rfl, ?_⟩, ?_⟩)) sc.nd
          · have e : (as.map (rowM B)).map fstOf = (as.map fun q => (addrOf B q.1.1, q.1.2)).map pr2 := by
              rw [List.map_map, List.map_map]
              rfl
            rw [e]
            exact pr2_srt _
          · refine sv_ret (ev_tup (eva_cons (ev_str (eva_cons (ev_tup (eva_cons (ev_getd kc hu (ev_var 8 rfl ⟨rfl, ev_var 9 rfl (ev_str ⟨_, _, _, rfl, rfl, Ask.str, eva_cons (ev_var 10 rfl (eva_nil ⟨[.str (B p), .str lo], ?_, by simp, ?_⟩))⟩)⟩))))))))
            · show vas [Res.va ((valD (suK (bnd de m)) (kS p)).getD (.str "")), .va (.str lo)] = _
              rw [hgB]
              rfl
            · refine eva_cons (ev_tuple b0 (ev_varO 11 rfl ⟨_, rfl, eva_cons (ev_tuple b0 (ev_varO 16 rfl ⟨_, rfl, eva_nil ⟨_, rfl, by simp, rfl, rfl, ?_⟩⟩))⟩))
              show Res.va _ = .va (mnD (mean (getB m) (.el p lo de as cs)))
              rw [emean]
              rfl
          · intro d hd A outer s H f' c'
            obtain ⟨q, hq, rfl⟩ := List.mem_map.mp hd
            exact ev_ix (ev_var 0 rfl (ev_int ⟨_, _, _, .inl rfl, rfl, at0, rfl, rfl⟩))
end
end G
set_option Elab.async false
set_option linter.all false
set_option maxRecDepth 100000
set_option maxHeartbeats 4000000
namespace G
open PySem PySem.Spec PyProof.Rows L2 PD
/-- a path: a tuple, or the module's own empty one -/
inductive Pth where
  | t (p : List Nat) | u (a : Addr)
def Pth.d : Pth → D
  | .t p => .tup (pthD p)
  | .u a => .obj .unit a
def Pth.p : Pth → List Nat
  | .t p => p
  | .u _ => []
theorem pth_inj (x y : Pth) (h : x.d = y.d) : x = y := by
  cases x with
  | t p =>
    cases y with
    | t q => injection h with h; rw [pthD_inj _ _ h]
    | u a => cases h
  | u a =>
    cases y with
    | t q => cases h
    | u b => injection h with _ h; rw [h]
theorem pth_tupl (p : Pth) : (Res.va p.d).tupl = some (pthD p.p) := by cases p <;> rfl
theorem dec_inj : ∀ (x y : Dec), decD x = decD y → x = y
  | [], [], _ => rfl
  | [], _ :: _, h => by cases h
  | _ :: _, [], h => by cases h
  | q :: x, r :: y, h => by
    unfold decD at h
    rw [List.map_cons, List.map_cons, List.cons.injEq] at h
    obtain ⟨h1, h2⟩ := h
    injection h1 with h1 h3
    injection h3 with h3
    rw [dec_inj x y h2, Prod.ext (pkey_inj _ _ h1) (map_inj dclD_inj _ _ h3)]
theorem redNs_d (dec : Dec) (p : List Nat) : ∀ (cs : List Nd) (k : Nat), ndsD (redNs dec p k cs) = (enumN k cs).map fun q => (redN dec (p ++ [q.1]) q.2).d
  | [], k => by rw [redNs, ndsD]; rfl
  | c :: cs, k => by rw [redNs, ndsD, enumN, List.map_cons, redNs_d dec p cs (k + 1)]
section
variable {P : Program} {w : World} {K : PySem.W.Frag} {mg : Str → Option Value} {base : Heap} {Z : Vol} {f : Addr} {fd : FuncData}
/-! ### redeclared -/
structure RdOk (n : Nat) (q : (Nd × Dec) × Pth) : Prop where
  el : q.1.1.isEl = true
  ok : q.1.1.ok = true
  dep : q.1.1.dep ≤ n
  len : q.2.p.length + q.1.1.dep ≤ 100
noncomputable def gRd (n : Nat) : List D → Option Res := gT (fun q : (Nd × Dec) × Pth => [q.1.1.d, .dt (decD q.1.2), q.2.d]) (RdOk n) fun q => .va (redN q.1.2 q.2.p q.1.1).d
theorem rd_inj (x y : (Nd × Dec) × Pth) (h : ([x.1.1.d, .dt (decD x.1.2), x.2.d] : List D) = [y.1.1.d, .dt (decD y.1.2), y.2.d]) : x = y := by
  injection h with h1 h
  injection h with h2 h
  injection h with h3 _
  injection h2 with h2
  exact Prod.ext (Prod.ext (nd_inj _ _ h1) (dec_inj _ _ h2)) (pth_inj _ _ h3)
theorem gRd_of {n : Nat} {x : Nd} {dec : Dec} {p : Pth} (h : RdOk n ((x, dec), p)) : gRd n [x.d, .dt (decD dec), p.d] = some (.va (redN dec p.p x).d) := gT_of (enc := fun q : (Nd × Dec) × Pth => [q.1.1.d, .dt (decD q.1.2), q.2.d]) (x := ((x, dec), p)) rd_inj h
abbrev DRd (P : Program) (w : World) (K : PySem.W.Frag) (mg : Str → Option Value) (base : Heap) (Z : Vol) (n : Nat) := Df P w K mg base "redeclared" (3 + n) ["element", "declared", "path"] (spP Z K 3 (gRd n))
abbrev sRd : Stmt := st_redeclared
abbrev nmRd : List Str := ["element", "declared", "path", "children", "number", "child"]
theorem rd_step {n : Nat} {dv : V} (F : FunX K "redeclared" sRd dv f fd) (T : Cst mg) (kc : KC K) (D1 : DElem P w K mg base Z) (D2 : n ≠ 0 → DRd P w K mg base Z n) : FnOk P w K mg base CX0 (3 + (n + 1)) f fd ["element", "declared", "path"] (spP Z K 3 (gRd (n + 1))) := by
  have sc : FnScope nmRd ["element", "declared", "path"] (defScope sRd) := ⟨rfl, rfl, rfl, by decide +kernel, rfl, by decide +kernel, by decide +kernel⟩
  rw [show 3 + (n + 1) = (3 + n) + 1 by omega]
  refine fn_pureD F sc rfl (gT_out fun x hx => rfl) fun cdv A outer s H E b ds r hr hl hg => ?_
  obtain ⟨⟨⟨x, dec⟩, p⟩, rfl, ⟨hel, hok, hdep, hlen⟩, rfl⟩ := gT_one hg
  have hel : x.isEl = true := hel
  have hok : x.ok = true := hok
  have hdep : x.dep ≤ n + 1 := hdep
  have hlen : p.p.length + x.dep ≤ 100 := hlen
  have b0 := T.blt (cxOf CX0 P w K mg base nmRd "redeclared" (defScope sRd) f cdv A outer s H E).nox rfl
  obtain ⟨q, lo, de, as, cs, rfl⟩ := el_of hel
  have ho := ok_el.mp hok
  rw [Nd.dep] at hdep hlen
  have hzd : (Nd.el q lo de as cs).d = .tup [.str "element", nmD q lo, .tup (de.map dclD), .tup (as.map atrD), .tup (ndsD cs)] := by rw [Nd.d]
  refine sv_setLc 3 (.tp [.nm 4, .nm 5]) [("number", 4), ("child", 5)] rfl sc.nd (blkOk_by (N := nmRd) (sc := defScope sRd) (by decide +kernel)) (fun _ _ _ _ _ => pg_tup rfl (pgs_cons (pg_name (i := 4) sc.nd rfl (Or.inl rfl)) (pgs_cons (pg_name (i := 5) sc.nd rfl (Or.inl rfl)) pgs_nil))) (by simp [Pat.slots, slotsAll])
    (lc_mapT (fun q : Nat × Nd => D.tup [.int (q.1 : Int), q.2.d]) (.tp [.nm 4, .nm 5]) [("number", 4), ("child", 5)] (fun q => (redN dec (p.p ++ [q.1]) q.2).d) (EI.c (ei_enum b0 (ev_ix (ev_var 0 rfl (ev_int ⟨[.str "element", nmD q lo, .tup (de.map dclD), .tup (as.map atrD), .tup (ndsD cs)], _, _, .inl (by rw [hzd]), rfl, atN (j := 4) rfl, ndsD cs, rfl, enumN 0 cs, enumN_d cs 0, ?_, fun r hr1 => ⟨_, rfl, fun s H Cc cl fp => ?_⟩, _, rfl, ?_⟩))))))
  · rw [enumN_len]; exact Nat.le_trans ho.nc (by decide)
  · have hm := enumN_mem hr1
    have hd := dep_mem hm
    refine ev_if (et_val (ev_callP D1 (hr.mono (by omega)) (eva_cons (ev_var 5 rfl (eva_nil ⟨_, _, rfl, rfl, gB_of (ok_sm r.2 (ho.hc _ hm)), _, rfl, ?_⟩)))))
    rw [begins_el]
    cases hc : r.2.isEl with
    | true =>
      have hn : n ≠ 0 := fun z => by
        obtain ⟨_, _, _, _, _, e⟩ := el_of hc
        rw [e, Nd.dep] at hd
        omega
      refine ev_callP (D2 hn) hr (eva_cons (ev_var 5 rfl (eva_cons (ev_var 1 rfl (eva_cons (ev_catU (ev_var 2 rfl (ev_tup (eva_cons (ev_var 4 rfl (eva_nil ⟨[.int (r.1 : Int)], rfl, by simp, pthD p.p, [.int (r.1 : Int)], pth_tupl p, rfl, by simp, ?_, eva_nil ⟨[r.2.d, .dt (decD dec), .tup (pthD p.p ++ [.int (r.1 : Int)])], _, rfl, rfl, ?_, rfl, rfl⟩⟩)))))))))))
      · unfold pthD
        rw [List.length_map, List.length_cons, List.length_nil]
        omega
      · rw [← pthD_snoc]
        refine gRd_of (p := .t (p.p ++ [r.1])) ⟨hc, ho.hc _ hm, ?_, ?_⟩
        · show r.2.dep ≤ n
          omega
        · show (p.p ++ [r.1]).length + r.2.dep ≤ 100
          rw [List.length_append, List.length_cons, List.length_nil]
          omega
    | false =>
      refine ev_var 5 rfl ⟨rfl, ?_⟩
      show Res.va r.2.d = .va (redN dec (p.p ++ [r.1]) r.2).d
      obtain ⟨k, c⟩ := r
      cases c with
      | el _ _ _ _ _ => cases hc
      | s _ => rw [redN]
      | h _ => rw [redN]
  · refine sv_ret (ev_tup (eva_cons (ev_str (eva_cons (ev_ix (ev_var 0 rfl (ev_int ⟨[.str "element", nmD q lo, .tup (de.map dclD), .tup (as.map atrD), .tup (ndsD cs)], _, _, .inl (by rw [hzd]), rfl, at1, ?_⟩)))))))
    refine eva_cons (ev_tupleU b0 (EV.imp (P := fun b' r => b' = b ∧ ∃ ds, (r.seq = some ds ∨ r = .va (.tup ds)) ∧ ds = (lookT dec p.p).map dclD) ?_ fun b' r hh => ?_))
    · have hv : ∃ ds, ((Res.va ((valD (decD dec) (pkey p.p)).getD (.tup []))).seq = some ds ∨ Res.va ((valD (decD dec) (pkey p.p)).getD (.tup [])) = .va (.tup ds)) ∧ ds = (lookT dec p.p).map dclD := by
        rw [decD_val]
        unfold lookT
        cases dec.find? (fun q => decide (q.1 = p.p)) with
        | none => exact ⟨[], .inr rfl, rfl⟩
        | some e => exact ⟨e.2.map dclD, .inl rfl, rfl⟩
      cases p with
      | t p =>
        refine ev_getd kc (hu_of hr) (ev_var 1 rfl ⟨rfl, ev_var 2 rfl (ev_tup (eva_nil ⟨[], rfl, by decide, .tup (pthD p), valD (decD dec) (pkey p), .tup [], rfl, rfl, ?_, rfl, hv⟩))⟩)
        rw [pthD_key]
        exact Ask.dt (kn_path p)
      | u a =>
        exact ev_getU (hu_of hr) (ev_var 1 rfl ⟨rfl, ev_var 2 rfl (ev_tup (eva_nil ⟨[], rfl, by decide, a, decD dec, .tup [], rfl, rfl, rfl, rfl, hv⟩))⟩)
    · obtain ⟨rfl, ds, hd, rfl⟩ := hh
      refine ⟨_, hd, eva_cons (ev_ix (ev_var 0 rfl (ev_int ⟨[.str "element", nmD q lo, .tup (de.map dclD), .tup (as.map atrD), .tup (ndsD cs)], _, _, .inl (by rw [hzd]), rfl, atN (j := 3) rfl, ?_⟩)))⟩
      refine eva_cons (ev_tuple b0 (ev_varO 3 rfl ⟨_, rfl, eva_nil ⟨_, rfl, by simp, rfl, rfl, ?_⟩⟩))
      show Res.va _ = .va (redN dec p.p (.el q lo de as cs)).d
      rw [redN, Nd.d, redNs_d]
/-- at each depth -/
theorem rds_ok {dv : V} {f : Addr} {fd : FuncData} (F : FunX K "redeclared" sRd dv f fd) (T : Cst mg) (kc : KC K) (D1 : DElem P w K mg base Z) (hD : ∀ n, FnOk P w K mg base CX0 (3 + n) f fd ["element", "declared", "path"] (spP Z K 3 (gRd n)) → DRd P w K mg base Z n) : ∀ n, FnOk P w K mg base CX0 (3 + (n + 1)) f fd ["element", "declared", "path"] (spP Z K 3 (gRd (n + 1)))
  | 0 => rd_step F T kc D1 fun z => absurd rfl z
  | n + 1 => rd_step F T kc D1 fun _ => hD (n + 1) (rds_ok F T kc D1 hD n)
end
end G
set_option Elab.async false
set_option linter.all false
set_option maxRecDepth 100000
set_option maxHeartbeats 4000000
namespace G
open PySem PySem.Spec PyProof.Rows L2 PD
def prj4 (r : Rw4) : List Nat × Nd := (r.1, r.2.1)
section
variable {P : Program} {w : World} {K : PySem.W.Frag} {mg : Str → Option Value} {base : Heap} {Z : Vol} {f : Addr} {fd : FuncData}
/-! ### sealed -/
structure SdOk (q : (Nd × Bd) × Ls) : Prop where
  x : PrtH q.1.1
  W : SuOk q.1.2
  l : LsOk q.2
theorem sd_inj (x y : (Nd × Bd) × Ls) (h : ([x.1.1.d, suD x.1.2, x.2.d] : List D) = [y.1.1.d, suD y.1.2, y.2.d]) : x = y := by
  injection h with h1 h
  injection h with h2 h
  injection h with h3 _
  exact Prod.ext (Prod.ext (nd_inj _ _ h1) (su_inj _ _ h2)) (ls_inj _ _ h3)
noncomputable def gSd : List D → Option Res := gT (fun q : (Nd × Bd) × Ls => [q.1.1.d, suD q.1.2, q.2.d]) SdOk fun q => .va (sealN q.2.xs (getB q.1.2) [] q.1.1).d
theorem gSd_of {x : Nd} {W : Bd} {l : Ls} (hx : PrtH x) (hW : SuOk W) (hl : LsOk l) : gSd [x.d, suD W, l.d] = some (.va (sealN l.xs (getB W) [] x).d) := gT_of (enc := fun q : (Nd × Bd) × Ls => [q.1.1.d, suD q.1.2, q.2.d]) (x := ((x, W), l)) sd_inj ⟨hx, hW, hl⟩
abbrev sSd : Stmt := st_sealed
abbrev nmSd : List Str := ["part", "surrounding", "listed", "bound", "declared", "last_by_path", "path", "element", "last", "prefix", "address"]
theorem ok_sd {dv : V} {a : Addr} (F : FunX K "sealed" sSd dv f fd) (T : Cst mg) (kc : KC K) (D0 : DNeed P w K mg base Z) (D1 : DSur P w K mg base Z) (D2 : DNs P w K mg base Z) (D3 : DBbp P w K mg base Z) (D4 : DWalk P w K mg base Z) (D5 : DVis P w K mg base Z) (D6 : DAdr P w K mg base Z)
    (D7 : DfD P w K mg base "redeclared" 11 ["element", "declared", "path"] (spP Z K 3 (gRd 8)) [.ref a]) (hu : ∀ H, ObT K H .unit a) : FnOk P w K mg base CX0 12 f fd ["part", "surrounding", "listed"] (spP Z K 3 gSd) := by
  have sc : FnScope nmSd ["part", "surrounding", "listed"] (defScope sSd) := ⟨rfl, rfl, rfl, by decide +kernel, rfl, by decide +kernel, by decide +kernel⟩
  refine fn_pureD F sc rfl (gT_out fun x hx => rfl) fun cdv A outer s H E b ds r hr hl hg => ?_
  obtain ⟨⟨⟨x, W⟩, l⟩, rfl, ⟨hx, hW, hl⟩, rfl⟩ := gT_one hg
  have hx : PrtH x := hx
  have hW : SuOk W := hW
  have hl : LsOk l := hl
  have b0 := T.blt (cxOf CX0 P w K mg base nmSd "sealed" (defScope sSd) f cdv A outer s H E).nox rfl
  refine sv_expr (ev_callP D0 (hr.mono (by decide)) (eva_cons (ev_var 0 rfl (eva_nil ⟨_, _, rfl, rfl, if_pos hx.p.good, ?_⟩))))
  refine sv_expr (ev_callP D1 (hr.mono (by decide)) (eva_cons (ev_var 1 rfl (eva_nil ⟨_, _, rfl, rfl, gSur_of hW, ?_⟩))))
  refine sv_expr (ev_callP D2 hr (eva_cons (ev_var 0 rfl (eva_cons (ev_var 2 rfl (eva_nil ⟨_, _, rfl, rfl, gNs_of hx hl, ?_⟩))))))
  refine sv_set 3 (ev_callP D3 (hr.mono (by decide)) (eva_cons (ev_var 0 rfl (eva_nil ⟨_, _, rfl, rfl, gBbp_of hx.p, _, rfl, ?_⟩)))) sc.nd
  refine sv_set 4 (ev_dnewT ⟨_, rfl, ?_⟩) sc.nd
  refine sv_dl 4 rfl ?_
  refine sv_set 5 (ev_dnewT ⟨_, rfl, ?_⟩) sc.nd
  refine sv_forT peD peD_inj (.tp [.nm 6, .nm 7]) rfl PassesOwn.never (pg_tup rfl (pgs_cons (pg_name (i := 6) sc.nd rfl (by first | exact Or.inl rfl | exact Or.inr rfl)) (pgs_cons (pg_name (i := 7) sc.nd rfl (by first | exact Or.inl rfl | exact Or.inr rfl)) pgs_nil)))
    (ei_list (ev_callP D4 (hr.mono (by decide)) (eva_cons (ev_var 0 rfl (eva_nil ⟨_, _, rfl, rfl, hx.p.walk, _, .inl rfl, (wq W l.xs [] [] [] x).map prj4, by rw [← wq_wk W l.xs x [] [] [], List.map_map, List.map_map]; rfl, ?_⟩)))))
  have hlen := hx.p.len
  rw [← wq_wk W l.xs x [] [] [], List.length_map] at hlen
  have nd4 := wq_nd W l.xs x [] [] []
  refine ⟨fun ps b2 δ2 => b2 = b ∧ ∃ done rest s6 s7 s8 s9 s10, wq W l.xs [] [] [] x = done ++ rest ∧ ps = done.map prj4 ∧ δ2 = [.va x.d, .va (suD W), .va l.d, .od (.t (bpD (wk [] [] x))), .dl (decL (decT W l.xs done)), .od (.t (lastD W l.xs done)), s6, s7, s8, s9, s10], ⟨rfl, [], _, _, _, _, _, _, rfl, rfl, rfl⟩, ?_, ?_⟩
  · rintro ps q post b2 δ2 e ⟨rfl, done, rest, s6, s7, s8, s9, s10, hw, rfl, rfl⟩
    rw [hw, List.map_append] at e
    have e2 := List.append_cancel_left e
    cases rest with
    | nil => cases e2
    | cons r rest =>
      rw [List.map_cons, List.cons.injEq] at e2
      obtain ⟨rfl, rfl⟩ := e2
      have hr4 : r ∈ wq W l.xs [] [] [] x := by rw [hw]; simp
      have hr0 : drp r ∈ wk [] [] x := by rw [← wq_wk W l.xs x [] [] []]; exact List.mem_map.mpr ⟨r, hr4, rfl⟩
      obtain ⟨rok, rlen⟩ := wk_ok x [] [] hx.p.ok rfl _ hr0
      have tlen := wq_len W l.xs x [] [] [] hx.p.ok r hr4
      have nd5 := nd4
      rw [hw, List.map_append, List.nodup_append] at nd5
      have hnew : ∀ r' ∈ done, r'.1 ≠ r.1 := fun r' h z => nd5.2.2 r'.1 (List.mem_map.mpr ⟨r', h, rfl⟩) r.1 (by simp) z
      have hnewT : ∀ q ∈ decT W l.xs done, q.1 ≠ r.1 := fun q hq z => by
        obtain ⟨r', hr', e1, _⟩ := decT_mem hq
        exact hnew r' hr' (e1.trans z)
      rw [hw, List.length_append, List.length_cons] at hlen
      have dlen : (decT W l.xs done).length ≤ done.length := by
        unfold decT
        rw [List.length_map]
        exact List.length_filter_le _ _
      obtain ⟨pf, lo, de, as, cs, hel⟩ := el_of rok.el
      have hel : r.2.1 = .el pf lo de as cs := hel
      have hok := rok.ok
      rw [show (drp r).2.1 = r.2.1 from rfl, hel] at hok
      have ho := ok_el.mp hok
      have hvis : visN r.2.1 l.xs = visE pf as l.xs := by rw [hel]; rfl
      obtain ⟨v1, v2, v3⟩ := visE_is pf as l.xs
      have vlen := visE_len pf as l.xs
      have l100 := hl.len
      have na4 := ho.na
      refine ⟨_, rfl, ?_⟩
      -- what is declared around it
      have around : (r.1 = [] ∧ r.2.2.2 = []) ∨ (r.1 ≠ [] ∧ valD (lastD W l.xs done) (pkey r.1.dropLast) = some (suD r.2.2.2)) := by
        rcases wq_par W l.xs x [] [] [] done r rest hw with ⟨_, z1, z2⟩ | ⟨r', hr', i, z1, z2⟩
        · exact .inl ⟨z1, z2⟩
        · refine .inr ⟨by rw [z1]; simp, ?_⟩
          rw [z1, List.dropLast_concat, z2]
          exact lastD_val nd5.1 hr'
      refine sv_set 8 (EV.imp (P := fun b1 rr => b1 = b2 ∧ rr = Res.od (.k (suK r.2.2.2))) (ev_if (et_tup (ev_var 6 rfl ⟨pthD r.1, rfl, ?_⟩))) fun b1 rr hh => ?_) sc.nd
      · rcases around with ⟨hp, ht⟩ | ⟨hp, hv⟩
        · rw [hp, ht]
          exact ev_dnewK ⟨rfl, rfl⟩
        · have hne : (!(pthD r.1).isEmpty) = true := by
            cases e : r.1 with
            | nil => exact absurd e hp
            | cons i q => rfl
          rw [hne]
          refine ev_dcopy b0 (ev_dget kc (hu_of hr) (ev_varD 5 rfl (ev_slTh (ev_var 6 rfl (ev_neg (ev_int ⟨1, rfl, _, _, rfl, rfl, _, suD r.2.2.2, rfl, ?_, _, rfl, rfl, rfl⟩))))))
          have ed : cutD (pthD r.1) none (some (-1)) = (pkey r.1.dropLast).map kD := by
            rw [cutD_last, ← pthD_key]
            unfold pthD
            rw [List.map_dropLast]
          show Ask (Res.ro (Dc.t (lastD W l.xs done))) (D.tup (cutD (pthD r.1) none (some (-1)))) (some (suD r.2.2.2))
          rw [ed, ← hv]
          exact Ask.rt (kn_path _)
      · obtain ⟨rfl, rfl⟩ := hh
        refine ⟨_, rfl, ?_⟩
        generalize hA : adr r.2.2.1 W = A
        have hown : ownQ W l.xs r = slf A r.2.2.2 (visE pf as l.xs) := by unfold ownQ; rw [hA, hvis]
        refine sv_forT D.str str_inj (.nm 9) rfl PassesOwn.never (pg_name (i := 9) sc.nd rfl (by first | exact Or.inl rfl | exact Or.inr rfl))
          (ei_list (ev_callP D5 (hr.mono (by decide)) (eva_cons (ev_var 7 rfl (eva_cons (ev_var 2 rfl (eva_nil ⟨[r.2.1.d, l.d], _, rfl, rfl, gVis_of (x := r.2.1) (l := l) (by rw [hel]; exact ho.fit) (by rw [hel]; have hs : (seenN (.el pf lo de as cs)).length ≤ 1 + as.length := seen_len; omega), _, .inl rfl, visE pf as l.xs, by rw [hel]; exact v1, ?_⟩)))))))
        refine ⟨fun pre b3 δ3 => b3 = b1 ∧ pre.length ≤ 200 ∧ ∃ s9 s10, δ3 = [.va x.d, .va (suD W), .va l.d, .od (.t (bpD (wk [] [] x))), .dl (decL (decS (decT W l.xs done) r.1 (slf A r.2.2.2 pre).1)), .od (.t (lastD W l.xs done)), .va (.tup (pthD r.1)), .va r.2.1.d, .od (.k (suK (slf A r.2.2.2 pre).2)), s9, s10], ⟨rfl, by simp, s9, s10, rfl⟩, ?_, ?_⟩
        · rintro pre p post b3 δ3 e3 ⟨rfl, hpl, s9, s10, rfl⟩
          have hpl2 : (pre ++ [p]).length ≤ 200 := by
            have := congrArg List.length e3
            rw [List.length_append, List.length_cons] at this
            rw [List.length_append, List.length_cons, List.length_nil]
            omega
          obtain ⟨sl1, sl2⟩ := slf_len A r.2.2.2 pre
          refine ⟨_, rfl, ?_⟩
          refine sv_set 10 (ev_callP D6 (hr.mono (by decide)) (eva_cons (ev_dget kc (hu_of hr) (ev_varD 3 rfl (ev_var 6 rfl ⟨_, bdD r.2.2.1, rfl, ?_, eva_cons (ev_var 9 rfl (eva_cons (ev_var 1 rfl (eva_nil ⟨[bdD r.2.2.1, .str p, suD W], _, rfl, rfl, gAdr_of _ W p, _, rfl, ?_⟩))))⟩))))) sc.nd
          · show Ask (Res.ro (Dc.t (bpD (wk [] [] x)))) (D.tup (pthD r.1)) (some (bdD r.2.2.1))
            rw [pthD_key]
            have hv : valD (bpD (wk [] [] x)) (pkey r.1) = some (bdD r.2.2.1) := bpD_at (fun _ h => h) hr0
            rw [← hv]
            exact Ask.rt (kn_path _)
          · rw [hA]
            refine sv_if (et_ne (ev_var 10 rfl (ev_getd kc (hu_of hr) (ev_varD 8 rfl ⟨rfl, ev_var 9 rfl (ev_str ⟨_, _, _, rfl, rfl, Ask.strR, .str (A p), .str (getB (slf A r.2.2.2 pre).2 p), decide (A p = getB (slf A r.2.2.2 pre).2 p), rfl, ?_, rfl, ?_⟩)⟩))))
            · exact congrArg Res.va (suK_get _ _)
            · by_cases hq : A p = getB (slf A r.2.2.2 pre).2 p
              · rw [decide_eq_true hq]
                refine sv_nil (sv_nil ⟨rfl, hpl2, .va (.str p), .va (.str (A p)), ?_⟩)
                have es : slf A r.2.2.2 (pre ++ [p]) = slf A r.2.2.2 pre := by rw [slf_snoc]; unfold stp; rw [if_pos hq]
                rw [es]
                rfl
              · rw [decide_eq_false hq]
                have es : slf A r.2.2.2 (pre ++ [p]) = ((slf A r.2.2.2 pre).1 ++ [(p, A p)], putB (slf A r.2.2.2 pre).2 p (A p)) := by rw [slf_snoc]; unfold stp; rw [if_neg hq]
                refine sv_setdefT kc (hu_of hr) 4 (ev_var 6 rfl ⟨pkey r.1, _, congrArg (fun z => Res.va (D.tup z)) (pthD_key r.1), kn_path _, rfl, ?_, ev_tup (eva_cons (ev_var 9 rfl (eva_cons (ev_var 10 rfl (eva_nil ⟨[.str p, .str (A p)], rfl, by simp, _, rfl, ?_, ?_⟩)))))⟩)
                · unfold decL decS
                  rw [List.length_map]
                  split
                  · omega
                  · rw [List.length_append, List.length_cons, List.length_nil]; omega
                · intro es' he
                  rw [dec_ens hnewT, valL_app (fun q hq z => by
                    obtain ⟨q', hq', rfl⟩ := List.mem_map.mp hq
                    exact hnewT q' hq' (pkey_inj _ _ z))] at he
                  rw [← Option.some.inj he, List.length_map]
                  omega
                · have ea := dec_add (o := (slf A r.2.2.2 pre).1) hnewT (p, A p)
                  have ea' : addL (ensL (decL (decS (decT W l.xs done) r.1 (slf A r.2.2.2 pre).1)) (pkey r.1)) (pkey r.1) (.tup [.str p, .str (A p)]) = decL (decS (decT W l.xs done) r.1 ((slf A r.2.2.2 pre).1 ++ [(p, A p)])) := ea
                  rw [ea']
                  refine sv_dput kc (hu_of hr) 8 (ev_var 10 rfl (ev_var 9 rfl ⟨_, _, rfl, rfl, .inl ⟨_, kS p, rfl, rfl, ?_, sv_nil (sv_nil ⟨rfl, hpl2, .va (.str p), .va (.str (A p)), ?_⟩)⟩⟩))
                  · unfold suK
                    rw [List.length_map]
                    have hd8 := hx.p.dep
                    have : (5 + l.xs.length) * x.dep ≤ 105 * 8 := Nat.mul_le_mul (by omega) hd8
                    simp only [List.length_nil] at tlen
                    omega
                  · rw [suK_put, es]
                    rfl
        · rintro b3 δ3 ⟨rfl, hpl, s9, s10, rfl⟩
          refine sv_frzD 8 rfl ?_
          refine sv_dput kc (hu_of hr) 5 (ev_var 8 rfl (ev_var 6 rfl ⟨_, _, rfl, rfl, .inr ⟨_, pkey r.1, rfl, kn_path _, congrArg D.tup (pthD_key r.1), ?_, sv_nil ⟨rfl, done ++ [r], rest, .va (.tup (pthD r.1)), .va r.2.1.d, .va (suD (slf A r.2.2.2 (visE pf as l.xs)).2), s9, s10, ?_, ?_, ?_⟩⟩⟩))
          · unfold lastD
            rw [List.length_map]
            omega
          · rw [hw, List.append_assoc]; rfl
          · rw [List.map_append]; rfl
          · have el := lastD_new (W := W) (l := l.xs) hnew
            rw [hown] at el
            rw [decT_snoc, hown, ← el]
            rfl
  · rintro b2 δ2 ⟨rfl, done, rest, s6, s7, s8, s9, s10, hw, e, rfl⟩
    have hl2 := congrArg List.length e
    rw [List.length_map, List.length_map, hw, List.length_append] at hl2
    have : rest = [] := List.eq_nil_of_length_eq_zero (by omega)
    subst this
    rw [List.append_nil] at hw
    refine sv_frzDL 4 rfl ?_
    rw [decL_frz]
    refine sv_ret (ev_callD D7 hr (fun H => .cons (.obj (hu H)) .nil) (eva_cons (ev_var 0 rfl (eva_cons (ev_var 4 rfl (eva_nil ⟨[x.d, .dt (decD (decT W l.xs done))], _, rfl, rfl, gRd_of (p := .u a) ⟨hx.p.el, hx.p.ok, hx.p.dep, ?_⟩, rfl, rfl, ?_⟩))))))
    · have := hx.p.dep
      show 0 + x.dep ≤ 100
      omega
    · show Res.va (redN (decT W l.xs done) [] x).d = .va (sealN l.xs (getB W) [] x).d
      rw [← hw, sealed_eq]
end
end G
set_option Elab.async false
set_option linter.all false
set_option maxRecDepth 100000
set_option maxHeartbeats 8000000
namespace G
open PySem PySem.Spec PyProof.Rows L2 PD
theorem cm_non : Cm 0 .non := ⟨by rw [D.pl], by rw [D.pd]; simp [PyData.canLay0], by rw [D.pd]; simp [PyData.depth], by rw [D.nb]⟩
theorem Cm.refl {n : Nat} {d : D} (h : Cm n d) : d.eqv d = true := (eqv_iff _ _ h.nb h.nb).mpr rfl
/-- the default empty tuple of a def -/
abbrev UnitAt (K : PySem.W.Frag) (a : Addr) : Prop := ∀ H, ObT K H .unit a
theorem visL_cm {x : Nd} {l : List Str} (hx : x.isEl = true) (ho : x.ok = true) (hl : ∀ p ∈ l, okS p = true) : Cm 1 (.tup (visL x l)) := by
  obtain ⟨p, lo, de, as, cs, rfl⟩ := el_of hx
  have ho := ok_el.mp ho
  obtain ⟨v1, v2, v3⟩ := visE_is p as l
  show Cm 1 (.tup (srtS (seenL p as ++ l)))
  rw [v1]
  refine cm_tup fun d hd => ?_
  obtain ⟨y, hy, rfl⟩ := List.mem_map.mp hd
  refine cm_str ?_
  rcases List.mem_append.mp ((v3 y).mp hy) with z | z
  · unfold seenL at z
    rcases List.mem_append.mp z with z | z
    · rw [List.mem_singleton.mp z]; exact ho.p
    · obtain ⟨r, hr, e⟩ := List.mem_map.mp z
      rw [← e]
      exact (ho.ha r (List.mem_filter.mp hr).1).1
  · exact hl y z
theorem visL_rev (x : Nd) (l : List Str) : visL x l.reverse = visL x l := by
  unfold visL
  exact srtS_congr fun y => by rw [List.mem_append, List.mem_append, List.mem_reverse]
/-! ### the law's own conditions -/
structure LrOk (q : (Nd × Bd) × List Str) : Prop where
  x : Gd 3 q.1.1
  W : WldOk q.1.2
  row : RowOk q.2
theorem wld_nil : WldOk [] := ⟨⟨fun q hq => (nomatch hq), List.nodup_nil, Nat.zero_le _⟩, fun q hq => (nomatch hq)⟩
theorem row_ls {row : List Str} (h : RowOk row) : LsOk (.t row) := ⟨fun p hp => (Bool.and_eq_true_iff.mp (h.g p hp)).1, h.nd, Nat.le_trans h.len (by decide)⟩
theorem row_rev {row : List Str} (h : RowOk row) : RowOk row.reverse := ⟨fun p hp => h.g p (List.mem_reverse.mp hp), List.pairwise_reverse.mpr (h.nd.imp fun z => z.symm), by rw [List.length_reverse]; exact h.len⟩
theorem unit_ls (a : Addr) : LsOk (.u a) := ⟨fun p hp => (nomatch hp), List.nodup_nil, Nat.zero_le _⟩
theorem wld_gA {W : Bd} (h : WldOk W) : ∀ p, gA (getB W p) = true := by
  intro p
  unfold getB valB
  cases e : W.find? (fun q => decide (q.1 = p)) with
  | none => exact (by decide +kernel : gA "" = true)
  | some q => exact (h.g q (List.mem_of_find?_eq_some e)).2
section
variable {P : Program} {w : World} {K : PySem.W.Frag} {mg : Str → Option Value} {base : Heap} {Z : Vol} {f : Addr} {fd : FuncData}
noncomputable def gLr : List D → Option Res := gT (fun q : (Nd × Bd) × List Str => [q.1.1.d, suD q.1.2, .tup (q.2.map D.str)]) LrOk fun _ => .va (.bl true)
theorem lr_inj (x y : (Nd × Bd) × List Str) (h : ([x.1.1.d, suD x.1.2, .tup (x.2.map D.str)] : List D) = [y.1.1.d, suD y.1.2, .tup (y.2.map D.str)]) : x = y := by
  injection h with h1 h
  injection h with h2 h
  injection h with h3 _
  injection h3 with h3
  exact Prod.ext (Prod.ext (nd_inj _ _ h1) (su_inj _ _ h2)) (map_inj str_inj _ _ h3)
theorem gLr_of {x : Nd} {W : Bd} {row : List Str} (h1 : Gd 3 x) (h2 : WldOk W) (h3 : RowOk row) : gLr [x.d, suD W, .tup (row.map D.str)] = some (.va (.bl true)) := gT_of (enc := fun q : (Nd × Bd) × List Str => [q.1.1.d, suD q.1.2, .tup (q.2.map D.str)]) (x := ((x, W), row)) lr_inj ⟨h1, h2, h3⟩
abbrev DLr (P : Program) (w : World) (K : PySem.W.Frag) (mg : Str → Option Value) (base : Heap) (Z : Vol) := Df P w K mg base "_law_right" 13 ["part", "world", "row"] (spP Z K 3 gLr)
abbrev psSd : List Str := ["part", "surrounding", "listed"]
abbrev psVb : List Str := ["part", "path", "listed"]
/-- what the law calls of the program -/
structure Prog33 (P : Program) (w : World) (K : PySem.W.Frag) (mg : Str → Option Value) (base : Heap) (Z : Vol) : Prop where
  sd : Df P w K mg base "sealed" 12 psSd (spP Z K 3 gSd)
  sdN : DfN P w K mg base "sealed" 12 psSd (spP Z K 3 gSd) 2 "listed"
  sdD : ∃ a, UnitAt K a ∧ DfD P w K mg base "sealed" 12 psSd (spP Z K 3 gSd) [.ref a]
  vb : Df P w K mg base "visible" 12 psVb (spP Z K 3 gVb)
  vbN : DfN P w K mg base "visible" 12 psVb (spP Z K 3 gVb) 2 "listed"
  vbD : ∃ a, UnitAt K a ∧ DfD P w K mg base "visible" 12 psVb (spP Z K 3 gVb) [.ref a]
abbrev DElems (P : Program) (w : World) (K : PySem.W.Frag) (mg : Str → Option Value) (base : Heap) (Z : Vol) := Df P w K mg base "_law_elements" 1 ["part"] (spP Z K 1 gElems)
abbrev sLr : Stmt := st__law_right
abbrev nmLr : List Str := ["part", "world", "row", "due", "kept", "form", "one", "other", "path", "element"]
theorem sc_lr : FnScope nmLr ["part", "world", "row"] (defScope sLr) := ⟨rfl, rfl, rfl, by decide +kernel, rfl, by decide +kernel, by decide +kernel⟩
/-- the last part: what is visible in each element, and without a list -/
theorem lr_end (T : Cst mg) (G0 : Prog33 P w K mg base Z) (D5 : DLsn P w K mg base Z) (D6 : DElems P w K mg base Z) {cdv : Value} {A : Around} {outer : List Env} {s : Shared} {H H0 : Hp} {E : XK} {b : Nat}
    (hr : Room 12 (A.deeper (envOfC "_law_right" (defScope sLr) s.heap.objs.size f cdv))) {x : Nd} {W : Bd} {row : List Str} (hx : Gd 3 x) (hW : WldOk W) (hrow : RowOk row) {s5 s6 s7 s8 s9 : Sl} :
    SV ⟨(cxOf CX0 P w K mg base nmLr "_law_right" (defScope sLr) f cdv A outer s H E).nox, Z, H0⟩ b [.va x.d, .va (suD W), .va (.tup (row.map D.str)), .va (sealN row (getB W) [] x).d, .va (suD W), s5, s6, s7, s8, s9] ((defBody sLr).drop 6) (retF fun b' r' => b' = b ∧ r' = .va (.bl true)) := by
  have nd := sc_lr.nd
  have hp := gd_prt (by decide) hx
  have b0 := T.blt (cxOf CX0 P w K mg base nmLr "_law_right" (defScope sLr) f cdv A outer s H E).nox rfl
  obtain ⟨av, hav, vbD⟩ := G0.vbD
  obtain ⟨asd, hasd, sdD⟩ := G0.sdD
  have hls := row_ls hrow
  have hlsr := row_ls (row_rev hrow)
  have hrok : ∀ p ∈ row, okS p = true := fun p hp => gP_ok (hrow.g p hp)
  have hy := gd_seal (row := row) hrow.g (Nat.le_trans hrow.len (by decide)) 3 x (getB W) [] (wld_gA hW) hx
  have cmy := cm_nd _ (gd_ok 3 _ hy)
  have hyd := gd_dep 3 _ hy
  refine sv_forT peD peD_inj (.tp [.nm 8, .nm 9]) rfl PassesOwn.never (pg_tup rfl (pgs_cons (pg_name (i := 8) nd rfl (by first | exact Or.inl rfl | exact Or.inr rfl)) (pgs_cons (pg_name (i := 9) nd rfl (by first | exact Or.inl rfl | exact Or.inr rfl)) pgs_nil)))
    (ei_list (ev_callP D6 (hr.mono (by decide)) (eva_cons (ev_var 0 rfl (eva_nil ⟨_, _, rfl, rfl, gElems_of (gd_wlk (by decide) hx), _, .inl rfl, ew [] x, rfl, ?_⟩)))))
  refine ⟨fun pre b2 δ2 => b2 = b ∧ ∃ s8 s9, δ2 = [.va x.d, .va (suD W), .va (.tup (row.map D.str)), .va (sealN row (getB W) [] x).d, .va (suD W), s5, s6, s7, s8, s9], ⟨rfl, _, _, rfl⟩, ?_, ?_⟩
  · rintro pre q post b2 δ2 e ⟨rfl, s8, s9, rfl⟩
    have hq : q ∈ ew [] x := by rw [e]; simp
    obtain ⟨r, e1, e2, _, hel, _⟩ := ew_at x [] q hq
    rw [List.nil_append] at e1
    rw [← e1] at e2
    have hqo := elP_ok e2 hp.p.ok
    have cmv := visL_cm hel hqo hrok
    have cm0 := visL_cm (l := []) hel hqo fun p hp => nomatch hp
    refine ⟨_, rfl, ?_⟩
    -- by the list
    refine sv_if (et_neD hr.units (ev_callP G0.vb hr (eva_cons (ev_var 0 rfl (eva_cons (ev_var 8 rfl (eva_cons (ev_var 2 rfl (eva_nil ⟨[x.d, .tup (pthD q.1), .tup (row.map D.str)], _, rfl, rfl, gVb_of (l := .t row) hp e2 hel hls, ?_⟩)))))))))
    refine ev_tuple b0 (ev_callP D5 (hr.mono (by decide)) (eva_cons (ev_var 9 rfl (eva_cons (ev_var 2 rfl (eva_nil ⟨[q.2.d, .tup (row.map D.str)], _, rfl, rfl, gLsn_of ⟨hel, hqo, Nat.le_trans hrow.len (by decide)⟩, _, rfl, _, _, rfl, rfl, cmv.sh (by decide), cmv.sh (by decide), ?_⟩))))))
    rw [show (D.tup (visL q.2 (Ls.t row).xs)).eqv (.tup (visL q.2 row)) = true from cmv.refl]
    refine sv_nil ?_
    -- turned about
    refine sv_if (et_neD hr.units (ev_callN G0.vbN hr (eva_cons (ev_var 0 rfl (eva_cons (ev_var 8 rfl (eva_nil (ev_revT (ev_var 2 rfl ⟨_, rfl, [x.d, .tup (pthD q.1)], .tup (row.map D.str).reverse, .va (.tup (visL q.2 row.reverse)), rfl, rfl, rfl, rfl, ?_, ?_⟩)))))))))
    · rw [← List.map_reverse]
      exact gVb_of (l := .t row.reverse) hp e2 hel hlsr
    refine ev_tuple b0 (ev_callP D5 (hr.mono (by decide)) (eva_cons (ev_var 9 rfl (eva_cons (ev_var 2 rfl (eva_nil ⟨[q.2.d, .tup (row.map D.str)], _, rfl, rfl, gLsn_of ⟨hel, hqo, Nat.le_trans hrow.len (by decide)⟩, _, rfl, _, _, rfl, rfl, ?_, cmv.sh (by decide), ?_⟩))))))
    · rw [visL_rev]; exact cmv.sh (by decide)
    rw [visL_rev, cmv.refl]
    refine sv_nil ?_
    -- without a list
    refine sv_if (et_neD hr.units (ev_callD vbD hr (fun H => .cons (.obj (hav H)) .nil) (eva_cons (ev_var 0 rfl (eva_cons (ev_var 8 rfl (eva_nil ⟨[x.d, .tup (pthD q.1)], _, rfl, rfl, gVb_of (l := .u av) hp e2 hel (unit_ls av), ?_⟩)))))))
    refine ev_tuple b0 (ev_callP D5 (hr.mono (by decide)) (eva_cons (ev_var 9 rfl (eva_cons (ev_tup (eva_nil ⟨[], rfl, by decide, eva_nil ⟨[q.2.d, .tup (([] : List Str).map D.str)], _, rfl, rfl, gLsn_of ⟨hel, hqo, Nat.zero_le _⟩, _, rfl, _, _, rfl, rfl, cm0.sh (by decide), cm0.sh (by decide), ?_⟩⟩))))))
    rw [show (D.tup (visL q.2 (Ls.u av).xs)).eqv (.tup (visL q.2 [])) = true from cm0.refl]
    exact sv_nil (sv_nil ⟨rfl, _, _, rfl⟩)
  · rintro b2 δ2 ⟨rfl, s8, s9, rfl⟩
    have cmr : Cm 1 (.tup (row.map D.str)) := cm_tup fun d hd => by
      obtain ⟨y, hy, rfl⟩ := List.mem_map.mp hd
      exact cm_str (hrok y hy)
    have cme : Cm 1 (.tup []) := cm_tup fun d hd => nomatch hd
    refine sv_ret (ev_or (ev_neD hr.units (ev_var 2 rfl (ev_tup (eva_nil ⟨[], rfl, by decide, _, _, rfl, rfl, cmr.sh (by decide), cme.sh (by decide), _, rfl, ?_⟩)))))
    cases row with
    | cons p row =>
      have en : (D.tup ((p :: row).map D.str)).eqv (.tup []) = false := by
        cases z : (D.tup ((p :: row).map D.str)).eqv (.tup []) with
        | false => rfl
        | true => exact nomatch (eqv_iff _ _ cmr.nb cme.nb).mp z
      rw [en]
      exact ⟨rfl, rfl, rfl⟩
    | nil =>
      rw [show (D.tup (([] : List Str).map D.str)).eqv (.tup []) = true from cme.refl]
      refine ev_one (ev_eqD hr.units (ev_callD sdD hr (fun H => .cons (.obj (hasd H)) .nil) (eva_cons (ev_var 0 rfl (eva_cons (ev_var 1 rfl (eva_nil ⟨[x.d, suD W], _, rfl, rfl, gSd_of (l := .u asd) hp hW.su (unit_ls asd), ev_var 3 rfl ⟨_, _, rfl, rfl, cmy.sh (by omega), cmy.sh (by omega), rfl, rfl, ?_⟩⟩)))))))
      rw [show (sealN (Ls.u asd).xs (getB W) [] x).d.eqv (sealN [] (getB W) [] x).d = true from cmy.refl]
theorem ok_lr (F : Fun K "_law_right" "_law_right" sLr f fd) (T : Cst mg) (G0 : Prog33 P w K mg base Z) (D1 : DLsl P w K mg base Z 3) (D2 : DLpl P w K mg base Z 3) (D3 : DMn P w K mg base Z 3) (D5 : DLsn P w K mg base Z) (D6 : DElems P w K mg base Z) : FnOk P w K mg base CX0 13 f fd ["part", "world", "row"] (spP Z K 3 gLr) := by
  have sc := sc_lr
  refine fn_pure F sc rfl (gT_out fun x hx => rfl) fun cdv A outer s H E b ds r hr hl hg => ?_
  obtain ⟨⟨⟨x, W⟩, row⟩, rfl, ⟨hx, hW, hrow⟩, rfl⟩ := gT_one hg
  have hx : Gd 3 x := hx
  have hW : WldOk W := hW
  have hrow : RowOk row := hrow
  have b0 := T.blt (cxOf CX0 P w K mg base nmLr "_law_right" (defScope sLr) f cdv A outer s H E).nox rfl
  have hu0 : (A.deeper (envOfC "_law_right" (defScope sLr) s.heap.objs.size f cdv)).units < cLine := by have := hr.un; omega
  have hp := gd_prt (by decide) hx
  have hls := row_ls hrow
  have hlsr := row_ls (row_rev hrow)
  have hy := gd_seal (row := row) hrow.g (Nat.le_trans hrow.len (by decide)) 3 x (getB W) [] (wld_gA hW) hx
  have hpy := gd_prt (by decide) hy
  have cmy := cm_nd _ (gd_ok 3 _ hy)
  have hyd := gd_dep 3 _ hy
  have hxd := gd_dep 3 _ hx
  have hW100 := hW.su.len
  refine sv_set2 3 4 rfl sc.nd (by decide) (eva_cons (ev_callP D1 (hr.mono (by decide)) (eva_cons (ev_var 0 rfl (eva_cons (ev_var 1 rfl (eva_cons (ev_frzD (ev_dnewK ⟨_, rfl, eva_cons (ev_var 2 rfl (eva_nil ⟨[x.d, suD W, suD [], .tup (row.map D.str)], _, rfl, rfl, gLsl_of ⟨hp.p.el, hp.p.ok, hp.h, hxd, ?_, ?_, Nat.le_trans hrow.len (by decide)⟩, ?_⟩))⟩)))))))))
  · show W.length + 50 * x.dep ≤ 100000
    omega
  · show 0 + 100 * x.dep ≤ 100000
    omega
  refine eva_cons (ev_frzD (ev_dcopy b0 (ev_var 1 rfl ⟨suK W, rfl, _, rfl, eva_nil ⟨_, _, rfl, ?_⟩⟩)))
  have e0 : sealN row.reverse (getB W) [] x = sealN row (getB W) [] x := seal_congr (fun y => List.mem_reverse) x _ _
  have e1 : sealN row (getB []) [] (sealN row (getB W) [] x) = sealN row (getB W) [] x := seal_seal row x _ _
  have emn : mean (getB []) (plainN (sealN row (getB W) [] x)) = mean (getB W) (plainN x) := mean_seal row x _ _
  refine sv_set 5 (ev_callP G0.sd hr (eva_cons (ev_var 0 rfl (eva_cons (ev_var 1 rfl (eva_cons (ev_var 2 rfl (eva_nil ⟨[x.d, suD W, .tup (row.map D.str)], _, rfl, rfl, gSd_of (l := .t row) hp hW.su hls, _, rfl, ?_⟩)))))))) sc.nd
  show SV _ b [.va x.d, .va (suD W), .va (.tup (row.map D.str)), .va (sealN row (getB W) [] x).d, .va (suD W), .va (sealN row (getB W) [] x).d, .un, .un, .un, .un] _ _
  refine sv_if (et_pw (ew_or (et_neD hr.units (ev_var 5 rfl (ev_var 3 rfl ⟨_, _, rfl, rfl, cmy.sh (by omega), cmy.sh (by omega), ?_⟩)))))
  rw [cmy.refl]
  refine ew_or (et_neD hr.units (ev_callN G0.sdN hr (eva_cons (ev_var 0 rfl (eva_cons (ev_var 1 rfl (eva_nil (ev_revT (ev_var 2 rfl ⟨_, rfl, [x.d, suD W], .tup (row.map D.str).reverse, .va (sealN row.reverse (getB W) [] x).d, rfl, rfl, rfl, rfl, ?_, ?_⟩)))))))))
  · rw [← List.map_reverse]
    exact gSd_of (l := .t row.reverse) hp hW.su hlsr
  rw [e0]
  refine ev_var 3 rfl ⟨_, _, rfl, rfl, cmy.sh (by omega), cmy.sh (by omega), ?_⟩
  rw [cmy.refl]
  refine ew_or1 (et_neDk hu0 (ev_var 1 rfl (ev_var 4 rfl ⟨suK W, rfl, rfl, ?_, ?_, ?_⟩)))
  · unfold suK
    rw [List.map_map]
    have : (W.map ((fun q : Key × D => q.1) ∘ fun q => (kS q.1, D.str q.2))) = (W.map (·.1)).map kS := by rw [List.map_map]; rfl
    rw [this]
    exact List.pairwise_map.mpr (hW.su.nd.imp fun h z => h (Sum.inr.inj z))
  · intro q hq
    obtain ⟨r, _, rfl⟩ := List.mem_map.mp hq
    exact ⟨_, rfl⟩
  refine sv_nil ?_
  -- the form, sealed again
  refine sv_if (et_pw (ew_or (et_neD hr.units (ev_callP G0.sd hr (eva_cons (ev_var 5 rfl (eva_cons (ev_frzD (ev_dnewK ⟨_, rfl, eva_cons (ev_var 2 rfl (eva_nil ⟨[(sealN row (getB W) [] x).d, suD [], .tup (row.map D.str)], _, rfl, rfl, gSd_of (l := .t row) hpy wld_nil.su hls, ev_var 3 rfl ⟨_, _, rfl, rfl, ?_, cmy.sh (by omega), ?_⟩⟩))⟩)))))))))
  · show (sealN row (getB []) [] _).d.sh = true
    rw [e1]; exact cmy.sh (by omega)
  rw [show (sealN (Ls.t row).xs (getB []) [] (sealN row (getB W) [] x)).d.eqv (sealN row (getB W) [] x).d = true by show (sealN row (getB []) [] _).d.eqv _ = true; rw [e1]; exact cmy.refl]
  refine ew_or1 (et_neD hr.units (ev_callN G0.sdN hr (eva_cons (ev_var 5 rfl (eva_cons (ev_frzD (ev_dnewK ⟨_, rfl, eva_nil (ev_var 2 rfl ⟨[(sealN row (getB W) [] x).d, suD []], .tup (row.map D.str), _, rfl, rfl, rfl, rfl, gSd_of (l := .t row) hpy wld_nil.su hls, ev_var 5 rfl ⟨_, _, rfl, rfl, ?_, cmy.sh (by omega), ?_⟩⟩)⟩)))))))
  · show (sealN row (getB []) [] _).d.sh = true
    rw [e1]; exact cmy.sh (by omega)
  rw [show (sealN (Ls.t row).xs (getB []) [] (sealN row (getB W) [] x)).d.eqv (sealN row (getB W) [] x).d = true by show (sealN row (getB []) [] _).d.eqv _ = true; rw [e1]; exact cmy.refl]
  refine sv_nil ?_
  -- the meanings of the plainer ones
  refine sv_set2 6 7 rfl sc.nd (by decide) (eva_cons (ev_callP D2 (hr.mono (by decide)) (eva_cons (ev_var 0 rfl (eva_nil ⟨[x.d], _, rfl, rfl, gLpl_of ⟨hp.p.el, hp.p.ok, hp.h, hxd⟩, ?_⟩)))))
  refine eva_cons (ev_callP D2 (hr.mono (by decide)) (eva_cons (ev_var 5 rfl (eva_nil ⟨[(sealN row (getB W) [] x).d], _, rfl, rfl, gLpl_of ⟨hpy.p.el, hpy.p.ok, hpy.h, hyd⟩, eva_nil ⟨_, _, rfl, ?_⟩⟩))))
  obtain ⟨pa, pb, pc, pd⟩ := plain_same x hp.p.ok
  obtain ⟨qa, qb, qc, qd⟩ := plain_same _ hpy.p.ok
  have hWo : ∀ p, okS (getB W p) = true := fun p => gA_ok (wld_gA hW p)
  have cmm : Cm 20 (mnD (mean (getB W) (plainN x))) := by
    cases e : mean (getB W) (plainN x) with
    | none => exact cm_non.mono (by decide)
    | some d => exact (mean_cm _ _ d pa hWo e).mono (by rw [pc]; omega)
  refine sv_if (et_neD hr.units (ev_callP D3 (hr.mono (by decide)) (eva_cons (ev_var 6 rfl (eva_cons (ev_var 1 rfl (eva_cons (ev_frzD (ev_dnewK ⟨_, rfl, eva_nil ⟨[(plainN x).d, suD W, .dk []], _, rfl, rfl, gMn_of ⟨by rw [pd]; exact hp.p.el, pa, by rw [pb]; exact hp.h, plain_pl x, by rw [pc]; exact hxd, ?_, hWo⟩, ?_⟩⟩)))))))))
  · show W.length + 50 * (plainN x).dep ≤ 100000
    rw [pc]; omega
  refine ev_callP D3 (hr.mono (by decide)) (eva_cons (ev_var 7 rfl (eva_cons (ev_frzD (ev_dnewK ⟨_, rfl, eva_cons (ev_frzD (ev_dnewK ⟨_, rfl, eva_nil ⟨[(plainN (sealN row (getB W) [] x)).d, suD [], .dk []], _, rfl, rfl, gMn_of ⟨by rw [qd]; exact hpy.p.el, qa, by rw [qb]; exact hpy.h, plain_pl _, by rw [qc]; exact hyd, ?_, fun p => okS_no⟩, ?_⟩⟩))⟩)))))
  · show 0 + 50 * (plainN (sealN row (getB W) [] x)).dep ≤ 100000
    rw [qc]; omega
  rw [emn]
  refine ⟨_, _, rfl, rfl, cmm.sh (by decide), cmm.sh (by decide), ?_⟩
  rw [cmm.refl]
  refine sv_nil ?_
  exact lr_end T G0 D5 D6 hr hx hW hrow
end
end G
set_option Elab.async false
set_option linter.all false
set_option maxRecDepth 100000
set_option maxHeartbeats 8000000
namespace PD
open PySem PySem.Spec PyProof.Rows L2
section
variable {C : Cn} {b : Nat} {δ : List Sl} {F : Fin} {tg iter : Expr} {ss rest : List Stmt} {pos : Pos}
/-- a for whose walk is told for the slots as they stand -/
theorem for_at {os : List Addr} {σ : L2.St} {H : Hp} (p : Pat) (hc : C.X.calm = true) (hp : PassesOwn (model C.X.prog C.X.w) C.X.A C.X.env C.X.xe) (hg : PG C.X tg (gPat C.X.K p)) (st : Sts C os b δ σ H) {Pd : Nat → List D → Prop}
    (h : ∀ R : It → Hp → Prop, (∀ J H' b' ds, Fr C.Z.S H H' → C.Z.J b' H' → Wk C.K C.Z J ds os H' → Pd b' ds → R J H') → WI C.X tg iter σ H R)
    (hh : ∀ b1 ds, Pd b1 ds → ∃ Iv : List D → Nat → List Sl → Prop, Iv [] b1 δ ∧
      (∀ (pre : List D) (d : D) (post : List D) (b2 : Nat) (δ2 : List Sl), ds = pre ++ d :: post → Iv pre b2 δ2 →
        ∃ δ', bindP p d δ2 = some δ' ∧ SV C b2 δ' ss ⟨Iv (pre ++ [d]), fun b3 δ3 => SV C b3 δ3 rest F, Iv (pre ++ [d]), F.R⟩) ∧
      ∀ b2 δ2, Iv ds b2 δ2 → SV C b2 δ2 rest F)
    (hs : ∀ x, foldedSetIterable iter C.X.env x = pure x := by intro _; rfl) (D : Ends) (ed : EndsOk C F os H D) : WSs C.X (.For tg iter ss [] pos :: rest) D σ H := by
  refine WSs.of (pss_cons (ps_for hp hc piW hg pssW hs) pssW) ?_
  refine h _ fun J H1 b1 ds f1 j1 W hpd => ?_
  obtain ⟨Iv, i0, step, last⟩ := hh b1 ds hpd
  have st1 := st.on f1 j1
  refine ⟨fun i m σ2 H2 => m = ds.length - i ∧ i ≤ ds.length ∧ ∃ b2 δ2 os2, Sts C os2 b2 δ2 σ2 H2 ∧ Gr C.Z os H1 os2 H2 ∧ Iv (ds.take i) b2 δ2, ⟨ds.length, ?_⟩, ?_⟩
  · exact ⟨by omega, Nat.zero_le _, b1, δ, os, st1, Gr.refl, by simpa using i0⟩
  · rintro i m σ2 H2 ⟨rfl, hi, b2, δ2, os2, st2, g2, iv⟩
    by_cases hlt : i < ds.length
    · obtain ⟨go, item⟩ := W.go os2 H2 g2 i hlt
      refine .inr ⟨go, fun σ' H' => ∃ b2 δ2 os2, Sts C os2 b2 δ2 σ' H' ∧ Gr C.Z os H1 os2 H' ∧ Iv (ds.take (i + 1)) b2 δ2, fun σ' H' z => ⟨ds.length - (i + 1), by omega, rfl, hlt, z⟩, fun x H3 y => ?_⟩
      obtain ⟨f3, d, hd, rx⟩ := item x H3 y
      have f3' : Fr C.Z.S H2 H3 := f3.wide fun _ z => z.elim
      have j3 : C.Z.J b2 H3 := C.Z.stay _ _ _ st2.j (f3.wide fun _ z => z.elim)
      have eds : ds = ds.take i ++ d :: ds.drop (i + 1) := by
        obtain ⟨hh, e⟩ := List.getElem?_eq_some_iff.mp hd
        rw [← e, ← List.drop_eq_getElem_cons hh, List.take_append_drop]
      have etk : ds.take (i + 1) = ds.take i ++ [d] := by
        rw [List.take_succ, hd]
        rfl
      obtain ⟨δ', hb, hstep⟩ := step (ds.take i) d (ds.drop (i + 1)) b2 δ2 eds iv
      obtain ⟨σ', st4, _, hgo⟩ := bind_ok p rx (st2.on f3' j3) hb
      refine hgo _ ?_
      have g3 : Gr C.Z os H1 os2 H3 := g2.trans (Gr.of f3')
      refine hstep os2 σ' H3 st4 _ ⟨fun b' δ5 os' σ5 H5 n s g => ⟨b', δ5, os', s, g3.trans g, by rw [etk]; exact n⟩, fun b' δ5 os' σ5 H5 n s g => ?_, fun b' δ5 os' σ5 H5 n s g => ⟨b', δ5, os', s, g3.trans g, by rw [etk]; exact n⟩, ed.rt⟩
      exact n os' σ5 H5 s D (ed.on ((Gr.of f1).trans (g3.trans g)))
    · have e : i = ds.length := by omega
      subst e
      rw [List.take_length] at iv
      exact .inl ⟨W.stop os2 H2 g2 _ (Nat.le_refl _), last b2 δ2 iv os2 σ2 H2 st2 D (ed.on ((Gr.of f1).trans g2))⟩
end
end PD
namespace G
open PySem PySem.Spec PyProof.Rows L2 PD
abbrev sLaw : Stmt := st_law
abbrev nLaw : List Str := ["script", "state", "turn", "part", "world", "row", "lone"]
theorem sc_law : FnScope nLaw ["script"] (defScope sLaw) := ⟨rfl, rfl, rfl, by decide +kernel, rfl, by decide +kernel, by decide +kernel⟩
/-! ### the element by hand -/
def loneA : List ((Str × Str) × Vl) := [(("", "kind"), .q "p" "x")]
def loneN (ds : List (Str × Str)) : Nd := .el "" "a" ds loneA []
theorem lone_gd : Gd 1 (loneN []) := by
  refine ⟨by decide +kernel, by decide +kernel, List.nodup_nil, fun q hq => (nomatch hq), by decide, by decide +kernel, fun q hq => ?_, by decide, by decide, rfl, fun c hc => (nomatch hc)⟩
  rw [List.mem_singleton.mp hq]
  exact ⟨by decide +kernel, by decide +kernel, by decide +kernel⟩
theorem lone_vis : visE "" loneA [] = [("" : Str)] := by
  obtain ⟨_, nd, m⟩ := visE_is "" loneA []
  have all : ∀ y : Str, y ∈ visE "" loneA [] ↔ y = "" := fun y => by
    rw [m, show seenL "" loneA ++ [] = [("" : Str)] by decide +kernel, List.mem_singleton]
  generalize visE "" loneA [] = vs at nd all
  cases vs with
  | nil => exact nomatch (all "").mpr rfl
  | cons y vs =>
    have hy := (all y).mp List.mem_cons_self
    cases vs with
    | nil => rw [hy]
    | cons z vs =>
      have hz := (all z).mp (List.mem_cons_of_mem _ List.mem_cons_self)
      rw [List.nodup_cons] at nd
      exact absurd (by rw [hy, hz]; exact List.mem_cons_self) nd.1
theorem lone_same {A : Af} (h : A "" = "") : sealN [] A [] (loneN []) = loneN [] := by
  unfold loneN
  rw [sealN, lone_vis, sealNs]
  have e : slf (bndA [] A) [] [("" : Str)] = ([], []) := by
    show stp A ([], []) "" = _
    unfold stp
    rw [if_pos (by rw [h]; rfl)]
  rw [e]
theorem lone_more : sealN [] (getB [("", "u")]) [] (loneN []) = loneN [("", "u")] := by
  unfold loneN
  rw [sealN, lone_vis, sealNs]
  have e : (slf (bndA [] (getB [("", "u")])) [] [("" : Str)]).1 = [(("" : Str), ("u" : Str))] := by decide +kernel
  rw [e]
section
variable {P : Program} {w : World} {K : PySem.W.Frag} {mg : Str → Option Value} {base : Heap} {f : Addr} {fd : FuncData}
/-- the statements of one turn -/
abbrev turnBody : List Stmt := match (defBody sLaw).tail with
  | .For _ _ ss _ _ :: _ => ss
  | _ => []
/-- one turn -/
theorem law_turn {L : LC} (T : Cst mg) (D1 : DWh P w K mg base L) (D2 : DWd P w K mg base L) (D3 : DRw P w K mg base L) (D4 : DLr P w K mg base (lawVol L none))
    {cdv : Value} {A : Around} {outer : List Env} {s : Shared} {H H0 : Hp} {E : XK} (hr : Room 13 (A.deeper (envOfC "law" (defScope sLaw) s.heap.objs.size f cdv))) {b : Nat} {d : D} {s3 s4 s5 s6 : Sl} (hb : b ≤ 100000) {F : PD.Fin} {ss : List Stmt} (hss : turnBody = ss)
    (hF : ∀ b' s3 s4 s5, b' ≤ b + 1000 → F.N b' [.un, .va L.sD, .va d, s3, s4, s5, s6]) :
    SV (L.C (cxOf CX0 P w K mg base nLaw "law" (defScope sLaw) f cdv A outer s H E).nox none H0) b [.un, .va L.sD, .va d, s3, s4, s5, s6] ss F := by
  subst hss
  have nd : nLaw.Nodup := sc_law.nd
  have b0 := T.blt (cxOf CX0 P w K mg base nLaw "law" (defScope sLaw) f cdv A outer s H E).nox rfl
  refine sv_set3 3 4 5 rfl nd (by decide) (by decide) (by decide) (eva_cons (ev_call D1 (hr.mono (by decide)) (eva_cons (ev_var 1 rfl (eva_nil ⟨rfl, ⟨by omega, rfl⟩, fun b1 r1 _ po1 => ?_⟩)))))
  obtain ⟨x, hx, rfl, hb1⟩ := po1
  refine eva_cons (ev_frzD (ev_call D2 (hr.mono (by decide)) (eva_cons (ev_var 1 rfl (eva_nil ⟨rfl, ⟨by omega, rfl⟩, fun b2 r2 _ po2 => ?_⟩)))))
  obtain ⟨W, hW, rfl, hb2⟩ := po2
  refine ⟨_, rfl, eva_cons (ev_call D3 (hr.mono (by decide)) (eva_cons (ev_var 1 rfl (eva_nil ⟨rfl, ⟨by omega, rfl⟩, fun b3 r3 _ po3 => ?_⟩))))⟩
  obtain ⟨row, hrow, rfl, hb3⟩ := po3
  refine eva_nil ⟨_, _, _, rfl, ?_⟩
  refine sv_if (et_pw (ew_or (et_not (et_val (ev_callP D4 hr (eva_cons (ev_var 3 rfl (eva_cons (ev_var 4 rfl (eva_cons (ev_var 5 rfl (eva_nil ⟨[x.d, suD W, .tup (row.map D.str)], _, rfl, rfl, gLr_of hx hW hrow, _, rfl, ?_⟩))))))))))))
  refine ew_or1 (et_not (et_val (ev_callP D4 hr (eva_cons (ev_var 3 rfl (eva_cons (ev_frzD (ev_dnewK ⟨_, rfl, eva_cons (ev_var 5 rfl (eva_nil ⟨[x.d, suD [], .tup (row.map D.str)], _, rfl, rfl, gLr_of hx wld_nil hrow, _, rfl, ?_⟩))⟩))))))))
  exact sv_nil (sv_nil (hF _ _ _ _ (by omega)))
/-- behind the turns -/
theorem law_tail {L : LC} (T : Cst mg) (G0 : Prog33 P w K mg base (lawVol L none)) {cdv : Value} {A : Around} {outer : List Env} {s : Shared} {H H0 : Hp} {E : XK} (hr : Room 13 (A.deeper (envOfC "law" (defScope sLaw) s.heap.objs.size f cdv))) {b : Nat} {s2 s3 s4 s5 s6 : Sl} {ss : List Stmt} (hss : (defBody sLaw).drop 2 = ss) :
    SV (L.C (cxOf CX0 P w K mg base nLaw "law" (defScope sLaw) f cdv A outer s H E).nox none H0) b [.un, .va L.sD, s2, s3, s4, s5, s6] ss (retF fun _ r => r = .va (.bl true)) := by
  subst hss
  have nd : nLaw.Nodup := sc_law.nd
  obtain ⟨asd, hasd, sdD⟩ := G0.sdD
  have hp := gd_prt (n := 1) (by decide) lone_gd
  have hld : (loneN []).d = .tup [.str "element", .tup [.str "", .str "a"], .tup [], .tup [.tup [.tup [.str "", .str "kind"], .tup [.str "p", .str "x"]]], .tup []] := by
    unfold loneN
    rw [Nd.d, ndsD]
    rfl
  show SV _ _ _ (Stmt.Assign _ _ _ :: _) _
  with_reducible refine sv_set 6 ?_ ?_ ?_ ?_ ?_ ?_
  rotate_left 1
  · exact nd
  · rfl
  · first | exact Or.inl rfl | exact Or.inr rfl
  · rfl
  · first | exact .inl rfl | exact .inr rfl
  with_reducible refine ev_tup ?_
  with_reducible refine eva_cons ?_ ?_
  rotate_left 1
  · rfl
  with_reducible refine ev_str ?_
  with_reducible refine eva_cons ?_ ?_
  rotate_left 1
  · rfl
  with_reducible refine ev_tup ?_
  with_reducible refine eva_cons ?_ ?_
  rotate_left 1
  · rfl
  with_reducible refine ev_str ?_
  with_reducible refine eva_cons ?_ ?_
  rotate_left 1
  · rfl
  with_reducible refine ev_str ?_
  with_reducible refine eva_nil ?_
  refine ⟨_, rfl, by simp, ?_⟩
  with_reducible refine eva_cons ?_ ?_
  rotate_left 1
  · rfl
  with_reducible refine ev_tup ?_
  with_reducible refine eva_nil ?_
  refine ⟨_, rfl, by simp, ?_⟩
  with_reducible refine eva_cons ?_ ?_
  rotate_left 1
  · rfl
  with_reducible refine ev_tup ?_
  with_reducible refine eva_cons ?_ ?_
  rotate_left 1
  · rfl
  with_reducible refine ev_tup ?_
  with_reducible refine eva_cons ?_ ?_
  rotate_left 1
  · rfl
  with_reducible refine ev_tup ?_
  with_reducible refine eva_cons ?_ ?_
  rotate_left 1
  · rfl
  with_reducible refine ev_str ?_
  with_reducible refine eva_cons ?_ ?_
  rotate_left 1
  · rfl
  with_reducible refine ev_str ?_
  with_reducible refine eva_nil ?_
  refine ⟨_, rfl, by simp, ?_⟩
  with_reducible refine eva_cons ?_ ?_
  rotate_left 1
  · rfl
  with_reducible refine ev_tup ?_
  with_reducible refine eva_cons ?_ ?_
  rotate_left 1
  · rfl
  with_reducible refine ev_str ?_
  with_reducible refine eva_cons ?_ ?_
  rotate_left 1
  · rfl
  with_reducible refine ev_str ?_
  with_reducible refine eva_nil ?_
  refine ⟨_, rfl, by simp, ?_⟩
  with_reducible refine eva_nil ?_
  refine ⟨_, rfl, by simp, ?_⟩
  with_reducible refine eva_nil ?_
  refine ⟨_, rfl, by simp, ?_⟩
  with_reducible refine eva_cons ?_ ?_
  rotate_left 1
  · rfl
  with_reducible refine ev_tup ?_
  with_reducible refine eva_nil ?_
  refine ⟨_, rfl, by simp, ?_⟩
  with_reducible refine eva_nil ?_
  refine ⟨_, rfl, by simp, ?_⟩
  refine ⟨.va (loneN []).d, by rw [hld]; rfl, ?_⟩
  have cml := (cm_nd _ hp.p.ok)
  -- three surroundings
  show SV _ _ [.un, .va L.sD, s2, s3, s4, s5, .va (loneN []).d] (Stmt.For _ _ _ _ _ :: _) _
  with_reducible refine sv_forT suD su_inj (.nm 4) ?_ ?_ ?_ ?_ ?_
  · rfl
  · exact PassesOwn.never
  · exact pg_name (i := 4) nd rfl (by first | exact Or.inl rfl | exact Or.inr rfl)
  rotate_left 1
  · intro _; rfl
  with_reducible refine ei_tup ?_
  with_reducible refine ev_tup ?_
  with_reducible refine eva_cons ?_ ?_
  rotate_left 1
  · rfl
  with_reducible refine ev_frzD ?_
  with_reducible refine ev_dnewK ?_
  refine ⟨_, rfl, ?_⟩
  with_reducible refine eva_cons ?_ ?_
  rotate_left 1
  · rfl
  with_reducible refine ev_frzD ?_
  with_reducible refine ev_disp1 ?_
  with_reducible refine ev_str ?_
  with_reducible refine ev_str ?_
  refine ⟨kS "p", .str "u", rfl, rfl, _, rfl, ?_⟩
  with_reducible refine eva_cons ?_ ?_
  rotate_left 1
  · rfl
  with_reducible refine ev_frzD ?_
  with_reducible refine ev_disp2 ?_
  with_reducible refine ev_str ?_
  with_reducible refine ev_str ?_
  with_reducible refine ev_str ?_
  with_reducible refine ev_str ?_
  refine ⟨"p", .str "v", "q", .str "u", rfl, rfl, rfl, rfl, by decide +kernel, _, rfl, ?_⟩
  with_reducible refine eva_nil ?_
  refine ⟨[suD [], suD [("p", "u")], suD [("p", "v"), ("q", "u")]], rfl, by simp, _, rfl, [[], [("p", "u")], [("p", "v"), ("q", "u")]], rfl, ?_⟩
  refine ⟨fun _ b2 δ2 => ∃ s4, δ2 = [.un, .va L.sD, s2, s3, s4, s5, .va (loneN []).d], ⟨_, rfl⟩, ?_, ?_⟩
  · rintro pre W post b2 δ2 e ⟨s4, rfl⟩
    have hW : W ∈ [([] : Bd), [("p", "u")], [("p", "v"), ("q", "u")]] := by rw [e]; simp
    have hsu : SuOk W ∧ getB W "" = "" := by
      simp only [List.mem_cons, List.not_mem_nil, or_false] at hW
      rcases hW with rfl | rfl | rfl
      · exact ⟨wld_nil.su, rfl⟩
      · exact ⟨⟨fun q hq => by rw [List.mem_singleton.mp hq]; exact ⟨by decide +kernel, by decide +kernel⟩, by decide +kernel, by decide⟩, by decide +kernel⟩
      · refine ⟨⟨fun q hq => ?_, by decide +kernel, by decide⟩, by decide +kernel⟩
        simp only [List.mem_cons, List.not_mem_nil, or_false] at hq
        rcases hq with rfl | rfl
        · exact ⟨by decide +kernel, by decide +kernel⟩
        · exact ⟨by decide +kernel, by decide +kernel⟩
    have es := lone_same (A := getB W) hsu.2
    refine ⟨_, rfl, ?_⟩
    refine sv_if (et_neD hr.units (ev_callD sdD (hr.mono (by decide)) (fun H => .cons (.obj (hasd H)) .nil) (eva_cons (ev_var 6 rfl (eva_cons (ev_var 4 rfl (eva_nil ⟨[(loneN []).d, suD W], _, rfl, rfl, gSd_of (l := .u asd) hp hsu.1 (unit_ls asd), ev_var 6 rfl ⟨_, _, rfl, rfl, ?_, cml.sh (by decide), ?_⟩⟩)))))))
    · show (sealN [] (getB W) [] (loneN [])).d.sh = true
      rw [es]; exact cml.sh (by decide)
    rw [show (sealN (Ls.u asd).xs (getB W) [] (loneN [])).d.eqv (loneN []).d = true by show (sealN [] (getB W) [] (loneN [])).d.eqv _ = true; rw [es]; exact cml.refl]
    exact sv_nil (sv_nil ⟨_, rfl⟩)
  · rintro b2 δ2 ⟨s4, rfl⟩
    have hsu : SuOk [("", "u")] := ⟨fun q hq => by rw [List.mem_singleton.mp hq]; exact ⟨by decide +kernel, by decide +kernel⟩, by decide +kernel, by decide⟩
    have hmd : (loneN [("", "u")]).d = .tup [.str "element", .tup [.str "", .str "a"], .tup [.tup [.str "", .str "u"]], .tup [.tup [.tup [.str "", .str "kind"], .tup [.str "p", .str "x"]]], .tup []] := by
      unfold loneN
      rw [Nd.d, ndsD]
      rfl
    have okm : (loneN [("", "u")]).ok = true := by decide +kernel
    have cmm := cm_nd _ okm
    have e4 : sealN (Ls.u asd).xs (getB [("", "u")]) [] (loneN []) = loneN [("", "u")] := lone_more
    refine sv_ret (ev_eqD hr.units (ev_callD sdD (hr.mono (by decide)) (fun H => .cons (.obj (hasd H)) .nil) (eva_cons (ev_var 6 rfl (eva_cons (ev_frzD (ev_disp1 (ev_str (ev_str ⟨kS "", .str "u", rfl, rfl, _, rfl, eva_nil ⟨[(loneN []).d, suD [("", "u")]], _, rfl, rfl, gSd_of (l := .u asd) hp hsu (unit_ls asd), ?_⟩⟩)))))))))
    rw [e4]
    with_reducible refine ev_tup ?_
    with_reducible refine eva_cons ?_ ?_
    rotate_left 1
    · rfl
    with_reducible refine ev_str ?_
    with_reducible refine eva_cons ?_ ?_
    rotate_left 1
    · rfl
    with_reducible refine ev_tup ?_
    with_reducible refine eva_cons ?_ ?_
    rotate_left 1
    · rfl
    with_reducible refine ev_str ?_
    with_reducible refine eva_cons ?_ ?_
    rotate_left 1
    · rfl
    with_reducible refine ev_str ?_
    with_reducible refine eva_nil ?_
    refine ⟨_, rfl, by simp, ?_⟩
    with_reducible refine eva_cons ?_ ?_
    rotate_left 1
    · rfl
    with_reducible refine ev_tup ?_
    with_reducible refine eva_cons ?_ ?_
    rotate_left 1
    · rfl
    with_reducible refine ev_tup ?_
    with_reducible refine eva_cons ?_ ?_
    rotate_left 1
    · rfl
    with_reducible refine ev_str ?_
    with_reducible refine eva_cons ?_ ?_
    rotate_left 1
    · rfl
    with_reducible refine ev_str ?_
    with_reducible refine eva_nil ?_
    refine ⟨_, rfl, by simp, ?_⟩
    with_reducible refine eva_nil ?_
    refine ⟨_, rfl, by simp, ?_⟩
    with_reducible refine eva_cons ?_ ?_
    rotate_left 1
    · rfl
    refine ev_ix (ev_var 6 rfl (ev_int ⟨[.str "element", .tup [.str "", .str "a"], .tup [], .tup [.tup [.tup [.str "", .str "kind"], .tup [.str "p", .str "x"]]], .tup []], _, _, .inl (by rw [hld]), rfl, atN (j := 3) rfl, ?_⟩))
    with_reducible refine eva_cons ?_ ?_
    rotate_left 1
    · rfl
    with_reducible refine ev_tup ?_
    with_reducible refine eva_nil ?_
    refine ⟨_, rfl, by simp, ?_⟩
    with_reducible refine eva_nil ?_
    refine ⟨_, rfl, by simp, ?_⟩
    refine ⟨_, (loneN [("", "u")]).d, rfl, by rw [hmd]; rfl, cmm.sh (by decide), cmm.sh (by decide), rfl, ?_⟩
    rw [cmm.refl]
end
end G
set_option Elab.async false
set_option linter.all false
set_option maxRecDepth 100000
set_option maxHeartbeats 8000000
namespace G
open PySem PySem.Spec PyProof.Rows L2 PD
/-! ### _law_begin -/
def cellsOf (ns : List Int) : List Int := if ns = [] then [0] else ns
def leftOf (z : Int) : Int := if decide (z ≥ 1000000000000000000) = true then z else 0
theorem leftOf_pos (z : Int) : 0 ≤ leftOf z := by
  unfold leftOf
  split
  · rename_i h
    have := of_decide_eq_true h
    omega
  · exact Int.le_refl 0
theorem cellsOf_len {ns : List Int} (h : ns.length ≤ 63) : (cellsOf ns).length ≤ 63 ∧ cellsOf ns ≠ [] := by
  unfold cellsOf
  split
  · exact ⟨by decide, by simp⟩
  · exact ⟨h, by assumption⟩
theorem sqL_fr {K : PySem.W.Frag} {M : Addr → Prop} {H H' : Hp} {a : Addr} {xs : List V} (h : SqL K H a xs) (f : Fr M H H') (m : ¬ M a) : SqL K H' a xs := by
  rcases h with (e | ⟨o, e⟩) | h
  · exact .inl (.inl (f.keep m e))
  · exact .inl (.inr ⟨o, f.keep m e⟩)
  · exact .inr h
theorem dp_ints {K : PySem.W.Frag} {H : Hp} : ∀ ns : List Int, DpAll K H (ns.map V.int) (ns.map PyData.int)
  | [] => .nil
  | n :: ns => .cons (.int n) (dp_ints ns)
theorem ints_shaped (ns : List Int) : SeqAt.shaped (.list (ns.map PyData.int)) = true := by
  have h : PyData.canLayAll0 (ns.map PyData.int) = true ∧ PyData.depthAll (ns.map PyData.int) = 0 := by
    induction ns with
    | nil => exact ⟨rfl, rfl⟩
    | cons n ns ih => rw [List.map_cons]; simp [PyData.canLayAll0, PyData.canLay0, PyData.depthAll, PyData.depth, ih.1, ih.2]
  simp [SeqAt.shaped, PyData.canLay0, PyData.depth, h.1, h.2]
/-- what it makes: the dict s, the lists c, l in it -/
def spBeg (K : PySem.W.Frag) : Sp := fun vs H Q _ => ∃ (a : Addr) (ns : List Int), vs = [.ref a] ∧ SqL K H a (ns.map V.int) ∧ ns.length ≤ 63 ∧ ∀ (L : LC) (H' : Hp), L.cells = cellsOf ns → H L.s = none → H L.l = none → H L.c = none → L.s ≠ L.l → L.s ≠ L.c → L.l ≠ L.c →
  H' L.s = some (.dK (stKV L 0)) → H' L.c = some (.lst (L.cells.map V.int)) → H' L.l = some (.lst ((L.cells.map leftOf).map V.int)) → Fr (fun _ => False) H H' → Q (.ref L.s) H'
abbrev nBeg : List Str := ["script", "cells", "cell"]
abbrev sBeg : Stmt := st__law_begin
section
variable {P : Program} {w : World} {K : PySem.W.Frag} {mg : Str → Option Value} {base : Heap} {f : Addr} {fd : FuncData}
theorem op_geI {X : Cx} : OpR X (compareOp .GtE) (rI0 fun i j => .bl (decide (i ≥ j))) := op_ge
theorem ok_beg (F : Fun K "_law_begin" "_law_begin" sBeg f fd) (T : Cst mg) : FnOk P w K mg base CX0 1 f fd ["script"] (spBeg K) := by
  have sc : FnScope nBeg ["script"] (defScope sBeg) := ⟨rfl, rfl, rfl, by decide +kernel, rfl, by decide +kernel, by decide +kernel⟩
  have nd := sc.nd
  refine F.ok sc (fun vs H Q E h => ?_) (fun cdv A outer s H vs Q E hr h => ⟨_, pssW, ?_⟩)
  · obtain ⟨a, ns, rfl, _⟩ := h
    rfl
  obtain ⟨a, ns, rfl, hS, hl, hq⟩ := h
  have b0 := T.blt (cxOf CX0 P w K mg base nBeg "_law_begin" (defScope sBeg) f cdv A outer s H E).nox rfl
  have hu : (cxOf CX0 P w K mg base nBeg "_law_begin" (defScope sBeg) f cdv A outer s H E).nox.A.units + 64 < cLine := hr.units
  -- the cells
  have vr : ∀ {σ : L2.St} {H1 : Hp} {Q1 : VK} {p : Pos}, σ[0]? = some (some (.ref a)) → Q1 (.ref a) H1 → WE (cxOf CX0 P w K mg base nBeg "_law_begin" (defScope sBeg) f cdv A outer s H E).nox (.Name "script" p) σ H1 Q1 := fun h1 h2 => WE.of (pe_var (i := 0) (x := "script") rfl (by first | exact Or.inl rfl | exact Or.inr (Or.inl rfl) | exact Or.inr (Or.inr rfl)) (by decide) (by decide)) ⟨_, h1, h2⟩
  refine WSs.of (pss_cons (ps_set (i := 1) nd rfl (by first | exact Or.inl rfl | exact Or.inr rfl) (pe_ifExp ptW peW peW) rfl (.inl rfl)) pssW) ?_
  refine WT.of (pt_cmpR (op_neD hu) peW (pe_lst pa_nil) (nomark _)) ?_
  refine vr rfl ⟨by decide, fun p hp => ?_⟩
  have fp : Fr (fun _ => False) H (upd H p (.lst [])) := Fr.new hp
  have d1 : Dp K (upd H p (.lst [])) (.ref a) (.list (ns.map PyData.int)) := .lst (sqL_fr hS fp (fun z => z)) (dp_ints ns)
  have d2 : Dp K (upd H p (.lst [])) (.ref p) (.list []) := .lst (SqL.of upd_same) .nil
  refine ⟨_, _, d1, d2, ints_shaped ns, by decide, _, rfl, ?_⟩
  have eb : (!PyData.eqv (.list (ns.map PyData.int)) (.list [])) = decide (ns ≠ []) := by
    cases ns with
    | nil => rfl
    | cons n ns => simp [PyData.eqv, PyData.eqvAll]
  rw [eb]
  -- what follows once the cells stand
  have rest : ∀ (l : Addr) (H1 : Hp), Fr (fun _ => False) H H1 → H1 l = none → ∀ H2, H2 = upd H1 l (.lst ((cellsOf ns).map V.int)) → WSs (cxOf CX0 P w K mg base nBeg "_law_begin" (defScope sBeg) f cdv A outer s H E).nox (defBody sBeg).tail { nx := fun _ H' => Q .non H', rt := Q } ((L2.start nBeg [V.ref a]).set 1 (some (.ref l))) H2 := by
    rintro l H1 f1 hl1 H2 rfl
    have ra : ∀ (Hx : Hp) (zs : List Int), RpA K Hx (zs.map V.int) (zs.map D.int) := fun Hx zs => by
      induction zs with
      | nil => exact .nil
      | cons z zs ih => exact .cons (.int z) ih
    have st0 : Sts ⟨(cxOf CX0 P w K mg base nBeg "_law_begin" (defScope sBeg) f cdv A outer s H E).nox, noVol, H⟩ [] 0 ([Ar.no].map Ar.sl ++ List.replicate 2 .un) (L2.start nBeg [V.ref a]) H :=
      ⟨Fr.refl, trivial, fun p z => (nomatch z), [], List.nodup_nil, fun p z => (nomatch z), sls_start (.cons .no .nil) 2⟩
    have f2 : Fr (fun _ => False) H (upd H1 l (.lst ((cellsOf ns).map V.int))) := f1.trans (Fr.new hl1)
    obtain ⟨os1, st1, _⟩ := st0.put (i := 1) (b1 := 0) (H1 := upd H1 l (.lst ((cellsOf ns).map V.int))) (r := .ow ((cellsOf ns).map D.int)) (v := .ref l) f2 trivial (.ow (f1.back hl1) upd_same (fun z => z) (ra _ _)) rfl
    refine WSs.of (pss_cons (ps_ret (pe_disp (pps_cons pe_str peW (pps_cons pe_str peW (pps_cons pe_str pe_int (pps_cons pe_str pe_int pps_nil)))) rfl rfl (fun z => nomatch z) (by decide))) pssW) ?_
    intro p hp2
    refine WE.of (pe_var (i := 1) (x := "cells") rfl (by first | exact Or.inl rfl | exact Or.inr (Or.inl rfl) | exact Or.inr (Or.inr rfl)) (by decide) (by decide)) ⟨_, rfl, ?_⟩
    have f3 : Fr (fun _ => False) (upd H1 l (.lst ((cellsOf ns).map V.int))) (upd (upd H1 l (.lst ((cellsOf ns).map V.int))) p (.dK [])) := Fr.new hp2
    have st2 := st1.on (b' := 0) f3 trivial
    have cl := cellsOf_len hl
    have ev : EV ⟨(cxOf CX0 P w K mg base nBeg "_law_begin" (defScope sBeg) f cdv A outer s H E).nox, noVol, H⟩ 0 [.un, .ow ((cellsOf ns).map D.int), .un] (match (defBody sBeg).tail with | [.Return (some (.Dict _ [_, e, _, _] _)) _] => e | _ => .Constant .none 0 ⟨0, 0, 0, 0⟩) (fun _ r => r = .ow (((cellsOf ns).map leftOf).map D.int)) := by
      refine ev_mapT D.int (fun x y h => by injection h) (.nm 2) [("cell", 2)] (fun z => D.int (leftOf z)) rfl nd (blkOk_by (N := nBeg) (sc := defScope sBeg) (by decide +kernel)) (fun _ _ _ _ _ => pg_name (i := 2) nd rfl (by first | exact Or.inl rfl | exact Or.inr rfl)) (by simp [Pat.slots])
        (eic_list (ev_varO 1 rfl ⟨_, rfl, cellsOf ns, rfl, by omega, fun z hz => ⟨_, rfl, fun s H Cc cl fp => ?_⟩, by rw [List.map_map]; rfl⟩))
      refine ev_if (et_ord op_geI (nomark _) (ev_var 2 rfl (ev_bin op_pow (ev_int (ev_int fun os H H' x y jj rx ry Q q => ?_)))))
      cases rx with | va rx => ?_
      cases ry with | va ry => ?_
      cases rx
      cases ry
      refine ⟨10, 18, rfl, rfl, ⟨by decide, by decide, by decide⟩, q _ H' (.va (.int (10 ^ 18))) Fr.refl jj (.va (.int _)) ⟨z, 10 ^ 18, rfl, rfl, ?_⟩⟩
      unfold leftOf
      rw [show (10 ^ 18 : Int) = 1000000000000000000 by decide]
      cases decide (z ≥ 1000000000000000000) with
      | true => exact ev_var 2 rfl ⟨rfl, rfl⟩
      | false => exact ev_int ⟨rfl, rfl⟩
    refine ev os1 _ _ st2 _ fun v H4 b4 r f4 j4 rv hP => ?_
    subst hP
    cases rv with
    | @ow q xs _ nq eq _ rq =>
      have exs : ∀ (zs : List Int) (xs : List V), RpA K H4 xs (zs.map D.int) → xs = zs.map V.int := by
        intro zs
        induction zs with
        | nil => intro xs h; cases h; rfl
        | cons z zs ih =>
          intro xs h
          cases h with
          | cons h1 h2 => cases h1; rw [ih _ h2]; rfl
      rw [exs _ _ rq] at eq
      have e4 : H4 p = some (.dK []) := f4.keep (fun z => z) upd_same
      refine ⟨e4, [(.inr "cells", .ref l), (.inr "lefts", .ref q), (.inr "at", .int 0), (.inr "room", .int 0)], rfl, (by show 4 ≤ 15; decide), ?_⟩
      have hp1 : H1 p = none := (Fr.new (M := fun _ => False) hl1).back hp2
      have hlp : p ≠ l := fun z => by rw [z] at hp2; rw [upd_same] at hp2; cases hp2
      have hq2 : upd H1 l (.lst ((cellsOf ns).map V.int)) q = none := f3.back nq
      have hqp : p ≠ q := fun z => by rw [← z, upd_same] at nq; cases nq
      have hql : q ≠ l := fun z => by rw [z, upd_same] at hq2; cases hq2
      have hq1 : H1 q = none := (Fr.new (M := fun _ => False) hl1).back hq2
      have el : H4 l = some (.lst ((cellsOf ns).map V.int)) := f4.keep (fun z => z) (by rw [upd_ne (Ne.symm hlp)]; exact upd_same)
      refine hq ⟨p, q, l, 0, "", cellsOf ns⟩ _ rfl (f1.back hp1) (f1.back hq1) (f1.back hl1) hqp hlp hql upd_same (by rw [upd_ne (Ne.symm hlp)]; exact el) (by rw [upd_ne (Ne.symm hqp)]; exact eq) ?_
      intro x o hx
      have h5 := ((f2.trans f3).trans f4) x o hx
      rcases h5 with h5 | ⟨z, _⟩
      · refine .inl ?_
        rw [upd_ne (fun z => ?_)]
        · exact h5
        · rw [z, f1.back hp1] at hx; cases hx
      · exact z.elim
  cases e0 : decide (ns ≠ []) with
  | true =>
    have hne := of_decide_eq_true e0
    refine WE.of (pe_callTy call_list_of rfl b0.list (by decide +kernel) (pa_cons peW pa_nil rfl) (by decide) (by decide) rfl rfl) ?_
    refine vr rfl ⟨a, ns.map V.int, rfl, .inl (sqL_fr hS fp fun z => z), fun l hl1 => ?_⟩
    refine rest l _ fp hl1 _ ?_
    unfold cellsOf
    rw [if_neg hne]
  | false =>
    have hne : ns = [] := Decidable.not_not.mp (of_decide_eq_false e0)
    refine WE.of (pe_lst (pa_cons pe_int pa_nil)) ?_
    refine ⟨by decide, fun l hl1 => ?_⟩
    refine rest l _ fp hl1 _ ?_
    unfold cellsOf
    rw [if_pos hne]
    rfl
end
end G
set_option Elab.async false
set_option linter.all false
set_option maxRecDepth 100000
set_option maxHeartbeats 8000000
namespace G
open PySem PySem.Spec PyProof.Rows L2 PD
/-- a def of the row, its name, how its arguments bind -/
def HasF (K : PySem.W.Frag) (mg : Str → Option Value) (x : Str) (st : Stmt) (ps : List Str) : Prop := ∃ f fd, Fun K x x st f fd ∧ mg x = some (.ref f) ∧ Binds K fd ps []
/-- a def with one default, an empty tuple of the module's own -/
def HasX (K : PySem.W.Frag) (mg : Str → Option Value) (x : Str) (st : Stmt) : Prop := ∃ f fd a, FunX K x st (.ref a) f fd ∧ mg x = some (.ref f) ∧ UnitAt K a
structure Top33 (K : PySem.W.Frag) (mg : Str → Option Value) : Prop where
  prefix_ : HasF K mg "is_prefix" sPrefix ["thing"]
  local_ : HasF K mg "is_local" sLocal ["thing"]
  address : HasF K mg "is_address" sAddress ["thing"]
  name : HasF K mg "is_name" sName ["thing"]
  word : HasF K mg "is_word" sWord ["thing"]
  pair : HasF K mg "is_pair" sPair ["thing"]
  num : HasF K mg "is_number_below" sNum ["thing", "many"]
  elem : HasF K mg "is_element" sElem ["thing"]
  need : HasF K mg "need_part" sNeed ["thing"]
  hol : HasF K mg "holes" sHol ["part"]
  eat : HasF K mg "element_at" sEat ["part", "path"]
  walk : HasF K mg "walk" sWalk ["part"]
  seen : HasF K mg "seen_in" sSeen ["element"]
  holes : HasF K mg "holes_among" sHoles ["children"]
  made : HasF K mg "_is_made_of" sMade ["thing", "signs", "least", "most"]
  plain : HasF K mg "_is_plain" sPlain ["thing"]
  begins : HasF K mg "_begins" sBegins ["thing", "word"]
  hole : HasF K mg "_is_hole" sHole ["thing"]
  below : HasF K mg "_below" sBelow ["path", "element"]
  fault : HasF K mg "_fault" sFault ["thing"]
  fw : HasF K mg "_first_wrong" sFW ["thing"]
  wrong : HasF K mg "_wrong_item" sWrong ["thing"]
  decls : HasF K mg "_are_declarations" sDecls ["thing"]
  decl : HasF K mg "_is_declaration" sDecl ["thing"]
  empty : HasF K mg "_is_empty" sEmpty ["thing"]
  attrs : HasF K mg "_are_attributes" sAttrs ["thing"]
  attr : HasF K mg "_is_attribute" sAttr ["thing"]
  kids : HasF K mg "_are_children" sKids ["thing"]
  fh : HasF K mg "_first_hole_again" sFH ["part"]
  sur : HasF K mg "need_surrounding" sSur ["thing"]
  bbp : HasF K mg "bound_by_path" sBbp ["part"]
  stt : HasF K mg "state_in" sStt ["bound", "prefix"]
  adr : HasF K mg "address_in" sAdr ["bound", "prefix", "surrounding"]
  bnd : HasF K mg "_bound_in" sBnd ["declarations", "around"]
  ns : HasF K mg "_need_sealable" sNs ["part", "listed"]
  isL : HasF K mg "_is_list" sIsL ["thing"]
  vis : HasF K mg "_visible_in" sVis ["element", "listed"]
  mix : HasF K mg "_law_mixed" sMix ["cell", "k"]
  beg : HasF K mg "_law_begin" sBeg ["script"]
  draw : HasF K mg "_law_draw" sDraw ["state", "many"]
  lb : HasF K mg "_law_bound" sLB ["declarations", "outside"]
  mn : HasF K mg "_law_meaning" sMn ["part", "outside", "filling"]
  pfx : HasF K mg "_law_prefix" sPfx ["state"]
  lnm : HasF K mg "_law_name" sNam ["state"]
  dc : HasF K mg "_law_declarations" sDc ["state", "most"]
  as : HasF K mg "_law_attributes" sAs ["state", "most"]
  el : HasF K mg "_law_element" sEl ["state", "deep", "most", "spare"]
  elems : HasF K mg "_law_elements" sElems ["part"]
  lsn : HasF K mg "_law_seen" sLsn ["one", "row"]
  lsl : HasF K mg "_law_seal" sLsl ["one", "outside", "last", "row"]
  wh : HasF K mg "_law_whole" sWh ["state"]
  rw_ : HasF K mg "_law_row" sRw ["state"]
  wd : HasF K mg "_law_world" sWd ["state"]
  lpl : HasF K mg "_law_plainer" sLpl ["part"]
  lr : HasF K mg "_law_right" sLr ["part", "world", "row"]
  red : HasX K mg "redeclared" sRd
  vb : HasX K mg "visible" sVb
  sd : HasX K mg "sealed" sSd
section
variable {P : Program} {w : World} {K : PySem.W.Frag} {mg : Str → Option Value} {base : Heap} {Z : Vol}
theorem df {x : Str} {st : Stmt} {ps : List Str} {k : Nat} {sp : Sp} (h : HasF K mg x st ps) (ok : ∀ f fd, Fun K x x st f fd → FnOk P w K mg base CX0 k f fd ps sp) : Df P w K mg base x k ps sp := by
  obtain ⟨f, fd, F, hm, hb⟩ := h
  exact Df.of F (ok f fd F) hm hb
abbrev lamQ : Str := "_law_meaning.<locals>.<lambda>"
theorem prog33 (t : Top33 K mg) (T : Cst mg) (kc : KC K) : Prog33 P w K mg base Z := by
  have made : DMade P w K mg base Z := df t.made fun _ _ F => ok_made F T
  have pfx : DB P w K mg base Z "is_prefix" 2 isPrefix := df t.prefix_ fun _ _ F => ok_prefix F T made
  have lcl : DB P w K mg base Z "is_local" 2 isLocal := df t.local_ fun _ _ F => ok_local F T made
  have adr : DB P w K mg base Z "is_address" 2 isAddr := df t.address fun _ _ F => ok_address F T made
  have word : DB P w K mg base Z "is_word" 2 isWord := df t.word fun _ _ F => ok_word F T made
  have plain : DB P w K mg base Z "_is_plain" 2 isPlain := df t.plain fun _ _ F => ok_plain F T made
  have pair : DB P w K mg base Z "is_pair" 1 isPair := df t.pair fun _ _ F => ok_pair F T
  have name : DB P w K mg base Z "is_name" 3 isName := df t.name fun _ _ F => ok_name F T pair pfx lcl
  have beg : DBegins P w K mg base Z := df t.begins fun _ _ F => ok_begins F T
  have hole : DB P w K mg base Z "_is_hole" 3 isHole := df t.hole fun _ _ F => ok_hole F T beg word
  have empty : DB P w K mg base Z "_is_empty" 1 isEmptyS := df t.empty fun _ _ F => ok_empty F T
  have decl : DB P w K mg base Z "_is_declaration" 3 isDecl := df t.decl fun _ _ F => ok_decl F T pair pfx adr empty
  have attr : DB P w K mg base Z "_is_attribute" 4 isAttr := df t.attr fun _ _ F => ok_attr F T pair name plain
  have elem : DElem P w K mg base Z := df t.elem fun _ _ F => ok_elem F beg
  have kids := df (P := P) (w := w) (base := base) t.kids fun _ _ F => ok_kids (Z := Z) F T empty plain elem hole
  have holes := df (P := P) (w := w) (base := base) t.holes fun _ _ F => ok_holes (Z := Z) F T beg
  have decls := df (P := P) (w := w) (base := base) t.decls fun _ _ F => ok_decls (Z := Z) F T decl
  have attrs := df (P := P) (w := w) (base := base) t.attrs fun _ _ F => ok_attrs (Z := Z) F T attr
  have wrong := df (P := P) (w := w) (base := base) t.wrong fun _ _ F => ok_wrong (Z := Z) F T elem name decls attrs kids
  have below : DBelow P w K mg base Z := df t.below fun _ _ F => ok_below F T elem
  have walk : DWalk P w K mg base Z := df t.walk fun _ _ F => ok_walk F T below
  have fw := df (P := P) (w := w) (base := base) t.fw fun _ _ F => ok_fw (Z := Z) F T below wrong
  have fh := df (P := P) (w := w) (base := base) t.fh fun _ _ F => ok_fh (Z := Z) F T walk holes
  have fault := df (P := P) (w := w) (base := base) t.fault fun _ _ F => ok_fault (Z := Z) F T fw fh
  have need : DNeed P w K mg base Z := df t.need fun _ _ F => ok_need F T fault
  have seen : DSeen P w K mg base Z := df t.seen fun _ _ F => ok_seen F T
  have stt : DStt P w K mg base Z := df t.stt fun _ _ F => ok_stt F T kc
  have bnd : DBnd P w K mg base Z := df t.bnd fun _ _ F => ok_bnd F T kc
  have bbp : DBbp P w K mg base Z := df t.bbp fun _ _ F => ok_bbp F T kc walk bnd
  have num : DNum P w K mg base Z := df t.num fun _ _ F => ok_num F T
  have adrIn : DAdr P w K mg base Z := df t.adr fun _ _ F => ok_adrin F T kc stt
  have isL : DIsL P w K mg base Z := df t.isL fun _ _ F => ok_isL F T pfx
  have vis : DVis P w K mg base Z := df t.vis fun _ _ F => ok_vis F T seen
  have hol : DHol P w K mg base Z := df t.hol fun _ _ F => ok_hol F T need walk holes
  have sur : DSur P w K mg base Z := df t.sur fun _ _ F => ok_sur F T pfx adr
  have eat : DEat P w K mg base Z := df t.eat fun _ _ F => ok_eat F T need num elem
  have ns : DNs P w K mg base Z := df t.ns fun _ _ F => ok_ns F T isL hol
  obtain ⟨fr, fdr, ar, Fr_, hmr, hur⟩ := t.red
  obtain ⟨fv, fdv, av, Fv, hmv, huv⟩ := t.vb
  obtain ⟨fs, fds, as_, Fs, hms, hus⟩ := t.sd
  have red8 := rds_ok (P := P) (w := w) (mg := mg) (base := base) (Z := Z) Fr_ T kc elem (fun n ok => DfX.of Fr_ ok hmr fun T kV doc pm an cdv ct us its l1 l2 => match us, its, l1, l2 with | [_, _, _], [_], _, _ => ⟨_, rfl, rfl⟩) 7
  have redD : DfD P w K mg base "redeclared" 11 ["element", "declared", "path"] (spP Z K 3 (gRd 8)) [.ref ar] := DfD.of Fr_ red8 hmr (by simp) 2 rfl fun T kV doc pm an cdv ct us its l1 l2 => match us, its, l1, l2 with | [_, _], [_], _, _ => ⟨_, rfl, rfl⟩
  have okv := ok_vb (P := P) (w := w) (mg := mg) (base := base) Fv T eat ns vis
  have oks := ok_sd (P := P) (w := w) (mg := mg) (base := base) Fs T kc need sur ns bbp walk vis adrIn redD hur
  refine ⟨?_, ?_, ⟨as_, hus, ?_⟩, ?_, ?_, ⟨av, huv, ?_⟩⟩
  · exact DfX.of Fs oks hms fun T kV doc pm an cdv ct us its l1 l2 => match us, its, l1, l2 with | [_, _, _], [_], _, _ => ⟨_, rfl, rfl⟩
  · exact DfN.of Fs oks hms fun T kV doc pm an cdv ct us its ws l1 l2 l3 => match us, its, ws, l1, l2, l3 with | [_, _], [_], [_], _, _, _ => ⟨_, rfl, rfl⟩
  · exact DfD.of Fs oks hms (by simp) 2 rfl fun T kV doc pm an cdv ct us its l1 l2 => match us, its, l1, l2 with | [_, _], [_], _, _ => ⟨_, rfl, rfl⟩
  · exact DfX.of Fv okv hmv fun T kV doc pm an cdv ct us its l1 l2 => match us, its, l1, l2 with | [_, _, _], [_], _, _ => ⟨_, rfl, rfl⟩
  · exact DfN.of Fv okv hmv fun T kV doc pm an cdv ct us its ws l1 l2 l3 => match us, its, ws, l1, l2, l3 with | [_, _], [_], [_], _, _, _ => ⟨_, rfl, rfl⟩
  · exact DfD.of Fv okv hmv (by simp) 2 rfl fun T kV doc pm an cdv ct us its l1 l2 => match us, its, l1, l2 with | [_, _], [_], _, _ => ⟨_, rfl, rfl⟩
/-- what the law draws by -/
structure Law33 (P : Program) (w : World) (K : PySem.W.Frag) (mg : Str → Option Value) (base : Heap) (L : LC) (p : Option Addr) : Prop where
  draw : DDraw P w K mg base L p
  nam : DNam P w K mg base L p
  dc : DDc P w K mg base L p
  as : DAs P w K mg base L p
theorem law33 (t : Top33 K mg) (T : Cst mg) (kc : KC K) {L : LC} {p : Option Addr} (ok : L.Ok p) : Law33 P w K mg base L p := by
  have mix : DMix P w K mg base (lawVol L p) := df t.mix fun _ _ F => ok_mix F T
  have draw : DDraw P w K mg base L p := df t.draw fun _ _ F => ok_draw F T ok mix
  have pfx : DPfx P w K mg base L p := df t.pfx fun _ _ F => ok_pfx F T draw
  have nam : DNam P w K mg base L p := df t.lnm fun _ _ F => ok_nam F T draw pfx
  exact ⟨draw, nam, df t.dc fun _ _ F => ok_dc F T kc draw pfx, df t.as fun _ _ F => ok_as F T kc draw nam⟩
/-- what a turn of the law calls -/
structure Turn33 (P : Program) (w : World) (K : PySem.W.Frag) (mg : Str → Option Value) (base : Heap) (L : LC) : Prop where
  wh : DWh P w K mg base L
  wd : DWd P w K mg base L
  rw_ : DRw P w K mg base L
  lr : DLr P w K mg base (lawVol L none)
theorem turn33 (t : Top33 K mg) (T : Cst mg) (kc : KC K) {L : LC} (ok : L.Ok none) (G0 : Prog33 P w K mg base (lawVol L none)) {c Tb : Addr} (FC : ∀ f fd, Fun K "_law_meaning" "_law_meaning" sMn f fd → mg "_law_meaning" = some (.ref f) → FunC K "_law_meaning" "_law_meaning" sMn f fd c) (TB : LamX.TabB base mg c Tb) (LZ : LamZ (lawVol L none) Tb lamQ) : Turn33 P w K mg base L := by
  have l0 : Law33 P w K mg base L none := law33 t T kc ok
  have lp : ∀ p, L.Ok (some p) → Law33 P w K mg base L (some p) := fun p okp => law33 t T kc okp
  have els : DEls3 P w K mg base L := by
    obtain ⟨f, fd, F, hm, hb⟩ := t.el
    exact els3_ok F hm hb T (fun p h => (lp p h).draw) (fun p h => (lp p h).dc) (fun p h => (lp p h).as) (fun p h => (lp p h).nam)
  have lb : DLB P w K mg base (lawVol L none) := df t.lb fun _ _ F => ok_lb F T kc
  have lsn : DLsn P w K mg base (lawVol L none) := df t.lsn fun _ _ F => ok_lsn F T kc
  have elems : DElems P w K mg base (lawVol L none) := df t.elems fun _ _ F => ok_elems F T
  have lsl : DLsl P w K mg base (lawVol L none) 3 := by
    obtain ⟨f, fd, F, hm, hb⟩ := t.lsl
    exact lsl_all F hm hb T kc lb lsn 2
  have lpl : DLpl P w K mg base (lawVol L none) 3 := by
    obtain ⟨f, fd, F, hm, hb⟩ := t.lpl
    exact lpl_all F hm hb T 2
  have mn : DMn P w K mg base (lawVol L none) 3 := by
    obtain ⟨f, fd, F, hm, hb⟩ := t.mn
    have F2 := FC f fd F hm
    have m1 : DMn P w K mg base (lawVol L none) 1 := Df.of F (mn_step (n := 0) F2 T kc TB LZ lb fun z => absurd rfl z) hm hb
    have m2 : DMn P w K mg base (lawVol L none) 2 := Df.of F (mn_step (n := 1) F2 T kc TB LZ lb fun _ => m1) hm hb
    exact Df.of F (mn_step (n := 2) F2 T kc TB LZ lb fun _ => m2) hm hb
  exact ⟨df t.wh fun _ _ F => ok_wh F T ok els l0.draw, df t.wd fun _ _ F => ok_wd F T kc l0.draw, df t.rw_ fun _ _ F => ok_rw F T l0.draw, df t.lr fun _ _ F => ok_lr F T G0 lsl lpl mn lsn elems⟩
/-! ### the law -/
def spLaw (K : PySem.W.Frag) (Tb : Addr) : Sp := fun vs H Q _ => ∃ (a : Addr) (ns : List Int), vs = [.ref a] ∧ SqL K H a (ns.map V.int) ∧ ns.length ≤ 63 ∧ H Tb = some (.tbl #[]) ∧ ∀ H', Q (.bl true) H'
theorem ok_law {f : Addr} {fd : FuncData} (F : Fun K "law" "law" sLaw f fd) (t : Top33 K mg) (T : Cst mg) (hmin : mg "min" = none) (kc : KC K) {c Tb : Addr} (FC : ∀ f fd, Fun K "_law_meaning" "_law_meaning" sMn f fd → mg "_law_meaning" = some (.ref f) → FunC K "_law_meaning" "_law_meaning" sMn f fd c) (TB : LamX.TabB base mg c Tb) :
    FnOk P w K mg base CX0 14 f fd ["script"] (spLaw K Tb) := by
  have nd := sc_law.nd
  refine F.ok sc_law (fun vs H Q E h => ?_) (fun cdv A outer s H vs Q E hr h => ⟨_, pssW, ?_⟩)
  · obtain ⟨a, ns, rfl, _⟩ := h
    rfl
  obtain ⟨a, ns, rfl, hS, hl, hT, hq⟩ := h
  obtain ⟨fb, fdb, Fb, hmb, hbb⟩ := t.beg
  have okb : FnOk P w K mg base CX0 1 fb fdb ["script"] (spBeg K) := ok_beg Fb T
  have b0 := T.blt (cxOf CX0 P w K mg base nLaw "law" (defScope sLaw) f cdv A outer s H E).nox rfl
  refine WSs.of (pss_cons (ps_set (i := 1) nd rfl (by first | exact Or.inl rfl | exact Or.inr rfl) (pe_call okb (hr.mono (by decide)) rfl hmb Fb.kp hbb .nil pass0 (pa_cons (pe_var (i := 0) (x := "script") rfl (by first | exact Or.inl rfl | exact Or.inr (Or.inl rfl) | exact Or.inr (Or.inr rfl)) (by decide) (by decide)) pa_nil) (by decide) rfl rfl) rfl (by first | exact .inl rfl | exact .inr rfl)) pssW) ?_
  refine ⟨_, rfl, a, ns, rfl, hS, hl, fun L0 H' hc n1 n2 n3 s1 s2 s3 e1 e2 e3 fr => ?_⟩
  have hTn : ∀ {x : Addr}, H x = none → x ≠ Tb := fun n z => by rw [z, hT] at n; cases n
  have cl := cellsOf_len hl
  generalize hLL : (⟨L0.s, L0.l, L0.c, Tb, lamQ, L0.cells⟩ : LC) = L
  have hs : L.s = L0.s := by rw [← hLL]
  have hll : L.l = L0.l := by rw [← hLL]
  have hcc : L.c = L0.c := by rw [← hLL]
  have hTT : L.T = Tb := by rw [← hLL]
  have hqq : L.q = lamQ := by rw [← hLL]
  have hce : L.cells = L0.cells := by rw [← hLL]
  have ok : L.Ok none := ⟨by rw [hs, hll]; exact s1, by rw [hs, hcc]; exact s2, by rw [hs, hTT]; exact hTn n1, by rw [hll, hcc]; exact s3, by rw [hll, hTT]; exact hTn n2, by rw [hcc, hTT]; exact hTn n3, (fun _ z => nomatch z), by rw [hce, hc]; omega, by rw [hce, hc]; exact cl.2⟩
  have tab : LamX.TabS H' L.T L.q := by
    rw [hTT, hqq]
    exact ⟨#[], fr.keep (fun z => z) hT, by first | exact PySem.W.TriplesOk.nil | trivial | simp [TriplesOk] | decide, fun pos cv hc => nomatch (show (none : Option Value) = some cv from hc)⟩
  have j : (lawVol L none).J 0 H' := ⟨L0.cells.map leftOf, by
    show H' L.s = some (.dK (stKV L 0))
    rw [hs, e1]
    unfold stKV
    rw [hcc, hll], by rw [hcc, hce]; exact e2, by rw [hll]; exact e3, by rw [List.length_map, hce], fun x hx => by
    obtain ⟨z, _, rfl⟩ := List.mem_map.mp hx
    exact leftOf_pos z, rfl, tab⟩
  have st0 : Sts (L.C (cxOf CX0 P w K mg base nLaw "law" (defScope sLaw) f cdv A outer s H E).nox none H') [] 0 ([Ar.no].map Ar.sl ++ List.replicate 6 .un) (L2.start nLaw [V.ref a]) H' :=
    ⟨Fr.refl, j, fun p z => (nomatch z), [], List.nodup_nil, fun p z => (nomatch z), sls_start (.cons .no .nil) 6⟩
  obtain ⟨os1, st1, _⟩ := st0.put (i := 1) (b1 := 0) (H1 := H') (r := .va L.sD) (v := .ref L0.s) Fr.refl j (.va (by
    rw [← hs]
    exact .obj (.d (.inl (by rw [hs]; exact e1))))) rfl
  have LZ : LamZ (lawVol L none) Tb lamQ := by
    have := lawVol_lam ok
    rw [hTT, hqq] at this
    exact this
  have pg : Prog33 P w K mg base (lawVol L none) := prog33 t T kc
  have tn : Turn33 P w K mg base L := turn33 t T kc ok pg FC TB LZ
  have hS' : SqL K H' a (ns.map V.int) := sqL_fr hS fr fun z => z
  refine for_at (.nm 2) rfl PassesOwn.never (pg_name (i := 2) nd rfl (by first | exact Or.inl rfl | exact Or.inr rfl)) st1 (Pd := fun b1 ds => b1 = 0 ∧ ds.length ≤ 10) (F := retF fun _ r => r = .va (.bl true)) (fun R k => ?_) (fun b1 ds hpd => ?_) (by intro _; rfl) _ ?_
  · refine WI.of (pi_range1 rfl b0.range (pa_cons (pe_op op_add pe_int (pe_callB (call_min2 rfl) rfl hmin (by decide +kernel) (pa_cons pe_int (pa_cons (pe_callB call_len rfl b0.len PySem.boot_len (pa_cons (pe_var (i := 0) (x := "script") rfl (by first | exact Or.inl rfl | exact Or.inr (Or.inl rfl) | exact Or.inr (Or.inr rfl)) (by decide) (by decide)) pa_nil) (by decide) (by decide) rfl rfl) pa_nil)) (by decide) (by decide) rfl rfl)) pa_nil) rfl) ?_
    refine ⟨_, rfl, _, ns.length, rfl, .inl ⟨_, hS', by rw [List.length_map]⟩, 6, _, rfl, 4, _, rfl, rfl, ?_⟩
    have hN : ∃ N : Nat, N ≤ 10 ∧ (4 : Int) + (if (ns.length : Int) < 6 then (ns.length : Int) else 6) = (N : Int) := by
      split
      · exact ⟨4 + ns.length, by omega, by omega⟩
      · exact ⟨10, by omega, by omega⟩
    obtain ⟨N, hN, eN⟩ := hN
    refine ⟨(N : Int), congrArg (fun z : Int => [V.int z]) eN, by omega, by omega, ?_⟩
    refine k _ H' 0 ((List.range N).map fun i => D.int (i : Nat)) Fr.refl j ⟨fun os' H2 g i hi => ⟨show i < N by simpa using hi, fun x H3 y => ?_⟩, fun os' H2 g i hi => show N ≤ i by simpa using hi⟩ ⟨rfl, by rw [List.length_map, List.length_range]; exact hN⟩
    obtain ⟨rfl, rfl⟩ := y
    have hi' : i < N := by simpa using hi
    refine ⟨Fr.refl, .int i, by simp [hi'], ?_⟩
    have e : (0 : Int) + (i : Nat) = (i : Nat) := by omega
    rw [e]
    exact .int _
  · obtain ⟨rfl, hds⟩ := hpd
    refine ⟨fun pre b2 δ2 => b2 ≤ 1000 * pre.length ∧ ∃ (s2 s3 s4 s5 s6 : Sl), δ2 = [.un, .va L.sD, s2, s3, s4, s5, s6], ⟨by simp, _, _, _, _, _, rfl⟩, ?_, ?_⟩
    · rintro pre d post b2 δ2 e ⟨hb2, s2, s3, s4, s5, s6, rfl⟩
      have hlen : pre.length + 1 ≤ 10 := by
        have := congrArg List.length e
        rw [List.length_append, List.length_cons] at this
        omega
      refine ⟨_, rfl, ?_⟩
      show SV _ _ [.un, .va L.sD, .va d, s3, s4, s5, s6] _ _
      with_reducible refine law_turn T tn.wh tn.wd tn.rw_ tn.lr hr ?_ ?_ ?_
      · omega
      · rfl
      refine fun b' s3 s4 s5 hb' => ⟨?_, _, _, _, _, _, rfl⟩
      rw [List.length_append, List.length_cons, List.length_nil]
      omega
    · rintro b2 δ2 ⟨hb2, s2, s3, s4, s5, s6, rfl⟩
      with_reducible refine law_tail T pg hr ?_
      rfl
  · exact ⟨(fun b' δ' os' σ' H2 z s g => nomatch z), fun _ _ _ _ _ z _ _ => z.elim, fun _ _ _ _ _ z _ _ => z.elim, fun v H2 b' r z rv f j => by
      obtain ⟨_, rfl⟩ := z
      cases rv with
      | va rv =>
        cases rv
        exact hq H2⟩
end
end G
set_option Elab.async false
set_option linter.all false
set_option maxRecDepth 100000
set_option maxHeartbeats 4000000
namespace G
open PySem PySem.Spec PyProof.Rows L2 PD
section
variable {K : PySem.W.Frag} {mg : Str → Option Value} {w : World} {h : Heap}
theorem hasF (X : K.In h) (N : h.Ns mainGlobals mg) (c : He.SaysX Hd33.fa Hd33.fn [] Hd33.tf Hd33.ex w h K) (i : Nat) (x : Str) (n : Nat) (ps : List Str) (h1 : Hd33.fn[i]? = some (Hd33.dd x n)) (h2 : Hd33.fa[i]? = some (.glo x))
    (hb : ∀ (kV doc pm : Value) (an : Option Addr) (cdv ct : Value) (us : List Value), us.length = ps.length → bindArgs (PySem.W.fnOf x x (defArgs (top n)) (defBody (top n)) (defScope (top n)) .none kV doc pm an cdv ct) ⟨us, []⟩ = pure (ps.zip us)) : HasF K mg x (top n) ps := by
  obtain ⟨fd, F⟩ := c.t.d.def_ i (d := Hd33.dd x n) h1
  have F1 : FunD K x x (defArgs (top n)) (defBody (top n)) (defScope (top n)) [] [] (He.ga K x) fd := F
  exact ⟨He.ga K x, fd, He5.fun_of F1, He.glo_ok X N (c.t.d.fact i (f := .glo x) h2), F1.bindsN hb⟩
theorem unit_ok {a : Addr} (e : Hd33.unitB K a = true) : UnitAt K a := by
  intro Hp
  unfold Hd33.unitB at e
  split at e
  · rename_i c od its n osl hl
    obtain ⟨e1, e2⟩ := Bool.and_eq_true_iff.mp e
    exact .u hl (congrArg Value.type (of_decide_eq_true e1)) rfl (List.isEmpty_iff.mp e2)
  · cases e
theorem hasX (X : K.In h) (N : h.Ns mainGlobals mg) (c : He.SaysX Hd33.fa Hd33.fn [] Hd33.tf Hd33.ex w h K) (i : Nat) (x : Str) (n : Nat) (h1 : Hd33.fn[i]? = some (Hd33.dx x n)) (h2 : Hd33.fa[i]? = some (.glo x)) (hu : Hd33.unitB K (He.dflAt (x, none) 0 K) = true) : HasX K mg x (top n) := by
  obtain ⟨fd, F⟩ := c.t.d.def_ i (d := Hd33.dx x n) h1
  have F1 : FunX K x (top n) (.ref (He.dflAt (x, none) 0 K)) (He.ga K x) fd := F
  exact ⟨He.ga K x, fd, _, F1, He.glo_ok X N (c.t.d.fact i (f := .glo x) h2), unit_ok hu⟩
theorem top33 (X : K.In h) (N : h.Ns mainGlobals mg) (c : He.SaysX Hd33.fa Hd33.fn [] Hd33.tf Hd33.ex w h K) : Top33 K mg where
  prefix_ := hasF X N c 0 "is_prefix" 15 ["thing"] rfl rfl fun _ _ _ _ _ _ us hl => match us, hl with | [_], _ => rfl
  local_ := hasF X N c 1 "is_local" 16 ["thing"] rfl rfl fun _ _ _ _ _ _ us hl => match us, hl with | [_], _ => rfl
  address := hasF X N c 2 "is_address" 17 ["thing"] rfl rfl fun _ _ _ _ _ _ us hl => match us, hl with | [_], _ => rfl
  name := hasF X N c 3 "is_name" 18 ["thing"] rfl rfl fun _ _ _ _ _ _ us hl => match us, hl with | [_], _ => rfl
  word := hasF X N c 4 "is_word" 19 ["thing"] rfl rfl fun _ _ _ _ _ _ us hl => match us, hl with | [_], _ => rfl
  pair := hasF X N c 5 "is_pair" 20 ["thing"] rfl rfl fun _ _ _ _ _ _ us hl => match us, hl with | [_], _ => rfl
  num := hasF X N c 6 "is_number_below" 21 ["thing", "many"] rfl rfl fun _ _ _ _ _ _ us hl => match us, hl with | [_, _], _ => rfl
  elem := hasF X N c 7 "is_element" 22 ["thing"] rfl rfl fun _ _ _ _ _ _ us hl => match us, hl with | [_], _ => rfl
  need := hasF X N c 8 "need_part" 23 ["thing"] rfl rfl fun _ _ _ _ _ _ us hl => match us, hl with | [_], _ => rfl
  hol := hasF X N c 9 "holes" 24 ["part"] rfl rfl fun _ _ _ _ _ _ us hl => match us, hl with | [_], _ => rfl
  eat := hasF X N c 10 "element_at" 25 ["part", "path"] rfl rfl fun _ _ _ _ _ _ us hl => match us, hl with | [_, _], _ => rfl
  walk := hasF X N c 11 "walk" 26 ["part"] rfl rfl fun _ _ _ _ _ _ us hl => match us, hl with | [_], _ => rfl
  seen := hasF X N c 12 "seen_in" 27 ["element"] rfl rfl fun _ _ _ _ _ _ us hl => match us, hl with | [_], _ => rfl
  holes := hasF X N c 13 "holes_among" 28 ["children"] rfl rfl fun _ _ _ _ _ _ us hl => match us, hl with | [_], _ => rfl
  made := hasF X N c 14 "_is_made_of" 29 ["thing", "signs", "least", "most"] rfl rfl fun _ _ _ _ _ _ us hl => match us, hl with | [_, _, _, _], _ => rfl
  plain := hasF X N c 15 "_is_plain" 30 ["thing"] rfl rfl fun _ _ _ _ _ _ us hl => match us, hl with | [_], _ => rfl
  begins := hasF X N c 16 "_begins" 31 ["thing", "word"] rfl rfl fun _ _ _ _ _ _ us hl => match us, hl with | [_, _], _ => rfl
  hole := hasF X N c 17 "_is_hole" 32 ["thing"] rfl rfl fun _ _ _ _ _ _ us hl => match us, hl with | [_], _ => rfl
  below := hasF X N c 18 "_below" 33 ["path", "element"] rfl rfl fun _ _ _ _ _ _ us hl => match us, hl with | [_, _], _ => rfl
  fault := hasF X N c 19 "_fault" 34 ["thing"] rfl rfl fun _ _ _ _ _ _ us hl => match us, hl with | [_], _ => rfl
  fw := hasF X N c 20 "_first_wrong" 35 ["thing"] rfl rfl fun _ _ _ _ _ _ us hl => match us, hl with | [_], _ => rfl
  wrong := hasF X N c 21 "_wrong_item" 36 ["thing"] rfl rfl fun _ _ _ _ _ _ us hl => match us, hl with | [_], _ => rfl
  decls := hasF X N c 22 "_are_declarations" 37 ["thing"] rfl rfl fun _ _ _ _ _ _ us hl => match us, hl with | [_], _ => rfl
  decl := hasF X N c 23 "_is_declaration" 38 ["thing"] rfl rfl fun _ _ _ _ _ _ us hl => match us, hl with | [_], _ => rfl
  empty := hasF X N c 24 "_is_empty" 39 ["thing"] rfl rfl fun _ _ _ _ _ _ us hl => match us, hl with | [_], _ => rfl
  attrs := hasF X N c 25 "_are_attributes" 40 ["thing"] rfl rfl fun _ _ _ _ _ _ us hl => match us, hl with | [_], _ => rfl
  attr := hasF X N c 26 "_is_attribute" 41 ["thing"] rfl rfl fun _ _ _ _ _ _ us hl => match us, hl with | [_], _ => rfl
  kids := hasF X N c 27 "_are_children" 42 ["thing"] rfl rfl fun _ _ _ _ _ _ us hl => match us, hl with | [_], _ => rfl
  fh := hasF X N c 28 "_first_hole_again" 43 ["part"] rfl rfl fun _ _ _ _ _ _ us hl => match us, hl with | [_], _ => rfl
  sur := hasF X N c 29 "need_surrounding" 45 ["thing"] rfl rfl fun _ _ _ _ _ _ us hl => match us, hl with | [_], _ => rfl
  bbp := hasF X N c 30 "bound_by_path" 47 ["part"] rfl rfl fun _ _ _ _ _ _ us hl => match us, hl with | [_], _ => rfl
  stt := hasF X N c 31 "state_in" 48 ["bound", "prefix"] rfl rfl fun _ _ _ _ _ _ us hl => match us, hl with | [_, _], _ => rfl
  adr := hasF X N c 32 "address_in" 49 ["bound", "prefix", "surrounding"] rfl rfl fun _ _ _ _ _ _ us hl => match us, hl with | [_, _, _], _ => rfl
  bnd := hasF X N c 33 "_bound_in" 50 ["declarations", "around"] rfl rfl fun _ _ _ _ _ _ us hl => match us, hl with | [_, _], _ => rfl
  ns := hasF X N c 37 "_need_sealable" 56 ["part", "listed"] rfl rfl fun _ _ _ _ _ _ us hl => match us, hl with | [_, _], _ => rfl
  isL := hasF X N c 38 "_is_list" 57 ["thing"] rfl rfl fun _ _ _ _ _ _ us hl => match us, hl with | [_], _ => rfl
  vis := hasF X N c 39 "_visible_in" 58 ["element", "listed"] rfl rfl fun _ _ _ _ _ _ us hl => match us, hl with | [_, _], _ => rfl
  mix := hasF X N c 40 "_law_mixed" 60 ["cell", "k"] rfl rfl fun _ _ _ _ _ _ us hl => match us, hl with | [_, _], _ => rfl
  beg := hasF X N c 41 "_law_begin" 61 ["script"] rfl rfl fun _ _ _ _ _ _ us hl => match us, hl with | [_], _ => rfl
  draw := hasF X N c 42 "_law_draw" 62 ["state", "many"] rfl rfl fun _ _ _ _ _ _ us hl => match us, hl with | [_, _], _ => rfl
  lb := hasF X N c 44 "_law_bound" 64 ["declarations", "outside"] rfl rfl fun _ _ _ _ _ _ us hl => match us, hl with | [_, _], _ => rfl
  mn := hasF X N c 45 "_law_meaning" 65 ["part", "outside", "filling"] rfl rfl fun _ _ _ _ _ _ us hl => match us, hl with | [_, _, _], _ => rfl
  pfx := hasF X N c 46 "_law_prefix" 66 ["state"] rfl rfl fun _ _ _ _ _ _ us hl => match us, hl with | [_], _ => rfl
  lnm := hasF X N c 47 "_law_name" 67 ["state"] rfl rfl fun _ _ _ _ _ _ us hl => match us, hl with | [_], _ => rfl
  dc := hasF X N c 48 "_law_declarations" 68 ["state", "most"] rfl rfl fun _ _ _ _ _ _ us hl => match us, hl with | [_, _], _ => rfl
  as := hasF X N c 49 "_law_attributes" 69 ["state", "most"] rfl rfl fun _ _ _ _ _ _ us hl => match us, hl with | [_, _], _ => rfl
  el := hasF X N c 50 "_law_element" 70 ["state", "deep", "most", "spare"] rfl rfl fun _ _ _ _ _ _ us hl => match us, hl with | [_, _, _, _], _ => rfl
  elems := hasF X N c 51 "_law_elements" 71 ["part"] rfl rfl fun _ _ _ _ _ _ us hl => match us, hl with | [_], _ => rfl
  lsn := hasF X N c 54 "_law_seen" 74 ["one", "row"] rfl rfl fun _ _ _ _ _ _ us hl => match us, hl with | [_, _], _ => rfl
  lsl := hasF X N c 55 "_law_seal" 75 ["one", "outside", "last", "row"] rfl rfl fun _ _ _ _ _ _ us hl => match us, hl with | [_, _, _, _], _ => rfl
  wh := hasF X N c 56 "_law_whole" 76 ["state"] rfl rfl fun _ _ _ _ _ _ us hl => match us, hl with | [_], _ => rfl
  rw_ := hasF X N c 57 "_law_row" 77 ["state"] rfl rfl fun _ _ _ _ _ _ us hl => match us, hl with | [_], _ => rfl
  wd := hasF X N c 58 "_law_world" 78 ["state"] rfl rfl fun _ _ _ _ _ _ us hl => match us, hl with | [_], _ => rfl
  lpl := hasF X N c 62 "_law_plainer" 82 ["part"] rfl rfl fun _ _ _ _ _ _ us hl => match us, hl with | [_], _ => rfl
  lr := hasF X N c 63 "_law_right" 83 ["part", "world", "row"] rfl rfl fun _ _ _ _ _ _ us hl => match us, hl with | [_, _, _], _ => rfl
  red := hasX X N c 34 "redeclared" 52 rfl rfl (Bool.and_eq_true_iff.mp (Bool.and_eq_true_iff.mp (Bool.and_eq_true_iff.mp c.more).1).1).2
  vb := hasX X N c 35 "visible" 54 rfl rfl (Bool.and_eq_true_iff.mp (Bool.and_eq_true_iff.mp c.more).1).2
  sd := hasX X N c 36 "sealed" 55 rfl rfl (Bool.and_eq_true_iff.mp c.more).2
theorem cst33 (X : K.In h) (N : h.Ns mainGlobals mg) (c : He.SaysX Hd33.fa Hd33.fn [] Hd33.tf Hd33.ex w h K) : Cst mg where
  letters := He.str_ok X N (c.t.d.fact 89 (f := .str "LETTERS" letters) rfl)
  addr := He.str_ok X N (c.t.d.fact 90 (f := .str "ADDRESS_SIGNS" addrS) rfl)
  plain := He.str_ok X N (c.t.d.fact 91 (f := .str "PLAIN_SIGNS" plainS) rfl)
  reserved := He.str_ok X N (c.t.d.fact 92 (f := .str "RESERVED" "xmlns") rfl)
  mostLetters := He.int_ok X N (c.t.d.fact 88 (f := .int "MOST_LETTERS" 8) rfl)
  mostSigns := He.int_ok X N (c.t.d.fact 93 (f := .int "_MOST_SIGNS" 20) rfl)
  mostElements := He.int_ok X N (c.t.d.fact 86 (f := .int "MOST_ELEMENTS" 60) rfl)
  mostLevels := He.int_ok X N (c.t.d.fact 87 (f := .int "MOST_LEVELS" 8) rfl)
  blt := fun Y e => by
    have fr : ∀ (i : Nat) (x : Str), Hd33.fa[i]? = some (.free x) → Y.mg x = none := fun i x h2 => by
      rw [e]
      exact He.free_ok X N (c.t.d.fact i (f := .free x) h2)
    exact ⟨fr 65 "isinstance" rfl, fr 66 "len" rfl, fr 67 "all" rfl, fr 68 "any" rfl, fr 69 "tuple" rfl, fr 70 "list" rfl, fr 71 "str" rfl, fr 72 "int" rfl, fr 73 "bool" rfl, fr 74 "dict" rfl, fr 75 "set" rfl, fr 76 "range" rfl, fr 77 "enumerate" rfl, fr 78 "reversed" rfl, fr 79 "sorted" rfl, fr 80 "repr" rfl⟩
theorem kc33 (c : He.SaysX Hd33.fa Hd33.fn [] Hd33.tf Hd33.ex w h K) : KC K := by
  refine ⟨fun o its n e hc hd xs hv => ?_⟩
  have h2 : Hd33.kcB K = true := (Bool.and_eq_true_iff.mp (Bool.and_eq_true_iff.mp (Bool.and_eq_true_iff.mp c.more).1).1).1
  unfold Hd33.kcB at h2
  rw [e] at h2
  obtain ⟨oc, od, dt, osl⟩ := o
  have hc : oc = .type "tuple" := hc
  have hd : dt = .seq its n := hd
  subst hc hd
  exact nomatch h2
theorem fc33 (c : He.SaysX Hd33.fa Hd33.fn [] Hd33.tf Hd33.ex w h K) (X : K.In h) (N : h.Ns mainGlobals mg) : ∀ f fd, Fun K "_law_meaning" "_law_meaning" sMn f fd → mg "_law_meaning" = some (.ref f) → FunC K "_law_meaning" "_law_meaning" sMn f fd (He.cT K ("_law_meaning", none)).1 := by
  intro f fd F hm
  have e := hm.symm.trans (He.glo_ok X N (c.t.d.fact 45 (f := .glo "_law_meaning") rfl))
  cases e
  obtain ⟨oc, od, kV, doc, pm, an, cdv, ct, osl, rfl, lk, hcd⟩ := F.ex
  obtain ⟨c0, rfl⟩ := He.codeIn_ref hcd
  have e2 : (He.cT K ("_law_meaning", none)).1 = c0 := He.codeOf_eq (p := ("_law_meaning", none)) lk rfl
  rw [e2]
  exact ⟨oc, od, kV, doc, pm, an, ct, osl, rfl, lk, hcd⟩
theorem facts33 {f : Addr} (X : K.In h) (N : h.Ns mainGlobals mg) (hfa : mg ("law" : Str) = some (.ref f)) (c : He.SaysX Hd33.fa Hd33.fn [] Hd33.tf Hd33.ex w h K) : LamX.LawAtS PySem.Challenge.rw_prefixgraft_k33_whole_sealed_forms w K L2.CX0 14 63 "script" mg f h := by
  obtain ⟨fd, F⟩ := c.t.d.def_ 64 (d := Hd33.dd "law" 84) rfl
  have F1 : FunD K "law" "law" (defArgs (top 84)) (defBody (top 84)) (defScope (top 84)) [] [] (He.ga K "law") fd := F
  have e := hfa.symm.trans (He.glo_ok X N (c.t.d.fact 64 (f := .glo "law") rfl))
  cases e
  have b := FunD.bindsA (ps := ["script"]) F1 fun _ _ _ _ _ _ us hl => match us, hl with | [_], _ => rfl
  have one : ∀ {p : Addr × Addr}, p ∈ [He.cT K ("_law_meaning", none)] → p = He.cT K ("_law_meaning", none) := fun hp => List.mem_singleton.mp hp
  refine ⟨fd, [He.cT K ("_law_meaning", none)], spLaw K (He.cT K ("_law_meaning", none)).2, fun p hp => ?_, fun p hp => ?_, fun p hp => ?_, fun s v => b s [v] rfl, fun H a ns hl _ hT hS => ⟨a, ns, rfl, hS, hl, hT _ (by simp), fun _ => rfl⟩, fun base _ _ TB => ?_⟩
  · rw [one hp]; exact c.empty _ (by simp [Hd33.tf])
  · rw [one hp]; exact c.out _ (by simp [Hd33.tf])
  · rw [one hp]; exact PySem.W.codeHd_of_K X (c.hd _ (by simp [Hd33.tf]))
  · exact ok_law (He5.fun_of F1) (top33 X N c) (cst33 X N c) (He.free_ok X N (c.t.d.fact 81 (f := .free "min") rfl)) (kc33 c) (fc33 c X N) (TB _ (by simp))
end
end G
open PySem PySem.W PySem.Calls PyProof.Rows
theorem PySem.Challenge.cw_prefixgraft_k33_whole_sealed_forms_holds : PySem.Challenge.rw_prefixgraft_k33_whole_sealed_forms.Holds := by
  w_on; o_law
  refine HandSHeadRun.head_any (r := OpenLaw.row PySem.Challenge.rw_prefixgraft_k33_whole_sealed_forms) (q := Hd33.qv) (H := Hd33.hk) (ob := Hd33.ob) (M := 6000) (loose := Hd33.names) (d := HandSHeadRun.topDef (OpenLaw.row PySem.Challenge.rw_prefixgraft_k33_whole_sealed_forms).prog 84) (kwd := []) Hd33.ob_eq
    (by kernel_rfl) (fun s => by kernel_rfl) Hd33.run (by kernel_rfl) (by kernel_rfl) (by kernel_rfl) (by rfl) (by first | assumption | decide +kernel) (by decide +kernel) ⟨rfl, rfl, rfl, rfl, rfl, by decide +kernel⟩ ?hw ?hc
  case hw => w_witness2
  case hc =>
    refine LamX.walk_ofTsE (l := PySem.Challenge.rw_prefixgraft_k33_whole_sealed_forms) (n := 63) (k := 14) (x := "script") (CX := fun _ => L2.CX0) rfl (by decide) (by kernel_rfl) ⟨rfl, by decide, by decide⟩ ?F (fun _ _ _ _ _ z => z)
    intro w mg fa h Y N hmg0
    obtain ⟨K, KX, c⟩ := Y
    have hmg : mg ("law" : PySem.Str) = some (.ref fa) := by
      have e : (HandSHeadRun.topDef (OpenLaw.row PySem.Challenge.rw_prefixgraft_k33_whole_sealed_forms).prog 84).name = ("law" : PySem.Str) := by kernel_rfl
      rw [← e]
      exact hmg0
    exact ⟨K, KX, G.facts33 KX N hmg c⟩
