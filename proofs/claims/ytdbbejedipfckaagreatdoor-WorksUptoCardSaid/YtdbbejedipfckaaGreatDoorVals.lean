/-
  The tasks of a tree, each ahead of its children, stand in the order of their IDs, none twice: for every program.
-/
import Derived.Test.YtdbbejedipfckaaGreatDoorWalk
import Derived.Test.YtdbbejedipfckaaGreatDoorLeaves
import Derived.Maps.OwnSet
import Derived.Maps.OwnIn
import Derived.Shelf.SlGeneric
import Derived.Shelf.SlIter.Nil
import Derived.Shelf.SortM.Plain
import Derived.Shelf.SortM.SortNone
import Derived.Ground.GgzProg
import Derived.Ground.SlgmProg
import Derived.Test.YtdbbejedipfckaaGreatDoorProg
import Derived.WalkSmall
namespace Go.Proofs.YtdbbejedipfckaaGreatDoor
open Go

/-- An ID as a list of bytes. -/
def idl (t : TaskS) : List UInt8 := t.id.data.toList

theorem idl_kid (id : ByteArray) (i : Nat) (k x : Int) : idl ⟨kidId id i, k, x⟩ = id.data.toList ++ [digit i] := by
  simp [idl, kidId, ByteArray.data_append]

theorem digit_lt {i j : Nat} (h : i < j) (hj : j < 100) : digit i < digit j := by
  unfold digit
  rw [UInt8.lt_iff_toNat_lt]
  simp only [UInt8.toNat_ofNat']
  omega

theorem lex_self (p r : List UInt8) (d : UInt8) : p < p ++ d :: r := by
  induction p with
  | nil => exact List.Lex.nil
  | cons a p ih => exact List.Lex.cons ih
theorem lex_split (p r s : List UInt8) {d e : UInt8} (h : d < e) : p ++ d :: r < p ++ e :: s := by
  induction p with
  | nil => exact List.Lex.rel h
  | cons a p ih => exact List.Lex.cons ih

theorem childrenFrom_order (id : ByteArray) (x : Int) : ∀ (l : List KidS) (i : Nat), i + l.length < 100 →
    (childrenFrom id x i l).Pairwise (fun c d => ∃ a b, a < b ∧ b < 100 ∧ c.id = kidId id a ∧ d.id = kidId id b) ∧ ∀ c ∈ childrenFrom id x i l, ∃ a, i ≤ a ∧ a < 100 ∧ c.id = kidId id a
  | [], _, _ => by simp [childrenFrom]
  | k :: r, i, h => by
    simp only [List.length_cons] at h
    obtain ⟨h1, h2⟩ := childrenFrom_order id x r (i + 1) (by omega)
    unfold childrenFrom
    split
    · refine ⟨List.pairwise_cons.2 ⟨fun d hd => ?_, h1⟩, fun c hc => ?_⟩
      · obtain ⟨b, hb, hb', he⟩ := h2 d hd
        exact ⟨i, b, by omega, hb', rfl, he⟩
      · rcases List.mem_cons.1 hc with rfl | hc
        · exact ⟨i, Nat.le_refl _, by omega, rfl⟩
        · obtain ⟨b, hb, hb', he⟩ := h2 c hc
          exact ⟨b, by omega, hb', he⟩
    · exact ⟨h1, fun c hc => by obtain ⟨b, hb, hb', he⟩ := h2 c hc; exact ⟨b, by omega, hb', he⟩⟩

theorem tree_order (ks : List KindS) (hk : ∀ k : Int, (kindAt ks k).kids.length ≤ 3) : ∀ (f : Nat) (t : TaskS),
    (tree ks f t).Pairwise (fun a b => idl a < idl b) ∧ ∀ u ∈ tree ks f t, ∃ r, idl u = idl t ++ r
  | 0, t => by simp [tree]
  | f + 1, t => by
    have ho := childrenFrom_order t.id t.arg (kindAt ks t.kind).kids 0 (by have := hk t.kind; omega)
    have hc : ∀ c ∈ children ks t, ∃ a, c.id = kidId t.id a := fun c h => let ⟨a, _, _, e⟩ := ho.2 c h; ⟨a, e⟩
    have hid : ∀ (c : TaskS) (a : Nat), c.id = kidId t.id a → idl c = idl t ++ [digit a] := fun c a e => by
      have := idl_kid t.id a c.kind c.arg
      rw [← e] at this; exact this
    have below : ∀ u ∈ (children ks t).flatMap (tree ks f), ∃ a r, idl u = idl t ++ digit a :: r := fun u hu => by
      obtain ⟨c, hcm, hu⟩ := List.mem_flatMap.1 hu
      obtain ⟨a, ha⟩ := hc c hcm
      obtain ⟨r, hr⟩ := (tree_order ks hk f c).2 u hu
      exact ⟨a, r, by rw [hr, hid c a ha]; simp⟩
    refine ⟨?_, fun u hu => ?_⟩
    · show (t :: (children ks t).flatMap (tree ks f)).Pairwise _
      refine List.pairwise_cons.2 ⟨fun u hu => ?_, ?_⟩
      · obtain ⟨a, r, e⟩ := below u hu
        rw [e]; exact lex_self _ _ _
      · refine List.pairwise_flatMap.2 ⟨fun c _ => (tree_order ks hk f c).1, ho.1.imp ?_⟩
        rintro c d ⟨a, b, hab, hb, ea, eb⟩ u hu v hv
        obtain ⟨r, hr⟩ := (tree_order ks hk f c).2 u hu
        obtain ⟨s, hs⟩ := (tree_order ks hk f d).2 v hv
        rw [hr, hs, hid c a ea, hid d b eb, List.append_assoc, List.append_assoc]
        exact lex_split _ _ _ (digit_lt hab hb)
    · rcases List.mem_cons.1 hu with rfl | hu
      · exact ⟨[], by simp⟩
      · obtain ⟨a, r, e⟩ := below u hu
        exact ⟨_, e⟩
end Go.Proofs.YtdbbejedipfckaaGreatDoor
/-
  values.Set.Keep puts a value into the map under its ID, and turns nothing else; what a map of values holds, as plain facts.
-/
namespace Go.Proofs.YtdbbejedipfckaaGreatDoor
open Go Go.RowKit Go.Maps Go.WideMaps

theorem strKeyed : Keyed Tryz.prog 9 := string_keyed Tryz.underlying9
theorem zeroInt (w : World) : (zeroValue 3).run Tryz.prog w = .ok (.int .i64 0) w := by kernel_rfl

/-- Block M is a map of values that reads as D. -/
def MapIs (W : World) (M : Nat) (D : DataW Unit) : Prop := W.ownsMap Tryz.prog 9 (plainElem Tryz.prog 3) M (Maps.size D) D
/-- An ID as a key, a number as an element. -/
def keyL (id : ByteArray) : Lit := .string id.data.toList
def elemD (v : Int) : DataW Unit := .lit (.int .i64 v)

theorem mapIs_of {W : World} {M n : Nat} {D : DataW Unit} (h : W.ownsMap Tryz.prog 9 (plainElem Tryz.prog 3) M n D) : MapIs W M D := by
  obtain ⟨es, clock, hb, hf, hs, hD⟩ := h
  refine ⟨es, clock, hb, hf, ?_, hD⟩
  rw [hD]
  show es.size ≤ List.length _
  rw [length_sorted]; simp
theorem MapIs.lt {W : World} {M : Nat} {D : DataW Unit} (h : MapIs W M D) : M < W.heap.size := World.ownsMap.lt h
theorem MapIs.kept {X : Nat → Prop} {W W' : World} {M : Nat} {D : DataW Unit} (h : MapIs W M D) (k : Kept X W W') (hx : ¬ X M) : MapIs W' M D := by
  obtain ⟨es, clock, hb, hf, hs, hD⟩ := h
  exact ⟨es, clock, k.heap hb hx, hf, hs, hD⟩
theorem MapIs.below {n : Nat} {W W' : World} {M : Nat} {D : DataW Unit} (h : MapIs W M D) (k : Below n W W') (hx : M < n) : MapIs W' M D :=
  h.kept (X := fun k => n ≤ k) (Kept.of_below k (fun _ _ h => h)) (by omega)

set_option maxHeartbeats 1000000 in
theorem keep_calls (M b o : Nat) (D : DataW Unit) (id : ByteArray) (v : Int) (w : World) (hm : MapIs w M D) (hn : Maps.size D < 1000000) (hid : id.size ≤ 1000000) (hv : (Lit.int .i64 v).wf = true)
    (c0 : w.cell? ⟨b, o, none⟩ = some (.string id)) (c1 : w.cell? ⟨b, o + 1, none⟩ = some (.int .i64 v)) (hb : b < w.heap.size) :
    Calls Tryz.prog 64 #[.map (some M), .slice (some ⟨b, o, none⟩) 1 1] w fun e w' => (∃ u, e = .returned u) ∧ MapIs w' M (D.put (keyL id) (elemD v)) ∧ Kept (· = M) w w' := by
  have hMl := hm.lt
  have hkey : keyOf Tryz.prog 9 (.string id) = some (keyL id) := keyOf_string_mk Tryz.underlying9 (by unfold maxLen; omega)
  go_enter Tryz.func64, Tryz.ntmps64
  go_wp2
  go_loopw [8] (fun i wr => (i = .int .i64 0 ∧ wr = w) ∨ (i = .int .i64 1 ∧ MapIs wr M (D.put (keyL id) (elemD v)) ∧ Kept (· = M) w wr)) (fun i _ => 1 - (intOf i).toNat)
  case atStart => exact .inl ⟨rfl, rfl⟩
  case round =>
    rcases hrel with ⟨rfl, rfl⟩ | ⟨rfl, hm1, hk1⟩
    · have hown := (World.ownsMap.alloc (show wr.ownsMap Tryz.prog 9 (plainElem Tryz.prog 3) M (Maps.size D) D from hm) (.cells #[.string id, .int .i64 v] 84))
      go_wp2_with (first
        | (at_mapUpdate; refine wpList_mapUpdate_own _ rfl _ _ _ 114 rfl 9 3 strKeyed Tryz.underlying114 _ M (Maps.size D) _ rfl hown (by unfold maxLen; omega) _ _ _ rfl rfl hkey _ [] (plainElem_int Tryz.underlying3 hv) ?_)
        | go_in)
      intro w1 hown1 hgrow1
      go_wp2
      go_roundw
      case rel => exact .inr ⟨rfl, mapIs_of hown1, (Kept.alloc _ _ _).trans (Kept.grown hgrow1 (fun r e => by cases e; rfl))⟩
      case measure => simp [intOf]
    · go_wp2
      go_end0
      exact ⟨⟨_, rfl⟩, hm1, hk1⟩
end Go.Proofs.YtdbbejedipfckaaGreatDoor
/-
  The tables of numbers by which the library's contracts on maps.Keys, slices.Sorted and slices.Sort stand over this program: each fact is one of the program's own text.
-/
namespace Go.Proofs
open Go.Shelf
def Tryz.keys109_ren : Go.Shelf.Ren := ⟨fun | 7 => 109 | 10 => 146 | n => n, fun | 23 => 114 | 26 => 9 | 3 => 3 | 28 => 159 | 0 => 0 | 27 => 158 | 33 => 187 | 4 => 4 | n => n, fun | n => n⟩
theorem Tryz.keys109 : Go.Proofs.SlLaysZ.n7 Tryz.prog Tryz.keys109_ren := {
  mixed := by kernel_rfl
  f7 := ⟨Tryz.f109.name, by decide, Tryz.func109.trans (congrArg some (by kernel_rfl))⟩
  f10 := ⟨Tryz.f146.name, by decide, Tryz.func146.trans (congrArg some (by kernel_rfl))⟩
  t0 := Tryz.underlying0
  a0 := Tryz.isAgg0
  z0 := Tryz.sizeOf0
  v0 := Tryz.zeroValue0
  t4 := Tryz.underlying4
  a4 := Tryz.isAgg4
  z4 := Tryz.sizeOf4
  v4 := Tryz.zeroValue4
  t23 := Tryz.underlying114
  a23 := Tryz.isAgg114
  z23 := Tryz.sizeOf114
  v23 := Tryz.zeroValue114
  t26 := Tryz.underlying9
  a26 := Tryz.isAgg9
  z26 := Tryz.sizeOf9
  v26 := Tryz.zeroValue9
  t27 := Tryz.underlying158
  a27 := Tryz.isAgg158
  z27 := Tryz.sizeOf158
  v27 := Tryz.zeroValue158
  t28 := Tryz.underlying159
  a28 := Tryz.isAgg159
  z28 := Tryz.sizeOf159
  v28 := Tryz.zeroValue159
  t33 := Tryz.underlying187
  a33 := Tryz.isAgg187
  z33 := Tryz.sizeOf187
  v33 := Tryz.zeroValue187 }
def Tryz.sorted108_ren : Go.Shelf.Ren := ⟨fun | 6 => 108 | 8 => 144 | 9 => 145 | 11 => 157 | 13 => 159 | 12 => 158 | 23 => 172 | 24 => 173 | 14 => 163 | 15 => 164 | 16 => 165 | 17 => 166 | 18 => 167 | 19 => 168 | 20 => 169 | 21 => 170 | 22 => 171 | 25 => 177 | 26 => 178 | 27 => 179 | 28 => 180 | 29 => 181 | 30 => 182 | 31 => 187 | n => n, fun | 26 => 9 | 28 => 159 | 24 => 44 | 0 => 0 | 3 => 3 | 37 => 203 | 48 => 218 | 50 => 220 | 4 => 4 | 40 => 210 | 39 => 209 | 45 => 215 | 5 => 5 | 9 => 9 | 51 => 222 | 55 => 226 | 57 => 232 | 58 => 233 | 33 => 187 | n => n, fun | n => n⟩
theorem Tryz.sorted108 : Go.Proofs.SlLaysZ.n6 Tryz.prog Tryz.sorted108_ren := {
  mixed := by kernel_rfl
  f6 := ⟨Tryz.f108.name, by decide, Tryz.func108.trans (congrArg some (by kernel_rfl))⟩
  f8 := ⟨Tryz.f144.name, by decide, Tryz.func144.trans (congrArg some (by kernel_rfl))⟩
  f11 := ⟨Tryz.f157.name, by decide, Tryz.func157.trans (congrArg some (by kernel_rfl))⟩
  t0 := Tryz.underlying0
  a0 := Tryz.isAgg0
  z0 := Tryz.sizeOf0
  v0 := Tryz.zeroValue0
  t24 := Tryz.underlying44
  a24 := Tryz.isAgg44
  z24 := Tryz.sizeOf44
  v24 := Tryz.zeroValue44
  t26 := Tryz.underlying9
  a26 := Tryz.isAgg9
  z26 := Tryz.sizeOf9
  v26 := Tryz.zeroValue9
  t28 := Tryz.underlying159
  a28 := Tryz.isAgg159
  z28 := Tryz.sizeOf159
  v28 := Tryz.zeroValue159
  i26 := by kernel_rfl }
def Tryz.sort145_ren : Go.Shelf.Ren := ⟨fun | 6 => 145 | 8 => 159 | 9 => 158 | 19 => 172 | 20 => 173 | 21 => 163 | 22 => 164 | 23 => 165 | 24 => 166 | 25 => 167 | 26 => 168 | 27 => 169 | 28 => 170 | 29 => 171 | 36 => 177 | 31 => 178 | 32 => 179 | 37 => 180 | 38 => 181 | 39 => 182 | 41 => 187 | n => n, fun | 27 => 44 | 29 => 9 | 3 => 3 | 32 => 203 | 26 => 44 | 0 => 0 | 44 => 218 | 46 => 220 | 4 => 4 | 36 => 210 | 35 => 209 | 41 => 215 | 5 => 5 | 9 => 9 | 53 => 222 | 57 => 226 | 63 => 232 | 64 => 233 | n => n, fun | n => n⟩
theorem Tryz.sort145 : Go.Proofs.SlLaysM.n6 Tryz.prog Tryz.sort145_ren := {
  mixed := by kernel_rfl
  f6 := ⟨Tryz.f145.name, by decide, Tryz.func145.trans (congrArg some (by kernel_rfl))⟩
  f8 := Tryz.func159.trans (congrArg some (by kernel_rfl))
  f9 := ⟨Tryz.f158.name, by decide, Tryz.func158.trans (congrArg some (by kernel_rfl))⟩
  f19 := Tryz.func172.trans (congrArg some (by kernel_rfl))
  f20 := Tryz.func173.trans (congrArg some (by kernel_rfl))
  f21 := ⟨Tryz.f163.name, by decide, Tryz.func163.trans (congrArg some (by kernel_rfl))⟩
  f22 := ⟨Tryz.f164.name, by decide, Tryz.func164.trans (congrArg some (by kernel_rfl))⟩
  f23 := ⟨Tryz.f165.name, by decide, Tryz.func165.trans (congrArg some (by kernel_rfl))⟩
  f24 := ⟨Tryz.f166.name, by decide, Tryz.func166.trans (congrArg some (by kernel_rfl))⟩
  f25 := ⟨Tryz.f167.name, by decide, Tryz.func167.trans (congrArg some (by kernel_rfl))⟩
  f26 := ⟨Tryz.f168.name, by decide, Tryz.func168.trans (congrArg some (by kernel_rfl))⟩
  f27 := ⟨Tryz.f169.name, by decide, Tryz.func169.trans (congrArg some (by kernel_rfl))⟩
  f28 := ⟨Tryz.f170.name, by decide, Tryz.func170.trans (congrArg some (by kernel_rfl))⟩
  f29 := ⟨Tryz.f171.name, by decide, Tryz.func171.trans (congrArg some (by kernel_rfl))⟩
  f31 := Tryz.func178.trans (congrArg some (by kernel_rfl))
  f32 := Tryz.func179.trans (congrArg some (by kernel_rfl))
  f36 := ⟨Tryz.f177.name, by decide, Tryz.func177.trans (congrArg some (by kernel_rfl))⟩
  f37 := ⟨Tryz.f180.name, by decide, Tryz.func180.trans (congrArg some (by kernel_rfl))⟩
  f38 := ⟨Tryz.f181.name, by decide, Tryz.func181.trans (congrArg some (by kernel_rfl))⟩
  f39 := ⟨Tryz.f182.name, by decide, Tryz.func182.trans (congrArg some (by kernel_rfl))⟩
  f41 := ⟨Tryz.f187.name, by decide, Tryz.func187.trans (congrArg some (by kernel_rfl))⟩
  t0 := Tryz.underlying0
  a0 := Tryz.isAgg0
  z0 := Tryz.sizeOf0
  v0 := Tryz.zeroValue0
  t3 := Tryz.underlying3
  a3 := Tryz.isAgg3
  z3 := Tryz.sizeOf3
  v3 := Tryz.zeroValue3
  t4 := Tryz.underlying4
  a4 := Tryz.isAgg4
  z4 := Tryz.sizeOf4
  v4 := Tryz.zeroValue4
  t5 := Tryz.underlying5
  a5 := Tryz.isAgg5
  z5 := Tryz.sizeOf5
  v5 := Tryz.zeroValue5
  t9 := Tryz.underlying9
  a9 := Tryz.isAgg9
  z9 := Tryz.sizeOf9
  v9 := Tryz.zeroValue9
  t26 := Tryz.underlying44
  a26 := Tryz.isAgg44
  z26 := Tryz.sizeOf44
  v26 := Tryz.zeroValue44
  t27 := Tryz.underlying44
  a27 := Tryz.isAgg44
  z27 := Tryz.sizeOf44
  v27 := Tryz.zeroValue44
  t29 := Tryz.underlying9
  a29 := Tryz.isAgg9
  z29 := Tryz.sizeOf9
  v29 := Tryz.zeroValue9
  t32 := Tryz.underlying203
  a32 := Tryz.isAgg203
  z32 := Tryz.sizeOf203
  v32 := Tryz.zeroValue203
  t35 := Tryz.underlying209
  a35 := Tryz.isAgg209
  z35 := Tryz.sizeOf209
  v35 := Tryz.zeroValue209
  t36 := Tryz.underlying210
  a36 := Tryz.isAgg210
  z36 := Tryz.sizeOf210
  v36 := Tryz.zeroValue210
  t41 := Tryz.underlying215
  a41 := Tryz.isAgg215
  z41 := Tryz.sizeOf215
  v41 := Tryz.zeroValue215
  t44 := Tryz.underlying218
  a44 := Tryz.isAgg218
  z44 := Tryz.sizeOf218
  v44 := Tryz.zeroValue218
  t46 := Tryz.underlying220
  a46 := Tryz.isAgg220
  z46 := Tryz.sizeOf220
  v46 := Tryz.zeroValue220
  t53 := Tryz.underlying222
  a53 := Tryz.isAgg222
  z53 := Tryz.sizeOf222
  v53 := Tryz.zeroValue222
  t57 := Tryz.underlying226
  a57 := Tryz.isAgg226
  z57 := Tryz.sizeOf226
  v57 := Tryz.zeroValue226
  t63 := Tryz.underlying232
  a63 := Tryz.isAgg232
  z63 := Tryz.sizeOf232
  v63 := Tryz.zeroValue232
  t64 := Tryz.underlying233
  a64 := Tryz.isAgg233
  z64 := Tryz.sizeOf233
  v64 := Tryz.zeroValue233 }
end Go.Proofs
/-
  The keys of a map of strings come out of slices.Sorted and maps.Keys as a new slice, in order: by the library's contracts.
-/
namespace Go.Proofs
open Go.RowKit Go.Maps Go.Sort Go.Shelf


/-- slices.Sort's two contracts at this dump, at the fence that asks nothing. -/
theorem Tryz.sorts108 (m : Nat) : AnyZ.SortsIn Tryz.prog Tryz.sorted108_ren Fence.wide m :=
  ⟨fun blk off cap ss W hH hblk hsz => callsIn_wide.2 (AnyM.slices_Sort_string Tryz.sort145 blk off cap ss W hH hblk hsz),
   fun p cap W => callsIn_wide.2 (AnyM.slices_Sort_string_none Tryz.sort145 p cap W)⟩

/-- **maps.Keys[glean/values.Set,string,int], at whatever map, the nil one too:** a function value over ONE NEW BLOCK, which holds the map. -/
theorem Tryz.maps_Keys_109 (mb : Option Nat) (W : World) : CallsIn Fence.wide 5 Tryz.prog 109 #[.map mb] W fun e w' => e = .returned (.func (.func 146) #[] #[.pointer (some ⟨W.heap.size, 0, none⟩)]) ∧ w' = W.alloc (.cells #[.map mb] 114) :=
  AnyZ.keys_in Tryz.keys109 Fence.wide 5 trivial rfl mb W

set_option maxHeartbeats 1000000 in
/-- **slices.Sorted[string] AT WHAT maps.Keys[glean/values.Set,string,int] HANDED BACK FOR A MAP THAT IS NOT nil** ('w': the world AHEAD of maps.Keys' call): A NEW SLICE THAT HOLDS THE MAP's KEYS, SORTED; nil just where it has none; nothing that lay before has turned. -/
theorem Tryz.slices_Sorted_keys_108_109 {H : Type} (b nn : Nat) (D0 : DataW H) (R : Value → Option (DataW H × List MemPlace)) (w : World) (hown : w.ownsMap Tryz.prog 9 R b nn D0) (hmax : Maps.size D0 ≤ maxLen) (hbytes : Maps.size D0 * 16 ≤ 140737488355328) :
    CallsIn Fence.wide 5 Tryz.prog 108 #[.func (.func 146) #[] #[.pointer (some ⟨w.heap.size, 0, none⟩)]] (w.alloc (.cells #[.map (some b)] 114)) fun e w' => ∃ (v : Value) (ss : List (List UInt8)), e = .returned v ∧ ss.Perm (strKeys D0) ∧
      w'.ownsRow (w.alloc (.cells #[.map (some b)] 114)).heap.size 9 1 v ss.length ((ss.mergeSort (fun x y => decide (x ≤ y))).map encStr) ∧ (v = .slice none 0 0 ↔ ss = []) ∧ Below (w.alloc (.cells #[.map (some b)] 114)).heap.size (w.alloc (.cells #[.map (some b)] 114)) w' := by
  have hbl := hown.lt
  have hseq : SeqGives Fence.wide 2 Tryz.prog 146 #[.pointer (some ⟨w.heap.size, 0, none⟩)] encStr (fun ss => ss.Perm (strKeys D0)) (Maps.size D0) (w.alloc (.cells #[.map (some b)] 114)) :=
    AnyZ.keys_gives (ρ := Tryz.keys109_ren) { Tryz.keys109 with } Fence.wide _ trivial rfl (by omega) w.heap.size b nn D0 _ (by simp) (by simp) (by
      obtain ⟨es, clock, hb, Ft, hs, hD⟩ := hown
      exact ⟨es, clock, (Below.heap_alloc _ _ b hbl).trans hb, Ft, hs, hD⟩)
  exact AnyZ.sorted_in Tryz.sorted108 Fence.wide 5 trivial trivial trivial trivial rfl (by omega) (Tryz.sorts108 _) (enters_of Tryz.func145 (by kernel_rfl) rfl) 146 #[.pointer (some ⟨w.heap.size, 0, none⟩)] trivial (enters_of Tryz.func146 (by kernel_rfl) rfl) _ _ hmax hbytes _ hseq

set_option maxHeartbeats 1000000 in
/-- **.. AND FOR THE nil MAP: nil.** -/
theorem Tryz.slices_Sorted_keys_nil_108_109 (w : World) :
    CallsIn Fence.wide 5 Tryz.prog 108 #[.func (.func 146) #[] #[.pointer (some ⟨w.heap.size, 0, none⟩)]] (w.alloc (.cells #[.map none] 114)) fun e w' => ∃ (v : Value) (ss : List (List UInt8)), e = .returned v ∧ ss = [] ∧
      w'.ownsRow (w.alloc (.cells #[.map none] 114)).heap.size 9 1 v ss.length ((ss.mergeSort (fun x y => decide (x ≤ y))).map encStr) ∧ (v = .slice none 0 0 ↔ ss = []) ∧ Below (w.alloc (.cells #[.map none] 114)).heap.size (w.alloc (.cells #[.map none] 114)) w' := by
  have hseq : SeqGives Fence.wide 2 Tryz.prog 146 #[.pointer (some ⟨w.heap.size, 0, none⟩)] encStr (fun ss : List (List UInt8) => ss = []) 0 (w.alloc (.cells #[.map none] 114)) :=
    AnyZ.keys_gives_nil (ρ := Tryz.keys109_ren) { Tryz.keys109 with } Fence.wide _ trivial rfl w.heap.size _ (by simp) (by simp)
  exact AnyZ.sorted_in Tryz.sorted108 Fence.wide 5 trivial trivial trivial trivial rfl (by omega) (Tryz.sorts108 _) (enters_of Tryz.func145 (by kernel_rfl) rfl) 146 #[.pointer (some ⟨w.heap.size, 0, none⟩)] trivial (enters_of Tryz.func146 (by kernel_rfl) rfl) _ 0 (Nat.zero_le _) (by omega) _ hseq



end Go.Proofs
/-
  values.Set.List hands back a new list of all values of a map, by their IDs: for whatever map of at most a million values.
-/
namespace Go.Proofs.YtdbbejedipfckaaGreatDoor
open Go Go.RowKit Go.Maps Go.WideMaps Go.Sort

theorem infoValue : (Tryz.prog.info? 84).map (fun i => (i.zero, i.size, i.bytes)) = some (some (.agg #[.string ⟨#[]⟩, .int .i64 0]), 2, 24) := by kernel_rfl

/-- The number that stands under a key. -/
def valAt (D : DataW Unit) (s : List UInt8) : Int := match D.atKey (.string s) (.lit (.int .i64 0)) with
  | .lit (.int _ c) => c
  | _ => 0
/-- A list of keys with what stands under each, as cells. -/
def valCells (D : DataW Unit) (l : List (List UInt8)) : List Value := l.flatMap fun s => [encStr s, .int .i64 (valAt D s)]

theorem valCells_take (D : DataW Unit) (l : List (List UInt8)) (k : Nat) (s : List UInt8) (h : l[k]? = some s) : valCells D (l.take (k + 1)) = valCells D (l.take k) ++ [encStr s, .int .i64 (valAt D s)] := by
  have hk := (List.getElem?_eq_some_iff.1 h).1
  have he := (List.getElem?_eq_some_iff.1 h).2
  rw [List.take_succ_eq_append_getElem hk, he]
  simp [valCells]

theorem addr_add (g k : Nat) : (⟨g, 0, none⟩ : Addr).add k = ⟨g, k, none⟩ := by
  unfold Addr.add
  split
  · rename_i h; rw [h]
  · simp
theorem row_strings {W : World} {base e n : Nat} {v : Value} {S : List (List UInt8)} (h : W.ownsRow base e 1 v n (S.map encStr)) :
    ∃ ad cap, v = .slice ad n cap ∧ ∀ (k : Nat) (s : List UInt8), S[k]? = some s → ∃ g, ad = some ⟨g, 0, none⟩ ∧ base ≤ g ∧ g < W.heap.size ∧ W.cell? ⟨g, k, none⟩ = some (.string ⟨s.toArray⟩) := by
  have h1 := h.1
  rcases h.2 with ⟨rfl, h0⟩ | ⟨g, cap, cur, rfl, hg, hgb, _⟩
  · subst h0
    refine ⟨none, 0, rfl, fun k s hs => ?_⟩
    simp at h1
    subst h1
    simp at hs
  · refine ⟨_, cap, rfl, fun k s hs => ⟨g, rfl, hg, (Array.getElem?_eq_some_iff.1 hgb).1, ?_⟩⟩
    have := h.cells (g := g) rfl k (encStr s) (by simp [hs])
    rwa [addr_add] at this

theorem row_kept {X : Nat → Prop} {W W' : World} {base base' e size n : Nat} {v : Value} {xs : List Value} (h : W.ownsRow base e size v n xs) (hb : Kept X W W') (hv : ∀ g, v.ownBlock = some g → ¬ X g) (hB : base' ≤ base) : W'.ownsRow base' e size v n xs := by
  obtain ⟨h1, ⟨rfl, h0⟩ | ⟨g, cap, cur, rfl, hg, hgb, hr⟩⟩ := h
  · exact ⟨h1, .inl ⟨rfl, h0⟩⟩
  · exact ⟨h1, .inr ⟨g, cap, cur, rfl, Nat.le_trans hB hg, hb.heap hgb (hv g rfl), hr⟩⟩
theorem row_below {W W' : World} {base e size n m : Nat} {v : Value} {xs : List Value} (h : W.ownsRow base e size v n xs) (hb : Below m W W') (hv : ∀ g, v.ownBlock = some g → g < m) : W'.ownsRow base e size v n xs := by
  obtain ⟨h1, ⟨rfl, h0⟩ | ⟨g, cap, cur, rfl, hg, hgb, hr⟩⟩ := h
  · exact ⟨h1, .inl ⟨rfl, h0⟩⟩
  · exact ⟨h1, .inr ⟨g, cap, cur, rfl, hg, (hb.block g (hv g rfl)).trans hgb, hr⟩⟩

set_option maxHeartbeats 2000000 in
set_option maxRecDepth 100000 in
theorem list_calls (M : Nat) (D : DataW Unit) (w : World) (hm : MapIs w M D) (hn : Maps.size D ≤ 1000000) :
    Calls Tryz.prog 66 #[.map (some M)] w fun e w' => ∃ ss : List (List UInt8), ss.Perm (strKeys D) ∧ e = .returned (.slice (some ⟨w.heap.size, 0, none⟩) ss.length ss.length) ∧
      w'.ownsRow w.heap.size 84 2 (.slice (some ⟨w.heap.size, 0, none⟩) ss.length ss.length) ss.length (valCells D (ss.mergeSort (fun x y => decide (x ≤ y)))) ∧ Below w.heap.size w w' := by
  have hMl := hm.lt
  have hlen := World.ownsMap.len (show w.ownsMap Tryz.prog 9 (plainElem Tryz.prog 3) M (Maps.size D) D from hm) Tryz.underlying114 3
  obtain ⟨i0, hi, hz0, hz1, hz2⟩ := info_parts infoValue
  go_enter Tryz.func66, Tryz.ntmps66
  go_wp2_with (first
    | (at_make; refine wpList_make_own _ rfl _ _ 43 rfl w.heap.size 84 i0 _ 2 Tryz.underlying43 hi hz0 hz1 .i64 .i64 _ (Maps.size D) rfl rfl rfl (by rw [hz2]; omega) (by unfold maxLen; omega) (Nat.le_refl _) ?_)
    | go_in)
  intro w1 hown1 hgrow1
  have hm1 : MapIs w1 M D := hm.kept (X := fun _ => False) (Kept.grown hgrow1 (fun r e => by cases e)) (fun h => h)
  have hb1 : Below w.heap.size w w1 := (Below.refl _ w).grown hgrow1 (Nat.le_refl _) (fun k e => by cases e)
  clear hlen
  go_wp2_with (first
    | (go_at_call 109; refine (callsIn_wide.1 (Tryz.maps_Keys_109 _ _)).mono ?_; rintro e w' ⟨rfl, rfl⟩)
    | (go_at_call 108; refine (callsIn_wide.1 (Tryz.slices_Sorted_keys_108_109 M _ D _ w1 hm1 (by unfold maxLen; omega) (by omega))).mono ?_; rintro e w2 ⟨v, ss, rfl, hS, hrow, hnil, hb2⟩; obtain ⟨ad, cp, rfl, hcs⟩ := row_strings hrow))
  have HSS : Hid (ss.length = Maps.size D) := by
    show ss.length = Maps.size D
    rw [hS.length_eq]; cases D <;> simp [strKeys, Maps.size]
  have hle : ss.length ≤ Maps.size D := Nat.le_of_eq HSS.out
  have hS2 : (ss.mergeSort (fun x y => decide (x ≤ y))).length = ss.length := List.length_mergeSort _
  have hSle : ∀ s ∈ ss.mergeSort (fun x y => decide (x ≤ y)), s.length ≤ maxLen := fun s h =>
    strKeys_le (show w1.ownsMap Tryz.prog 9 (plainElem Tryz.prog 3) M (Maps.size D) D from hm1) Tryz.underlying9 s (hS.mem_iff.1 (List.mem_mergeSort.1 h))
  obtain ⟨S, hSd⟩ : ∃ S, ss.mergeSort (fun x y => decide (x ≤ y)) = S := ⟨_, rfl⟩
  rw [hSd] at hcs hS2 hSle
  have HSD : Hid (ss.mergeSort (fun x y => decide (x ≤ y)) = S) := hSd
  have hlS : ss.length ≤ S.length := by omega
  clear hSd hS2 hrow hnil
  have hB2 : Below w1.heap.size w1 w2 := ((Below.refl _ w1).alloc (Nat.le_refl _) _).trans (hb2.mono (by simp))
  have hs1 := hb1.size
  have hw1 : w.heap.size < w1.heap.size := (hown1.lt _ rfl).2
  go_loopw [3, 13] (fun l i wr => ∃ k : Nat, k ≤ ss.length ∧ i = .int .i64 k ∧ l = .slice (some ⟨w.heap.size, 0, none⟩) k (Maps.size D) ∧ wr.ownsRow w.heap.size 84 2 (.slice (some ⟨w.heap.size, 0, none⟩) k (Maps.size D)) k (valCells D (S.take k)) ∧ Kept (· = w.heap.size) w2 wr) (fun _ i _ => ss.length - (intOf i).toNat)
  case atStart => exact ⟨0, Nat.zero_le _, rfl, rfl, row_below hown1 hB2 (by simp [Value.ownBlock]; omega), Kept.refl _ _⟩
  case round =>
    obtain ⟨k, hk, rfl, rfl, hrowk, hkw⟩ := hrel
    have hM2 : MapIs wr M D := (hm1.below hB2 (by omega)).kept hkw (by omega)
    by_cases hlt : k < ss.length
    · obtain ⟨s, hs⟩ : ∃ s, S[k]? = some s := ⟨_, List.getElem?_eq_getElem (by omega)⟩
      obtain ⟨g, rfl, hg1, hg2, cs⟩ := hcs k s hs
      simp only [World.size_alloc] at hg1
      have ck := (hkw.cell (p := ⟨g, k, none⟩) hg2 (by simp; omega)).trans cs
      have hkey : keyOf Tryz.prog 9 (.string ⟨s.toArray⟩) = some (.string s) := by
        have := keyOf_string_mk (k := 9) Tryz.underlying9 (s := ⟨s.toArray⟩) (by simpa [ByteArray.size] using hSle s (List.mem_of_getElem? hs))
        simpa using this
      obtain ⟨c, hrun, hat, hwc⟩ := World.ownsMap.lookup_int (show wr.ownsMap Tryz.prog 9 (plainElem Tryz.prog 3) M (Maps.size D) D from hM2) strKeyed Tryz.underlying114 Tryz.underlying3 (zeroInt _) hkey
      have HV : Hid (valAt D s = c) := by simp [Hid, valAt, hat]
      have HT : Hid (valCells D (S.take (k + 1)) = valCells D (S.take k) ++ [encStr s, .int .i64 (valAt D s)]) := valCells_take D S k s hs
      clear hat hcs
      go_wp2_with (first
        | (at_builtin; refine wpList_append_fits _ rfl _ _ 43 rfl w.heap.size 84 i0 2 Tryz.underlying43 hi hz1 w.heap.size k (Maps.size D) _ rfl (hrowk.alloc _) ⟨wr.heap.size, 0, none⟩ 1 1 [.string ⟨s.toArray⟩, .int .i64 c] rfl rfl (cell_two_new _ _ _ _) (fun x hx => by simp at hx; rcases hx with rfl | rfl <;> rfl) (by omega) ?_; intro w3 hown3 hgrow3)
        | go_in)
      go_roundw
      case rel => exact ⟨k + 1, by omega, by go_num, rfl, by rw [HT.out, HV.out]; exact hown3, (hkw.trans (Kept.alloc _ _ _)).trans (Kept.grown hgrow3 (fun r e => by cases e; rfl))⟩
      case measure => simp [intOf]; omega
    · obtain rfl : k = ss.length := by omega
      go_wp2_with fail
      go_ret
      have hT : S.take ss.length = S := List.take_of_length_le (by rw [← HSD.out, List.length_mergeSort]; exact Nat.le_refl _)
      rw [hT, ← HSS.out] at hrowk
      refine ⟨ss, hS, ?_, ?_, ?_⟩
      · rw [← HSS.out]; rfl
      · rw [HSD.out]; exact hrowk
      · exact (hb1.trans (hB2.mono hs1)).trans (hkw.below (by have := hB2.size; omega) (fun k e => by omega))
end Go.Proofs.YtdbbejedipfckaaGreatDoor
/-
  The iterator that tree.Tasks hands back tells all tasks of a program, each ahead of its children, for whatever body of whatever loop.
-/
namespace Go.Proofs.YtdbbejedipfckaaGreatDoor
open Go Go.RowKit Go.Shelf

/-- All tasks of a program. -/
def allTasks (ks : List KindS) (kind arg : Int) : List TaskS := tree ks 12 ⟨⟨#[]⟩, kind, arg⟩

abbrev GoodT (ks : List KindS) := { t : TaskS // Good ks t }

set_option maxHeartbeats 1000000 in
set_option maxRecDepth 100000 in
theorem tasks1_seq (n : Nat) (Bp : Nat) (X ok : Nat → Prop) (a : Option Addr) (cap : Nat) (kind arg : Int) (ks : List KindS) (W : World)
    (hp : BoxAt W Bp 42 #[.slice a ks.length cap, .int .i64 kind, .int .i64 arg])
    (hk : KindsAt ok W (.slice a ks.length cap) ks) (hX : ∀ k, X k → k < W.heap.size) (hok : ∀ b, ok b → ¬ X b) (hprog : progB ks kind arg = true) :
    SeqX Fence.wide n Tryz.prog 106 #[.pointer (some ⟨Bp, 0, none⟩)] (fun t : GoodT ks => #[taskV t.1]) X
      (fun xs => xs.map Subtype.val = allTasks ks kind arg) (fun pre => pre.map Subtype.val <+: allTasks ks kind arg) W := by
  intro l J Jx hJ hJx hY h0
  have hG : Good ks ⟨⟨#[]⟩, kind, arg⟩ := by
    simp [progB, numB, rangeB] at hprog
    exact ⟨hprog.1.2.1, by dsimp only; omega, hprog.2.1, by simp [ByteArray.size]; omega⟩
  have hG4 := hG.2.2.2
  have hw := walk_says (l := l) (B := W.heap.size) (a := a) (cap := cap) (ok := fun b => ok b ∧ b < W.heap.size) (J := fun pre V => ∃ xs : List (GoodT ks), xs.map Subtype.val = pre ∧ J xs V) (Jx := fun pre V => ∃ xs : List (GoodT ks), xs.map Subtype.val = pre ∧ Jx xs V) hprog hX (fun b h => hok b h.1)
    (fun s A A' h hb => h.imp fun xs h => ⟨h.1, hJ _ _ _ h.2 hb⟩) (fun s A A' h hb => h.imp fun xs h => ⟨h.1, hJx _ _ _ h.2 hb⟩)
    (fun m pre t W1 hg hj hs => by
      obtain ⟨xs, rfl, hj⟩ := hj
      obtain ⟨fn, tmps, assign, body, hy, hR⟩ := hY xs ⟨t, hg⟩ W1 hj hs
      refine ⟨fn, tmps, assign, body, hy, hR.1, fun c cs _ => ?_⟩
      obtain ⟨e, w', hr, hs⟩ := hR.2 c cs (room_wide _)
      exact ⟨e, w', hr.imp (fun h => ⟨h.1, ⟨_, by simp, h.2.1⟩, h.2.2⟩) (fun h => ⟨h.1, ⟨_, by simp, h.2.1⟩, h.2.2⟩), hs⟩) 12 ⟨⟨#[]⟩, kind, arg⟩ hG (by have := hG.2.2.2; simp [ByteArray.size] at this; omega)
  have HW : Hid (∀ V, Below W.heap.size W V → Calls Tryz.prog 107 #[.agg #[.slice a ks.length cap, .int .i64 kind, .int .i64 arg], .agg #[.string ⟨#[]⟩, .int .i64 kind, .int .i64 arg], .func (.yield l) #[] #[]] V fun e W' => ∃ b, e = .returned (.bool b) ∧
      ((∃ xs : List (GoodT ks), xs.map Subtype.val = allTasks ks kind arg ∧ J xs W') ∨ (∃ pre : List (GoodT ks), pre.map Subtype.val <+: allTasks ks kind arg ∧ Jx pre W'))) := fun V hV => by
    refine (callsIn_wide (n := n)).1 ((hw n [] V (hk.below.kept (Kept.of_below (X := fun k => W.heap.size ≤ k) hV (fun _ _ h => h)) (fun b h => by omega)) ⟨[], rfl, hJ _ _ _ h0 hV⟩ hV.size).mono ?_)
    rintro e W' (⟨rfl, ⟨xs, hx, hj⟩, -⟩ | ⟨rfl, q, hq, ⟨xs, hx, hj⟩, -⟩)
    · exact ⟨true, rfl, .inl ⟨xs, by simpa [allTasks] using hx, hj⟩⟩
    · exact ⟨false, rfl, .inr ⟨xs, by rw [hx]; simpa [allTasks] using hq, hj⟩⟩
  have p0 := hp.cell (o := 0) rfl
  have p1 := hp.cell (o := 1) rfl
  have p2 := hp.cell (o := 2) rfl
  have hlt := hp.lt
  have HF : Hid (∀ V, Below W.heap.size W V → Calls Tryz.prog 70 #[.agg #[.slice a ks.length cap, .int .i64 kind, .int .i64 arg]] V fun e w' => e = .returned (.agg #[.string ⟨#[]⟩, .int .i64 kind, .int .i64 arg]) ∧ Below W.heap.size W w' ∧
      w'.cell? ⟨Bp, 0, none⟩ = some (.slice a ks.length cap) ∧ w'.cell? ⟨Bp, 1, none⟩ = some (.int .i64 kind) ∧ w'.cell? ⟨Bp, 2, none⟩ = some (.int .i64 arg)) := fun V hV => by
    refine (first_calls a ks.length cap kind arg V).mono ?_
    rintro e w' ⟨rfl, hb⟩
    have hb' := hV.trans (hb.mono hV.size)
    exact ⟨rfl, hb', (hb'.cell (p := ⟨Bp, 0, none⟩) hlt).trans p0, (hb'.cell (p := ⟨Bp, 1, none⟩) hlt).trans p1, (hb'.cell (p := ⟨Bp, 2, none⟩) hlt).trans p2⟩
  clear hw hY hG hG4
  refine callsIn_wide.2 ?_
  simp only [List.append_toArray, List.cons_append, List.nil_append]
  go_enter Tryz.func106, Tryz.ntmps106
  go_wp2
  have hd : Below W.heap.size W W.drew := (Below.refl _ _).drew
  go_region_with (first
    | (go_at_call 70; refine (HF.out _ (by assumption)).mono ?_; rintro e w' ⟨rfl, hb1, s0, s1, s2⟩)
    | (go_at_call 107; refine (HW.out _ (by assumption)).mono ?_; rintro e w' ⟨b, rfl, hend⟩))
  all_goals
    go_end0
    exact ⟨⟨_, rfl⟩, hend⟩
end Go.Proofs.YtdbbejedipfckaaGreatDoor
/-
  What a map of values holds after a list of tasks was put in, and that its keys in order, with what stands under each, are the tasks' values in the order of the tree.
-/
namespace Go.Proofs.YtdbbejedipfckaaGreatDoor
open Go Go.RowKit Go.Maps Go.Sort

/-- The map of the values of a list of tasks. -/
def mapOf (ks : List KindS) (l : List TaskS) : DataW Unit := l.foldl (fun D t => D.put (keyL t.id) (elemD (valueOf ks t))) (.map [])
theorem mapOf_snoc (ks : List KindS) (l : List TaskS) (t : TaskS) : mapOf ks (l ++ [t]) = (mapOf ks l).put (keyL t.id) (elemD (valueOf ks t)) := by simp [mapOf]

theorem keyL_inj {a b : TaskS} (h : keyL a.id = keyL b.id) : idl a = idl b := by simpa [keyL, idl] using h
theorem keyL_lit (id : ByteArray) : WideAt.IsKeyLit (keyL id) := trivial

theorem mapOf_facts (ks : List KindS) : ∀ n (l : List TaskS), l.length = n →
    Tidy (mapOf ks l) ∧ (∀ s, has (mapOf ks l) (.string s) = true ↔ ∃ t ∈ l, idl t = s) ∧ (l.Pairwise (fun a b => idl a ≠ idl b) → Maps.size (mapOf ks l) = l.length ∧ ∀ t ∈ l, ∀ z, (mapOf ks l).atKey (keyL t.id) z = elemD (valueOf ks t))
  | 0, l, h => by
    obtain rfl := List.length_eq_zero_iff.1 h
    exact ⟨tidy_empty, fun s => by simp [mapOf, has_eq], fun _ => ⟨rfl, fun t ht => by cases ht⟩⟩
  | n + 1, l, h => by
    obtain ⟨l', t, rfl⟩ : ∃ l' t, l = l' ++ [t] := ⟨l.dropLast, l.getLast (by intro e; rw [e] at h; cases h), (List.dropLast_concat_getLast _).symm⟩
    simp at h
    obtain ⟨h1, h2, h3⟩ := mapOf_facts ks n l' h
    rw [mapOf_snoc]
    refine ⟨h1.put (keyL_lit _) _, fun s => ?_, fun hp => ?_⟩
    · by_cases hs : idl t = s
      · subst hs
        have := has_put_same h1.isMap (keyL_lit t.id) (elemD (valueOf ks t))
        exact ⟨fun _ => ⟨t, by simp, rfl⟩, fun _ => this⟩
      · rw [has_put_other (k := keyL t.id) (k' := .string s) (by intro e; simp [keyL] at e; exact hs e.symm), h2 s]
        constructor
        · rintro ⟨u, hu, e⟩; exact ⟨u, by simp [hu], e⟩
        · rintro ⟨u, hu, e⟩
          rcases List.mem_append.1 hu with hu | hu
          · exact ⟨u, hu, e⟩
          · simp at hu; subst hu; exact absurd e hs
    · obtain ⟨hp1, _, hp2⟩ := List.pairwise_append.1 hp
      obtain ⟨h4, h5⟩ := h3 hp1
      have hno : has (mapOf ks l') (keyL t.id) = false := by
        cases hh : has (mapOf ks l') (keyL t.id)
        · rfl
        · obtain ⟨u, hu, e⟩ := (h2 _).1 hh
          exact absurd e (hp2 u hu t (by simp))
      refine ⟨by rw [size_put h1, hno]; simp [h4], fun u hu z => ?_⟩
      rcases List.mem_append.1 hu with hu | hu
      · rw [atKey_put_other (by intro e; exact hp2 u hu t (by simp) (keyL_inj e)), h5 u hu]
      · simp at hu; subst hu; exact atKey_put_same h1.isMap (keyL_lit _) _ _

theorem mem_insert_or {x p : Lit × DataW Unit} : ∀ {l : List (Lit × DataW Unit)}, p ∈ DataW.insert x l → p = x ∨ p ∈ l
  | [], h => by simp [DataW.insert] at h; exact .inl h
  | y :: r, h => by
    unfold DataW.insert at h
    split at h
    · exact List.mem_cons.1 h
    · rcases List.mem_cons.1 h with rfl | h
      · exact .inr (by simp)
      · exact (mem_insert_or h).imp id (fun h => by simp [h])

theorem mapOf_keys (ks : List KindS) : ∀ n (l : List TaskS), l.length = n → ∃ es, mapOf ks l = .map es ∧ ∀ p ∈ es, ∃ x, p.1 = .string x
  | 0, l, h => by
    obtain rfl := List.length_eq_zero_iff.1 h
    exact ⟨[], rfl, fun p hp => by cases hp⟩
  | n + 1, l, h => by
    obtain ⟨l', t, rfl⟩ : ∃ l' t, l = l' ++ [t] := ⟨l.dropLast, l.getLast (by intro e; rw [e] at h; cases h), (List.dropLast_concat_getLast _).symm⟩
    simp at h
    obtain ⟨es, he, hk⟩ := mapOf_keys ks n l' h
    rw [mapOf_snoc, he]
    refine ⟨_, rfl, fun p hp => ?_⟩
    rcases mem_insert_or hp with rfl | hp
    · exact ⟨_, rfl⟩
    · exact hk p (List.mem_filter.1 hp).1

theorem mapOf_size_le (ks : List KindS) (l : List TaskS) (t : TaskS) : Maps.size (mapOf ks (l ++ [t])) ≤ Maps.size (mapOf ks l) + 1 := by
  rw [mapOf_snoc, size_put (mapOf_facts ks _ l rfl).1]; split <;> omega

/-- The values of a list of tasks, as cells. -/
def taskCells (ks : List KindS) (l : List TaskS) : List Value := l.flatMap fun t => [.string t.id, .int .i64 (valueOf ks t)]

theorem flatMap_same {α β : Type} {f g : α → List β} : ∀ {l : List α}, (∀ t ∈ l, f t = g t) → l.flatMap f = l.flatMap g
  | [], _ => rfl
  | a :: r, h => by rw [List.flatMap_cons, List.flatMap_cons, h a (by simp), flatMap_same fun t ht => h t (by simp [ht])]

theorem sorted_keys (ks : List KindS) (l : List TaskS) (hp : l.Pairwise (fun a b => idl a < idl b)) {ss : List (List UInt8)} (hs : ss.Perm (strKeys (mapOf ks l))) :
    ss.length = l.length ∧ valCells (mapOf ks l) (ss.mergeSort (fun x y => decide (x ≤ y))) = taskCells ks l := by
  have hne : l.Pairwise (fun a b => idl a ≠ idl b) := hp.imp fun h e => by rw [e] at h; exact List.lt_irrefl _ h
  obtain ⟨h1, h2, h3⟩ := mapOf_facts ks _ l rfl
  obtain ⟨h4, h5⟩ := h3 hne
  obtain ⟨es, he, hes⟩ := h1
  have hk : ∀ p ∈ es, ∃ x, p.1 = .string x := by
    obtain ⟨es', he', hk⟩ := mapOf_keys ks _ l rfl
    rw [he] at he'; cases he'; exact hk
  have hperm : (l.map idl).Perm (strKeys (mapOf ks l)) := by
    rw [he]
    refine perm_strKeys hes hk (List.pairwise_map.2 hne) fun x => ?_
    rw [← he, h2 x]; simp
  have hsort : ss.mergeSort (fun x y => decide (x ≤ y)) = l.map idl := by
    have e1 := mergeSort_of_perm (hs.trans hperm.symm)
    refine e1.trans ?_
    refine List.mergeSort_of_pairwise ?_
    exact List.pairwise_map.2 (hp.imp fun h => by simpa [leB] using List.le_of_lt h)
  refine ⟨by rw [(hs.trans hperm.symm).length_eq]; simp, ?_⟩
  rw [hsort]
  unfold valCells taskCells
  rw [List.flatMap_map]
  refine flatMap_same fun t ht => ?_
  have : valAt (mapOf ks l) (idl t) = valueOf ks t := by
    unfold valAt
    rw [show (Lit.string (idl t)) = keyL t.id from rfl, h5 t ht]; rfl
  rw [this]
  simp [encStr, idl]

theorem kids_le (ks : List KindS) (kind arg : Int) (hp : progB ks kind arg = true) (k : Int) : (kindAt ks k).kids.length ≤ 3 := by
  unfold kindAt
  cases h : ks[k.toNat]? with
  | none => simp
  | some c =>
    simp [progB] at hp
    have := hp.1.1.2 c (List.mem_of_getElem? h)
    simp [kindB] at this
    exact this.1.2
theorem all_order {ks : List KindS} {kind arg : Int} (hp : progB ks kind arg = true) : (allTasks ks kind arg).Pairwise (fun a b => idl a < idl b) := (tree_order ks (kids_le ks kind arg hp) _ _).1
theorem tree_good {ks : List KindS} {kind arg : Int} (hp : progB ks kind arg = true) : ∀ (f : Nat) (t : TaskS), Good ks t → ∀ u ∈ tree ks f t, Good ks u
  | 0, t, h, u, hu => by simp [tree] at hu; subst hu; exact h
  | f + 1, t, h, u, hu => by
    rcases List.mem_cons.1 hu with rfl | hu
    · exact h
    · obtain ⟨c, hc, hu⟩ := List.mem_flatMap.1 hu
      exact tree_good hp f c (good_child hp h hc).1 u hu

/-- What Unfold answers, as plain data: the error's number, the tasks whose values are told. -/
def unfoldS (ks : List KindS) (kind arg : Int) : Int × List TaskS :=
  if progB ks kind arg = true then (if (allTasks ks kind arg).length ≤ 200 then (0, allTasks ks kind arg) else (4, [])) else (3, [])

end Go.Proofs.YtdbbejedipfckaaGreatDoor
