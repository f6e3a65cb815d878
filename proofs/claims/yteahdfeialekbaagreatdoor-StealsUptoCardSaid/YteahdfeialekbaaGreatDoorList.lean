/-
  values.Set.Keep puts a value into the map under its ID, and turns nothing else; what a map of values holds, as plain facts.
-/
import Derived.Test.YteahdfeialekbaaGreatDoorLeaves
import Derived.Maps.OwnSet
import Derived.Maps.OwnIn
import Derived.Shelf.SlGeneric
import Derived.Shelf.SlIter.Nil
import Derived.Shelf.SortM.Plain
import Derived.Shelf.SortM.SortNone
import Derived.Ground.GgzProg
import Derived.Ground.SlgmProg
import Derived.Test.YteahdfeialekbaaGreatDoorProg
import Derived.WalkSmall
namespace Go.Proofs.YteahdfeialekbaaGreatDoor
open Go Go.RowKit Go.Maps Go.WideMaps
theorem strKeyed : Keyed Tryz.prog 9 := string_keyed Tryz.underlying9
theorem zeroInt (w : World) : (zeroValue 3).run Tryz.prog w = .ok (.int .i64 0) w := by kernel_rfl
def MapIs (W : World) (M : Nat) (D : DataW Unit) : Prop := W.ownsMap Tryz.prog 9 (plainElem Tryz.prog 3) M (Maps.size D) D
def keyL (id : ByteArray) : Lit := .string id.data.toList
def elemD (v : Int) : DataW Unit := .lit (.int .i64 v)
theorem mapIs_of {W : World} {M n : Nat} {D : DataW Unit} (h : W.ownsMap Tryz.prog 9 (plainElem Tryz.prog 3) M n D) : MapIs W M D := by
 obtain ⟨es, clock, hb, hf, hs, hD⟩ := h
 refine ⟨es, clock, hb, hf, ?_, hD⟩
 rw [hD]
 show es.size <= List.length _
 rw [length_sorted]; simp
theorem MapIs.lt {W : World} {M : Nat} {D : DataW Unit} (h : MapIs W M D) : M < W.heap.size := World.ownsMap.lt h
theorem MapIs.kept {X : Nat -> Prop} {W W' : World} {M : Nat} {D : DataW Unit} (h : MapIs W M D) (k : Kept X W W') (hx : ¬ X M) : MapIs W' M D := by
 obtain ⟨es, clock, hb, hf, hs, hD⟩ := h
 exact ⟨es, clock, k.heap hb hx, hf, hs, hD⟩
theorem MapIs.below {n : Nat} {W W' : World} {M : Nat} {D : DataW Unit} (h : MapIs W M D) (k : Below n W W') (hx : M < n) : MapIs W' M D :=
 h.kept (X := fun k => n <= k) (Kept.of_below k (fun _ _ h => h)) (by omega)
set_option maxHeartbeats 1000000 in
theorem keep_calls (M b o : Nat) (D : DataW Unit) (id : ByteArray) (v : Int) (w : World) (hm : MapIs w M D) (hn : Maps.size D < 1000000) (hid : id.size <= 1000000) (hv : (Lit.int .i64 v).wf = true)
  (c0 : w.cell? ⟨b, o, none⟩ = some (.string id)) (c1 : w.cell? ⟨b, o + 1, none⟩ = some (.int .i64 v)) (hb : b < w.heap.size) :
  Calls Tryz.prog 65 #[.map (some M), .slice (some ⟨b, o, none⟩) 1 1] w fun e w' => (∃ u, e = .returned u) /\ MapIs w' M (D.put (keyL id) (elemD v)) /\ Kept (· = M) w w' := by
 have hMl := hm.lt
 have hkey : keyOf Tryz.prog 9 (.string id) = some (keyL id) := keyOf_string_mk Tryz.underlying9 (by unfold maxLen; omega)
 go_enter Tryz.func65, Tryz.ntmps65
 go_wp2
 go_loopw [8] (fun i wr => (i = .int .i64 0 /\ wr = w) \/ (i = .int .i64 1 /\ MapIs wr M (D.put (keyL id) (elemD v)) /\ Kept (· = M) w wr)) (fun i _ => 1 - (intOf i).toNat)
 case atStart => exact .inl ⟨rfl, rfl⟩
 case round =>
  rcases hrel with ⟨rfl, rfl⟩ | ⟨rfl, hm1, hk1⟩
  ·have hown := (World.ownsMap.alloc (show wr.ownsMap Tryz.prog 9 (plainElem Tryz.prog 3) M (Maps.size D) D from hm) (.cells #[.string id, .int .i64 v] 84))
   go_wp2_with (first
    | (at_mapUpdate; refine wpList_mapUpdate_own _ rfl _ _ _ 114 rfl 9 3 strKeyed Tryz.underlying114 _ M (Maps.size D) _ rfl hown (by unfold maxLen; omega) _ _ _ rfl rfl hkey _ [] (plainElem_int Tryz.underlying3 hv) ?_)
    | go_in)
   intro w1 hown1 hgrow1
   go_wp2
   go_roundw
   case rel => exact .inr ⟨rfl, mapIs_of hown1, (Kept.alloc _ _ _).trans (Kept.grown hgrow1 (fun r e => by cases e; rfl))⟩
   case measure => simp [intOf]
  ·go_wp2
   go_end0
   exact ⟨⟨_, rfl⟩, hm1, hk1⟩
end Go.Proofs.YteahdfeialekbaaGreatDoor
namespace Go.Proofs
open Go.Shelf
def Tryz.keys111_ren : Go.Shelf.Ren := ⟨fun | 7 => 111 | 10 => 153 | n => n, fun | 23 => 114 | 26 => 9 | 3 => 3 | 28 => 160 | 0 => 0 | 27 => 159 | 33 => 196 | 4 => 4 | n => n, fun | n => n⟩
theorem Tryz.keys111 : Go.Proofs.SlLaysZ.n7 Tryz.prog Tryz.keys111_ren := {
 mixed := by kernel_rfl
 f7 := ⟨Tryz.f111.name, by decide, Tryz.func111.trans (congrArg some (by kernel_rfl))⟩
 f10 := ⟨Tryz.f153.name, by decide, Tryz.func153.trans (congrArg some (by kernel_rfl))⟩
 t0 := Tryz.underlying0
 a0 := Tryz.isAgg0
 z0 := Tryz.sizeOf0
 v0 := Tryz.zeroValue0
 t4 := Tryz.underlying4
 a4 := Tryz.isAgg4
 z4 := Tryz.sizeOf4
 v4 := Tryz.zeroValue4
 t23 := Tryz.underlying114
 a23 := Tryz.isAgg114
 z23 := Tryz.sizeOf114
 v23 := Tryz.zeroValue114
 t26 := Tryz.underlying9
 a26 := Tryz.isAgg9
 z26 := Tryz.sizeOf9
 v26 := Tryz.zeroValue9
 t27 := Tryz.underlying159
 a27 := Tryz.isAgg159
 z27 := Tryz.sizeOf159
 v27 := Tryz.zeroValue159
 t28 := Tryz.underlying160
 a28 := Tryz.isAgg160
 z28 := Tryz.sizeOf160
 v28 := Tryz.zeroValue160
 t33 := Tryz.underlying196
 a33 := Tryz.isAgg196
 z33 := Tryz.sizeOf196
 v33 := Tryz.zeroValue196 }
def Tryz.sorted110_ren : Go.Shelf.Ren := ⟨fun | 6 => 110 | 8 => 151 | 9 => 152 | 11 => 167 | 13 => 169 | 12 => 168 | 23 => 188 | 24 => 189 | 14 => 179 | 15 => 180 | 16 => 181 | 17 => 182 | 18 => 183 | 19 => 184 | 20 => 185 | 21 => 186 | 22 => 187 | 25 => 194 | 26 => 195 | 27 => 196 | 28 => 197 | 29 => 198 | 30 => 199 | 31 => 205 | n => n, fun | 26 => 9 | 28 => 160 | 24 => 44 | 0 => 0 | 3 => 3 | 37 => 215 | 48 => 229 | 50 => 231 | 4 => 4 | 40 => 221 | 39 => 220 | 45 => 226 | 5 => 5 | 9 => 9 | 51 => 233 | 55 => 237 | 57 => 244 | 58 => 245 | 33 => 196 | n => n, fun | n => n⟩
theorem Tryz.sorted110 : Go.Proofs.SlLaysZ.n6 Tryz.prog Tryz.sorted110_ren := {
 mixed := by kernel_rfl
 f6 := ⟨Tryz.f110.name, by decide, Tryz.func110.trans (congrArg some (by kernel_rfl))⟩
 f8 := ⟨Tryz.f151.name, by decide, Tryz.func151.trans (congrArg some (by kernel_rfl))⟩
 f11 := ⟨Tryz.f167.name, by decide, Tryz.func167.trans (congrArg some (by kernel_rfl))⟩
 t0 := Tryz.underlying0
 a0 := Tryz.isAgg0
 z0 := Tryz.sizeOf0
 v0 := Tryz.zeroValue0
 t24 := Tryz.underlying44
 a24 := Tryz.isAgg44
 z24 := Tryz.sizeOf44
 v24 := Tryz.zeroValue44
 t26 := Tryz.underlying9
 a26 := Tryz.isAgg9
 z26 := Tryz.sizeOf9
 v26 := Tryz.zeroValue9
 t28 := Tryz.underlying160
 a28 := Tryz.isAgg160
 z28 := Tryz.sizeOf160
 v28 := Tryz.zeroValue160
 i26 := by kernel_rfl }
def Tryz.sort152_ren : Go.Shelf.Ren := ⟨fun | 6 => 152 | 8 => 169 | 9 => 168 | 19 => 188 | 20 => 189 | 21 => 179 | 22 => 180 | 23 => 181 | 24 => 182 | 25 => 183 | 26 => 184 | 27 => 185 | 28 => 186 | 29 => 187 | 36 => 194 | 31 => 195 | 32 => 196 | 37 => 197 | 38 => 198 | 39 => 199 | 41 => 205 | n => n, fun | 27 => 44 | 29 => 9 | 3 => 3 | 32 => 215 | 26 => 44 | 0 => 0 | 44 => 229 | 46 => 231 | 4 => 4 | 36 => 221 | 35 => 220 | 41 => 226 | 5 => 5 | 9 => 9 | 53 => 233 | 57 => 237 | 63 => 244 | 64 => 245 | n => n, fun | n => n⟩
theorem Tryz.sort152 : Go.Proofs.SlLaysM.n6 Tryz.prog Tryz.sort152_ren := {
 mixed := by kernel_rfl
 f6 := ⟨Tryz.f152.name, by decide, Tryz.func152.trans (congrArg some (by kernel_rfl))⟩
 f8 := Tryz.func169.trans (congrArg some (by kernel_rfl))
 f9 := ⟨Tryz.f168.name, by decide, Tryz.func168.trans (congrArg some (by kernel_rfl))⟩
 f19 := Tryz.func188.trans (congrArg some (by kernel_rfl))
 f20 := Tryz.func189.trans (congrArg some (by kernel_rfl))
 f21 := ⟨Tryz.f179.name, by decide, Tryz.func179.trans (congrArg some (by kernel_rfl))⟩
 f22 := ⟨Tryz.f180.name, by decide, Tryz.func180.trans (congrArg some (by kernel_rfl))⟩
 f23 := ⟨Tryz.f181.name, by decide, Tryz.func181.trans (congrArg some (by kernel_rfl))⟩
 f24 := ⟨Tryz.f182.name, by decide, Tryz.func182.trans (congrArg some (by kernel_rfl))⟩
 f25 := ⟨Tryz.f183.name, by decide, Tryz.func183.trans (congrArg some (by kernel_rfl))⟩
 f26 := ⟨Tryz.f184.name, by decide, Tryz.func184.trans (congrArg some (by kernel_rfl))⟩
 f27 := ⟨Tryz.f185.name, by decide, Tryz.func185.trans (congrArg some (by kernel_rfl))⟩
 f28 := ⟨Tryz.f186.name, by decide, Tryz.func186.trans (congrArg some (by kernel_rfl))⟩
 f29 := ⟨Tryz.f187.name, by decide, Tryz.func187.trans (congrArg some (by kernel_rfl))⟩
 f31 := Tryz.func195.trans (congrArg some (by kernel_rfl))
 f32 := Tryz.func196.trans (congrArg some (by kernel_rfl))
 f36 := ⟨Tryz.f194.name, by decide, Tryz.func194.trans (congrArg some (by kernel_rfl))⟩
 f37 := ⟨Tryz.f197.name, by decide, Tryz.func197.trans (congrArg some (by kernel_rfl))⟩
 f38 := ⟨Tryz.f198.name, by decide, Tryz.func198.trans (congrArg some (by kernel_rfl))⟩
 f39 := ⟨Tryz.f199.name, by decide, Tryz.func199.trans (congrArg some (by kernel_rfl))⟩
 f41 := ⟨Tryz.f205.name, by decide, Tryz.func205.trans (congrArg some (by kernel_rfl))⟩
 t0 := Tryz.underlying0
 a0 := Tryz.isAgg0
 z0 := Tryz.sizeOf0
 v0 := Tryz.zeroValue0
 t3 := Tryz.underlying3
 a3 := Tryz.isAgg3
 z3 := Tryz.sizeOf3
 v3 := Tryz.zeroValue3
 t4 := Tryz.underlying4
 a4 := Tryz.isAgg4
 z4 := Tryz.sizeOf4
 v4 := Tryz.zeroValue4
 t5 := Tryz.underlying5
 a5 := Tryz.isAgg5
 z5 := Tryz.sizeOf5
 v5 := Tryz.zeroValue5
 t9 := Tryz.underlying9
 a9 := Tryz.isAgg9
 z9 := Tryz.sizeOf9
 v9 := Tryz.zeroValue9
 t26 := Tryz.underlying44
 a26 := Tryz.isAgg44
 z26 := Tryz.sizeOf44
 v26 := Tryz.zeroValue44
 t27 := Tryz.underlying44
 a27 := Tryz.isAgg44
 z27 := Tryz.sizeOf44
 v27 := Tryz.zeroValue44
 t29 := Tryz.underlying9
 a29 := Tryz.isAgg9
 z29 := Tryz.sizeOf9
 v29 := Tryz.zeroValue9
 t32 := Tryz.underlying215
 a32 := Tryz.isAgg215
 z32 := Tryz.sizeOf215
 v32 := Tryz.zeroValue215
 t35 := Tryz.underlying220
 a35 := Tryz.isAgg220
 z35 := Tryz.sizeOf220
 v35 := Tryz.zeroValue220
 t36 := Tryz.underlying221
 a36 := Tryz.isAgg221
 z36 := Tryz.sizeOf221
 v36 := Tryz.zeroValue221
 t41 := Tryz.underlying226
 a41 := Tryz.isAgg226
 z41 := Tryz.sizeOf226
 v41 := Tryz.zeroValue226
 t44 := Tryz.underlying229
 a44 := Tryz.isAgg229
 z44 := Tryz.sizeOf229
 v44 := Tryz.zeroValue229
 t46 := Tryz.underlying231
 a46 := Tryz.isAgg231
 z46 := Tryz.sizeOf231
 v46 := Tryz.zeroValue231
 t53 := Tryz.underlying233
 a53 := Tryz.isAgg233
 z53 := Tryz.sizeOf233
 v53 := Tryz.zeroValue233
 t57 := Tryz.underlying237
 a57 := Tryz.isAgg237
 z57 := Tryz.sizeOf237
 v57 := Tryz.zeroValue237
 t63 := Tryz.underlying244
 a63 := Tryz.isAgg244
 z63 := Tryz.sizeOf244
 v63 := Tryz.zeroValue244
 t64 := Tryz.underlying245
 a64 := Tryz.isAgg245
 z64 := Tryz.sizeOf245
 v64 := Tryz.zeroValue245 }
end Go.Proofs
namespace Go.Proofs
open Go.RowKit Go.Maps Go.Sort Go.Shelf
theorem Tryz.sorts110 (m : Nat) : AnyZ.SortsIn Tryz.prog Tryz.sorted110_ren Fence.wide m :=
 ⟨fun blk off cap ss W hH hblk hsz => callsIn_wide.2 (AnyM.slices_Sort_string Tryz.sort152 blk off cap ss W hH hblk hsz),
   fun p cap W => callsIn_wide.2 (AnyM.slices_Sort_string_none Tryz.sort152 p cap W)⟩
theorem Tryz.maps_Keys_111 (mb : Option Nat) (W : World) : CallsIn Fence.wide 5 Tryz.prog 111 #[.map mb] W fun e w' => e = .returned (.func (.func 153) #[] #[.pointer (some ⟨W.heap.size, 0, none⟩)]) /\ w' = W.alloc (.cells #[.map mb] 114) :=
 AnyZ.keys_in Tryz.keys111 Fence.wide 5 trivial rfl mb W
set_option maxHeartbeats 1000000 in
theorem Tryz.slices_Sorted_keys_110_111 {H : Type} (b nn : Nat) (D0 : DataW H) (R : Value -> Option (DataW H × List MemPlace)) (w : World) (hown : w.ownsMap Tryz.prog 9 R b nn D0) (hmax : Maps.size D0 <= maxLen) (hbytes : Maps.size D0 * 16 <= 140737488355328) :
  CallsIn Fence.wide 5 Tryz.prog 110 #[.func (.func 153) #[] #[.pointer (some ⟨w.heap.size, 0, none⟩)]] (w.alloc (.cells #[.map (some b)] 114)) fun e w' => ∃ (v : Value) (ss : List (List UInt8)), e = .returned v /\ ss.Perm (strKeys D0) /\
   w'.ownsRow (w.alloc (.cells #[.map (some b)] 114)).heap.size 9 1 v ss.length ((ss.mergeSort (fun x y => decide (x <= y))).map encStr) /\ (v = .slice none 0 0 ↔ ss = []) /\ Below (w.alloc (.cells #[.map (some b)] 114)).heap.size (w.alloc (.cells #[.map (some b)] 114)) w' := by
 have hbl := hown.lt
 have hseq : SeqGives Fence.wide 2 Tryz.prog 153 #[.pointer (some ⟨w.heap.size, 0, none⟩)] encStr (fun ss => ss.Perm (strKeys D0)) (Maps.size D0) (w.alloc (.cells #[.map (some b)] 114)) :=
  AnyZ.keys_gives (ρ := Tryz.keys111_ren) { Tryz.keys111 with } Fence.wide _ trivial rfl (by omega) w.heap.size b nn D0 _ (by simp) (by simp) (by
   obtain ⟨es, clock, hb, Ft, hs, hD⟩ := hown
   exact ⟨es, clock, (Below.heap_alloc _ _ b hbl).trans hb, Ft, hs, hD⟩)
 exact AnyZ.sorted_in Tryz.sorted110 Fence.wide 5 trivial trivial trivial trivial rfl (by omega) (Tryz.sorts110 _) (enters_of Tryz.func152 (by kernel_rfl) rfl) 153 #[.pointer (some ⟨w.heap.size, 0, none⟩)] trivial (enters_of Tryz.func153 (by kernel_rfl) rfl) _ _ hmax hbytes _ hseq
end Go.Proofs
namespace Go.Proofs.YteahdfeialekbaaGreatDoor
open Go Go.RowKit Go.Maps Go.WideMaps Go.Sort
theorem infoValue : (Tryz.prog.info? 84).map (fun i => (i.zero, i.size, i.bytes)) = some (some (.agg #[.string ⟨#[]⟩, .int .i64 0]), 2, 24) := by kernel_rfl
def valAt (D : DataW Unit) (s : List UInt8) : Int := match D.atKey (.string s) (.lit (.int .i64 0)) with
 | .lit (.int _ c) => c
 | _ => 0
def valCells (D : DataW Unit) (l : List (List UInt8)) : List Value := l.flatMap fun s => [encStr s, .int .i64 (valAt D s)]
theorem valCells_take (D : DataW Unit) (l : List (List UInt8)) (k : Nat) (s : List UInt8) (h : l[k]? = some s) : valCells D (l.take (k + 1)) = valCells D (l.take k) ++ [encStr s, .int .i64 (valAt D s)] := by
 have hk := (List.getElem?_eq_some_iff.1 h).1
 have he := (List.getElem?_eq_some_iff.1 h).2
 rw [List.take_succ_eq_append_getElem hk, he]
 simp [valCells]
theorem addr_add (g k : Nat) : (⟨g, 0, none⟩ : Addr).add k = ⟨g, k, none⟩ := by
 unfold Addr.add
 split
 ·rename_i h; rw [h]
 ·simp
theorem row_strings {W : World} {base e n : Nat} {v : Value} {S : List (List UInt8)} (h : W.ownsRow base e 1 v n (S.map encStr)) :
  ∃ ad cap, v = .slice ad n cap /\ ∀ (k : Nat) (s : List UInt8), S[k]? = some s -> ∃ g, ad = some ⟨g, 0, none⟩ /\ base <= g /\ g < W.heap.size /\ W.cell? ⟨g, k, none⟩ = some (.string ⟨s.toArray⟩) := by
 have h1 := h.1
 rcases h.2 with ⟨rfl, h0⟩ | ⟨g, cap, cur, rfl, hg, hgb, _⟩
 ·subst h0
  refine ⟨none, 0, rfl, fun k s hs => ?_⟩
  simp at h1
  subst h1
  simp at hs
 ·refine ⟨_, cap, rfl, fun k s hs => ⟨g, rfl, hg, (Array.getElem?_eq_some_iff.1 hgb).1, ?_⟩⟩
  have := h.cells (g := g) rfl k (encStr s) (by simp [hs])
  rwa [addr_add] at this
theorem row_kept {X : Nat -> Prop} {W W' : World} {base base' e size n : Nat} {v : Value} {xs : List Value} (h : W.ownsRow base e size v n xs) (hb : Kept X W W') (hv : ∀ g, v.ownBlock = some g -> ¬ X g) (hB : base' <= base) : W'.ownsRow base' e size v n xs := by
 obtain ⟨h1, ⟨rfl, h0⟩ | ⟨g, cap, cur, rfl, hg, hgb, hr⟩⟩ := h
 ·exact ⟨h1, .inl ⟨rfl, h0⟩⟩
 ·exact ⟨h1, .inr ⟨g, cap, cur, rfl, Nat.le_trans hB hg, hb.heap hgb (hv g rfl), hr⟩⟩
theorem row_below {W W' : World} {base e size n m : Nat} {v : Value} {xs : List Value} (h : W.ownsRow base e size v n xs) (hb : Below m W W') (hv : ∀ g, v.ownBlock = some g -> g < m) : W'.ownsRow base e size v n xs := by
 obtain ⟨h1, ⟨rfl, h0⟩ | ⟨g, cap, cur, rfl, hg, hgb, hr⟩⟩ := h
 ·exact ⟨h1, .inl ⟨rfl, h0⟩⟩
 ·exact ⟨h1, .inr ⟨g, cap, cur, rfl, hg, (hb.block g (hv g rfl)).trans hgb, hr⟩⟩
set_option maxHeartbeats 2000000 in
set_option maxRecDepth 100000 in
theorem list_calls (M : Nat) (D : DataW Unit) (w : World) (hm : MapIs w M D) (hn : Maps.size D <= 1000000) :
  Calls Tryz.prog 67 #[.map (some M)] w fun e w' => ∃ ss : List (List UInt8), ss.Perm (strKeys D) /\ e = .returned (.slice (some ⟨w.heap.size, 0, none⟩) ss.length ss.length) /\
   w'.ownsRow w.heap.size 84 2 (.slice (some ⟨w.heap.size, 0, none⟩) ss.length ss.length) ss.length (valCells D (ss.mergeSort (fun x y => decide (x <= y)))) /\ Below w.heap.size w w' := by
 have hMl := hm.lt
 have hlen := World.ownsMap.len (show w.ownsMap Tryz.prog 9 (plainElem Tryz.prog 3) M (Maps.size D) D from hm) Tryz.underlying114 3
 obtain ⟨i0, hi, hz0, hz1, hz2⟩ := info_parts infoValue
 go_enter Tryz.func67, Tryz.ntmps67
 go_wp2_with (first
  | (at_make; refine wpList_make_own _ rfl _ _ 43 rfl w.heap.size 84 i0 _ 2 Tryz.underlying43 hi hz0 hz1 .i64 .i64 _ (Maps.size D) rfl rfl rfl (by rw [hz2]; omega) (by unfold maxLen; omega) (Nat.le_refl _) ?_)
  | go_in)
 intro w1 hown1 hgrow1
 have hm1 : MapIs w1 M D := hm.kept (X := fun _ => False) (Kept.grown hgrow1 (fun r e => by cases e)) (fun h => h)
 have hb1 : Below w.heap.size w w1 := (Below.refl _ w).grown hgrow1 (Nat.le_refl _) (fun k e => by cases e)
 clear hlen
 go_wp2_with (first
  | (go_at_call 111; refine (callsIn_wide.1 (Tryz.maps_Keys_111 _ _)).mono ?_; rintro e w' ⟨rfl, rfl⟩)
  | (go_at_call 110; refine (callsIn_wide.1 (Tryz.slices_Sorted_keys_110_111 M _ D _ w1 hm1 (by unfold maxLen; omega) (by omega))).mono ?_; rintro e w2 ⟨v, ss, rfl, hS, hrow, hnil, hb2⟩; obtain ⟨ad, cp, rfl, hcs⟩ := row_strings hrow))
 have HSS : Hid (ss.length = Maps.size D) := by
  show ss.length = Maps.size D
  rw [hS.length_eq]; cases D <;> simp [strKeys, Maps.size]
 have hle : ss.length <= Maps.size D := Nat.le_of_eq HSS.out
 have hS2 : (ss.mergeSort (fun x y => decide (x <= y))).length = ss.length := List.length_mergeSort _
 have hSle : ∀ s ∈ ss.mergeSort (fun x y => decide (x <= y)), s.length <= maxLen := fun s h =>
  strKeys_le (show w1.ownsMap Tryz.prog 9 (plainElem Tryz.prog 3) M (Maps.size D) D from hm1) Tryz.underlying9 s (hS.mem_iff.1 (List.mem_mergeSort.1 h))
 obtain ⟨S, hSd⟩ : ∃ S, ss.mergeSort (fun x y => decide (x <= y)) = S := ⟨_, rfl⟩
 rw [hSd] at hcs hS2 hSle
 have HSD : Hid (ss.mergeSort (fun x y => decide (x <= y)) = S) := hSd
 have hlS : ss.length <= S.length := by omega
 clear hSd hS2 hrow hnil
 have hB2 : Below w1.heap.size w1 w2 := ((Below.refl _ w1).alloc (Nat.le_refl _) _).trans (hb2.mono (by simp))
 have hs1 := hb1.size
 have hw1 : w.heap.size < w1.heap.size := (hown1.lt _ rfl).2
 go_loopw [3, 13] (fun l i wr => ∃ k : Nat, k <= ss.length /\ i = .int .i64 k /\ l = .slice (some ⟨w.heap.size, 0, none⟩) k (Maps.size D) /\ wr.ownsRow w.heap.size 84 2 (.slice (some ⟨w.heap.size, 0, none⟩) k (Maps.size D)) k (valCells D (S.take k)) /\ Kept (· = w.heap.size) w2 wr) (fun _ i _ => ss.length - (intOf i).toNat)
 case atStart => exact ⟨0, Nat.zero_le _, rfl, rfl, row_below hown1 hB2 (by simp [Value.ownBlock]; omega), Kept.refl _ _⟩
 case round =>
  obtain ⟨k, hk, rfl, rfl, hrowk, hkw⟩ := hrel
  have hM2 : MapIs wr M D := (hm1.below hB2 (by omega)).kept hkw (by omega)
  by_cases hlt : k < ss.length
  ·obtain ⟨s, hs⟩ : ∃ s, S[k]? = some s := ⟨_, List.getElem?_eq_getElem (by omega)⟩
   obtain ⟨g, rfl, hg1, hg2, cs⟩ := hcs k s hs
   simp only [World.size_alloc] at hg1
   have ck := (hkw.cell (p := ⟨g, k, none⟩) hg2 (by simp; omega)).trans cs
   have hkey : keyOf Tryz.prog 9 (.string ⟨s.toArray⟩) = some (.string s) := by
    have := keyOf_string_mk (k := 9) Tryz.underlying9 (s := ⟨s.toArray⟩) (by simpa [ByteArray.size] using hSle s (List.mem_of_getElem? hs))
    simpa using this
   obtain ⟨c, hrun, hat, hwc⟩ := World.ownsMap.lookup_int (show wr.ownsMap Tryz.prog 9 (plainElem Tryz.prog 3) M (Maps.size D) D from hM2) strKeyed Tryz.underlying114 Tryz.underlying3 (zeroInt _) hkey
   have HV : Hid (valAt D s = c) := by simp [Hid, valAt, hat]
   have HT : Hid (valCells D (S.take (k + 1)) = valCells D (S.take k) ++ [encStr s, .int .i64 (valAt D s)]) := valCells_take D S k s hs
   clear hat hcs
   go_wp2_with (first
    | (at_builtin; refine wpList_append_fits _ rfl _ _ 43 rfl w.heap.size 84 i0 2 Tryz.underlying43 hi hz1 w.heap.size k (Maps.size D) _ rfl (hrowk.alloc _) ⟨wr.heap.size, 0, none⟩ 1 1 [.string ⟨s.toArray⟩, .int .i64 c] rfl rfl (cell_two_new _ _ _ _) (fun x hx => by simp at hx; rcases hx with rfl | rfl <;> rfl) (by omega) ?_; intro w3 hown3 hgrow3)
    | go_in)
   go_roundw
   case rel => exact ⟨k + 1, by omega, by go_num, rfl, by rw [HT.out, HV.out]; exact hown3, (hkw.trans (Kept.alloc _ _ _)).trans (Kept.grown hgrow3 (fun r e => by cases e; rfl))⟩
   case measure => simp [intOf]; omega
  ·obtain rfl : k = ss.length := by omega
   go_wp2_with fail
   go_ret
   have hT : S.take ss.length = S := List.take_of_length_le (by rw [<- HSD.out, List.length_mergeSort]; exact Nat.le_refl _)
   rw [hT, <- HSS.out] at hrowk
   refine ⟨ss, hS, ?_, ?_, ?_⟩
   ·rw [<- HSS.out]; rfl
   ·rw [HSD.out]; exact hrowk
   ·exact (hb1.trans (hB2.mono hs1)).trans (hkw.below (by have := hB2.size; omega) (fun k e => by omega))
end Go.Proofs.YteahdfeialekbaaGreatDoor
