/-
  gleanlaw.Unfolds answers true for whatever program lies in memory, and writes into new memory alone.
-/
import Derived.Test.YtfanaanofjhlkaaDoorExampleL
import Derived.Test.YtfanaanofjhlkaaDoorExample
import Derived.Test.YtfanaanofjhlkaaDoorRefUnfold
import Derived.Test.YtfanaanofjhlkaaDoorHeld
import Derived.Test.YtfanaanofjhlkaaDoorStill
namespace Go.Proofs.YtfanaanofjhlkaaDoor
open Go Go.RowKit

/-- The document's values of its program. -/
def exPairs : List (ByteArray × Int) := [(⟨#[]⟩, 5), (⟨#[48]⟩, 3), (⟨#[48, 48]⟩, 1), (⟨#[49]⟩, 1)]
theorem exPairs_at {W : World} {g cap : Nat} (hg : g < W.heap.size) (c0 : W.cell? ⟨g, 0, none⟩ = some (.string ⟨#[]⟩)) (c1 : W.cell? ⟨g, 1, none⟩ = some (.int .i64 5)) (c2 : W.cell? ⟨g, 2, none⟩ = some (.string ⟨#[48]⟩)) (c3 : W.cell? ⟨g, 3, none⟩ = some (.int .i64 3))
    (c4 : W.cell? ⟨g, 4, none⟩ = some (.string ⟨#[48, 48]⟩)) (c5 : W.cell? ⟨g, 5, none⟩ = some (.int .i64 1)) (c6 : W.cell? ⟨g, 6, none⟩ = some (.string ⟨#[49]⟩)) (c7 : W.cell? ⟨g, 7, none⟩ = some (.int .i64 1)) : PairsAt W (.slice (some ⟨g, 0, none⟩) 4 cap) exPairs := by
  refine ⟨some ⟨g, 0, none⟩, cap, rfl, fun j x hj => ⟨g, 0, rfl, hg, ?_⟩⟩
  match j, hj with
  | 0, hj => cases hj; exact ⟨c0, c1⟩
  | 1, hj => cases hj; exact ⟨c2, c3⟩
  | 2, hj => cases hj; exact ⟨c4, c5⟩
  | 3, hj => cases hj; exact ⟨c6, c7⟩
  | (n + 4), hj => simp [exPairs] at hj

set_option maxHeartbeats 8000000 in
set_option maxRecDepth 100000 in
theorem unfolds_calls (a : Option Addr) (cap : Nat) (kind arg : Int) (ks : List KindS) (w : World) (hk : KindsAt (fun _ => True) w (.slice a ks.length cap) ks) (hl : ks.length * 40 ≤ 140737488351232) (hl2 : ∀ k ∈ ks, k.kids.length * 16 ≤ 140737488351232) :
    Calls Tryd.prog 3 #[.agg #[.slice a ks.length cap, .int .i64 kind, .int .i64 arg]] w fun e w' => e = .returned (.bool true) ∧ Below w.heap.size w w' := by
  have hkb : KindsAt (fun b => b < w.heap.size) w (.slice a ks.length cap) ks := hk.below.mono (fun _ h => h.2)
  have HP : Hid (∀ W, Below w.heap.size w W → KindsAt (fun b => b < w.heap.size) W (.slice a ks.length cap) ks) := fun W hW => hkb.kept (Kept.of_below hW (X := fun b => w.heap.size ≤ b) (fun _ _ h => h)) (fun b h1 h2 => by omega)
  have HPT : Hid (∀ W, Below w.heap.size w W → KindsAt (fun _ => True) W (.slice a ks.length cap) ks) := fun W hW => (HP.out W hW).mono (fun _ _ => trivial)
  have hln : ks.length ≤ 9223372036854775806 := by omega
  have HL2 : Hid (∀ k ∈ ks, k.kids.length * 16 ≤ 140737488351232) := hl2
  have HLN : Hid (∀ k ∈ ks, k.kids.length ≤ 9223372036854775806) := fun k hk => by have := hl2 k hk; omega
  obtain ⟨er, her⟩ : ∃ er, (unfoldS ks kind arg).1 = er := ⟨_, rfl⟩
  obtain ⟨L, hL⟩ : ∃ L, pairsOf ks (unfoldS ks kind arg).2 = L := ⟨_, rfl⟩
  have hLl : (unfoldS ks kind arg).2.length = L.length := by rw [← hL]; simp [pairsOf]
  have hLc : taskCells ks (unfoldS ks kind arg).2 = pairCells L := by rw [← hL]; exact taskCells_pairs _ _
  have hLn : L.length ≤ 1000000 := by
    rw [← hLl]
    unfold unfoldS
    split
    · split
      · dsimp only; omega
      · simp
    · simp
  have HU : Hid (∀ W (a : Option Addr) (cap : Nat), KindsAt (fun _ => True) W (.slice a ks.length cap) ks → Calls Tryd.prog 5 #[.agg #[.slice a ks.length cap, .int .i64 kind, .int .i64 arg]] W fun e w' => ∃ v, e = .returned (.tuple #[v, .int .i64 er]) ∧ w'.ownsRow W.heap.size 32 2 v L.length (pairCells L) ∧ Below W.heap.size W w') := fun W a cap hW => by
    rw [← her, ← hLl, ← hLc]; exact unfold_calls a cap kind arg ks W hW hln HLN.out
  have HR : Hid (∀ W (a : Option Addr) (cap : Nat), KindsAt (fun _ => True) W (.slice a ks.length cap) ks → Calls Tryd.prog 9 #[.agg #[.slice a ks.length cap, .int .i64 kind, .int .i64 arg]] W fun e w' => ∃ v, e = .returned (.tuple #[v, .int .i64 er]) ∧ w'.ownsRow W.heap.size 32 2 v L.length (pairCells L) ∧ Below W.heap.size W w') := fun W a cap hW => by
    rw [← her, ← hLl, ← hLc]; exact ref_unfold_calls a cap kind arg ks W hW hln HLN.out
  clear hkb hl2 her hL hLl hLc hk
  go_enter Tryd.func3, Tryd.ntmps3
  go_upto_region 1 with fail
  obtain ⟨V, hV⟩ : ∃ V, w.alloc (Obj.cells #[.slice a ks.length cap, .int .i64 kind, .int .i64 arg] 24) = V := ⟨_, rfl⟩
  have bP : BoxAt V w.heap.size 24 #[.slice a ks.length cap, .int .i64 kind, .int .i64 arg] := by rw [← hV]; exact BoxAt.new w _ _
  have hbV : Below w.heap.size w V := by rw [← hV]; exact (Below.refl _ _).alloc (Nat.le_refl _) _
  have sV : V.heap.size = w.heap.size + 1 := by rw [← hV]; simp
  rw [hV]
  clear hV
  have HBP : Hid (∀ W, Below V.heap.size V W → BoxAt W w.heap.size 24 #[.slice a ks.length cap, .int .i64 kind, .int .i64 arg]) := fun W hW => bP.below hW (by omega)
  have HBW : Hid (∀ W, Below V.heap.size V W → Below w.heap.size w W) := fun W hW => hbV.trans (hW.mono (by omega))
  clear bP
  go_upto_region 2 with (first
    | (go_at_call 6; refine (example_calls V).mono ?_; rintro e w1 ⟨B1, C1, rfl, hB1, hC1, hb1⟩)
    | (go_at_call 5; refine (unfold_example w1 B1 C1 hB1 hC1).mono ?_; rintro e w2 ⟨g2, cp2, rfl, hg21, hg22, c0, c1, c2, c3, c4, c5, c6, c7, hb2⟩))
  have hVW2 : Below V.heap.size V w2 := hb1.trans (hb2.mono hb1.size)
  have HX2 : Hid (PairsAt w2 (.slice (some ⟨g2, 0, none⟩) 4 cp2) exPairs) := exPairs_at hg22 c0 c1 c2 c3 c4 c5 c6 c7
  clear c0 c1 c2 c3 c4 c5 c6 c7 hb1 hb2 hB1 hC1 hg21 hg22
  have HLIT : Hid (PairsAt (w2.alloc (Obj.cells #[.string ⟨#[]⟩, .int .i64 5, .string ⟨#[48]⟩, .int .i64 3, .string ⟨#[48, 48]⟩, .int .i64 1, .string ⟨#[49]⟩, .int .i64 1] 32)) (.slice (some ⟨w2.heap.size, 0, none⟩) 4 4) exPairs) := by
    have hb := BoxAt.new w2 32 #[.string ⟨#[]⟩, .int .i64 5, .string ⟨#[48]⟩, .int .i64 3, .string ⟨#[48, 48]⟩, .int .i64 1, .string ⟨#[49]⟩, .int .i64 1]
    exact exPairs_at hb.lt (hb.cell (o := 0) rfl) (hb.cell (o := 1) rfl) (hb.cell (o := 2) rfl) (hb.cell (o := 3) rfl) (hb.cell (o := 4) rfl) (hb.cell (o := 5) rfl) (hb.cell (o := 6) rfl) (hb.cell (o := 7) rfl)
  go_upto_region 3 with (go_at_call 7; refine (sameV_calls _ _ exPairs (w2.alloc (Obj.cells #[.string ⟨#[]⟩, .int .i64 5, .string ⟨#[48]⟩, .int .i64 3, .string ⟨#[48, 48]⟩, .int .i64 1, .string ⟨#[49]⟩, .int .i64 1] 32)) (HX2.out.below ((Below.refl _ _).alloc (Nat.le_refl _) _) (Nat.le_refl _)) HLIT.out (by simp [exPairs])).mono ?_; rintro e w3 ⟨rfl, hb3⟩)
  have hVW3 : Below V.heap.size V w3 := (hVW2.alloc hVW2.size _).trans (hb3.mono (by have := hVW2.size; simp; omega))
  clear hb3 hVW2
  have pb := HBP.out w3 hVW3
  have p0 := pb.cell (o := 0) rfl
  have p1 := pb.cell (o := 1) rfl
  have p2 := pb.cell (o := 2) rfl
  clear pb
  go_upto_region 4 with (first
    | (go_at_call 8; refine (lent_calls a cap kind arg ks w3 (HPT.out w3 (HBW.out w3 hVW3)) hl HL2.out).mono ?_; rintro e w4 ⟨BL1, K1, rfl, hlent1, hBL1, hBL1', hb4⟩)
    | (go_at_call 5; refine (HU.out w4 _ _ (hlent1.kinds.mono (fun _ _ => trivial))).mono ?_; rintro e w5 ⟨lv, rfl, hrow5, hb5⟩))
  have hs3 := hVW3.size
  have hs4 := hb4.size
  have hs5 := hb5.size
  have hVW5 : Below V.heap.size V w5 := (hVW3.trans (hb4.mono (by omega))).trans (hb5.mono (by omega))
  have HROW5 : Hid (w5.ownsRow w4.heap.size 32 2 lv L.length (pairCells L)) := hrow5
  clear hlent1 hBL1 hBL1' hb4 hb5 hrow5 p0 p1 p2 hVW3
  have pb := HBP.out w5 hVW5
  have p0 := pb.cell (o := 0) rfl
  have p1 := pb.cell (o := 1) rfl
  have p2 := pb.cell (o := 2) rfl
  clear pb
  go_upto_region 5 with (go_at_call 9; refine (HR.out w5 a cap (HPT.out w5 (HBW.out w5 hVW5))).mono ?_; rintro e w6 ⟨mv, rfl, hrow6, hb6⟩)
  have hs6 := hb6.size
  have hVW6 : Below V.heap.size V w6 := hVW5.trans (hb6.mono (by omega))
  have HROW6 : Hid (w6.ownsRow w5.heap.size 32 2 mv L.length (pairCells L)) := hrow6
  have HLR6 : Hid (w6.ownsRow w4.heap.size 32 2 lv L.length (pairCells L)) := row_later HROW5.out hb6
  clear hb6 hrow6 p0 p1 p2 hVW5
  go_upto_region 6 with (go_at_call 7; refine (sameV_calls _ _ L w6 (pairs_of_row HLR6.out).2 (pairs_of_row HROW6.out).2 (by omega)).mono ?_; rintro e w7 ⟨rfl, hb7⟩)
  have hs7 := hb7.size
  have hVW7 : Below V.heap.size V w7 := hVW6.trans (hb7.mono (by omega))
  have HLR7 : Hid (w7.ownsRow w4.heap.size 32 2 lv L.length (pairCells L)) := row_later HLR6.out hb7
  have HMR7 : Hid (w7.ownsRow w5.heap.size 32 2 mv L.length (pairCells L)) := row_later HROW6.out hb7
  have HLT : Hid (∀ g, lv.ownBlock = some g → w4.heap.size ≤ g ∧ g < w5.heap.size) := HROW5.out.lt
  have HMT : Hid (∀ g, mv.ownBlock = some g → w5.heap.size ≤ g ∧ g < w6.heap.size) := HROW6.out.lt
  clear hb7 hVW6
  go_upto_region 7 with fail
  obtain ⟨w8, hw8⟩ : ∃ w8, w7.alloc (Obj.cells #[.int .i64 0, .int .i64 0, .bool false, .slice none 0 0, .slice none 0 0, .slice none 0 0, .slice none 0 0, .slice none 0 0, .slice none 0 0, .slice none 0 0] 39) = w8 := ⟨_, rfl⟩
  have HB8 : Hid (BoxAt w8 w7.heap.size 39 #[.int .i64 0, .int .i64 0, .bool false, .slice none 0 0, .slice none 0 0, .slice none 0 0, .slice none 0 0, .slice none 0 0, .slice none 0 0, .slice none 0 0]) := by rw [← hw8]; exact BoxAt.new w7 _ _
  have hb8 : Below w7.heap.size w7 w8 := by rw [← hw8]; exact (Below.refl _ _).alloc (Nat.le_refl _) _
  have hs8 : w8.heap.size = w7.heap.size + 1 := by rw [← hw8]; simp
  rw [hw8]
  clear hw8
  obtain ⟨B, hB⟩ : ∃ B, w7.heap.size = B := ⟨_, rfl⟩
  have hVW8 : Below V.heap.size V w8 := hVW7.trans (hb8.mono (by omega))
  have HLR8 : Hid (w8.ownsRow w4.heap.size 32 2 lv L.length (pairCells L)) := row_later HLR7.out hb8
  have HMR8 : Hid (w8.ownsRow w5.heap.size 32 2 mv L.length (pairCells L)) := row_later HMR7.out hb8
  clear hb8 hVW7
  rw [hB] at HB8 hs8 hs7
  rw [hB]
  have HI8 : Hid (BooksAt (fun g => g = B) (fun g _ => g = B) w8 B 0 0 (.slice none 0 0) (.slice none 0 0) []) := ⟨.slice none 0 0, HB8.out, World.ownsRow_nil _ _ _ _, rfl, (fun g e => by cases e), (fun x hx => by cases hx)⟩
  go_upto_region 8 with (go_at_call 10; refine (values1_calls (fun g => g = B) B lv L w8 HI8.out (ownsRow_base HLR8.out (Nat.zero_le _)) (fun g e h => by have := HLT.out g e; omega) hLn).mono ?_; rintro e w9 ⟨rfl, wv, bs9, hlen9, hpw9, hI9, hk9⟩)
  have hs9 := hk9.size
  have HLEN9 : Hid (bs9.length = 4) := hlen9
  have HPW9 : Hid (PairsAt w9 wv L) := hpw9
  have HI9 : Hid (BooksAt (fun g => g = B ∨ (w8.heap.size ≤ g ∧ g < w9.heap.size)) (fun g _ => g = B ∨ (w8.heap.size ≤ g ∧ g < w9.heap.size)) w9 B 1 1 lv wv bs9) := hI9.kept (Kept.refl (fun _ => False) _) (fun _ _ h => h) (fun _ _ _ _ _ h => h) (fun g h1 h => h.elim .inl (fun h2 => .inr ⟨h2, h1⟩)) (fun g _ h1 h => h.elim .inl (fun h2 => .inr ⟨h2, h1⟩))
  have hVW9 : Below V.heap.size V w9 := hVW8.trans (hk9.below (B := V.heap.size) (by omega) (fun k e => by omega))
  have HLR9 : Hid (w9.ownsRow w4.heap.size 32 2 lv L.length (pairCells L)) := row_kept HLR8.out hk9 (fun g e h => by have := HLT.out g e; omega) (Nat.le_refl _)
  have HMR9 : Hid (w9.ownsRow w5.heap.size 32 2 mv L.length (pairCells L)) := row_kept HMR8.out hk9 (fun g e h => by have := HMT.out g e; omega) (Nat.le_refl _)
  clear hlen9 hpw9 hI9 hk9 hVW8
  have pb := HBP.out w9 hVW9
  have p0 := pb.cell (o := 0) rfl
  have p1 := pb.cell (o := 1) rfl
  have p2 := pb.cell (o := 2) rfl
  clear pb
  go_upto_region 9 with (go_at_call 8; refine (lent_calls a cap kind arg ks w9 (HPT.out w9 (HBW.out w9 hVW9)) hl HL2.out).mono ?_; rintro e w10 ⟨BL, K, rfl, hlent, hBL, hBL', hb10⟩)
  have hs10 := hb10.size
  obtain ⟨w11, hw11⟩ : ∃ w11, w10.alloc (Obj.cells #[.slice (some ⟨BL, 0, none⟩) ks.length (ks.length + 8), .int .i64 kind, .int .i64 arg] 24) = w11 := ⟨_, rfl⟩
  have bQ : BoxAt w11 w10.heap.size 24 #[.slice (some ⟨BL, 0, none⟩) ks.length (ks.length + 8), .int .i64 kind, .int .i64 arg] := by rw [← hw11]; exact BoxAt.new w10 _ _
  have hb11 : Below w10.heap.size w10 w11 := by rw [← hw11]; exact (Below.refl _ _).alloc (Nat.le_refl _) _
  have hs11 : w11.heap.size = w10.heap.size + 1 := by rw [← hw11]; simp
  rw [hw11]
  clear hw11
  have HQ11 : Hid (BoxAt w11 w10.heap.size 24 #[.slice (some ⟨BL, 0, none⟩) ks.length (ks.length + 8), .int .i64 kind, .int .i64 arg]) := bQ
  have HLENT10 : Hid (LentAt w10 BL K ks) := hlent
  have HKS : Hid (∀ j, j < ks.length → K j < w10.heap.size) := hlent.lt
  have HLENT11 : Hid (LentAt w11 BL K ks) := hlent.below hb11 (Nat.le_refl _)
  have hb9_11 : Below w9.heap.size w9 w11 := hb10.trans (hb11.mono hs10)
  have q0 := bQ.cell (o := 0) rfl
  have q1 := bQ.cell (o := 1) rfl
  have q2 := bQ.cell (o := 2) rfl
  clear bQ hlent hb10 hb11 p0 p1 p2
  go_upto_region 10 with (go_at_call 5; refine (HU.out w11 _ _ (HLENT11.out.kinds.mono (fun _ _ => trivial))).mono ?_; rintro e w12 ⟨kv, rfl, hrow12, hb12⟩)
  have hs12 := hb12.size
  have HROW12 : Hid (w12.ownsRow w11.heap.size 32 2 kv L.length (pairCells L)) := hrow12
  have HKT : Hid (∀ g, kv.ownBlock = some g → w11.heap.size ≤ g ∧ g < w12.heap.size) := hrow12.lt
  have hb9_12 : Below w9.heap.size w9 w12 := hb9_11.trans (hb12.mono (by omega))
  have HQ12 : Hid (BoxAt w12 w10.heap.size 24 #[.slice (some ⟨BL, 0, none⟩) ks.length (ks.length + 8), .int .i64 kind, .int .i64 arg]) := HQ11.out.below hb12 (by omega)
  have HLENT12 : Hid (LentAt w12 BL K ks) := HLENT11.out.below hb12 (Nat.le_refl _)
  clear hrow12 hb12 q0 q1 q2
  go_upto_region 11 with (go_at_call 7; refine (sameV_calls _ _ L w12 (pairs_of_row HROW12.out).2 (pairs_of_row (row_later HMR9.out hb9_12)).2 (by omega)).mono ?_; rintro e w13 ⟨rfl, hb13⟩)
  have hs13 := hb13.size
  have hb9_13 : Below w9.heap.size w9 w13 := hb9_12.trans (hb13.mono (by omega))
  have HQ13 : Hid (BoxAt w13 w10.heap.size 24 #[.slice (some ⟨BL, 0, none⟩) ks.length (ks.length + 8), .int .i64 kind, .int .i64 arg]) := HQ12.out.below hb13 (by omega)
  have HLENT13 : Hid (LentAt w13 BL K ks) := HLENT12.out.below hb13 (Nat.le_refl _)
  have HKR13 : Hid (w13.ownsRow w11.heap.size 32 2 kv L.length (pairCells L)) := row_later HROW12.out hb13
  have HMR13 : Hid (w13.ownsRow w5.heap.size 32 2 mv L.length (pairCells L)) := row_later HMR9.out hb9_13
  have HLR13 : Hid (w13.ownsRow w4.heap.size 32 2 lv L.length (pairCells L)) := row_later HLR9.out hb9_13
  have HI13 : Hid (BooksAt (fun g => g = B ∨ (w8.heap.size ≤ g ∧ g < w9.heap.size)) (fun g _ => g = B ∨ (w8.heap.size ≤ g ∧ g < w9.heap.size)) w13 B 1 1 lv wv bs9) := HI9.out.later hb9_13
  have HPW13 : Hid (PairsAt w13 wv L) := HPW9.out.below hb9_13 (Nat.le_refl _)
  have hVW13 : Below V.heap.size V w13 := hVW9.trans (hb9_13.mono (by omega))
  clear hb13 hb9_12 hb9_11 hb9_13 hVW9
  go_upto_region 12 with (go_at_call 10; refine (values2_calls (fun g => g = B ∨ (w8.heap.size ≤ g ∧ g < w9.heap.size)) B lv wv kv L L bs9 w13 HI13.out (ownsRow_base HLR13.out (Nat.zero_le _)) (fun g e h => by have := HLT.out g e; omega) HPW13.out (ownsRow_base HKR13.out (Nat.zero_le _)) (fun g e => ⟨fun h => by have := HKT.out g e; omega, fun h => by have := HKT.out g e; have := HLT.out g h; omega⟩) hLn hLn HLEN9.out).mono ?_; rintro e w14 ⟨rfl, bs14, hlen14, hI14, hk14⟩)
  have hs14 := hk14.size
  have HLEN14 : Hid (bs14.length = 12) := hlen14
  have HI14 : Hid (BooksAt (fun g => (g = B ∨ (w8.heap.size ≤ g ∧ g < w9.heap.size)) ∨ w13.heap.size ≤ g ∨ lv.ownBlock = some g ∨ kv.ownBlock = some g) (fun g _ => (g = B ∨ (w8.heap.size ≤ g ∧ g < w9.heap.size)) ∨ w13.heap.size ≤ g ∨ lv.ownBlock = some g ∨ kv.ownBlock = some g) w14 B 3 2 (.slice none 0 0) (.slice none 0 0) bs14) := hI14
  have hVW14 : Below V.heap.size V w14 := hVW13.trans (hk14.below (B := V.heap.size) (by omega) (fun k h => by
    rcases h with (h | h) | h | h
    · omega
    · omega
    · have := HLT.out k h
      omega
    · have := HKT.out k h
      omega))
  have HMR14 : Hid (w14.ownsRow w5.heap.size 32 2 mv L.length (pairCells L)) := row_kept HMR13.out hk14 (fun g e h => by
    have := HMT.out g e
    rcases h with (h | h) | h | h
    · omega
    · omega
    · have := HLT.out g h
      omega
    · have := HKT.out g h
      omega) (Nat.le_refl _)
  have hfar : ∀ b, BL ≤ b → b ≤ w10.heap.size → ¬ ((b = B ∨ (w8.heap.size ≤ b ∧ b < w9.heap.size)) ∨ lv.ownBlock = some b ∨ kv.ownBlock = some b) := fun b h1 h2 h => by
    rcases h with (h | h) | h | h
    · omega
    · omega
    · have := HLT.out b h
      omega
    · have := HKT.out b h
      omega
  have HLENT14 : Hid (LentAt w14 BL K ks) := HLENT13.out.kept (S := w10.heap.size) hk14 (fun b h1 h2 => hfar b h1 (by omega)) hBL' HKS.out
  have HQ14 : Hid (BoxAt w14 w10.heap.size 24 #[.slice (some ⟨BL, 0, none⟩) ks.length (ks.length + 8), .int .i64 kind, .int .i64 arg]) := HQ13.out.kept hk14 (hfar _ (by omega) (Nat.le_refl _))
  clear hlen14 hI14 hk14 hVW13 hfar
  have pb := HBP.out w14 hVW14
  have p0 := pb.cell (o := 0) rfl
  have p1 := pb.cell (o := 1) rfl
  have p2 := pb.cell (o := 2) rfl
  clear pb
  go_upto_region 13 with (go_at_call 5; refine (HU.out w14 a cap (HPT.out w14 (HBW.out w14 hVW14))).mono ?_; rintro e w15 ⟨yv, rfl, hrow15, hb15⟩)
  have hs15 := hb15.size
  have HROW15 : Hid (w15.ownsRow w14.heap.size 32 2 yv L.length (pairCells L)) := hrow15
  clear hrow15 p0 p1 p2
  go_upto_region 14 with (go_at_call 7; refine (sameV_calls _ _ L w15 (pairs_of_row HROW15.out).2 (pairs_of_row (row_later HMR14.out hb15)).2 (by omega)).mono ?_; rintro e w16 ⟨rfl, hb16⟩)
  have hs16 := hb16.size
  have hb14_16 : Below w14.heap.size w14 w16 := hb15.trans (hb16.mono (by omega))
  have HI16 : Hid (BooksAt (fun g => (g = B ∨ (w8.heap.size ≤ g ∧ g < w9.heap.size)) ∨ w13.heap.size ≤ g ∨ lv.ownBlock = some g ∨ kv.ownBlock = some g) (fun g _ => (g = B ∨ (w8.heap.size ≤ g ∧ g < w9.heap.size)) ∨ w13.heap.size ≤ g ∨ lv.ownBlock = some g ∨ kv.ownBlock = some g) w16 B 3 2 (.slice none 0 0) (.slice none 0 0) bs14) := HI14.out.later hb14_16
  have HLENT16 : Hid (LentAt w16 BL K ks) := HLENT14.out.below hb14_16 (Nat.le_refl _)
  have HQ16 : Hid (BoxAt w16 w10.heap.size 24 #[.slice (some ⟨BL, 0, none⟩) ks.length (ks.length + 8), .int .i64 kind, .int .i64 arg]) := HQ14.out.below hb14_16 (by omega)
  have hVW16 : Below V.heap.size V w16 := hVW14.trans (hb14_16.mono (by omega))
  have hqb := HQ16.out
  have q0 := hqb.cell (o := 0) rfl
  have q1 := hqb.cell (o := 1) rfl
  have q2 := hqb.cell (o := 2) rfl
  clear hb15 hb16 hb14_16 hVW14 hqb
  have pb := HBP.out w16 hVW16
  have p0 := pb.cell (o := 0) rfl
  have p1 := pb.cell (o := 1) rfl
  have p2 := pb.cell (o := 2) rfl
  clear pb
  go_upto_region 15 with (go_at_call 11; refine (kept_calls a cap kind arg ks BL w10.heap.size K w16 HLENT16.out ((HP.out w16 (HBW.out w16 hVW16)).mono (fun b h => by omega)) hBL' HKS.out (by omega) hl HL2.out).mono ?_; rintro e w17 ⟨rfl, hk17⟩)
  have hs17 := hk17.size
  have HI17 : Hid (BooksAt (fun g => (g = B ∨ (w8.heap.size ≤ g ∧ g < w9.heap.size)) ∨ w13.heap.size ≤ g ∨ lv.ownBlock = some g ∨ kv.ownBlock = some g) (fun g _ => (g = B ∨ (w8.heap.size ≤ g ∧ g < w9.heap.size)) ∨ w13.heap.size ≤ g ∨ lv.ownBlock = some g ∨ kv.ownBlock = some g) w17 B 3 2 (.slice none 0 0) (.slice none 0 0) bs14) := by
    have hd : ∀ g, ((g = B ∨ (w8.heap.size ≤ g ∧ g < w9.heap.size)) ∨ w13.heap.size ≤ g ∨ lv.ownBlock = some g ∨ kv.ownBlock = some g) → ¬ (BL ≤ g ∧ g < w10.heap.size) := fun g h h2 => by
      rcases h with (h | h) | h | h | h
      · omega
      · omega
      · omega
      · have := HLT.out g h
        omega
      · have := HKT.out g h
        omega
    exact HI16.out.kept hk17 hd (fun g _ _ _ h => hd g h) (fun _ _ h => h) (fun _ _ _ h => h)
  have hVW17 : Below V.heap.size V w17 := hVW16.trans (hk17.below (B := V.heap.size) (by omega) (fun k h => by omega))
  clear q0 q1 q2 p0 p1 p2 hk17 hVW16
  go_wp2_with (go_at_call 12; refine (still_calls _ _ B 3 2 bs14 w17 HI17.out (by rw [HLEN14.out]; omega)).mono ?_; rintro e w18 ⟨rfl, hb18⟩)
  go_ret
  refine ⟨?_, HBW.out _ (hVW17.trans (hb18.mono (by have := hVW17.size; omega)))⟩
  first | rfl | simp
end Go.Proofs.YtfanaanofjhlkaaDoor
