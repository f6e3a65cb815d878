/-
  gleanlaw's Books.still says yes while the books are in order: every list that was booked is full of its mark, and every list that was kept is as it came.
-/
import Derived.Test.YtdbbejedipfckaaGreatDoorFullB
import Derived.Test.YtdbbejedipfckaaGreatDoorBookState
import Derived.Test.YtdbbejedipfckaaGreatDoorRefTick
import Derived.Test.YtdbbejedipfckaaGreatDoorXTasks
import Derived.Test.YtdbbejedipfckaaGreatDoorLikeV
namespace Go.Proofs.YtdbbejedipfckaaGreatDoor
open Go Go.RowKit

set_option maxHeartbeats 4000000 in
set_option maxRecDepth 100000 in
theorem stillB_calls (F : Nat → Prop) (B N came : Nat) (w : World) (hI : BooksOK F w B N came) (hN : N ≤ 300000000000) :
    Calls Tryz.prog 22 #[.pointer (some ⟨B, 0, none⟩)] w fun e w' => e = .returned (.bool true) ∧ Below w.heap.size w w' := by
  obtain ⟨lab, kV, wV, kT, wT, kM, wM, lV, lT, lM, bs, hlab, hbs, hX, ⟨hkV, -, hwV, -, hnV⟩, ⟨hkT, -, hwT, -, hnT⟩, ⟨hkM, -, hwM, -, hnM⟩⟩ := hI
  obtain ⟨vA, hbx, hr, -, -, hmk⟩ := hX
  have HBX : Hid (∀ W, Below w.heap.size w W → BoxAt W B 56 (booksCells N came kV wV kT wT kM wM vA)) := fun W hW => hbx.below hW hbx.lt
  have HR : Hid (∀ W, Below w.heap.size w W → W.ownsRow 0 106 4 vA bs.length (bkCells bs)) := fun W hW => row_below hr hW (fun g e => (hr.lt g e).2)
  have HM : Hid (∀ W, Below w.heap.size w W → ∀ x ∈ bs, MarkedB W (fun b _ => lab b = 1) x) := fun W hW x hx => (hmk x hx).kept (Kept.of_below hW (X := fun b => w.heap.size ≤ b) (fun _ _ h => h)) (fun g n t cs _ hb _ h => by have := hb.lt; omega) (fun _ _ _ _ _ _ h => h)
  have b3 := hbx.cell (o := 3) rfl
  have b4 := hbx.cell (o := 4) rfl
  have HS1 : Hid (∀ W, Below w.heap.size w W → Calls Tryz.prog 45 #[kV, wV] W fun e w' => ∃ v, e = .returned v ∧ v = .bool true ∧ Below w.heap.size w w') := fun W hW =>
    (likeV_calls _ _ lV W ((list_of_row (sz := 2) (enc := valEnc) (fun _ => rfl) hkV rfl).below hW (Nat.le_refl _)) ((list_of_row (sz := 2) (enc := valEnc) (fun _ => rfl) hwV rfl).below hW (Nat.le_refl _)) (by omega)).mono fun e w' h => ⟨_, h.1, rfl, hW.trans (h.2.mono hW.size)⟩
  have HS2 : Hid (∀ W, Below w.heap.size w W → Calls Tryz.prog 38 #[kT, wT] W fun e w' => ∃ v, e = .returned v ∧ v = .bool true ∧ Below w.heap.size w w') := fun W hW =>
    (likeT_calls _ _ lT W ((list_of_row (sz := 3) (enc := taskEnc) (fun _ => rfl) hkT rfl).below hW (Nat.le_refl _)) ((list_of_row (sz := 3) (enc := taskEnc) (fun _ => rfl) hwT rfl).below hW (Nat.le_refl _)) (by omega)).mono fun e w' h => ⟨_, h.1, rfl, hW.trans (h.2.mono hW.size)⟩
  have HS3 : Hid (∀ W, Below w.heap.size w W → Calls Tryz.prog 42 #[kM, wM] W fun e w' => ∃ v, e = .returned v ∧ v = .bool true ∧ Below w.heap.size w w') := fun W hW =>
    (likeM_calls _ _ lM W ((list_of_row (sz := 15) (enc := msgEnc) (fun _ => rfl) hkM rfl).below hW (Nat.le_refl _)) ((list_of_row (sz := 15) (enc := msgEnc) (fun _ => rfl) hwM rfl).below hW (Nat.le_refl _)) (by omega)).mono fun e w' h => ⟨_, h.1, rfl, hW.trans (h.2.mono hW.size)⟩
  have hbn : bs.length ≤ 1200000000000 := by omega
  clear hkV hwV hkT hwT hkM hwM hbx hr hmk hlab hbs
  go_enter Tryz.func22, Tryz.ntmps22
  go_upto_region 1 with fail
  go_cut [3] (fun s wx => s = .bool true ∧ Below w.heap.size w wx)
  case first =>
    go_region_law (refine step_call2 (by rfl) 45 _ _ _ (by rfl) kV wV (by rfl) (by rfl) (enters_of Tryz.func45 (by kernel_rfl) rfl) (HS1.out _ (by first | exact Below.refl _ _ | exact (Below.refl _ _).drew)) ?_; rintro v9 w9 ⟨rfl, hb9⟩)
    all_goals
      go_wp2_with fail
      go_meet
      case rel => exact ⟨rfl, by assumption⟩
  case rest =>
    obtain ⟨rfl, hw1⟩ := hcut
    rename World => w1
    have hbx1 := HBX.out w1 hw1
    clear b3 b4
    have b5 := hbx1.cell (o := 5) rfl
    have b6 := hbx1.cell (o := 6) rfl
    clear hbx1
    go_upto_region 2 with fail
    go_cut [4] (fun s wx => s = .bool true ∧ Below w.heap.size w wx)
    case first =>
      go_region_law (refine step_call2 (by rfl) 38 _ _ _ (by rfl) kT wT (by rfl) (by rfl) (enters_of Tryz.func38 (by kernel_rfl) rfl) (HS2.out _ (by first | exact hw1 | exact hw1.drew)) ?_; rintro v9 w9 ⟨rfl, hb9⟩)
      all_goals
        go_wp2_with fail
        go_meet
        case rel => exact ⟨rfl, by assumption⟩
    case rest =>
      obtain ⟨rfl, hw2⟩ := hcut
      rename World => w2
      have hbx2 := HBX.out w2 hw2
      clear b5 b6
      have b7 := hbx2.cell (o := 7) rfl
      have b8 := hbx2.cell (o := 8) rfl
      clear hbx2
      go_upto_region 3 with fail
      go_cut [5] (fun s wx => s = .bool true ∧ Below w.heap.size w wx)
      case first =>
        go_region_law (refine step_call2 (by rfl) 42 _ _ _ (by rfl) kM wM (by rfl) (by rfl) (enters_of Tryz.func42 (by kernel_rfl) rfl) (HS3.out _ (by first | exact hw2 | exact hw2.drew)) ?_; rintro v9 w9 ⟨rfl, hb9⟩)
        all_goals
          go_wp2_with fail
          go_meet
          case rel => exact ⟨rfl, by assumption⟩
      case rest =>
        obtain ⟨rfl, hw3⟩ := hcut
        rename World => w3
        have hr3 := HR.out w3 hw3
        have hbx3 := HBX.out w3 hw3
        obtain ⟨aA, cA, hvA⟩ := row_form hr3
        subst hvA
        have HB3 : Hid (BoxAt w3 B 56 (booksCells N came kV wV kT wT kM wM (.slice aA bs.length cA))) := hbx3
        have HR3 : Hid (w3.ownsRow 0 106 4 (.slice aA bs.length cA) bs.length (bkCells bs)) := hr3
        have HM3 : Hid (∀ x ∈ bs, MarkedB w3 (fun b _ => lab b = 1) x) := HM.out w3 hw3
        have b2 := hbx3.cell (o := 2) rfl
        have b9 := hbx3.cell (o := 9) rfl
        clear b7 b8 hr3 hbx3
        go_wp2_with fail
        go_loopw [6] (fun i wr => ∃ k : Nat, k ≤ bs.length ∧ i = .int .i64 k ∧ Below w3.heap.size w3 wr) (fun i _ => bs.length - (intOf i).toNat)
        case atStart => exact ⟨0, Nat.zero_le _, rfl, Below.refl _ _⟩
        case round =>
          obtain ⟨k, hk, rfl, hbw⟩ := hrel
          rename World => wr
          have hbx := HB3.out.below hbw HB3.out.lt
          clear b9 b2
          have b9 := hbx.cell (o := 9) rfl
          clear hbx
          have HBW : Hid (Below w3.heap.size w3 wr) := hbw
          by_cases hlt : k < bs.length
          · obtain ⟨x, hx⟩ : ∃ x, bs[k]? = some x := ⟨_, List.getElem?_eq_getElem hlt⟩
            obtain ⟨g, cap, hgf, hg1, hg2⟩ := World.ownsRow.form HR3.out (by omega)
            obtain ⟨g0, g1, g2', g3⟩ := bkCells_get bs k x hx
            cases hgf
            have hcell : ∀ j u, (bkCells bs)[j]? = some u → wr.cell? ⟨g, j, none⟩ = some u := fun j u hj => by
              have h1 := HR3.out.cells (g := g) rfl j u hj
              rw [Addr.add_lit, Nat.zero_add] at h1
              exact (hbw.cell (p := ⟨g, j, none⟩) hg2).trans h1
            have y0 := hcell _ _ g0
            have y1 := hcell _ _ g1
            have y2 := hcell _ _ g2'
            have y3 := hcell _ _ g3
            have hmk : MarkedB wr (fun b _ => lab b = 1) x := (HM3.out x (List.mem_of_getElem? hx)).kept (Kept.of_below hbw (X := fun b => w3.heap.size ≤ b) (fun _ _ h => h)) (fun g n t cs _ hb _ h => by have := hb.lt; omega) (fun _ _ _ _ _ _ h => h)
            have HMK : Hid (MarkedB wr (fun b _ => lab b = 1) x) := hmk
            obtain ⟨x1, xV, xT, xM⟩ := x
            obtain ⟨⟨a1, n1, c1, h1, -⟩, ⟨a2, n2, c2, h2, -⟩, ⟨a3, n3, c3, h3, -⟩⟩ := hmk
            dsimp only at h1 h2 h3
            subst h1 h2 h3
            dsimp only at y0 y1 y2 y3
            have i1 : (0 : Int) ≤ (k : Int) := by omega
            have i2 : (k : Int) < (bs.length : Int) := by omega
            clear hcell g0 g1 g2' g3 hbw
            go_wp2_with (go_at_call 61; refine (fullB_calls _ _ wr HMK.out).mono ?_; rintro e w9 ⟨rfl, hb9⟩)
            go_roundw
            case rel => exact ⟨k + 1, by omega, by go_num, HBW.out.trans (hb9.mono HBW.out.size)⟩
            case measure => simp [intOf]; omega
          · go_wp2_with fail
            go_ret
            exact ⟨rfl, hw3.trans (HBW.out.mono hw3.size)⟩
end Go.Proofs.YtdbbejedipfckaaGreatDoor
/-
  What stays true of a run as plain data, whatever is sent on its links.
-/
namespace Go.Proofs.YtdbbejedipfckaaGreatDoor
open Go Go.RowKit

theorem sendS_eq (s : RunS) (m : MsgS) : ∃ (lk : List (List LinkS)) (ww : List WorkerS) (y : List MsgS), sendS s m = { s with links := lk, W := ww, way := y } ∧
    lk = s.links.set m.src.toNat ((s.links[m.src.toNat]?.getD []).set m.dst.toNat { ((s.links[m.src.toNat]?.getD [])[m.dst.toNat]?.getD link0) with all := ((s.links[m.src.toNat]?.getD [])[m.dst.toNat]?.getD link0).all ++ [{ m with no := ((s.links[m.src.toNat]?.getD [])[m.dst.toNat]?.getD link0).all.length + 1 }] }) ∧
    (ww = s.W ∨ ww = s.W.set m.src.toNat { (s.W[m.src.toNat]?.getD worker0) with sent := (s.W[m.src.toNat]?.getD worker0).sent + 1 }) ∧ (s.way.length ≤ 60 → y.length ≤ 60) := by
  unfold sendS
  dsimp only
  split
  · obtain ⟨y, h1, h2⟩ := wayS_eq { s with links := s.links.set m.src.toNat ((s.links[m.src.toNat]?.getD []).set m.dst.toNat { ((s.links[m.src.toNat]?.getD [])[m.dst.toNat]?.getD link0) with all := ((s.links[m.src.toNat]?.getD [])[m.dst.toNat]?.getD link0).all ++ [{ m with no := ((s.links[m.src.toNat]?.getD [])[m.dst.toNat]?.getD link0).all.length + 1 }] }), W := s.W.set m.src.toNat { (s.W[m.src.toNat]?.getD worker0) with sent := (s.W[m.src.toNat]?.getD worker0).sent + 1 } } { m with no := ((s.links[m.src.toNat]?.getD [])[m.dst.toNat]?.getD link0).all.length + 1 }
    exact ⟨_, _, y, h1, rfl, .inr rfl, h2⟩
  · obtain ⟨y, h1, h2⟩ := wayS_eq { s with links := s.links.set m.src.toNat ((s.links[m.src.toNat]?.getD []).set m.dst.toNat { ((s.links[m.src.toNat]?.getD [])[m.dst.toNat]?.getD link0) with all := ((s.links[m.src.toNat]?.getD [])[m.dst.toNat]?.getD link0).all ++ [{ m with no := ((s.links[m.src.toNat]?.getD [])[m.dst.toNat]?.getD link0).all.length + 1 }] }) } { m with no := ((s.links[m.src.toNat]?.getD [])[m.dst.toNat]?.getD link0).all.length + 1 }
    exact ⟨_, _, y, h1, rfl, .inl rfl, h2⟩
theorem Shaped.send {s : RunS} (h : Shaped s) (m : MsgS) : Shaped (sendS s m) := by
  obtain ⟨lk, ww, y, he, hlk, hww, hy⟩ := sendS_eq s m
  have hwl : ww.length = s.W.length := by rcases hww with rfl | rfl <;> simp
  rw [he]
  refine ⟨by show (ww.length : Int) = _; rw [hwl]; exact h.len, h.two, h.five, by show lk.length = ww.length; rw [hwl, hlk]; simpa using h.llen, fun ls hl => ?_, hy h.way⟩
  show ls.length = ww.length
  rw [hwl]
  have hl' : ls ∈ lk := hl
  rw [hlk] at hl'
  rcases List.mem_or_eq_of_mem_set hl' with h' | rfl
  · exact h.lrow ls h'
  · rw [List.length_set]
    cases hg : s.links[m.src.toNat]? with
    | none =>
      exfalso
      rw [hg] at hl'
      have hn := List.getElem?_eq_none_iff.1 hg
      rw [List.set_eq_of_length_le hn] at hl'
      have := h.lrow _ hl'
      have h2 := h.two
      have h3 := h.len
      simp at this
      omega
    | some l => exact h.lrow l (List.mem_of_getElem? hg)
theorem Small.send {N : Nat} {s : RunS} (h : Small N s) (m : MsgS) : Small (N + 1) (sendS s m) := by
  obtain ⟨lk, ww, y, he, hlk, hww, -⟩ := sendS_eq s m
  have hold : ∀ l, (∃ ls ∈ s.links, l ∈ ls) → l.all.length ≤ N ∧ 0 ≤ l.known ∧ (0 ≤ l.came ∧ l.came ≤ (N : Int)) ∧ l.kept.length ≤ N := fun l ⟨ls, h1, h2⟩ => ⟨h.all ls h1 l h2, h.known ls h1 l h2, h.came ls h1 l h2, h.kept ls h1 l h2⟩
  have hget : ∀ (ls : List LinkS) (j : Nat), (∀ l ∈ ls, l.all.length ≤ N ∧ 0 ≤ l.known ∧ (0 ≤ l.came ∧ l.came ≤ (N : Int)) ∧ l.kept.length ≤ N) → ((ls[j]?.getD link0).all.length ≤ N ∧ 0 ≤ (ls[j]?.getD link0).known ∧ (0 ≤ (ls[j]?.getD link0).came ∧ (ls[j]?.getD link0).came ≤ (N : Int)) ∧ (ls[j]?.getD link0).kept.length ≤ N) := fun ls j hl => by
    cases hj : ls[j]? with
    | none => simp [link0]
    | some l => exact hl l (List.mem_of_getElem? hj)
  have key : ∀ ls ∈ lk, ∀ l ∈ ls, l.all.length ≤ N + 1 ∧ 0 ≤ l.known ∧ (0 ≤ l.came ∧ l.came ≤ (N : Int)) ∧ l.kept.length ≤ N := fun ls hls l hl => by
    rw [hlk] at hls
    rcases List.mem_or_eq_of_mem_set hls with h' | rfl
    · have := hold l ⟨ls, h', hl⟩
      omega
    · have hrow : ∀ l ∈ s.links[m.src.toNat]?.getD [], l.all.length ≤ N ∧ 0 ≤ l.known ∧ (0 ≤ l.came ∧ l.came ≤ (N : Int)) ∧ l.kept.length ≤ N := fun l' hl' => by
        cases hg : s.links[m.src.toNat]? with
        | none => rw [hg] at hl'; simp at hl'
        | some ls' => rw [hg] at hl'; exact hold l' ⟨ls', List.mem_of_getElem? hg, hl'⟩
      rcases List.mem_or_eq_of_mem_set hl with h' | rfl
      · have := hrow l h'
        omega
      · have := hget _ m.dst.toNat hrow
        dsimp only
        rw [List.length_append, List.length_singleton]
        omega
  have hworker : ∀ x ∈ ww, (0 ≤ x.sent ∧ x.sent ≤ ((N + 1 : Nat) : Int)) ∧ 0 ≤ x.came ∧ x.came ≤ (N : Int) := fun x hx => by
    have hw0 : ∀ x ∈ s.W, (0 ≤ x.sent ∧ x.sent ≤ ((N + 1 : Nat) : Int)) ∧ 0 ≤ x.came ∧ x.came ≤ (N : Int) := fun x hx => by
      have := h.sent x hx
      have := h.got x hx
      omega
    rcases hww with rfl | rfl
    · exact hw0 x hx
    · rcases List.mem_or_eq_of_mem_set hx with h' | rfl
      · exact hw0 x h'
      · cases hg : s.W[m.src.toNat]? with
        | none => simp [worker0]; omega
        | some z =>
          have h1 := h.sent z (List.mem_of_getElem? hg)
          have h2 := h.got z (List.mem_of_getElem? hg)
          dsimp only [Option.getD_some]
          omega
  rw [he]
  exact ⟨fun ls h1 l h2 => (key ls h1 l h2).1, fun ls h1 l h2 => (key ls h1 l h2).2.1, fun ls h1 l h2 => by have := (key ls h1 l h2).2.2.1; omega, fun ls h1 l h2 => by have := (key ls h1 l h2).2.2.2; omega, fun x hx => (hworker x hx).1, fun x hx => by have := (hworker x hx).2; omega⟩
theorem Small.more {N N' : Nat} {s : RunS} (h : Small N s) (hN : N ≤ N') : Small N' s :=
  ⟨fun ls h1 l h2 => Nat.le_trans (h.all ls h1 l h2) hN, h.known, fun ls h1 l h2 => by have := h.came ls h1 l h2; omega, fun ls h1 l h2 => Nat.le_trans (h.kept ls h1 l h2) hN, fun x hx => by have := h.sent x hx; omega, fun x hx => by have := h.got x hx; omega⟩
/-- Nothing is known to have come that was not sent. -/
def Known (s : RunS) : Prop := ∀ ls ∈ s.links, ∀ l ∈ ls, l.known.toNat ≤ l.all.length
theorem Known.send {s : RunS} (h : Known s) (m : MsgS) : Known (sendS s m) := by
  obtain ⟨lk, ww, y, he, hlk, hww, -⟩ := sendS_eq s m
  rw [he]
  intro ls hls l hl
  have hls' : ls ∈ lk := hls
  rw [hlk] at hls'
  rcases List.mem_or_eq_of_mem_set hls' with h' | rfl
  · exact h ls h' l hl
  · have hrow : ∀ l ∈ s.links[m.src.toNat]?.getD [], l.known.toNat ≤ l.all.length := fun l' hl' => by
      cases hg : s.links[m.src.toNat]? with
      | none => rw [hg] at hl'; simp at hl'
      | some ls' => rw [hg] at hl'; exact h ls' (List.mem_of_getElem? hg) l' hl'
    rcases List.mem_or_eq_of_mem_set hl with h' | rfl
    · exact hrow l h'
    · dsimp only
      rw [List.length_append]
      cases hj : (s.links[m.src.toNat]?.getD [])[m.dst.toNat]? with
      | none => simp [link0]
      | some l' => have := hrow l' (List.mem_of_getElem? hj); simp; omega
/-- A run that differs in what is on its way alone. -/
theorem Shaped.reway {s : RunS} (h : Shaped s) {y : List MsgS} (hy : y.length ≤ 60) : Shaped { s with way := y } := ⟨h.len, h.two, h.five, h.llen, h.lrow, hy⟩
theorem Small.reway {N : Nat} {s : RunS} (h : Small N s) (y : List MsgS) : Small N { s with way := y } := ⟨h.all, h.known, h.came, h.kept, h.sent, h.got⟩
theorem Fits.reway {s : RunS} (h : Fits s) (y : List MsgS) : Fits { s with way := y } := ⟨h.len, h.two, h.five, h.rmin, h.rmax, h.few, h.prog, h.good⟩
end Go.Proofs.YtdbbejedipfckaaGreatDoor
/-
  The program's run beside the document's: as long as each does what is asked of both, they stay alike; gleanlaw's pick, tamed, changes and asks.
-/
namespace Go.Proofs.YtdbbejedipfckaaGreatDoor
open Go Go.RowKit

/-- What stays true of a run of which no worker but worker 0 ever has a task. -/
structure Alone (s : RunS) (k : Nat) : Prop where
  fits : Fits s
  going : s.done = false
  shaped : Shaped s
  small : Small k s
  known : Known s
  vals : s.values.length ≤ k
  rest : ∀ i x, s.W[i]? = some x → i ≠ 0 → x.tasks = []
theorem Alone.more {s : RunS} {k k' : Nat} (h : Alone s k) (hk : k ≤ k') : Alone s k' := ⟨h.fits, h.going, h.shaped, h.small.more hk, h.known, Nat.le_trans h.vals hk, h.rest⟩
/-- The program's run and the document's, in blocks that F names: both nil, or both of the same state. -/
def TwinAt (F : Nat → Prop) (W : World) (xp wp : Option Addr) (k : Nat) : Prop :=
  (xp = none ∧ wp = none) ∨ ∃ (B1 B2 : Nat) (F1 F2 : Nat → Prop) (s : RunS), xp = some ⟨B1, 0, none⟩ ∧ wp = some ⟨B2, 0, none⟩ ∧ XOK F1 W B1 s ∧ RefOK F2 W B2 s ∧ (∀ b, F1 b → F b ∧ ¬ F2 b) ∧ (∀ b, F2 b → F b) ∧ Alone s k
theorem RefOK.mono {F F' : Nat → Prop} {w : World} {B : Nat} {s : RunS} (h : RefOK F w B s) (hF : ∀ b, b < w.heap.size → F b → F' b) : RefOK F' w B s := h.kept (Kept.refl (fun _ => False) w) (fun b hb h => ⟨fun h => h, hF b hb h⟩)
theorem TwinAt.kept {F F' Y : Nat → Prop} {W W' : World} {xp wp : Option Addr} {k k' : Nat} (h : TwinAt F W xp wp k) (hk : Kept Y W W') (hx : ∀ g, g < W.heap.size → F g → ¬ Y g ∧ F' g) (hkk : k ≤ k') : TwinAt F' W' xp wp k' := by
  rcases h with h | ⟨B1, B2, F1, F2, s, h1, h2, h3, h4, h5, h6, h7⟩
  · exact .inl h
  · refine .inr ⟨B1, B2, fun b => F1 b ∧ b < W.heap.size, fun b => F2 b ∧ b < W.heap.size, s, h1, h2, h3.kept hk (fun g hg hF => ⟨(hx g hg (h5 g hF).1).1, hF, hg⟩), h4.kept hk (fun g hg hF => ⟨(hx g hg (h6 g hF)).1, hF, hg⟩), fun b hb => ⟨(hx b hb.2 (h5 b hb.1).1).2, fun h => (h5 b hb.1).2 h.1⟩, fun b hb => (hx b hb.2 (h6 b hb.1)).2, h7.more hkk⟩
theorem Alone.idle {s : RunS} {k : Nat} (h : Alone s k) (i : Int) : i = 0 ∨ (tasksS s i).1 = [] := by
  by_cases h0 : i = 0
  · exact .inl h0
  · refine .inr ?_
    unfold tasksS
    split
    · rfl
    · rename_i hn
      cases hx : s.W[i.toNat]? with
      | none => rfl
      | some x =>
        simp
        exact h.rest _ x hx (by omega)

theorem childrenFrom_good {ks : List KindS} {kind arg : Int} (hp : progB ks kind arg = true) {t : TaskS} (hG : Good ks t ∧ t.arg ≤ 12) : ∀ c ∈ children ks t, Good ks c ∧ c.arg ≤ 12 := by
  intro c hc
  obtain ⟨⟨h0, h1, h2, h3⟩, h4⟩ := hG
  obtain ⟨j, cK, hj, hcc, hka, hl3, hkids, -, -⟩ := kind_facts hp h0 h1
  unfold children at hc
  rw [hka] at hc
  obtain ⟨d, hd, m, rfl, hle⟩ := childrenFrom_mem hc
  obtain ⟨g1, g2, g3, g4⟩ := hkids d hd
  refine ⟨⟨g3, g4, ?_, ?_⟩, ?_⟩
  · dsimp only; omega
  · dsimp only
    rw [kidId_size]
    omega
  · dsimp only; omega
theorem Alone.work {s : RunS} {k : Nat} (h : Alone s k) (i : Int) : Alone (workS s i).1 (k + 1) := by
  have hs : Alone s (k + 1) := h.more (Nat.le_succ k)
  by_cases hw : workerE s i = 0
  · rcases h.idle i with h0 | h0
    · subst h0
      obtain ⟨x, hx⟩ : ∃ x, s.W[0]? = some x := ⟨_, List.getElem?_eq_getElem (by have := h.fits.len; have := h.fits.two; omega)⟩
      rcases List.eq_nil_or_concat x.tasks with hxt | ⟨L, t, hxt⟩
      · have : workS s 0 = (s, 8) := by simp [workS, hw, hx, hxt]
        rw [this]; exact hs
      · rw [List.concat_eq_append] at hxt
        rw [workS_zero hw hx hxt]
        unfold doneS
        split
        · exact ⟨⟨h.fits.len, h.fits.two, h.fits.five, h.fits.rmin, h.fits.rmax, h.fits.few, h.fits.prog, h.fits.good⟩, h.going, ⟨h.shaped.len, h.shaped.two, h.shaped.five, h.shaped.llen, h.shaped.lrow, h.shaped.way⟩, ⟨hs.small.all, hs.small.known, hs.small.came, hs.small.kept, hs.small.sent, hs.small.got⟩, h.known, Nat.le_succ_of_le h.vals, h.rest⟩
        · rename_i hroom
          have hgt := h.fits.good x (List.mem_of_getElem? hx)
          have hxm := List.mem_of_getElem? hx
          have hmem : ∀ y ∈ s.W.set 0 { x with tasks := L ++ children s.ks t }, y ∈ s.W ∨ y = { x with tasks := L ++ children s.ks t } := fun y hy => List.mem_or_eq_of_mem_set hy
          refine ⟨⟨by simpa using h.fits.len, h.fits.two, h.fits.five, h.fits.rmin, h.fits.rmax, fun y hy => ?_, h.fits.prog, fun y hy u hu => ?_⟩, h.going, ⟨by simpa using h.shaped.len, h.shaped.two, h.shaped.five, by simpa using h.shaped.llen, by simpa using h.shaped.lrow, h.shaped.way⟩, ⟨hs.small.all, hs.small.known, hs.small.came, hs.small.kept, fun y hy => ?_, fun y hy => ?_⟩, h.known, ?_, fun j y hy hj => ?_⟩
          · rcases hmem y hy with h' | rfl
            · exact h.fits.few y h'
            · dsimp only; rw [List.length_append]; omega
          · rcases hmem y hy with h' | rfl
            · exact h.fits.good y h' u hu
            · rcases List.mem_append.1 hu with h' | h'
              · exact hgt u (by rw [hxt]; exact List.mem_append_left _ h')
              · exact childrenFrom_good h.fits.prog (hgt t (by rw [hxt]; simp)) u h'
          · rcases hmem y hy with h' | rfl
            · exact hs.small.sent y h'
            · exact hs.small.sent x hxm
          · rcases hmem y hy with h' | rfl
            · exact hs.small.got y h'
            · exact hs.small.got x hxm
          · dsimp only; rw [putS_length]; have := h.vals; omega
          · have hy' : s.W[j]? = some y := by simpa [List.getElem?_set, show ¬ (0 : Nat) = j by omega] using hy
            exact h.rest j y hy' hj
    · have : workS s i = (s, 8) := by
        have hin : 0 ≤ i ∧ i < s.workers := workerE_in hw
        obtain ⟨x, hx⟩ : ∃ x, s.W[i.toNat]? = some x := ⟨_, List.getElem?_eq_getElem (by have := h.fits.len; omega)⟩
        have ht : x.tasks = [] := by
          unfold tasksS at h0
          rw [if_neg (by omega)] at h0
          simpa [hx] using h0
        simp [workS, hw, hx, ht]
      rw [this]; exact hs
  · have : workS s i = (s, workerE s i) := by simp [workS, hw]
    rw [this]; exact hs
theorem Alone.reway {s : RunS} {k : Nat} (h : Alone s k) {y : List MsgS} (hy : y.length ≤ 60) : Alone { s with way := y } (k + 1) :=
  ⟨h.fits.reway y, h.going, h.shaped.reway hy, (h.small.more (Nat.le_succ k)).reway y, h.known, Nat.le_succ_of_le h.vals, h.rest⟩
theorem Alone.steal {s : RunS} {k : Nat} (h : Alone s k) (i v : Int) : Alone (stealS s i v).1 (k + 1) := by
  have hs : Alone s (k + 1) := h.more (Nat.le_succ k)
  unfold stealS
  split
  · exact hs
  · split
    · exact hs
    · split
      · exact hs
      · split
        · exact hs
        · rename_i x hx
          split
          · exact hs
          · have hmem : ∀ y ∈ s.W.set i.toNat { x with asked := true }, y ∈ s.W ∨ y = { x with asked := true } := fun y hy => List.mem_or_eq_of_mem_set hy
            have hxm := List.mem_of_getElem? hx
            have h1 : Alone { s with W := s.W.set i.toNat { x with asked := true } } k := by
              refine ⟨⟨by simpa using h.fits.len, h.fits.two, h.fits.five, h.fits.rmin, h.fits.rmax, fun y hy => ?_, h.fits.prog, fun y hy u hu => ?_⟩, h.going, ⟨by simpa using h.shaped.len, h.shaped.two, h.shaped.five, by simpa using h.shaped.llen, by simpa using h.shaped.lrow, h.shaped.way⟩, ⟨h.small.all, h.small.known, h.small.came, h.small.kept, fun y hy => ?_, fun y hy => ?_⟩, h.known, h.vals, fun j y hy hj => ?_⟩
              · rcases hmem y hy with h' | rfl
                · exact h.fits.few y h'
                · exact h.fits.few x hxm
              · rcases hmem y hy with h' | rfl
                · exact h.fits.good y h' u hu
                · exact h.fits.good x hxm u hu
              · rcases hmem y hy with h' | rfl
                · exact h.small.sent y h'
                · exact h.small.sent x hxm
              · rcases hmem y hy with h' | rfl
                · exact h.small.got y h'
                · exact h.small.got x hxm
              · by_cases e : i.toNat = j
                · subst e
                  have hlt := (List.getElem?_eq_some_iff.1 hx).1
                  have hy' : { x with asked := true } = y := by simpa [hlt] using hy
                  rw [← hy']
                  exact h.rest _ x hx hj
                · have hy' : s.W[j]? = some y := by simpa [List.getElem?_set, e] using hy
                  exact h.rest j y hy' hj
            obtain ⟨s1, hs1⟩ : ∃ s1, { s with W := s.W.set i.toNat { x with asked := true } } = s1 := ⟨_, rfl⟩
            rw [hs1] at h1 ⊢
            obtain ⟨lk, ww, y, he, hlk, hww, hy⟩ := sendS_eq s1 { msg0 with src := i, dst := v, kind := 1 }
            have hW : (sendS s1 { msg0 with src := i, dst := v, kind := 1 }).W = s1.W := by
              have h2 : ¬ ((1 : Int) = 2 ∨ (1 : Int) = 4) := by omega
              simp only [sendS, h2, if_false]
              obtain ⟨y', hy', -⟩ := wayS_eq { s1 with links := s1.links.set i.toNat ((s1.links[i.toNat]?.getD []).set v.toNat { ((s1.links[i.toNat]?.getD [])[v.toNat]?.getD link0) with all := ((s1.links[i.toNat]?.getD [])[v.toNat]?.getD link0).all ++ [{ msg0 with src := i, dst := v, kind := 1, no := (((s1.links[i.toNat]?.getD [])[v.toNat]?.getD link0).all.length : Int) + 1 }] }) } { msg0 with src := i, dst := v, kind := 1, no := (((s1.links[i.toNat]?.getD [])[v.toNat]?.getD link0).all.length : Int) + 1 }
              rw [hy']
            have hsh := h1.shaped.send { msg0 with src := i, dst := v, kind := 1 }
            have hsm := h1.small.send { msg0 with src := i, dst := v, kind := 1 }
            have hkn := h1.known.send { msg0 with src := i, dst := v, kind := 1 }
            show Alone (sendS s1 { msg0 with src := i, dst := v, kind := 1 }) (k + 1)
            rw [he] at hW hsh hsm hkn ⊢
            have hW' : ww = s1.W := hW
            subst hW'
            exact ⟨⟨h1.fits.len, h1.fits.two, h1.fits.five, h1.fits.rmin, h1.fits.rmax, h1.fits.few, h1.fits.prog, h1.fits.good⟩, h1.going, hsh, hsm, hkn, Nat.le_succ_of_le h1.vals, h1.rest⟩
theorem Alone.drop {s : RunS} {k : Nat} (h : Alone s k) (i : Int) : Alone (dropS s i).1 (k + 1) := by
  unfold dropS
  split
  · exact h.more (Nat.le_succ k)
  · exact h.reway (by have := h.shaped.way; simp; omega)
theorem Alone.twice {s : RunS} {k : Nat} (h : Alone s k) (i : Int) : Alone (twiceS s i).1 (k + 1) := by
  unfold twiceS
  split
  · exact h.more (Nat.le_succ k)
  · obtain ⟨y, he, hy⟩ := wayS_eq s (s.way[i.toNat]?.getD msg0)
    show Alone (wayS s (s.way[i.toNat]?.getD msg0)) (k + 1)
    rw [he]
    exact h.reway (hy h.shaped.way)
theorem Alone.tick {s : RunS} {k : Nat} (h : Alone s k) (i : Int) : Alone (tickS s i).1 (k + 1) := by
  unfold tickS
  split
  · exact h.more (Nat.le_succ k)
  · obtain ⟨y, he, hy⟩ := again_fold (s.links[i.toNat]?.getD []) s
    show Alone ((s.links[i.toNat]?.getD []).foldl againS s) (k + 1)
    rw [he]
    exact h.reway (hy h.shaped.way)
set_option maxHeartbeats 400000 in
theorem lpick_calls (c n : Int) (hc : -9223372036854775808 ≤ c ∧ c ≤ 9223372036854775807) (hn : 1 ≤ n) (w : World) :
    Calls Tryz.prog 18 #[.int .i64 c, .int .i64 n] w fun e w' => e = .returned (.int .i64 (pickS c n)) ∧ w' = w := by
  have HP : Hid (pickS c n = (if c < 0 then -(c + 1) else c) % n) := rfl
  obtain ⟨hc1, hc2⟩ := hc
  have hb : (n == 0) = false := by rw [beq_eq_false_iff_ne]; omega
  by_cases h : c < 0
  · go_enter Tryz.func18, Tryz.ntmps18
    go_wp2
    go_ret
    refine ⟨?_, rfl⟩
    rw [HP.out, if_pos h, ← Int.tmod_eq_emod_of_nonneg (by omega), Int.neg_tmod]
    rfl
  · go_enter Tryz.func18, Tryz.ntmps18
    go_wp2
    go_ret
    refine ⟨?_, rfl⟩
    rw [HP.out, if_neg (by omega)]
    rfl
end Go.Proofs.YtdbbejedipfckaaGreatDoor
