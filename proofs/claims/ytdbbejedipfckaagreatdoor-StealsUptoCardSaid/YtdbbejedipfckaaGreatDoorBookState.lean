/-
  The step of Run.Tick: what a worker has to send again is put on its way.
-/
import Derived.Test.YtdbbejedipfckaaGreatDoorXAgain
import Derived.Test.YtdbbejedipfckaaGreatDoorStoreM
import Derived.Stop.RegionWithIn
import Derived.Test.YtdbbejedipfckaaGreatDoorRefTasks
namespace Go.Proofs.YtdbbejedipfckaaGreatDoor
open Go Go.RowKit

attribute [local go_sem] Oper.semAt_some
set_option maxHeartbeats 8000000 in
set_option maxRecDepth 100000 in
theorem sendAgain1_calls (F : Nat → Prop) (B Br Bw k : Nat) (s : RunS) (ls : List LinkS) (w : World) (hx : XOK F w B s) (hls : s.links[k]? = some ls) (hkn : ∀ l ∈ ls, 0 ≤ l.known) (hall : ∀ l ∈ ls, l.all.length ≤ 100000000) (hy : s.way.length ≤ 60) (hh : HeldAt w Br Bw B k) (hF : ¬ F Br ∧ ¬ F Bw) :
    Calls Tryz.prog 140 #[.pointer (some ⟨Br, 0, none⟩), .pointer (some ⟨Bw, 0, none⟩)] w (XGives F w B (ls.foldl againS s, 0)) := by
  obtain ⟨part, hpF, kv, wv, yv, M, xs, h⟩ := hx
  have hkl : k < xs.length := by have := (List.getElem?_eq_some_iff.1 hls).1; have := h.llen; have := h.wlen; omega
  obtain ⟨gw, wc, hwf, -, hgw⟩ := World.ownsRow.form h.wrow.1 (by omega)
  subst hwf
  have b3 : w.cell? ⟨B, 3, none⟩ = some (.slice (some ⟨gw, 0, none⟩) xs.length wc) := h.box.cell (o := 3) rfl
  have r0 := hh.1.cell (o := 0) rfl
  have i0 := hh.2.cell (o := 0) rfl
  have j1 : (0 : Int) ≤ (k : Int) := by omega
  have j2 : (k : Int) < (xs.length : Int) := by omega
  have hrl := hh.1.lt
  have hwl := hh.2.lt
  have pr : part Br = 0 := by
    rcases Nat.eq_zero_or_pos (part Br) with h | h
    · exact h
    · exact absurd (hpF Br (by omega)) hF.1
  have pw : part Bw = 0 := by
    rcases Nat.eq_zero_or_pos (part Bw) with h | h
    · exact h
    · exact absurd (hpF Bw (by omega)) hF.2
  have HH := hid_of h
  have HHE := hid_of hh
  clear h hh
  refine (callsIn_wide (n := 6)).1 ?_
  refine callsIn_of_wp_marks Tryz.func140 rfl trivial ?_ rfl
  simp only [Tryz.ntmps140, List.size_toArray, List.length_cons, List.length_nil, Nat.reduceAdd, Nat.reduceSub, Array.replicate_succ, Array.replicate_zero, List.push_toArray, List.append_toArray, List.nil_append, List.cons_append]
  gi_wp2
  refine wpIn_wide.2 ?_
  go_still_tail 6, (by kernel_rfl)
  go_wp2_with (go_at_call 141; refine (again_calls gw (k * 4) _).mono ?_; rintro e w1 ⟨rfl, hw1⟩; have HW1 := hid_of hw1; clear hw1)
  refine wpIn_block ?_
  refine range_lawG (n := 6) rfl (enters_of Tryz.func155 (by kernel_rfl) rfl) (fun rec hyield => ?_)
  have bq : BoxAt w1 w.heap.size 195 #[.pointer (some ⟨gw, k * 4, none⟩)] := by rw [HW1.out]; exact BoxAt.new w.drew _ _
  have g1 : Below w.heap.size w w1 := by rw [HW1.out]; exact ((Below.refl _ _).drew).alloc (by simp) _
  have s1 : w1.heap.size = w.heap.size + 1 := by rw [HW1.out]; simp
  obtain ⟨V, hV⟩ : ∃ V, (w1.alloc (.deferred (some []))).alloc (.loop (rec .ready none)) = V := ⟨_, rfl⟩
  have gV : Below w1.heap.size w1 V := by rw [← hV]; exact ((Below.refl _ _).alloc (Nat.le_refl _) _).alloc (by simp) _
  have sV : V.heap.size = w1.heap.size + 2 := by rw [← hV]; simp
  have lV : V.heap[w1.heap.size + 1]? = some (.loop (rec .ready none)) := by
    have h := World.alloc_heap_new (w1.alloc (.deferred (some []))) (.loop (rec .ready none))
    rw [World.size_alloc] at h; rw [← hV]; exact h
  have dV : V.heap[w1.heap.size]? = some (.deferred (some [])) := by
    rw [← hV]; exact (Below.heap_alloc _ _ _ (by simp)).trans (World.alloc_heap_new w1 _)
  rw [hV]
  obtain ⟨D, hD⟩ : ∃ D, w1.heap.size = D := ⟨_, rfl⟩
  rw [hD] at hyield lV dV gV sV s1 ⊢
  have gwV : Below w.heap.size w V := g1.trans (gV.mono (by omega))
  obtain ⟨hV0, hmV⟩ := HH.out.later gwV
  have bqV := bq.below (by rw [hD]; exact gV) bq.lt
  have rV := HHE.out.1.below gwV hrl
  have iV := HHE.out.2.below gwV hwl
  refine (again1_calls (6 - 1) (D + 1) k w.heap.size (ext w part 0) V B M s kv yv gw wc xs ls (fun b => b = D ∨ b = D + 1 ∨ b = w.heap.size ∨ b = Br)
    (fun A => A.heap[D + 1]? = some (.loop (rec .ready none)) ∧ A.heap[D]? = some (.deferred (some [])) ∧ BoxAt A Br 37 #[.pointer (some ⟨B, 0, none⟩)])
    hV0 hls hkl hkn hall hy (fun b hb => by
      rcases hb with rfl | rfl | rfl | rfl
      · exact ⟨by omega, ext_new (by omega)⟩
      · exact ⟨by omega, ext_new (by omega)⟩
      · exact ⟨by omega, ext_new (by omega)⟩
      · exact ⟨by have := gwV.size; omega, (ext_old hrl).trans pr⟩)
    (fun A A' h hk => ⟨hk.heap h.1 (fun h => h (by omega)), hk.heap h.2.1 (fun h => h (by omega)), h.2.2.kept hk (fun h => h (by omega))⟩)
    ⟨lV, dV, rV⟩ bqV (by omega) ?yields (by omega)).mono ?_
  case yields =>
    rintro s' part' yv' m W1 h1 hm1 ⟨hl1, hd1, hr1⟩ hw60
    have key : ∀ R : Ending → World → Prop, (∀ V2 part2 yv2, V2.heap[D + 1]? = some (.loop (rec .busy none)) → V2.heap[D]? = some (.deferred (some [])) → BoxAt V2 Br 37 #[.pointer (some ⟨B, 0, none⟩)] → XAtO part2 V2 B (wayS s' m) kv (.slice (some ⟨gw, 0, none⟩) xs.length wc) yv2 M xs → Kept (fun b => ext w part 0 b ≠ 0 ∨ b = D + 1) V V2 → (∀ b, b < V.heap.size → part2 b ≠ 0 → ext w part 0 b ≠ 0) → Kept (fun b => (b = D ∨ b = D + 1 ∨ b = w.heap.size ∨ b = Br) → b = D + 1) W1 V2 → R (.returned (.bool true)) (V2.putObj (D + 1) (.loop (rec .ready none)))) → YieldAt Fence.wide (6 - 1 - 1) Tryz.prog (D + 1) #[msgV m] W1 R := fun R hR => by
      have HRR := hid_of hR
      have HX1 := hid_of h1
      have HM1 := hid_of hm1
      have HL1 := hid_of hl1
      have HD1 := hid_of hd1
      have HR1 := hid_of hr1
      have HPZ : Hid (∀ b, b = D ∨ b = D + 1 ∨ b = w.heap.size ∨ b = Br → part' b = 0) := fun b hb => by
        rcases Nat.eq_zero_or_pos (part' b) with h | h
        · exact h
        · have h2 : b < V.heap.size := by have := gwV.size; rcases hb with rfl | rfl | rfl | rfl <;> omega
          have h3 := hm1.old b h2 (by omega)
          rcases hb with rfl | rfl | rfl | rfl
          · exact absurd (ext_new (by omega)) h3
          · exact absurd (ext_new (by omega)) h3
          · exact absurd (ext_new (by omega)) h3
          · exact absurd ((ext_old hrl).trans pr) h3
      refine hyield _ _ W1 _ hl1 rfl (fun K hK => ?_)
      have hWl : D + 1 < W1.heap.size := (Array.getElem?_eq_some_iff.1 hl1).1
      clear hl1 hd1 hr1 h1 hm1 hyield lV dV rV iV bqV bq hV0 hmV hR hls hkn hall hy hkl hpF hF b3 r0 i0 j1 j2
      gi_wp2
      obtain ⟨U, hU⟩ : ∃ U, W1.alloc (Obj.cells (msgCells m) 139) = U := ⟨_, rfl⟩
      have gU : Below W1.heap.size W1 U := by rw [← hU]; exact (Below.refl _ _).alloc (Nat.le_refl _) _
      have bU : BoxAt U W1.heap.size 139 (msgCells m) := by rw [← hU]; exact BoxAt.new W1 _ _
      rw [show W1.alloc (Obj.cells (msgCells m) 139) = U from hU]
      have lU := (gU.block (D + 1) hWl).trans HL1.out
      refine hK _ _ lU ?_
      clear hK K hU
      obtain ⟨T, hT⟩ : ∃ T, U.putObj (D + 1) (.loop (rec .busy none)) = T := ⟨_, rfl⟩
      have hDl := (Array.getElem?_eq_some_iff.1 lU).1
      have kT : Kept (· = D + 1) U T := by rw [← hT]; exact Kept.putObj _ _ _ rfl
      have lT : T.heap[D + 1]? = some (.loop (rec .busy none)) := by rw [← hT]; exact World.putObj_heap_same hDl
      have kWT : Kept (· = D + 1) W1 T := (Kept.of_below gU (fun b h1 h2 => absurd h1 (by omega))).trans kT
      have bT := bU.kept kT (by omega)
      have rT := HR1.out.kept kWT (by have := HPZ.out Br (by omega); omega)
      have dT := kWT.heap HD1.out (by omega)
      have hXT : XAtO (ext W1 part' 0) T B s' kv (.slice (some ⟨gw, 0, none⟩) xs.length wc) yv' M xs := HX1.out.aside kWT (fun g _ e => HPZ.out g (by omega))
      rw [hT]
      have hVT : Kept (fun b => ext w part 0 b ≠ 0 ∨ b = D + 1) V T := (HM1.out.kept.mono (fun _ _ h => .inl h)).trans (kWT.mono (fun _ _ h => .inr h))
      have HPUT : Hid (∀ (U9 : World) (bb : Nat), U9 = T.drew.alloc (Obj.cells (msgCells m) 139) → bb = T.heap.size → Calls Tryz.prog 139 #[.pointer (some ⟨B, 4, none⟩), .slice (some ⟨bb, 0, none⟩) 1 1] U9 fun e w' => ∃ v, e = .returned v ∧ (v = .tuple #[] ∧ R (.returned (.bool true)) (w'.putObj (D + 1) (.loop (rec .ready none))) ∧ w'.heap[D + 1]? = some (.loop (rec .busy none)))) := fun U9 bb hU9 hbb => by
        subst hU9 hbb
        obtain ⟨h9, hm9⟩ := hXT.later (((Below.refl T.heap.size T).drew).alloc (by simp) (Obj.cells (msgCells m) 139))
        refine (put_x m T.heap.size h9 (by omega) (BoxAt.new T.drew _ _)).mono ?_
        rintro e w' ⟨v, rfl, rfl, part5, yv5, h5, hm5, -⟩
        have hm95 := hm9.trans hm5
        have p0 : ∀ b, b < W1.heap.size → part' b = 0 → ext W1 part' 0 b = 0 := fun b hb h => (ext_old hb).trans h
        have lF : w'.heap[D + 1]? = some (.loop (rec .busy none)) := hm95.kept.heap lT (by rw [p0 _ hWl (HPZ.out _ (by omega))]; simp)
        have hW1T := kWT.size
        have hrW := (HR1.out).lt
        have hVW := HM1.out.kept.size
        refine ⟨_, rfl, rfl, HRR.out w' part5 yv5 lF ?_ ?_ h5 ?_ ?_ ?_, lF⟩
        · exact hm95.kept.heap dT (by rw [p0 D (by omega) (HPZ.out D (by omega))]; simp)
        · exact rT.kept hm95.kept (by rw [p0 Br hrW (HPZ.out Br (by omega))]; simp)
        · refine hVT.andThen hm95.kept (fun b hb h => ?_)
          have h1 : ext W1 part' 0 b = part' b := ext_old (by omega)
          exact .inl (HM1.out.old b hb (by rw [← h1]; exact h))
        · intro b hb h
          have h2 := hm95.old b (by omega) h
          have h1 : ext W1 part' 0 b = part' b := ext_old (by omega)
          exact HM1.out.old b hb (by rw [← h1]; exact h2)
        · refine (kWT.mono (Y := fun b => (b = D ∨ b = D + 1 ∨ b = w.heap.size ∨ b = Br) → b = D + 1) (fun b _ e _ => e)).andThen hm95.kept (fun b hb h hz => ?_)
          exact absurd ((ext_old hb).trans (HPZ.out b hz)) h
      have q0 := rT.cell (o := 0) rfl
      have hrT := rT.lt
      have hrT' : Br ≠ T.heap.size := by omega
      have q1 : ∀ o, (T.drew.alloc o).cell? ⟨Br, 0, none⟩ = some (.pointer (some ⟨B, 0, none⟩)) := fun o => cell_alloc (w := T.drew) o q0
      obtain ⟨Bx, hBx⟩ : ∃ Bx, W1.heap.size = Bx := ⟨_, rfl⟩
      rw [hBx] at bT ⊢
      have m0 := bT.cell (o := 0) rfl
      have m1 := bT.cell (o := 1) rfl
      have m2 := bT.cell (o := 2) rfl
      have m3 := bT.cell (o := 3) rfl
      have m4 := bT.cell (o := 4) rfl
      have m5 := bT.cell (o := 5) rfl
      have m6 := bT.cell (o := 6) rfl
      have m7 := bT.cell (o := 7) rfl
      have m8 := bT.cell (o := 8) rfl
      have m9 := bT.cell (o := 9) rfl
      have m10 := bT.cell (o := 10) rfl
      have m11 := bT.cell (o := 11) rfl
      have m12 := bT.cell (o := 12) rfl
      have m13 := bT.cell (o := 13) rfl
      have m14 := bT.cell (o := 14) rfl
      have hfP : Fence.wide.fn 139 := trivial
      clear bT rT dT lT kT kWT hXT hVT hT bU lU gU hDl HX1 HM1 HL1 HD1 HR1 HPZ HRR hWl hBx gwV gV g1 sV s1 hD hV hrl hwl pr pw HH HHE HW1
      gi_wp2
      gi_region_with (first
        | ((try refine ⟨fun h => (by cases h), ?_⟩); gi_at_call 139; refine (CallsIn.inRound (D + 1) (callsIn_wide.2 (HPUT.out _ _ rfl rfl))).mono ?_; rintro e w9 ⟨v9, rfl, rfl, hres9, hl9⟩))
      all_goals
        gi_wp2
        exact ⟨hl9, hres9⟩
    refine key _ (fun V2 part2 yv2 h2 h3 h4 h5 h6 h6' h7 => ?_)
    have hV2 := (Array.getElem?_eq_some_iff.1 h2).1
    have kP : Kept (· = D + 1) V2 (V2.putObj (D + 1) (.loop (rec .ready none))) := Kept.putObj _ _ _ rfl
    have pD : part2 (D + 1) = 0 := by
      rcases Nat.eq_zero_or_pos (part2 (D + 1)) with h | h
      · exact h
      · exact absurd (ext_new (by omega)) (h6' (D + 1) (by omega) (by omega))
    have lP : (V2.putObj (D + 1) (.loop (rec .ready none))).heap[D + 1]? = some (.loop (rec .ready none)) := World.putObj_heap_same hV2
    refine ⟨rfl, ext V2 part2 0, yv2, h5.aside kP (fun g _ e => by rw [e]; exact pD), ⟨⟨kP.os.trans h6.os, kP.tape.trans h6.tape, kP.output.trans h6.output, Nat.le_trans h6.size kP.size, fun b hb hne => ?_⟩, fun b hb h => ?_⟩, h7.trans (kP.mono (fun b _ e _ => e)), lP, kP.heap h3 (by omega), h4.kept kP (by have h8 : Br < w.heap.size := hrl; omega)⟩
    · by_cases e : b = D + 1
      · rw [e, lP]; exact lV.symm
      · exact (kP.block b (Nat.lt_of_lt_of_le hb h6.size) e).trans (h6.block b hb (fun h => by rcases h with h | h; exact hne h; exact e h))
    · have h1 : ext V2 part2 0 b = part2 b := ext_old (Nat.lt_of_lt_of_le hb h6.size)
      exact h6' b hb (by rw [← h1]; exact h)
  · rintro e W' ⟨⟨v, rfl⟩, ⟨part2, yv2, h5, hm5⟩, hl1, hd1, hr1⟩
    refine ⟨⟨_, rfl⟩, .inl ⟨hl1, ?_⟩⟩
    have k8 : Kept (· = D + 1) W' (W'.putObj (D + 1) (.loop (rec .exhausted none))) := Kept.putObj _ _ _ rfl
    have hd8 := k8.heap hd1 (by omega)
    have k9 : Kept (· = D) (W'.putObj (D + 1) (.loop (rec .exhausted none))) ((W'.putObj (D + 1) (.loop (rec .exhausted none))).putObj D (.deferred none)) := Kept.putObj _ _ _ rfl
    have kk : Kept (fun b => b = D ∨ b = D + 1) W' ((W'.putObj (D + 1) (.loop (rec .exhausted none))).putObj D (.deferred none)) := (k8.mono (fun _ _ h => .inr h)).trans (k9.mono (fun _ _ h => .inl h))
    have pz : ∀ b, b = D ∨ b = D + 1 → part2 b = 0 := fun b hb => by
      rcases Nat.eq_zero_or_pos (part2 b) with h | h
      · exact h
      · exact absurd (ext_new (by omega)) (hm5.old b (by omega) (by omega))
    have h6 := h5.aside kk (fun g _ e => pz g e)
    have hWV := hm5.kept.size
    have hmv := hmV.trans hm5
    have hres : XGives F w B (ls.foldl againS s, 0) (.returned (.int .i64 0)) ((W'.putObj (D + 1) (.loop (rec .exhausted none))).putObj D (.deferred none)) := by
      refine ⟨rfl, ⟨_, fun b hb => ?_, kv, _, yv2, M, xs, h6⟩, (hmv.kept.mono (fun b _ h => hpF b h)).andThen kk (fun b hb h => by omega)⟩
      rcases Nat.lt_or_ge b w.heap.size with hl | hl
      · refine .inl (hpF b (hmv.old b hl ?_))
        have h1 : ext W' part2 0 b = part2 b := ext_old (by have := gwV.size; omega)
        rw [← h1]; exact hb
      · exact .inr hl
    have HRES := hid_of hres
    generalize W'.putObj (D + 1) (.loop (rec .exhausted none)) = W8 at hd8 HRES ⊢
    rename_i hcont
    refine hcont _ _ ?_
    clear hcont h5 hm5 hl1 hd1 hr1 k8 k9 kk pz h6 hmv hres hyield lV dV rV iV bqV bq hV0 hmV s1 sV hD gV gwV hWV
    gi_wp2
    refine ⟨by simp, .inl ⟨_, _, rfl, run_takeDeferred hd8, ?_⟩⟩
    exact ⟨.int .i64 0, by simp [results, Tryz.f140, go_sem], HRES.out⟩
end Go.Proofs.YtdbbejedipfckaaGreatDoor
/-
  Run.Tick of the project, of a run in memory: the document's answer as plain data.
-/
namespace Go.Proofs.YtdbbejedipfckaaGreatDoor
open Go Go.RowKit

theorem x_tick_calls (F : Nat → Prop) (B N : Nat) (s : RunS) (i : Int) (w : World) (hx : XOK F w B s) (hf : Fits s) (hs : Shaped s) (hN : Small N s) (hN' : N ≤ 90000000) (hd : s.done = false) :
    Calls Tryz.prog 54 #[.pointer (some ⟨B, 0, none⟩), .int .i64 i] w (XGives F w B (tickS s i)) := by
  refine tick_opens (some ⟨B, 0, none⟩) i w _ (fun W1 W2 W3 h1 h2 h3 => ?_)
  have g1 := held2_below w (some ⟨B, 0, none⟩) i
  have g2 := held2_below W1 (some ⟨B, 0, none⟩) i
  have a1 := held2_at w B i
  have a2 := held2_at W1 B i
  rw [h1] at g1 a1
  rw [h2] at g2 a2
  have g3 : Below W2.heap.size W2 W3 := by rw [← h3]; exact (Below.refl _ _).alloc (Nat.le_refl _) _
  have bL : BoxAt W3 W2.heap.size 129 (([stepW 115 w] ++ [stepH 140 W1]).map stepVal).toArray := by rw [← h3]; exact BoxAt.new W2 _ _
  have z1 := g1.size
  have z2 := g2.size
  have k2 : Below W1.heap.size W1 W3 := g2.trans (g3.mono z2)
  have hb : Below w.heap.size w W3 := g1.trans (k2.mono z1)
  have c1 := a1.below k2
  have c2 := a2.below g3
  clear a1 a2 h1 h2 h3 g1 g2 k2
  have hlow := hx.low
  refine (change_tests F B W2.heap.size s W3 (hx.later hb) [stepW 115 w] [if i < 0 ∨ s.workers ≤ i then 7 else 0] (stepH 140 W1) (tickS s i) w hb hx (by simp) (by simp) 129 bL ?over ?enter ?test ?bad ?last).mono (fun e w' h => ⟨⟨_, h.1⟩, h⟩)
  case over =>
    intro ho
    simp [tickS, workerE_over hd ho]
  case enter =>
    intro f hf' args W
    simp at hf'
    rcases hf' with rfl | rfl
    · exact enters_of Tryz.func115 (by kernel_rfl) rfl args W
    · exact enters_of Tryz.func140 (by kernel_rfl) rfl args W
  case test =>
    intro ho j f e hj he hp W hW
    match j, hj, he with
    | 0, hj, he => cases hj; cases he; exact isWorker1_calls F B _ _ s i W ((hx.later hb).later hW) hf (c1.below hW)
    | (n + 1), hj, he => simp at hj
  case bad =>
    intro ho j e he hne hp
    have wi := workerE_run hd ho i
    match j, he with
    | 0, he => cases he; simp only [tickS, wi, if_pos hne]
    | (n + 1), he => simp at he
  case last =>
    intro ho hp W hW
    have p0 := hp 0 _ (by simp) rfl
    have wi := workerE_run hd ho i
    rw [p0] at wi
    have hv := if_zero (by omega) p0
    have hlen := hs.len
    obtain ⟨k, rfl⟩ := Int.eq_ofNat_of_zero_le (show 0 ≤ i by omega)
    have hkl : k < s.W.length := by omega
    obtain ⟨ls, l, hls, -⟩ := hs.link hkl hkl
    have hmem := List.mem_of_getElem? hls
    have hres : tickS s (k : Int) = (ls.foldl againS s, 0) := by simp [tickS, wi, hls]
    rw [hres]
    have hbW : Below w.heap.size w W := hb.trans (hW.mono hb.size)
    exact sendAgain1_calls _ B _ _ k s ls W (hlow.later hbW) hls (fun l hl => hN.known ls hmem l hl) (fun l hl => by have := hN.all ls hmem l hl; omega) hs.way (c2.below hW) ⟨fun h => by omega, fun h => by omega⟩
end Go.Proofs.YtdbbejedipfckaaGreatDoor
/-
  Run.Messages of the project, of a run that is nil and of one in memory: the messages on their way in a new list.
-/
namespace Go.Proofs.YtdbbejedipfckaaGreatDoor
open Go Go.RowKit

theorem eqlMsgs (a : Option Addr) (l c : Nat) (w : World) : (binOp .eql 125 (.slice a l c) (.slice none 0 0)).run Tryz.prog w = .ok (.bool a.isNone) w := run_eql_slice_nil w _ _ a l c Tryz.underlying125
attribute [local go_sem] eqlMsgs
set_option maxHeartbeats 1000000 in
set_option maxRecDepth 100000 in
theorem cloneM_calls (v : Value) (l : List MsgS) (w : World) (hv : ListAt 15 msgEnc w v l) (hl : l.length ≤ 1000000) :
    Calls Tryz.prog 128 #[v] w fun e w' => ∃ v', e = .returned v' ∧ w'.ownsRow w.heap.size 139 15 v' l.length (l.flatMap msgEnc) ∧ Below w.heap.size w w' := by
  obtain ⟨i1, hi1, hy0, hy1, hy2⟩ := info_parts infoMessage
  obtain ⟨a, cap, rfl, hc⟩ := hv
  cases a with
  | none =>
    have hl0 : l = [] := by
      cases l with
      | nil => rfl
      | cons x r => obtain ⟨g, o, e, _⟩ := hc 0 x rfl; cases e
    subst hl0
    go_enter Tryz.func128, Tryz.ntmps128
    go_wp2_with fail
    go_ret
    exact ⟨_, rfl, World.ownsRow_nil _ _ _ _, Below.refl _ _⟩
  | some ad =>
    have HN : Hid (∀ j u, (l.flatMap msgEnc)[j]? = some u → ∃ b, (some ad : Option Addr) = some b ∧ (w.alloc (Obj.cells #[] 139)).cell? (b.add j) = some u) := fun j u hj => by
      have hlt : j < l.length * 15 := by rw [← flat_length (sz := 15) (enc := msgEnc) (fun _ => rfl) l]; exact (List.getElem?_eq_some_iff.1 hj).1
      obtain ⟨x, hx⟩ : ∃ x, l[j / 15]? = some x := ⟨_, List.getElem?_eq_getElem (by omega)⟩
      obtain ⟨u', hu'⟩ : ∃ u', (msgEnc x)[j % 15]? = some u' := ⟨_, List.getElem?_eq_getElem (by show j % 15 < 15; omega)⟩
      have h1 := flat_get (sz := 15) (enc := msgEnc) (fun _ => rfl) l _ x _ u' hx hu'
      rw [show j / 15 * 15 + j % 15 = j from by omega, hj] at h1
      obtain ⟨g, o, e, hg, hcc⟩ := hc _ x hx
      cases e
      have h2 := hcc _ u' hu'
      rw [Nat.add_assoc, show j / 15 * 15 + j % 15 = j from by omega] at h2
      cases h1
      have hadd : (⟨g, o, none⟩ : Addr).add j = ⟨g, o + j, none⟩ := by unfold Addr.add; split <;> simp_all
      exact ⟨_, rfl, by rw [hadd]; exact cell_alloc _ h2⟩
    have HE : Hid ((w.alloc (Obj.cells #[] 139)).ownsRow w.heap.size 139 15 (.slice (some ⟨w.heap.size, 0, none⟩) 0 0) 0 []) := World.ownsRow_lit (base := w.heap.size) (e := 139) (size := 15) w #[] 0 (Nat.le_refl _) (by unfold maxLen; omega) rfl
    have HL : Hid ((l.flatMap msgEnc).length = l.length * 15) := flat_length (sz := 15) (enc := msgEnc) (fun _ => rfl) l
    clear hc
    go_enter Tryz.func128, Tryz.ntmps128
    go_wp2_with (at_builtin; refine wpList_append_any rfl _ _ _ rfl w.heap.size 139 i1 _ 15 128 Tryz.underlying125 hi1 hy0 hy1 hy2 rfl (by omega) (.slice (some ⟨w.heap.size, 0, none⟩) 0 0) 0 [] rfl HE.out (some ad) l.length cap (l.flatMap msgEnc) rfl HL.out HN.out (flat_one msgEnc_one _) (by unfold maxLen; omega) (by omega) (by simp) ?_; intro v3 w3 hown3 hgrow3; rw [Nat.zero_add, List.nil_append] at hown3; obtain ⟨a3, c3, rfl⟩ := row_form hown3)
    go_ret
    refine ⟨_, rfl, hown3, ?_⟩
    exact ((Below.refl _ _).alloc (Nat.le_refl _) _).trans ((Kept.grown hgrow3 (X := fun b => w.heap.size ≤ b) (fun r e => by simp [Value.ownBlock] at e; omega)).below (by simp) (fun _ h => h))
theorem copyM_calls (v : Value) (l : List MsgS) (w : World) (hv : ListAt 15 msgEnc w v l) (hl : l.length ≤ 1000000) :
    Calls Tryz.prog 80 #[v] w fun e w' => ∃ v', e = .returned v' ∧ w'.ownsRow w.heap.size 139 15 v' l.length (l.flatMap msgEnc) ∧ Below w.heap.size w w' := by
  have HC := hid_of (cloneM_calls v l w hv hl)
  clear hv
  go_enter Tryz.func80, Tryz.ntmps80
  go_wp2_with (go_at_call 128; refine HC.out.mono ?_; rintro e w1 ⟨v1, rfl, hrow1, hb1⟩)
  go_ret
  exact ⟨_, rfl, hrow1, hb1⟩
theorem x_messages_nil (w : World) : Calls Tryz.prog 40 #[.pointer none] w fun e w' => e = .returned (.tuple #[.slice none 0 0, .int .i64 1]) ∧ w = w' := by
  go_enter Tryz.func40, Tryz.ntmps40
  go_wp2_with (go_at_call 71; refine (ask_nil _ _).mono ?_; rintro e w4 ⟨rfl, hw4⟩; obtain rfl := hw4.symm)
  go_ret2
  exact ⟨rfl, rfl⟩
theorem inTurn_none (w : World) : Calls Tryz.prog 114 #[.slice none 0 0] w fun e w' => e = .returned (.int .i64 0) ∧ w = w' := by
  go_enter Tryz.func114, Tryz.ntmps114
  go_wp2_with fail
  go_loopw [8] (fun iv wr => iv = .int .i64 0 ∧ w = wr) (fun iv _ => 0)
  case atStart => exact ⟨rfl, rfl⟩
  case round =>
    obtain ⟨rfl, rfl⟩ := hrel
    go_wp2_with fail
    go_ret
    exact ⟨rfl, rfl⟩
theorem x_messages_calls (F : Nat → Prop) (B : Nat) (s : RunS) (w : World) (hx : XOK F w B s) (hs : Shaped s) :
    Calls Tryz.prog 40 #[.pointer (some ⟨B, 0, none⟩)] w fun e w' => ∃ v, e = .returned (.tuple #[v, .int .i64 0]) ∧ w'.ownsRow w.heap.size 139 15 v s.way.length (s.way.flatMap msgEnc) ∧ Below w.heap.size w w' := by
  obtain ⟨part, -, kv, wv, yv, M, xs, h⟩ := hx
  have hL : ListAt 15 msgEnc w yv s.way := list_of_row (sz := 15) (enc := msgEnc) (fun _ => rfl) h.yrow.1 rfl
  have HC := hid_of (copyM_calls yv s.way w hL (by have := hs.way; omega))
  have HA : Hid (Calls Tryz.prog 71 #[.pointer (some ⟨B, 0, none⟩), .slice none 0 0] w fun e w' => ∃ r, e = .returned (.int .i64 r) ∧ (r = 0 ∧ w = w')) := ask_calls B (.slice none 0 0) w (fun r w' => r = 0 ∧ w = w') ((inTurn_none w).mono fun e w' h => ⟨0, h.1, rfl, h.2⟩)
  obtain ⟨ya, yc, hyf⟩ := row_form h.yrow.1
  subst hyf
  have b4 : w.cell? ⟨B, 4, none⟩ = some (.slice ya s.way.length yc) := h.box.cell (o := 4) rfl
  clear h hL
  go_enter Tryz.func40, Tryz.ntmps40
  go_wp2_with (first
    | (go_at_call 71; refine HA.out.mono ?_; rintro e w4 ⟨r, rfl, rfl, rfl⟩)
    | (go_at_call 80; refine HC.out.mono ?_; rintro e w5 ⟨v5, rfl, hr5, hb5⟩))
  go_ret2
  exact ⟨_, rfl, hr5, hb5⟩
end Go.Proofs.YtdbbejedipfckaaGreatDoor
/-
  The state of gleanlaw's books between two calls: which blocks are theirs; each list that was kept, and what it was, lie apart from all others.
-/
namespace Go.Proofs.YtdbbejedipfckaaGreatDoor
open Go Go.RowKit

/-- A list that was kept, in blocks of the label i, and what it was, in blocks of the label j. -/
def KeptL {α : Type} (t : TypeId) (sz : Nat) (enc : α → List Value) (lab : Nat → Nat) (i j : Nat) (W : World) (k w : Value) (l : List α) : Prop :=
  W.ownsRow 0 t sz k l.length (l.flatMap enc) ∧ (∀ g, k.ownBlock = some g → lab g = i) ∧ W.ownsRow 0 t sz w l.length (l.flatMap enc) ∧ (∀ g, w.ownBlock = some g → lab g = j) ∧ l.length ≤ 1000000
theorem KeptL.kept {α : Type} {t : TypeId} {sz : Nat} {enc : α → List Value} {lab lab' : Nat → Nat} {i j : Nat} {W W' : World} {k w : Value} {l : List α} {X : Nat → Prop} (h : KeptL t sz enc lab i j W k w l) (hk : Kept X W W') (hx : ∀ g, g < W.heap.size → lab g = i ∨ lab g = j → ¬ X g ∧ lab' g = lab g) : KeptL t sz enc lab' i j W' k w l := by
  obtain ⟨h1, h2, h3, h4, h5⟩ := h
  exact ⟨row_kept h1 hk (fun g e => (hx g (h1.lt g e).2 (.inl (h2 g e))).1) (Nat.le_refl _), fun g e => ((hx g (h1.lt g e).2 (.inl (h2 g e))).2).trans (h2 g e),
    row_kept h3 hk (fun g e => (hx g (h3.lt g e).2 (.inr (h4 g e))).1) (Nat.le_refl _), fun g e => ((hx g (h3.lt g e).2 (.inr (h4 g e))).2).trans (h4 g e), h5⟩
theorem KeptL.nil {α : Type} (t : TypeId) (sz : Nat) (enc : α → List Value) (lab : Nat → Nat) (i j : Nat) (W : World) : KeptL t sz enc lab i j W (.slice none 0 0) (.slice none 0 0) [] :=
  ⟨World.ownsRow_nil _ _ _ _, (fun g e => by cases e), World.ownsRow_nil _ _ _ _, (fun g e => by cases e), by simp⟩

/-- The books at block B, after so many marks and lists, in blocks that F names. -/
def BooksOK (F : Nat → Prop) (W : World) (B N came : Nat) : Prop :=
  ∃ (lab : Nat → Nat) (kV wV kT wT kM wM : Value) (lV : List (ByteArray × Int)) (lT : List TaskS) (lM : List MsgS) (bs : List Bk),
    (∀ b, lab b ≠ 0 → F b) ∧ bs.length = 4 * N ∧ BooksX (fun b => lab b = 1) (fun b _ => lab b = 1) W B N came kV wV kT wT kM wM bs ∧
    KeptL 84 2 valEnc lab 2 3 W kV wV lV ∧ KeptL 76 3 taskEnc lab 4 5 W kT wT lT ∧ KeptL 139 15 msgEnc lab 6 7 W kM wM lM
theorem BooksOK.kept {F F' X : Nat → Prop} {W W' : World} {B N came : Nat} (h : BooksOK F W B N came) (hk : Kept X W W') (hx : ∀ g, g < W.heap.size → F g → ¬ X g ∧ F' g) : BooksOK F' W' B N came := by
  obtain ⟨lab, kV, wV, kT, wT, kM, wM, lV, lT, lM, bs, h1, h2, h3, h4, h5, h6⟩ := h
  have hg : ∀ g, g < W.heap.size → lab g ≠ 0 → ¬ X g := fun g hl hn => (hx g hl (h1 g hn)).1
  refine ⟨fun b => if b < W.heap.size then lab b else 0, kV, wV, kT, wT, kM, wM, lV, lT, lM, bs, fun b hb => ?_, h2, h3.kept hk (fun g hl hn => hg g hl (by omega)) (fun g _ hl hn => hg g hl (by omega)) (fun g hl hn => by simp [hl, hn]) (fun g _ hl hn => by simp [hl, hn]),
    h4.kept hk (fun g hl hn => ⟨hg g hl (by omega), by simp [hl]⟩), h5.kept hk (fun g hl hn => ⟨hg g hl (by omega), by simp [hl]⟩), h6.kept hk (fun g hl hn => ⟨hg g hl (by omega), by simp [hl]⟩)⟩
  by_cases hl : b < W.heap.size
  · exact (hx b hl (h1 b (by simpa [hl] using hb))).2
  · simp [hl] at hb
theorem BooksOK.lt {F : Nat → Prop} {W : World} {B N came : Nat} (h : BooksOK F W B N came) : B < W.heap.size ∧ F B := by
  obtain ⟨lab, kV, wV, kT, wT, kM, wM, lV, lT, lM, bs, h1, h2, ⟨vA, h3, _, h4, _⟩, _⟩ := h
  exact ⟨h3.lt, h1 B (by omega)⟩
theorem BooksOK.later {F : Nat → Prop} {W W' : World} {B N came : Nat} (h : BooksOK F W B N came) (hk : Below W.heap.size W W') : BooksOK F W' B N came :=
  h.kept (Kept.of_below hk (X := fun b => W.heap.size ≤ b) (fun _ _ h => h)) (fun g hl hF => ⟨by omega, hF⟩)
theorem BooksOK.mono {F F' : Nat → Prop} {W : World} {B N came : Nat} (h : BooksOK F W B N came) (hx : ∀ g, g < W.heap.size → F g → F' g) : BooksOK F' W B N came :=
  h.kept (Kept.refl (fun _ => False) W) (fun g hl hF => ⟨fun h => h, hx g hl hF⟩)
/-- New books. -/
theorem BooksOK.new (W : World) : BooksOK (fun b => b = W.heap.size) (W.alloc (Obj.cells #[.int .i64 0, .int .i64 0, .bool false, .slice none 0 0, .slice none 0 0, .slice none 0 0, .slice none 0 0, .slice none 0 0, .slice none 0 0, .slice none 0 0] 56)) W.heap.size 0 0 :=
  ⟨fun b => if b = W.heap.size then 1 else 0, .slice none 0 0, .slice none 0 0, .slice none 0 0, .slice none 0 0, .slice none 0 0, .slice none 0 0, [], [], [], [], fun b hb => by simpa using hb, rfl,
    ⟨.slice none 0 0, BoxAt.new W _ _, World.ownsRow_nil _ _ _ _, by simp, (fun g e => by cases e), (fun x hx => by cases hx)⟩, KeptL.nil _ _ _ _ _ _ _, KeptL.nil _ _ _ _ _ _ _, KeptL.nil _ _ _ _ _ _ _⟩
end Go.Proofs.YtdbbejedipfckaaGreatDoor
