/-
  Steps taken one after another, as long as they answer OK.
-/
import Derived.Test.YtgbneeohaboncaaGreatDoorCollect
namespace Go.Proofs.YtgbneeohaboncaaGreatDoor
open Go Go.RowKit

/-- A step as a value: which function, and what it was given. -/
abbrev StepV := Nat × Array Value × Array Value
def stepVal (f : StepV) : Value := .func (.func f.1) f.2.1 f.2.2

set_option maxHeartbeats 2000000 in
set_option maxRecDepth 100000 in
theorem inTurn_calls (g n cap : Nat) (fs : List StepV) (w : World) (hn : fs.length = n) (hn9 : n ≤ 9) (J : Nat → World → Prop) (E : Int → World → Prop)
    (hcell : ∀ i W, J i W → ∀ f, fs[i]? = some f → W.cell? ⟨g, i, none⟩ = some (stepVal f)) (he : ∀ f ∈ fs, ∀ args w, (callFunc f.1 args).run Tryz.prog w = .ok (.enter f.1 args) w)
    (hstep : ∀ i f, fs[i]? = some f → ∀ W, J i W → Calls Tryz.prog f.1 (f.2.1 ++ f.2.2) W fun e W' => ∃ r, e = .returned (.int .i64 r) ∧ ((r = 0 ∧ J (i + 1) W') ∨ (r ≠ 0 ∧ E r W'))) (h0 : J 0 w) :
    Calls Tryz.prog 104 #[.slice (some ⟨g, 0, none⟩) n cap] w fun e w' => ∃ r, e = .returned (.int .i64 r) ∧ ((r = 0 ∧ J n w') ∨ (r ≠ 0 ∧ E r w')) := by
  have HC := hid_of hcell
  have HE := hid_of he
  have HS := hid_of hstep
  have HJ0 := hid_of h0
  clear hcell he hstep h0
  go_enter Tryz.func104, Tryz.ntmps104
  go_wp2_with fail
  go_loopw [8] (fun iv wr => ∃ k : Nat, k ≤ n ∧ iv = .int .i64 k ∧ J k wr) (fun iv _ => n - (intOf iv).toNat)
  case atStart => exact ⟨0, Nat.zero_le _, rfl, HJ0.out⟩
  case round =>
    obtain ⟨k, hk, rfl, hJ⟩ := hrel
    rename World => wr
    have HJ := hid_of hJ
    clear hJ
    by_cases hlt : k < n
    · obtain ⟨f, hf⟩ : ∃ f, fs[k]? = some f := ⟨_, List.getElem?_eq_getElem (by omega)⟩
      have y0 := HC.out k wr HJ.out f hf
      have hef := HE.out f (List.mem_of_getElem? hf)
      have hst := HS.out k f hf wr HJ.out
      obtain ⟨fk, bs, cs⟩ := f
      dsimp only [stepVal] at y0 hef hst
      have HST := hid_of hst
      have j1 : (0 : Int) ≤ (k : Int) := by omega
      have j2 : (k : Int) < (n : Int) := by omega
      clear hf hst
      go_wp2_with fail
      refine HST.out.mono ?_
      rintro e w1 ⟨r, rfl, hr⟩
      by_cases hr0 : r = 0
      · subst hr0
        have hJ1 : J (k + 1) w1 := by
          rcases hr with h | h
          · exact h.2
          · exact absurd rfl h.1
        go_wp2_with fail
        go_roundw
        case rel => exact ⟨k + 1, by omega, by go_num, hJ1⟩
        case measure => simp [intOf]; omega
      · have hb : (r == 0) = false := by rw [beq_eq_false_iff_ne]; exact hr0
        have hE : E r w1 := by
          rcases hr with h | h
          · exact absurd h.1 hr0
          · exact h.2
        go_wp2_with fail
        go_ret
        exact ⟨r, rfl, .inr ⟨hr0, hE⟩⟩
    · go_wp2_with fail
      go_ret
      obtain rfl : n = k := by omega
      exact ⟨0, rfl, .inl ⟨rfl, HJ.out⟩⟩

theorem isWorker_calls (rp : Option Addr) (i : Int) (w : World) : Calls Tryz.prog 71 #[.pointer rp, .int .i64 i] w fun e w' => e = .returned (.func (.func 105) #[] #[.pointer (some ⟨w.heap.size + 1, 0, none⟩), .pointer (some ⟨w.heap.size, 0, none⟩)]) ∧ w' = (w.alloc (Obj.cells #[.pointer rp] 37)).alloc (Obj.cells #[.int .i64 i] 3) := by
  go_enter Tryz.func71, Tryz.ntmps71
  go_wp2_with fail
  go_ret
  exact ⟨rfl, rfl⟩
theorem hasTask_calls (rp : Option Addr) (i : Int) (w : World) : Calls Tryz.prog 75 #[.pointer rp, .int .i64 i] w fun e w' => e = .returned (.func (.func 110) #[] #[.pointer (some ⟨w.heap.size, 0, none⟩), .pointer (some ⟨w.heap.size + 1, 0, none⟩)]) ∧ w' = (w.alloc (Obj.cells #[.pointer rp] 37)).alloc (Obj.cells #[.int .i64 i] 3) := by
  go_enter Tryz.func75, Tryz.ntmps75
  go_wp2_with fail
  go_ret
  exact ⟨rfl, rfl⟩
theorem doYoungest_calls (rp : Option Addr) (i : Int) (w : World) : Calls Tryz.prog 76 #[.pointer rp, .int .i64 i] w fun e w' => e = .returned (.func (.func 112) #[] #[.pointer (some ⟨w.heap.size, 0, none⟩), .pointer (some ⟨w.heap.size + 1, 0, none⟩)]) ∧ w' = (w.alloc (Obj.cells #[.pointer rp] 37)).alloc (Obj.cells #[.int .i64 i] 3) := by
  go_enter Tryz.func76, Tryz.ntmps76
  go_wp2_with fail
  go_ret
  exact ⟨rfl, rfl⟩
/-- The variables that a step holds: a run, a number. -/
def HeldAt (W : World) (Br Bw B : Nat) (i : Int) : Prop := BoxAt W Br 37 #[.pointer (some ⟨B, 0, none⟩)] ∧ BoxAt W Bw 3 #[.int .i64 i]
theorem HeldAt.below {W W' : World} {Br Bw B : Nat} {i : Int} (h : HeldAt W Br Bw B i) (hb : Below W.heap.size W W') : HeldAt W' Br Bw B i := ⟨h.1.below hb h.1.lt, h.2.below hb h.2.lt⟩
set_option maxHeartbeats 1000000 in
set_option maxRecDepth 100000 in
theorem hadRoom_calls (F : Nat → Prop) (B : Nat) (s : RunS) (w : World) (hx : XOK F w B s) : Calls Tryz.prog 108 #[.pointer (some ⟨B, 0, none⟩)] w fun e w' => e = .returned (.int .i64 (if s.over then 6 else 0)) ∧ w' = w := by
  obtain ⟨part, -, kv, wv, M, D, xs, hb, -⟩ := hx
  have b6 : w.cell? ⟨B, 6, none⟩ = some (.bool s.over) := hb.cell (o := 6) rfl
  clear hb
  obtain ⟨o, ho⟩ : ∃ o, s.over = o := ⟨_, rfl⟩
  rw [ho] at b6 ⊢
  go_enter Tryz.func108, Tryz.ntmps108
  cases o
  all_goals
    go_wp2_with fail
    go_ret
    exact ⟨rfl, rfl⟩
set_option maxHeartbeats 1000000 in
set_option maxRecDepth 100000 in
theorem isWorker1_calls (F : Nat → Prop) (B Br Bw : Nat) (s : RunS) (i : Int) (w : World) (hx : XOK F w B s) (hf : Fits s) (hh : HeldAt w Br Bw B i) :
    Calls Tryz.prog 105 #[.pointer (some ⟨Bw, 0, none⟩), .pointer (some ⟨Br, 0, none⟩)] w fun e w' => e = .returned (.int .i64 (if i < 0 ∨ s.workers ≤ i then 7 else 0)) ∧ Below w.heap.size w w' := by
  obtain ⟨part, -, kv, wv, M, D, xs, hb, -, -, ⟨hrow, hxl, -⟩, -⟩ := hx
  obtain ⟨wa, wc, rfl⟩ := row_form hrow.1
  have b3 : w.cell? ⟨B, 3, none⟩ = some (.slice wa xs.length wc) := hb.cell (o := 3) rfl
  have r0 := hh.1.cell (o := 0) rfl
  have i0 := hh.2.cell (o := 0) rfl
  have hlen := hf.len
  have hxl' : (xs.length : Int) = s.workers := by rw [hxl]; exact hlen
  obtain ⟨res, hres⟩ : ∃ res : Int, (if i < 0 ∨ s.workers ≤ i then (7 : Int) else 0) = res := ⟨_, rfl⟩
  rw [hres]
  rw [← hxl'] at hres
  have HRES := hid_of hres
  clear hb hh hrow hxl hlen hf hxl' hres
  go_enter Tryz.func105, Tryz.ntmps105
  by_cases h1 : i < 0
  · have hr : res = 7 := by rw [← HRES.out, if_pos (.inl h1)]
    rw [hr]
    go_wp2_with fail
    go_quiet (fail)
    go_wp2_with fail
    go_ret
    exact ⟨rfl, below_drewN (Below.refl _ _) _⟩
  · by_cases h2 : (xs.length : Int) ≤ i
    · have hr : res = 7 := by rw [← HRES.out, if_pos (.inr h2)]
      rw [hr]
      have d1 : decide (i < 0) = false := decide_eq_false h1
      go_wp2_with fail
      go_quiet (fail)
      go_wp2_with fail
      go_ret
      exact ⟨rfl, below_drewN (Below.refl _ _) _⟩
    · have hr : res = 0 := by rw [← HRES.out, if_neg (by omega)]
      rw [hr]
      have d1 : decide (i < 0) = false := decide_eq_false h1
      have d2 : decide ((xs.length : Int) ≤ i) = false := decide_eq_false h2
      go_wp2_with fail
      go_quiet (fail)
      go_wp2_with fail
      go_ret
      exact ⟨rfl, below_drewN (Below.refl _ _) _⟩
end Go.Proofs.YtgbneeohaboncaaGreatDoor
/-
  A worker's list of tasks: whether it is idle, its youngest task, children in its place.
-/
namespace Go.Proofs.YtgbneeohaboncaaGreatDoor
open Go Go.RowKit

theorem idle_calls (X : Nat → Prop) (T : Nat) (room : Int) (l : List TaskS) (w : World) (ht : TaskListAt X w T room l) : Calls Tryz.prog 111 #[.pointer (some ⟨T, 0, none⟩)] w fun e w' => e = .returned (.bool (decide (l.length = 0))) ∧ w' = w := by
  obtain ⟨tv, hb, -, hr⟩ := ht
  obtain ⟨ta, tc, rfl⟩ := row_form hr.1
  have b0 := hb.cell (o := 0) rfl
  clear hb hr
  go_enter Tryz.func111, Tryz.ntmps111
  go_wp2_with fail
  go_ret
  refine ⟨?_, rfl⟩
  have e : ((l.length : Int) == 0) = decide (l.length = 0) := by rw [Bool.eq_iff_iff]; simp
  simp [e]
/-- What is known where a worker with tasks is asked for. -/
theorem x_worker {F : Nat → Prop} {B k : Nat} {s : RunS} {w : World} {x : WorkerS} (hx : XOK F w B s) (hk : s.W[k]? = some x) :
    ∃ (part : Nat → Nat) (kv : Value) (g c M T : Nat) (D : DataW Unit) (xs : List XW) (y : XW), (∀ b, part b ≠ 0 → F b) ∧ BoxAt w B 127 (xrunCells s kv (.slice (some ⟨g, 0, none⟩) xs.length c) M) ∧ part B = 1 ∧ KindsAt (fun b => part b = 6) w kv s.ks ∧
      RowIn (fun b => part b = 7) 135 3 xwEnc w (.slice (some ⟨g, 0, none⟩) xs.length c) xs ∧ xs.length = s.W.length ∧ (∀ i x y, xs[i]? = some x → s.W[i]? = some y → TaskListAt (fun b => part b = 10 + i) w x.1 s.room y.tasks) ∧ MapIs w M D ∧ part M = 3 ∧ Maps.size D ≤ s.values.length ∧
      xs[k]? = some y ∧ y.1 = T ∧ TaskListAt (fun b => part b = 10 + k) w T s.room x.tasks ∧ w.cell? ⟨g, k * 3, none⟩ = some (.pointer (some ⟨T, 0, none⟩)) ∧ k < xs.length := by
  obtain ⟨part, h0, kv, wv, M, D, xs, hb, h1, h2, ⟨hrow, hxl, htl⟩, h3, h4, h5⟩ := hx
  have hk' := (List.getElem?_eq_some_iff.1 hk).1
  obtain ⟨y, hy⟩ : ∃ y, xs[k]? = some y := ⟨_, List.getElem?_eq_getElem (by omega)⟩
  obtain ⟨g, c, rfl, -, -⟩ := World.ownsRow.form hrow.1 (by omega)
  refine ⟨part, kv, g, c, M, y.1, D, xs, y, h0, hb, h1, h2, hrow, hxl, htl, h3, h4, h5, hy, rfl, htl k y x hy hk, ?_, by omega⟩
  have := hrow.1.cells (g := g) rfl (k * 3 + 0) _ (flat_get (sz := 3) (enc := xwEnc) (fun _ => rfl) xs k y 0 _ hy rfl)
  rwa [addr_add] at this
set_option maxHeartbeats 1000000 in
set_option maxRecDepth 100000 in
theorem hasTask1_calls (F : Nat → Prop) (B Br Bw k : Nat) (s : RunS) (x : WorkerS) (w : World) (hx : XOK F w B s) (hk : s.W[k]? = some x) (hk5 : k < 5) (hh : HeldAt w Br Bw B k) :
    Calls Tryz.prog 110 #[.pointer (some ⟨Br, 0, none⟩), .pointer (some ⟨Bw, 0, none⟩)] w fun e w' => e = .returned (.int .i64 (if x.tasks.length = 0 then 8 else 0)) ∧ Below w.heap.size w w' := by
  obtain ⟨part, kv, g, c, M, T, D, xs, y, -, hb, -, -, hrw, -, -, -, -, -, -, -, ht, hc, hkl⟩ := x_worker hx hk
  have hgl0 : g < w.heap.size := (hrw.1.lt g rfl).2
  clear hrw
  have HI : Hid (∀ U, Below w.heap.size w U → Calls Tryz.prog 111 #[.pointer (some ⟨T, 0, none⟩)] U fun e w' => e = .returned (.bool (decide (x.tasks.length = 0))) ∧ Below w.heap.size w w') := fun U hU => by
    refine (idle_calls (fun b => part b = 10 + k) T s.room x.tasks U (ht.kept (Kept.of_below hU (X := fun b => w.heap.size ≤ b) (fun _ _ h => h)) (fun g hg h => ⟨by omega, h⟩))).mono ?_
    rintro e w' ⟨rfl, rfl⟩
    exact ⟨rfl, hU⟩
  have b3 : w.cell? ⟨B, 3, none⟩ = some (.slice (some ⟨g, 0, none⟩) xs.length c) := hb.cell (o := 3) rfl
  have r0 := hh.1.cell (o := 0) rfl
  have i0 := hh.2.cell (o := 0) rfl
  have j1 : (0 : Int) ≤ (k : Int) := by omega
  have j2 : (k : Int) < (xs.length : Int) := by omega
  obtain ⟨eb, heb⟩ : ∃ eb, decide (x.tasks.length = 0) = eb := ⟨_, rfl⟩
  rw [heb] at HI
  have hif : (if x.tasks.length = 0 then (8 : Int) else 0) = if eb then 8 else 0 := by rw [← heb]; simp
  rw [hif]
  have hgl : g < w.heap.size ∧ B < w.heap.size ∧ Br < w.heap.size ∧ Bw < w.heap.size := ⟨hgl0, hb.lt, hh.1.lt, hh.2.lt⟩
  have HST : Hid (∀ U, Below w.heap.size w U → Below w.heap.size w U ∧ U.cell? ⟨B, 3, none⟩ = some (.slice (some ⟨g, 0, none⟩) xs.length c) ∧ U.cell? ⟨Br, 0, none⟩ = some (.pointer (some ⟨B, 0, none⟩)) ∧ U.cell? ⟨Bw, 0, none⟩ = some (.int .i64 k) ∧ U.cell? ⟨g, k * 3, none⟩ = some (.pointer (some ⟨T, 0, none⟩))) := fun U hU => ⟨hU, (hU.cell (p := ⟨B, 3, none⟩) hgl.2.1).trans b3, (hU.cell (p := ⟨Br, 0, none⟩) hgl.2.2.1).trans r0, (hU.cell (p := ⟨Bw, 0, none⟩) hgl.2.2.2).trans i0, (hU.cell (p := ⟨g, k * 3, none⟩) hgl.1).trans hc⟩
  clear hif heb hb hh ht hgl
  go_enter Tryz.func110, Tryz.ntmps110
  go_upto_region 1 with fail
  go_region_held3 (fun U => Below w.heap.size w U ∧ U.cell? ⟨B, 3, none⟩ = some (.slice (some ⟨g, 0, none⟩) xs.length c) ∧ U.cell? ⟨Br, 0, none⟩ = some (.pointer (some ⟨B, 0, none⟩)) ∧ U.cell? ⟨Bw, 0, none⟩ = some (.int .i64 k) ∧ U.cell? ⟨g, k * 3, none⟩ = some (.pointer (some ⟨T, 0, none⟩)))
    (first | assumption | (exact HST.out _ (by assumption)) | (exact HST.out _ (Below.refl _ _)) | (exact HST.out _ (Below.refl _ _).drew))
    (first
    | (go_at_call 111; refine (HI.out _ (by first | assumption | exact Below.refl _ _ | exact (Below.refl _ _).drew | exact And.left (by assumption))).mono ?_; rintro e w1 ⟨rfl, hb1⟩))
  cases eb
  all_goals
    go_wp2_with fail
    go_ret
    exact ⟨rfl, by first | exact hb1 | exact hb1.drew⟩
end Go.Proofs.YtgbneeohaboncaaGreatDoor
/-
  A worker's youngest task; children put in its place, where there is room.
-/
namespace Go.Proofs.YtgbneeohaboncaaGreatDoor
open Go Go.RowKit

/-- The list without its last task is a list with room behind it. -/
theorem row_init {W : World} {base g c : Nat} {L : List TaskS} {t : TaskS} (h : W.ownsRow base 76 3 (.slice (some ⟨g, 0, none⟩) (L.length + 1) c) (L.length + 1) (L.flatMap taskEnc ++ taskEnc t)) : W.ownsRow base 76 3 (.slice (some ⟨g, 0, none⟩) L.length c) L.length (L.flatMap taskEnc) := by
  have hfl : (L.flatMap taskEnc).length = L.length * 3 := flat_length (sz := 3) (enc := taskEnc) (fun _ => rfl) L
  obtain ⟨h1, h2⟩ := h
  rcases h2 with ⟨h0, _⟩ | ⟨g', cap', cur, h0, hb, hcur, hnc, hcm, hcs, htk⟩
  · cases h0
  · cases h0
    refine ⟨hfl, .inr ⟨g, c, cur, rfl, hb, hcur, by omega, hcm, hcs, ?_⟩⟩
    have := congrArg (List.take (L.length * 3)) htk
    rw [List.take_take, Nat.min_eq_left (by omega), List.take_append_of_le_length (by omega), ← hfl, List.take_length] at this
    rw [← hfl]
    exact this
theorem row_last {W : World} {base g c : Nat} {L : List TaskS} {t : TaskS} (h : W.ownsRow base 76 3 (.slice (some ⟨g, 0, none⟩) (L.length + 1) c) (L.length + 1) (L.flatMap taskEnc ++ taskEnc t)) (j : Nat) (u : Value) (hj : (taskEnc t)[j]? = some u) : W.cell? ⟨g, L.length * 3 + j, none⟩ = some u := by
  have h1 := h.cells (g := g) rfl (L.length * 3 + j) u (by
    have hfl : (L.flatMap taskEnc).length = L.length * 3 := flat_length (sz := 3) (enc := taskEnc) (fun _ => rfl) L
    rw [List.getElem?_append_right (by omega), hfl, show L.length * 3 + j - L.length * 3 = j from by omega]
    exact hj)
  rwa [addr_add] at h1
theorem tasks_row {X : Nat → Prop} {W : World} {T : Nat} {room : Int} {L : List TaskS} {t : TaskS} (h : TaskListAt X W T room (L ++ [t])) : ∃ g c, BoxAt W T 167 #[.slice (some ⟨g, 0, none⟩) (L.length + 1) c, .int .i64 room] ∧ X T ∧ X g ∧ W.ownsRow 0 76 3 (.slice (some ⟨g, 0, none⟩) (L.length + 1) c) (L.length + 1) (L.flatMap taskEnc ++ taskEnc t) := by
  obtain ⟨tv, hb, hT, hr, hX⟩ := h
  rw [List.length_append, List.flatMap_append] at hr
  obtain ⟨g, c, rfl, -, -⟩ := World.ownsRow.form hr (by simp)
  exact ⟨g, c, hb, hT, hX g rfl, by simpa using hr⟩
/-- An append of any list to one of one's own that is not nil, and where it lies then. -/
theorem wpList_append_where {P : Program} {w : World} {ops : Array Oper} {rest : List Oper} {o : Oper} {a : Act} {Q : Exit → Act → World → Prop} (hgd : o.guard = none) (s x : Operand) (t : TypeId)
    (ho : o.op = .call { callee := .builtin .append, args := #[s, x], argTypes := #[t, t] })
    (e : TypeId) (i : TypeInfo) (z : Value) (size bytes : Nat) (ht : P.underlying t = some (.slice e)) (hi : P.info? e = some i) (hz : i.zero = some z)
    (hsize : i.size = size) (hby : i.bytes = bytes) (hzs : z.cells.size = size) (hsz : 0 < size)
    (g cap n : Nat) (xs : List Value) (hs : a.eval s = .slice (some ⟨g, 0, none⟩) n cap) (hown : w.ownsRow 0 e size (.slice (some ⟨g, 0, none⟩) n cap) n xs)
    (ad : Option Addr) (m c : Nat) (news : List Value) (hx : a.eval x = .slice ad m c) (hl : news.length = m * size) (hnews : ∀ j u, news[j]? = some u → ∃ b, ad = some b ∧ w.cell? (b.add j) = some u) (h1 : ∀ u ∈ news, u.oneCell' = true)
    (h63 : n + m ≤ maxLen) (hbytes : (n + m) * bytes ≤ 140737488355328)
    (h : ∀ g' c' w', w'.ownsRow 0 e size (.slice (some ⟨g', 0, none⟩) (n + m) c') (n + m) (xs ++ news) → w.grownBy w' (some g) → (g' = g ∨ w.heap.size ≤ g') → wpList P ops Q rest (a.put o.dst (.slice (some ⟨g', 0, none⟩) (n + m) c')) w') : wpList P ops Q (o :: rest) a w := by
  cases ad with
  | none =>
    have hn0 : news = [] := by
      cases news with
      | nil => rfl
      | cons u r => obtain ⟨b, e', _⟩ := hnews 0 u rfl; cases e'
    subst hn0
    have hm : m = 0 := by
      have h' : m * size = 0 := by simpa using hl.symm
      rcases Nat.mul_eq_zero.1 h' with h' | h'
      · exact h'
      · omega
    subst hm
    refine wpList_plain hgd fun K hK => ?_
    have hrun : (Builtin.append_ #[t, t] o.type #[.slice (some ⟨g, 0, none⟩) n cap, .slice none 0 c]).run P w = .ok (.slice (some ⟨g, 0, none⟩) n cap) w := by
      rcases hown.2 with ⟨h0, _⟩ | ⟨g', cap', cur, h0, _, _, hnc, _⟩
      · cases h0
      · cases h0
        simp [Builtin.append_, run_underlying ht, sizeOf, typeInfo, hi, Builtin.lenOf, Builtin.firstCells, hnc, storeCells]
    unfold Oper.wp
    simp [execOp, ho, resolve, invoke, builtin, hs, hx, hrun, Result.andThen]
    exact hK _ _ (h g cap w (by simpa using hown) (World.grownBy.refl _ _) (.inl rfl))
  | some b =>
    have hcells : ∀ j u, news[j]? = some u → w.cell? (b.add j) = some u := fun j u hj => by obtain ⟨b', e', h'⟩ := hnews j u hj; cases e'; exact h'
    by_cases hr : n + m ≤ cap
    · exact wpList_append_fits w hgd s x t ho 0 e i size ht hi hsize g n cap xs hs hown b m c news hx hl hcells h1 hr (fun w' h2 h3 => h g cap w' h2 h3 (.inl rfl))
    · have hnc : n ≤ cap := by
        rcases hown.2 with ⟨h0, _⟩ | ⟨g', cap', cur, h0, _, _, hnc, _⟩
        · cases h0
        · cases h0; exact hnc
      refine wpList_append_keeps hgd s x t ho 0 e i z size bytes ht hi hz hsize hby hzs hsz _ n xs hs hown b m c news hx hl hcells h1 (by omega) h63 hbytes (Nat.zero_le _) (fun g' c' w' h2 h3 h4 _ => h g' c' w' h2 h3 ?_)
      rcases h4 with h4 | h4
      · simp [Value.ownBlock] at h4; exact .inl h4.symm
      · exact .inr h4
set_option maxHeartbeats 1000000 in
set_option maxRecDepth 100000 in
theorem youngest_calls (X : Nat → Prop) (T : Nat) (room : Int) (L : List TaskS) (t : TaskS) (w : World) (ht : TaskListAt X w T room (L ++ [t])) (hl : L.length ≤ 1000) : Calls Tryz.prog 113 #[.pointer (some ⟨T, 0, none⟩)] w fun e w' => e = .returned (.agg #[.string t.id, .int .i64 t.kind, .int .i64 t.arg]) ∧ Below w.heap.size w w' := by
  obtain ⟨g, c, hb, -, -, hr⟩ := tasks_row ht
  obtain ⟨V, hV⟩ : ∃ V, w.alloc (Obj.cells #[.string ⟨#[]⟩, .int .i64 0, .int .i64 0] 76) = V := ⟨_, rfl⟩
  have hbV : Below w.heap.size w V := by rw [← hV]; exact (Below.refl _ _).alloc (Nat.le_refl _) _
  have bZ : BoxAt V w.heap.size 76 #[.string ⟨#[]⟩, .int .i64 0, .int .i64 0] := by rw [← hV]; exact BoxAt.new w _ _
  have hgl := (hr.lt g rfl).2
  have b0 := (hb.below hbV hb.lt).cell (o := 0) rfl
  have e0 : V.cell? ⟨g, L.length * 3, none⟩ = some (.string t.id) := (hbV.cell (p := ⟨g, L.length * 3, none⟩) hgl).trans (row_last hr 0 _ rfl)
  have e1 : V.cell? ⟨g, L.length * 3 + 1, none⟩ = some (.int .i64 t.kind) := (hbV.cell (p := ⟨g, L.length * 3 + 1, none⟩) hgl).trans (row_last hr 1 _ rfl)
  have e2 : V.cell? ⟨g, L.length * 3 + 2, none⟩ = some (.int .i64 t.arg) := (hbV.cell (p := ⟨g, L.length * 3 + 2, none⟩) hgl).trans (row_last hr 2 _ rfl)
  have z0 := bZ.cell (o := 0) rfl
  have z1 := bZ.cell (o := 1) rfl
  have z2 := bZ.cell (o := 2) rfl
  have f0 := bZ.frozen 0
  have f1 := bZ.frozen 1
  have f2 := bZ.frozen 2
  have hne : g ≠ w.heap.size := by omega
  have hneT : T ≠ w.heap.size := by have := hb.lt; omega
  have HBZ := hid_of bZ
  have HBV := hid_of hbV
  have j1 : (0 : Int) ≤ (L.length : Int) := by omega
  have j2 : (L.length : Int) < ((L.length + 1 : Nat) : Int) := by omega
  clear hb hr hbV bZ ht
  go_enter Tryz.func113, Tryz.ntmps113
  go_upto_region 1 with fail
  clear hV
  go_region
  all_goals
    go_wp2_with fail
    have hbz : BoxAt (((V.setCell ⟨w.heap.size, 0, none⟩ (.string t.id)).setCell ⟨w.heap.size, 1, none⟩ (.int .i64 t.kind)).setCell ⟨w.heap.size, 2, none⟩ (.int .i64 t.arg)).drew w.heap.size 76 #[.string t.id, .int .i64 t.kind, .int .i64 t.arg] := ((HBZ.out.setAt 0 _).setAt 1 _).setAt 2 _
    have r0 := hbz.cell (o := 0) rfl
    have r1 := hbz.cell (o := 1) rfl
    have r2 := hbz.cell (o := 2) rfl
    refine bodyPost_ret (v := .agg #[.string t.id, .int .i64 t.kind, .int .i64 t.arg]) (by simp [results, Tryz.results113, go_sem, r0, r1, r2]) rfl ⟨rfl, ?_⟩
    exact (((HBV.out.setCell (p := ⟨w.heap.size, 0, none⟩) (Nat.le_refl _) _).setCell (p := ⟨w.heap.size, 1, none⟩) (Nat.le_refl _) _).setCell (p := ⟨w.heap.size, 2, none⟩) (Nat.le_refl _) _).drew
set_option maxHeartbeats 2000000 in
set_option maxRecDepth 100000 in
theorem replace_calls (X : Nat → Prop) (T : Nat) (room : Int) (L C : List TaskS) (t : TaskS) (gf : Nat) (lb : Array Value) (w : World) (ht : TaskListAt X w T room (L ++ [t])) (hl : L.length ≤ 100) (hc : C.length ≤ 100) (eg : ∀ args w, (callFunc gf args).run Tryz.prog w = .ok (.enter gf args) w)
    (hseq : ∀ (n : Nat) (X : Nat → Prop) (U W : World), Below w.heap.size w U → Below U.heap.size U W → (∀ k, X k → U.heap.size ≤ k) → SeqY Fence.wide n Tryz.prog gf lb (fun c : TaskS => #[taskV c]) X C W) :
    Calls Tryz.prog 114 #[.pointer (some ⟨T, 0, none⟩), .func (.func gf) #[] lb] w fun e w' => e = .returned (.bool (!decide (room < (L.length : Int) + C.length))) ∧ Kept X w w' ∧ (if room < (L.length : Int) + C.length then Below w.heap.size w w' else TaskListAt (fun b => X b ∨ w.heap.size ≤ b) w' T room (L ++ C)) := by
  obtain ⟨iT, hiT, hzT0, hzT1, hzT2⟩ := info_parts infoTask
  obtain ⟨g, c, hb, hXT, hXg, hr⟩ := tasks_row ht
  have b0 := hb.cell (o := 0) rfl
  have hri := row_init hr
  have HC : Hid (∀ U, Below w.heap.size w U → Calls Tryz.prog 72 #[.func (.func gf) #[] lb] U fun e w' => ∃ v, e = .returned v ∧ w'.ownsRow U.heap.size 76 3 v C.length (C.flatMap taskEnc) ∧ Below U.heap.size U w') := fun U hU => collect_calls gf lb C U (by omega) eg (fun n X W hW hX => hseq n X U W hU hW hX)
  have HB := hid_of hb
  have HRI := hid_of hri
  have hgl := (hr.lt g rfl).2
  have hcap : L.length + 1 ≤ c := by
    rcases hr.2 with ⟨h0, _⟩ | ⟨g', cap', cur, h0, _, _, h1, _⟩
    · cases h0
    · cases h0; omega
  obtain ⟨n, hn⟩ : ∃ n, C.length = n := ⟨_, rfl⟩
  have HN : Hid (C.length = n) := hn
  rw [hn] at HC hc
  rw [hn]
  obtain ⟨bb, hbb⟩ : ∃ bb, decide (room < (L.length : Int) + n) = bb := ⟨_, rfl⟩
  have HBB : Hid (decide (room < (L.length : Int) + n) = bb) := hbb
  rw [hbb]
  have hXg' : X g := hXg
  clear hb hr hri ht hseq eg hn hbb
  have j3 : (L.length : Int) ≤ (c : Int) := by omega
  have j4 : L.length ≤ c := by omega
  have hwa : IntKind.i64.wrap ((L.length : Int) + (n : Int)) = (L.length : Int) + (n : Int) := IntWalk.i64_in _ (by omega)
  go_enter Tryz.func114, Tryz.ntmps114
  go_upto_region 1 with fail
  go_quiet (fail)
  go_upto_region 3 with (go_at_call 72; refine (HC.out _ (below_drewN (Below.refl _ _) _)).mono ?_; rintro e w2 ⟨v2, rfl, hrow2', hb2'⟩; obtain ⟨a2, c2, rfl⟩ := row_form hrow2')
  have hb2 : Below w.heap.size w w2 := (below_drewN (Below.refl _ _) nq).trans hb2'
  have hrow2 : w2.ownsRow w.heap.size 76 3 (.slice a2 n c2) n (C.flatMap taskEnc) := hrow2'
  have HB2 := hid_of (HB.out.below hb2 HB.out.lt)
  have HRI2 := hid_of (row_below HRI.out hb2 (fun g e => (HRI.out.lt g e).2))
  have HBW2 := hid_of hb2
  have s2 := hb2.size
  have HNC : Hid (∀ j u, (C.flatMap taskEnc)[j]? = some u → ∃ b, a2 = some b ∧ w2.cell? (b.add j) = some u) := fun j u hj => by
    obtain ⟨a9, c9, h9, hc9⟩ := row_slice hrow2
    cases h9
    obtain ⟨g, h1, h2, h3, h4⟩ := hc9 j u hj
    exact ⟨_, h1, by rw [addr_add]; exact h4⟩
  have HFC : Hid ((C.flatMap taskEnc).length = n * 3) := by show _ = _; rw [← HN.out]; exact flat_length (sz := 3) (enc := taskEnc) (fun _ => rfl) _
  have x1 := HB2.out.cell (o := 1) rfl
  clear hb2 hrow2' hb2' hrow2 b0
  cases bb with
  | true =>
    have hlt : room < (L.length : Int) + (n : Int) := by have := HBB.out; simpa using this
    go_wp2_with fail
    go_ret
    exact ⟨rfl, Kept.of_below HBW2.out (fun b h1 h2 => by omega), by first | exact HBW2.out | (rw [if_pos hlt]; exact HBW2.out)⟩
  | false =>
    have hlt : ¬ room < (L.length : Int) + (n : Int) := by have := HBB.out; simpa using this
    have HTg : Hid ((Value.slice (some ⟨g, 0, none⟩) L.length c).ownBlock ≠ some T) := row_ne HRI2.out HB2.out (by decide)
    go_wp2_with (at_builtin; refine wpList_append_where rfl _ _ _ rfl 76 iT _ 3 32 Tryz.underlying52 hiT hzT0 hzT1 hzT2 rfl (by omega) g c L.length (L.flatMap taskEnc) rfl HRI2.out a2 n c2 (C.flatMap taskEnc) rfl HFC.out HNC.out (flat_one taskEnc_one _) (by unfold maxLen; omega) (by omega) ?_; intro g3 c3 w3 hown3 hgrow3 hat3; have hb3 : BoxAt w3 T 167 #[.slice (some ⟨g, 0, none⟩) (L.length + 1) c, .int .i64 room] := (hgrow3.block T HB2.out.lt (fun e => HTg.out e.symm)).trans HB2.out; have y0 := hb3.cell (o := 0) rfl; have f0 := hb3.frozen 0)
    go_ret
    have k23 : Kept (fun b => b = g) w2 w3 := Kept.grown hgrow3 (fun r e => by cases e; rfl)
    have k34 : Kept (· = T) w3 (w3.setCell ⟨T, 0, none⟩ (.slice (some ⟨g3, 0, none⟩) (L.length + n) c3)) := (Kept.refl _ _).setCell (.inl (by rfl)) _
    have kk : Kept X w (w3.setCell ⟨T, 0, none⟩ (.slice (some ⟨g3, 0, none⟩) (L.length + n) c3)) := ((Kept.of_below HBW2.out (X := X) (fun b h1 h2 => by omega)).andThen k23 (fun b _ h => by subst h; exact hXg')).andThen k34 (fun b _ h => by subst h; exact hXT)
    have hfin : (w3.setCell ⟨T, 0, none⟩ (.slice (some ⟨g3, 0, none⟩) (L.length + n) c3)).ownsRow 0 76 3 (.slice (some ⟨g3, 0, none⟩) (L.length + n) c3) (L.length + n) (L.flatMap taskEnc ++ C.flatMap taskEnc) := row_kept hown3 k34 (fun g e h => by subst h; exact row_ne hown3 hb3 (by decide) e) (Nat.le_refl _)
    have hTL : TaskListAt (fun b => X b ∨ w.heap.size ≤ b) (w3.setCell ⟨T, 0, none⟩ (.slice (some ⟨g3, 0, none⟩) (L.length + n) c3)) T room (L ++ C) := by
      refine ⟨_, hb3.setAt 0 _, .inl hXT, ?_, fun g' e => ?_⟩
      · rw [List.length_append, List.flatMap_append, HN.out]; exact hfin
      · simp [Value.ownBlock] at e
        subst e
        rcases hat3 with h | h
        · rw [h]; exact .inl hXg'
        · exact .inr (by omega)
    refine ⟨rfl, kk, ?_⟩
    first | exact hTL | (rw [if_neg hlt]; exact hTL)
end Go.Proofs.YtgbneeohaboncaaGreatDoor
