/-
  A worker's youngest task; children put in its place, where there is room.
-/
import Derived.Test.YtdbbejedipfckaaGreatDoorXSteps
import Derived.Test.YtdbbejedipfckaaGreatDoorRefWork
namespace Go.Proofs.YtdbbejedipfckaaGreatDoor
open Go Go.RowKit

/-- The list without its last task is a list with room behind it. -/
theorem row_init {W : World} {base g c : Nat} {L : List TaskS} {t : TaskS} (h : W.ownsRow base 76 3 (.slice (some ⟨g, 0, none⟩) (L.length + 1) c) (L.length + 1) (L.flatMap taskEnc ++ taskEnc t)) : W.ownsRow base 76 3 (.slice (some ⟨g, 0, none⟩) L.length c) L.length (L.flatMap taskEnc) := by
  have hfl : (L.flatMap taskEnc).length = L.length * 3 := flat_length (sz := 3) (enc := taskEnc) (fun _ => rfl) L
  obtain ⟨h1, h2⟩ := h
  rcases h2 with ⟨h0, _⟩ | ⟨g', cap', cur, h0, hb, hcur, hnc, hcm, hcs, htk⟩
  · cases h0
  · cases h0
    refine ⟨hfl, .inr ⟨g, c, cur, rfl, hb, hcur, by omega, hcm, hcs, ?_⟩⟩
    have := congrArg (List.take (L.length * 3)) htk
    rw [List.take_take, Nat.min_eq_left (by omega), List.take_append_of_le_length (by omega), ← hfl, List.take_length] at this
    rw [← hfl]
    exact this
theorem row_last {W : World} {base g c : Nat} {L : List TaskS} {t : TaskS} (h : W.ownsRow base 76 3 (.slice (some ⟨g, 0, none⟩) (L.length + 1) c) (L.length + 1) (L.flatMap taskEnc ++ taskEnc t)) (j : Nat) (u : Value) (hj : (taskEnc t)[j]? = some u) : W.cell? ⟨g, L.length * 3 + j, none⟩ = some u := by
  have h1 := h.cells (g := g) rfl (L.length * 3 + j) u (by
    have hfl : (L.flatMap taskEnc).length = L.length * 3 := flat_length (sz := 3) (enc := taskEnc) (fun _ => rfl) L
    rw [List.getElem?_append_right (by omega), hfl, show L.length * 3 + j - L.length * 3 = j from by omega]
    exact hj)
  rwa [addr_add] at h1
theorem tasks_row {X : Nat → Prop} {W : World} {T : Nat} {room : Int} {L : List TaskS} {t : TaskS} (h : TaskListAt X W T room (L ++ [t])) : ∃ g c, BoxAt W T 169 #[.slice (some ⟨g, 0, none⟩) (L.length + 1) c, .int .i64 room] ∧ X T ∧ X g ∧ W.ownsRow 0 76 3 (.slice (some ⟨g, 0, none⟩) (L.length + 1) c) (L.length + 1) (L.flatMap taskEnc ++ taskEnc t) := by
  obtain ⟨tv, hb, hT, hr, hX⟩ := h
  rw [List.length_append, List.flatMap_append] at hr
  obtain ⟨g, c, rfl, -, -⟩ := World.ownsRow.form hr (by simp)
  exact ⟨g, c, hb, hT, hX g rfl, by simpa using hr⟩
/-- An append of any list to one of one's own that is not nil, and where it lies then. -/
theorem wpList_append_where {P : Program} {w : World} {ops : Array Oper} {rest : List Oper} {o : Oper} {a : Act} {Q : Exit → Act → World → Prop} (hgd : o.guard = none) (s x : Operand) (t : TypeId)
    (ho : o.op = .call { callee := .builtin .append, args := #[s, x], argTypes := #[t, t] })
    (e : TypeId) (i : TypeInfo) (z : Value) (size bytes : Nat) (ht : P.underlying t = some (.slice e)) (hi : P.info? e = some i) (hz : i.zero = some z)
    (hsize : i.size = size) (hby : i.bytes = bytes) (hzs : z.cells.size = size) (hsz : 0 < size)
    (g cap n : Nat) (xs : List Value) (hs : a.eval s = .slice (some ⟨g, 0, none⟩) n cap) (hown : w.ownsRow 0 e size (.slice (some ⟨g, 0, none⟩) n cap) n xs)
    (ad : Option Addr) (m c : Nat) (news : List Value) (hx : a.eval x = .slice ad m c) (hl : news.length = m * size) (hnews : ∀ j u, news[j]? = some u → ∃ b, ad = some b ∧ w.cell? (b.add j) = some u) (h1 : ∀ u ∈ news, u.oneCell' = true)
    (h63 : n + m ≤ maxLen) (hbytes : (n + m) * bytes ≤ 140737488355328)
    (h : ∀ g' c' w', w'.ownsRow 0 e size (.slice (some ⟨g', 0, none⟩) (n + m) c') (n + m) (xs ++ news) → w.grownBy w' (some g) → (g' = g ∨ w.heap.size ≤ g') → wpList P ops Q rest (a.put o.dst (.slice (some ⟨g', 0, none⟩) (n + m) c')) w') : wpList P ops Q (o :: rest) a w := by
  cases ad with
  | none =>
    have hn0 : news = [] := by
      cases news with
      | nil => rfl
      | cons u r => obtain ⟨b, e', _⟩ := hnews 0 u rfl; cases e'
    subst hn0
    have hm : m = 0 := by
      have h' : m * size = 0 := by simpa using hl.symm
      rcases Nat.mul_eq_zero.1 h' with h' | h'
      · exact h'
      · omega
    subst hm
    refine wpList_plain hgd fun K hK => ?_
    have hrun : (Builtin.append_ #[t, t] o.type #[.slice (some ⟨g, 0, none⟩) n cap, .slice none 0 c]).run P w = .ok (.slice (some ⟨g, 0, none⟩) n cap) w := by
      rcases hown.2 with ⟨h0, _⟩ | ⟨g', cap', cur, h0, _, _, hnc, _⟩
      · cases h0
      · cases h0
        simp [Builtin.append_, run_underlying ht, sizeOf, typeInfo, hi, Builtin.lenOf, Builtin.firstCells, hnc, storeCells]
    unfold Oper.wp
    simp [execOp, ho, resolve, invoke, builtin, hs, hx, hrun, Result.andThen]
    exact hK _ _ (h g cap w (by simpa using hown) (World.grownBy.refl _ _) (.inl rfl))
  | some b =>
    have hcells : ∀ j u, news[j]? = some u → w.cell? (b.add j) = some u := fun j u hj => by obtain ⟨b', e', h'⟩ := hnews j u hj; cases e'; exact h'
    by_cases hr : n + m ≤ cap
    · exact wpList_append_fits w hgd s x t ho 0 e i size ht hi hsize g n cap xs hs hown b m c news hx hl hcells h1 hr (fun w' h2 h3 => h g cap w' h2 h3 (.inl rfl))
    · have hnc : n ≤ cap := by
        rcases hown.2 with ⟨h0, _⟩ | ⟨g', cap', cur, h0, _, _, hnc, _⟩
        · cases h0
        · cases h0; exact hnc
      refine wpList_append_keeps hgd s x t ho 0 e i z size bytes ht hi hz hsize hby hzs hsz _ n xs hs hown b m c news hx hl hcells h1 (by omega) h63 hbytes (Nat.zero_le _) (fun g' c' w' h2 h3 h4 _ => h g' c' w' h2 h3 ?_)
      rcases h4 with h4 | h4
      · simp [Value.ownBlock] at h4; exact .inl h4.symm
      · exact .inr h4
set_option maxHeartbeats 1000000 in
set_option maxRecDepth 100000 in
theorem youngest_calls (X : Nat → Prop) (T : Nat) (room : Int) (L : List TaskS) (t : TaskS) (w : World) (ht : TaskListAt X w T room (L ++ [t])) (hl : L.length ≤ 1000) : Calls Tryz.prog 123 #[.pointer (some ⟨T, 0, none⟩)] w fun e w' => e = .returned (.agg #[.string t.id, .int .i64 t.kind, .int .i64 t.arg]) ∧ Below w.heap.size w w' := by
  obtain ⟨g, c, hb, -, -, hr⟩ := tasks_row ht
  obtain ⟨V, hV⟩ : ∃ V, w.alloc (Obj.cells #[.string ⟨#[]⟩, .int .i64 0, .int .i64 0] 76) = V := ⟨_, rfl⟩
  have hbV : Below w.heap.size w V := by rw [← hV]; exact (Below.refl _ _).alloc (Nat.le_refl _) _
  have bZ : BoxAt V w.heap.size 76 #[.string ⟨#[]⟩, .int .i64 0, .int .i64 0] := by rw [← hV]; exact BoxAt.new w _ _
  have hgl := (hr.lt g rfl).2
  have b0 := (hb.below hbV hb.lt).cell (o := 0) rfl
  have e0 : V.cell? ⟨g, L.length * 3, none⟩ = some (.string t.id) := (hbV.cell (p := ⟨g, L.length * 3, none⟩) hgl).trans (row_last hr 0 _ rfl)
  have e1 : V.cell? ⟨g, L.length * 3 + 1, none⟩ = some (.int .i64 t.kind) := (hbV.cell (p := ⟨g, L.length * 3 + 1, none⟩) hgl).trans (row_last hr 1 _ rfl)
  have e2 : V.cell? ⟨g, L.length * 3 + 2, none⟩ = some (.int .i64 t.arg) := (hbV.cell (p := ⟨g, L.length * 3 + 2, none⟩) hgl).trans (row_last hr 2 _ rfl)
  have z0 := bZ.cell (o := 0) rfl
  have z1 := bZ.cell (o := 1) rfl
  have z2 := bZ.cell (o := 2) rfl
  have f0 := bZ.frozen 0
  have f1 := bZ.frozen 1
  have f2 := bZ.frozen 2
  have hne : g ≠ w.heap.size := by omega
  have hneT : T ≠ w.heap.size := by have := hb.lt; omega
  have HBZ := hid_of bZ
  have HBV := hid_of hbV
  have j1 : (0 : Int) ≤ (L.length : Int) := by omega
  have j2 : (L.length : Int) < ((L.length + 1 : Nat) : Int) := by omega
  clear hb hr hbV bZ ht
  go_enter Tryz.func123, Tryz.ntmps123
  go_upto_region 1 with fail
  clear hV
  go_region
  all_goals
    go_wp2_with fail
    have hbz : BoxAt (((V.setCell ⟨w.heap.size, 0, none⟩ (.string t.id)).setCell ⟨w.heap.size, 1, none⟩ (.int .i64 t.kind)).setCell ⟨w.heap.size, 2, none⟩ (.int .i64 t.arg)).drew w.heap.size 76 #[.string t.id, .int .i64 t.kind, .int .i64 t.arg] := ((HBZ.out.setAt 0 _).setAt 1 _).setAt 2 _
    have r0 := hbz.cell (o := 0) rfl
    have r1 := hbz.cell (o := 1) rfl
    have r2 := hbz.cell (o := 2) rfl
    refine bodyPost_ret (v := .agg #[.string t.id, .int .i64 t.kind, .int .i64 t.arg]) (by simp [results, Tryz.results123, go_sem, r0, r1, r2]) rfl ⟨rfl, ?_⟩
    exact (((HBV.out.setCell (p := ⟨w.heap.size, 0, none⟩) (Nat.le_refl _) _).setCell (p := ⟨w.heap.size, 1, none⟩) (Nat.le_refl _) _).setCell (p := ⟨w.heap.size, 2, none⟩) (Nat.le_refl _) _).drew
set_option maxHeartbeats 2000000 in
set_option maxRecDepth 100000 in
theorem replace_calls (X : Nat → Prop) (T : Nat) (room : Int) (L C : List TaskS) (t : TaskS) (gf : Nat) (lb : Array Value) (w : World) (ht : TaskListAt X w T room (L ++ [t])) (hl : L.length ≤ 100) (hc : C.length ≤ 100) (eg : ∀ args w, (callFunc gf args).run Tryz.prog w = .ok (.enter gf args) w)
    (hseq : ∀ (n : Nat) (X : Nat → Prop) (U W : World), Below w.heap.size w U → Below U.heap.size U W → (∀ k, X k → U.heap.size ≤ k) → SeqY Fence.wide n Tryz.prog gf lb (fun c : TaskS => #[taskV c]) X C W) :
    Calls Tryz.prog 124 #[.pointer (some ⟨T, 0, none⟩), .func (.func gf) #[] lb] w fun e w' => e = .returned (.bool (!decide (room < (L.length : Int) + C.length))) ∧ Kept X w w' ∧ (if room < (L.length : Int) + C.length then Below w.heap.size w w' else TaskListAt (fun b => X b ∨ w.heap.size ≤ b) w' T room (L ++ C)) := by
  obtain ⟨iT, hiT, hzT0, hzT1, hzT2⟩ := info_parts infoTask
  obtain ⟨g, c, hb, hXT, hXg, hr⟩ := tasks_row ht
  have b0 := hb.cell (o := 0) rfl
  have hri := row_init hr
  have HC : Hid (∀ U, Below w.heap.size w U → Calls Tryz.prog 73 #[.func (.func gf) #[] lb] U fun e w' => ∃ v, e = .returned v ∧ w'.ownsRow U.heap.size 76 3 v C.length (C.flatMap taskEnc) ∧ Below U.heap.size U w') := fun U hU => collect_calls gf lb C U (by omega) eg (fun n X W hW hX => hseq n X U W hU hW hX)
  have HB := hid_of hb
  have HRI := hid_of hri
  have hgl := (hr.lt g rfl).2
  have hcap : L.length + 1 ≤ c := by
    rcases hr.2 with ⟨h0, _⟩ | ⟨g', cap', cur, h0, _, _, h1, _⟩
    · cases h0
    · cases h0; omega
  obtain ⟨n, hn⟩ : ∃ n, C.length = n := ⟨_, rfl⟩
  have HN : Hid (C.length = n) := hn
  rw [hn] at HC hc
  rw [hn]
  obtain ⟨bb, hbb⟩ : ∃ bb, decide (room < (L.length : Int) + n) = bb := ⟨_, rfl⟩
  have HBB : Hid (decide (room < (L.length : Int) + n) = bb) := hbb
  rw [hbb]
  have hXg' : X g := hXg
  clear hb hr hri ht hseq eg hn hbb
  have j3 : (L.length : Int) ≤ (c : Int) := by omega
  have j4 : L.length ≤ c := by omega
  have hwa : IntKind.i64.wrap ((L.length : Int) + (n : Int)) = (L.length : Int) + (n : Int) := IntWalk.i64_in _ (by omega)
  go_enter Tryz.func124, Tryz.ntmps124
  go_upto_region 1 with fail
  go_quiet (fail)
  go_upto_region 3 with (go_at_call 73; refine (HC.out _ (below_drewN (Below.refl _ _) _)).mono ?_; rintro e w2 ⟨v2, rfl, hrow2', hb2'⟩; obtain ⟨a2, c2, rfl⟩ := row_form hrow2')
  have hb2 : Below w.heap.size w w2 := (below_drewN (Below.refl _ _) nq).trans hb2'
  have hrow2 : w2.ownsRow w.heap.size 76 3 (.slice a2 n c2) n (C.flatMap taskEnc) := hrow2'
  have HB2 := hid_of (HB.out.below hb2 HB.out.lt)
  have HRI2 := hid_of (row_below HRI.out hb2 (fun g e => (HRI.out.lt g e).2))
  have HBW2 := hid_of hb2
  have s2 := hb2.size
  have HNC : Hid (∀ j u, (C.flatMap taskEnc)[j]? = some u → ∃ b, a2 = some b ∧ w2.cell? (b.add j) = some u) := fun j u hj => by
    obtain ⟨a9, c9, h9, hc9⟩ := row_slice hrow2
    cases h9
    obtain ⟨g, h1, h2, h3, h4⟩ := hc9 j u hj
    exact ⟨_, h1, by rw [addr_add]; exact h4⟩
  have HFC : Hid ((C.flatMap taskEnc).length = n * 3) := by show _ = _; rw [← HN.out]; exact flat_length (sz := 3) (enc := taskEnc) (fun _ => rfl) _
  have x1 := HB2.out.cell (o := 1) rfl
  clear hb2 hrow2' hb2' hrow2 b0
  cases bb with
  | true =>
    have hlt : room < (L.length : Int) + (n : Int) := by have := HBB.out; simpa using this
    go_wp2_with fail
    go_ret
    exact ⟨rfl, Kept.of_below HBW2.out (fun b h1 h2 => by omega), by first | exact HBW2.out | (rw [if_pos hlt]; exact HBW2.out)⟩
  | false =>
    have hlt : ¬ room < (L.length : Int) + (n : Int) := by have := HBB.out; simpa using this
    have HTg : Hid ((Value.slice (some ⟨g, 0, none⟩) L.length c).ownBlock ≠ some T) := row_ne HRI2.out HB2.out (by decide)
    go_wp2_with (at_builtin; refine wpList_append_where rfl _ _ _ rfl 76 iT _ 3 32 Tryz.underlying52 hiT hzT0 hzT1 hzT2 rfl (by omega) g c L.length (L.flatMap taskEnc) rfl HRI2.out a2 n c2 (C.flatMap taskEnc) rfl HFC.out HNC.out (flat_one taskEnc_one _) (by unfold maxLen; omega) (by omega) ?_; intro g3 c3 w3 hown3 hgrow3 hat3; have hb3 : BoxAt w3 T 169 #[.slice (some ⟨g, 0, none⟩) (L.length + 1) c, .int .i64 room] := (hgrow3.block T HB2.out.lt (fun e => HTg.out e.symm)).trans HB2.out; have y0 := hb3.cell (o := 0) rfl; have f0 := hb3.frozen 0)
    go_ret
    have k23 : Kept (fun b => b = g) w2 w3 := Kept.grown hgrow3 (fun r e => by cases e; rfl)
    have k34 : Kept (· = T) w3 (w3.setCell ⟨T, 0, none⟩ (.slice (some ⟨g3, 0, none⟩) (L.length + n) c3)) := (Kept.refl _ _).setCell (.inl (by rfl)) _
    have kk : Kept X w (w3.setCell ⟨T, 0, none⟩ (.slice (some ⟨g3, 0, none⟩) (L.length + n) c3)) := ((Kept.of_below HBW2.out (X := X) (fun b h1 h2 => by omega)).andThen k23 (fun b _ h => by subst h; exact hXg')).andThen k34 (fun b _ h => by subst h; exact hXT)
    have hfin : (w3.setCell ⟨T, 0, none⟩ (.slice (some ⟨g3, 0, none⟩) (L.length + n) c3)).ownsRow 0 76 3 (.slice (some ⟨g3, 0, none⟩) (L.length + n) c3) (L.length + n) (L.flatMap taskEnc ++ C.flatMap taskEnc) := row_kept hown3 k34 (fun g e h => by subst h; exact row_ne hown3 hb3 (by decide) e) (Nat.le_refl _)
    have hTL : TaskListAt (fun b => X b ∨ w.heap.size ≤ b) (w3.setCell ⟨T, 0, none⟩ (.slice (some ⟨g3, 0, none⟩) (L.length + n) c3)) T room (L ++ C) := by
      refine ⟨_, hb3.setAt 0 _, .inl hXT, ?_, fun g' e => ?_⟩
      · rw [List.length_append, List.flatMap_append, HN.out]; exact hfin
      · simp [Value.ownBlock] at e
        subst e
        rcases hat3 with h | h
        · rw [h]; exact .inl hXg'
        · exact .inr (by omega)
    refine ⟨rfl, kk, ?_⟩
    first | exact hTL | (rw [if_neg hlt]; exact hTL)
end Go.Proofs.YtdbbejedipfckaaGreatDoor
/-
  Worker 0 does its youngest task.
-/
namespace Go.Proofs.YtdbbejedipfckaaGreatDoor
open Go Go.RowKit Go.Maps Go.WideMaps

set_option maxHeartbeats 1000000 in
set_option maxRecDepth 100000 in
theorem bring_calls (B M b : Nat) (D : DataW Unit) (cells : Array Value) (id : ByteArray) (v : Int) (w : World) (hB : BoxAt w B 127 cells) (h5 : cells[5]? = some (.map (some M))) (hm : MapIs w M D) (hn : Maps.size D < 1000000) (hid : id.size ≤ 1000000) (hv : (Lit.int .i64 v).wf = true)
    (c0 : w.cell? ⟨b, 0, none⟩ = some (.string id)) (c1 : w.cell? ⟨b, 1, none⟩ = some (.int .i64 v)) (hb : b < w.heap.size) :
    Calls Tryz.prog 126 #[.pointer (some ⟨B, 0, none⟩), .int .i64 0, .slice (some ⟨b, 0, none⟩) 1 1] w fun e w' => (∃ u, e = .returned u) ∧ MapIs w' M (D.put (keyL id) (elemD v)) ∧ Kept (· = M) w w' := by
  have HK := hid_of (keep_calls M b 0 D id v w hm hn hid hv c0 c1 hb)
  have b5 := hB.cell (o := 5) h5
  clear hB hm
  go_enter Tryz.func126, Tryz.ntmps126
  go_wp2_with (go_at_call 64; refine HK.out.mono ?_; rintro e w1 ⟨⟨u, rfl⟩, hm1, hk1⟩)
  refine bodyPost_ret (results_none rfl _ _ _) rfl ?_
  exact ⟨⟨_, rfl⟩, hm1, hk1⟩
/-- What comes of a run whose worker 0 did its youngest task. -/
def doneS (s : RunS) (x : WorkerS) (L : List TaskS) (t : TaskS) : RunS × Int :=
  if s.room < (L.length : Int) + ((children s.ks t).length : Int) then ({ s with over := true }, 6) else ({ s with W := s.W.set 0 { x with tasks := L ++ children s.ks t }, values := putS s.values (t.id, valueOf s.ks t) }, 0)
set_option maxHeartbeats 4000000 in
set_option maxRecDepth 100000 in
theorem doYoungest1_calls (F : Nat → Prop) (B Br Bw : Nat) (s : RunS) (x : WorkerS) (L : List TaskS) (t : TaskS) (w : World) (hx : XOK F w B s) (hf : Fits s) (hk : s.W[0]? = some x) (hxt : x.tasks = L ++ [t]) (hv : s.values.length ≤ 900000) (hh : HeldAt w Br Bw B 0) (hF : ¬ F Br ∧ ¬ F Bw) :
    Calls Tryz.prog 122 #[.pointer (some ⟨Br, 0, none⟩), .pointer (some ⟨Bw, 0, none⟩)] w fun e w' => e = .returned (.int .i64 (doneS s x L t).2) ∧ XOK (fun b => F b ∨ w.heap.size ≤ b) w' B (doneS s x L t).1 ∧ Kept F w w' := by
  have hgd := hf.good x (List.mem_of_getElem? hk) t (by rw [hxt]; simp)
  have hGd : Good s.ks t := hgd.1
  have h12 : t.arg ≤ 12 := hgd.2
  have hprog := hf.prog
  have hL20 : L.length ≤ 19 := by
    have h1 := hf.few x (List.mem_of_getElem? hk)
    have := hf.rmax
    rw [hxt] at h1
    simp at h1
    omega
  have hch3 : (children s.ks t).length ≤ 3 := children_length hprog t
  obtain ⟨part, kv, yv, g, c, M, T, xs, y, hpF, hO, hy, hyT, ht, hc, hkl⟩ := x_worker hx hk
  have HO := hid_of hO
  have hb := hO.box
  have hpB := hO.pB
  have hks := hO.kinds
  obtain ⟨D, hm, hpM, hDs⟩ := hO.vals
  clear hO
  rw [hxt] at ht
  obtain ⟨ka, kc, hkf, -⟩ := id hks
  subst hkf
  have b3 : w.cell? ⟨B, 3, none⟩ = some (.slice (some ⟨g, 0, none⟩) xs.length c) := hb.cell (o := 3) rfl
  have r0 := hh.1.cell (o := 0) rfl
  have i0 := hh.2.cell (o := 0) rfl
  have hc' : w.cell? ⟨g, 0, none⟩ = some (.pointer (some ⟨T, 0, none⟩)) := by simpa using hc
  have j2 : (0 : Int) < (xs.length : Int) := by omega
  have j3 : 0 < xs.length := hkl
  obtain ⟨res, hres⟩ : ∃ res, doneS s x L t = res := ⟨_, rfl⟩
  have HRES := hid_of hres
  rw [hres]
  have HB := hid_of hb
  have HKS := hid_of hks
  have HM := hid_of hm
  have HT := hid_of ht
  have HH := hid_of hh
  have HPF := hid_of hpF
  have HPB : Hid (part B = 1) := hpB
  have HPM : Hid (part M = 3) := hpM
  have HY : Hid (xs[0]? = some y) := hy
  have HYT : Hid (y.1 = T) := hyT
  have HXT : Hid (x.tasks = L ++ [t]) := hxt
  have HKX : Hid (s.W[0]? = some x) := hk
  have HY0 : Hid (∀ U, Below w.heap.size w U → Calls Tryz.prog 123 #[.pointer (some ⟨T, 0, none⟩)] U fun e w' => e = .returned (.agg #[.string t.id, .int .i64 t.kind, .int .i64 t.arg]) ∧ Below w.heap.size w w') := fun U hU => by
    refine (youngest_calls (fun b => part b = 10 + 0) T s.room L t U (ht.kept (Kept.of_below hU (X := fun b => w.heap.size ≤ b) (fun _ _ h => h)) (fun g hg h => ⟨by omega, h⟩)) (by omega)).mono ?_
    rintro e w' ⟨rfl, h1⟩
    exact ⟨rfl, hU.trans (h1.mono hU.size)⟩
  clear hx hb hks hm ht hh hpF hpB hpM hy hyT hxt hk hres hgd hc
  go_enter Tryz.func122, Tryz.ntmps122
  go_upto_region 1 with fail
  go_quiet (fail)
  go_upto_region 3 with (go_at_call 123; refine (HY0.out _ (below_drewN (Below.refl _ _) _)).mono ?_; rintro e w1 ⟨rfl, hb1⟩)
  obtain ⟨w2, hw2⟩ : ∃ w2, w1.alloc (Obj.cells #[.string t.id, .int .i64 t.kind, .int .i64 t.arg] 76) = w2 := ⟨_, rfl⟩
  have s1 := hb1.size
  have hb2 : Below w.heap.size w w2 := by rw [← hw2]; exact hb1.alloc s1 _
  have HT2 : Hid (BoxAt w2 w1.heap.size 76 #[.string t.id, .int .i64 t.kind, .int .i64 t.arg]) := by rw [← hw2]; exact BoxAt.new w1 _ _
  rw [hw2]
  clear hw2 hb1 b3 r0 i0 hc'
  have HB2 := hid_of hb2
  have s2 := hb2.size
  have HR2 := hid_of (HB.out.below hb2 HB.out.lt)
  have HH2 := hid_of (show HeldAt w2 Br Bw B 0 from ⟨HH.out.1.below hb2 HH.out.1.lt, HH.out.2.below hb2 HH.out.2.lt⟩)
  have hbl := HB.out.lt
  have hrl := HH.out.1.lt
  have r0 := HH2.out.1.cell (o := 0) rfl
  have b0 : w2.cell? ⟨B, 0, none⟩ = some (.slice ka s.ks.length kc) := HR2.out.cell (o := 0) rfl
  have b1 : w2.cell? ⟨B, 1, none⟩ = some (.int .i64 s.kind) := HR2.out.cell (o := 1) rfl
  have b2 : w2.cell? ⟨B, 2, none⟩ = some (.int .i64 s.arg) := HR2.out.cell (o := 2) rfl
  have x0 := HT2.out.cell (o := 0) rfl
  have x1 := HT2.out.cell (o := 1) rfl
  have x2 := HT2.out.cell (o := 2) rfl
  have HKU : Hid (∀ U, Below w.heap.size w U → KindsAt (fun b => part b = 6 ∧ b < w.heap.size) U (.slice ka s.ks.length kc) s.ks) := fun U hU => HKS.out.below.kept (Kept.of_below (X := fun b => w.heap.size ≤ b) hU (fun _ _ h => h)) (fun b h => by omega)
  have HCH : Hid (∀ U, Below w2.heap.size w2 U → Calls Tryz.prog 125 #[.agg #[.slice ka s.ks.length kc, .int .i64 s.kind, .int .i64 s.arg], .agg #[.string t.id, .int .i64 t.kind, .int .i64 t.arg]] U fun e w' => ∃ v, e = .returned v ∧ ∃ Bp Bt, v = .func (.func 150) #[] #[.pointer (some ⟨Bp, 0, none⟩), .pointer (some ⟨Bt, 0, none⟩)] ∧ BoxAt w' Bp 42 #[.slice ka s.ks.length kc, .int .i64 s.kind, .int .i64 s.arg] ∧ BoxAt w' Bt 76 #[.string t.id, .int .i64 t.kind, .int .i64 t.arg] ∧ w2.heap.size ≤ Bp ∧ w2.heap.size ≤ Bt ∧ Below w2.heap.size w2 w') := fun U hU => by
    refine ((callsIn_wide (n := 5)).1 (children_in Fence.wide 5 trivial rfl ka s.ks.length kc s.kind s.arg t.id t.kind t.arg U)).mono ?_
    rintro e w' ⟨rfl, rfl⟩
    have hz := hU.size
    refine ⟨_, rfl, U.heap.size, U.heap.size + 1, rfl, (BoxAt.new U _ _).alloc _, boxAt_at _ _ _ _ (by simp), hz, by omega, (hU.alloc hU.size _).alloc (by simp; omega) _⟩
  have HRP : Hid (∀ U Bp Bt, Below w2.heap.size w2 U → BoxAt U Bp 42 #[.slice ka s.ks.length kc, .int .i64 s.kind, .int .i64 s.arg] → BoxAt U Bt 76 #[.string t.id, .int .i64 t.kind, .int .i64 t.arg] → Calls Tryz.prog 124 #[.pointer (some ⟨T, 0, none⟩), .func (.func 150) #[] #[.pointer (some ⟨Bp, 0, none⟩), .pointer (some ⟨Bt, 0, none⟩)]] U fun e w' => ∃ v, e = .returned v ∧ v = .bool (!decide (s.room < (L.length : Int) + (children s.ks t).length)) ∧ Kept (fun b => part b = 10 ∧ b < w.heap.size) w2 w' ∧ (if s.room < (L.length : Int) + (children s.ks t).length then Below w2.heap.size w2 w' else TaskListAt (fun b => (part b = 10 ∧ b < w.heap.size) ∨ w2.heap.size ≤ b) w' T s.room (L ++ children s.ks t))) := fun U Bp Bt hU hBp hBt => by
    have hwU : Below w.heap.size w U := HB2.out.trans (hU.mono s2)
    have htU : TaskListAt (fun b => part b = 10 ∧ b < w.heap.size) U T s.room (L ++ [t]) := HT.out.kept (Kept.of_below hwU (X := fun b => w.heap.size ≤ b) (fun _ _ h => h)) (fun g hg h => ⟨by omega, by simpa using h, hg⟩)
    refine (replace_calls _ T s.room L (children s.ks t) t 150 #[.pointer (some ⟨Bp, 0, none⟩), .pointer (some ⟨Bt, 0, none⟩)] U htU (by omega) (by omega) (enters_of Tryz.func150 (by kernel_rfl) rfl) (fun n X U' W hU' hW hX => ?_)).mono ?_
    · have hbUW : Below U.heap.size U W := hU'.trans (hW.mono hU'.size)
      have hbp := hBp.lt
      have hbt := hBt.lt
      have hz := hU'.size
      have hwz := hwU.size
      exact children1_seqY n Bp Bt X (fun b => part b = 6 ∧ b < w.heap.size) ka kc s.kind s.arg s.ks t (children s.ks t) rfl W (hBp.below hbUW hbp) (hBt.below hbUW hbt) (HKU.out W (hwU.trans (hbUW.mono hwz))) (fun b h h' => by have := hX b h'; omega) (fun h' => by have := hX _ h'; omega) hprog hGd.1 hGd.2.1 hGd.2.2.1 h12 (by have := hGd.2.2.2; have := hGd.2.2.1; omega)
    · rintro e w' ⟨rfl, h1, h2⟩
      have hz := hU.size
      refine ⟨_, rfl, rfl, (Kept.of_below hU (X := fun b => part b = 10 ∧ b < w.heap.size) (fun b h1 h2 => by omega)).trans h1, ?_⟩
      split
      · rename_i hlt; rw [if_pos hlt] at h2; exact hU.trans (h2.mono hz)
      · rename_i hlt; rw [if_neg hlt] at h2; exact h2.kept (Kept.refl (fun _ => False) _) (fun g _ h => ⟨fun h => h, by omega⟩)
  obtain ⟨n, hn⟩ : ∃ n, (children s.ks t).length = n := ⟨_, rfl⟩
  have HN : Hid ((children s.ks t).length = n) := hn
  rw [hn] at HRP hch3
  clear hn hb2
  go_cut [23] (fun bv wx => bv = .bool (decide (s.room < (L.length : Int) + n)) ∧ Kept (fun b => part b = 10 ∧ b < w.heap.size) w2 wx ∧ (if s.room < (L.length : Int) + n then Below w2.heap.size w2 wx else TaskListAt (fun b => (part b = 10 ∧ b < w.heap.size) ∨ w2.heap.size ≤ b) wx T s.room (L ++ children s.ks t)))
  case first =>
    go_region_law (first
      | (refine step_call2 (by rfl) 125 _ _ _ (by rfl) (.agg #[.slice ka s.ks.length kc, .int .i64 s.kind, .int .i64 s.arg]) (.agg #[.string t.id, .int .i64 t.kind, .int .i64 t.arg]) (by rfl) (by rfl) (enters_of Tryz.func125 (by kernel_rfl) rfl) (HCH.out _ (by first | assumption | exact Below.refl _ _ | exact (Below.refl _ _).drew | exact Below.drew (by assumption))) ?_; rintro v3 w3 ⟨Bp, Bt, rfl, hBp, hBt, hpl, htl', hb3⟩)
      | (refine step_call2 (by rfl) 124 _ _ _ (by rfl) (.pointer (some ⟨T, 0, none⟩)) (.func (.func 150) #[] #[.pointer (some ⟨Bp, 0, none⟩), .pointer (some ⟨Bt, 0, none⟩)]) (by rfl) (by rfl) (enters_of Tryz.func124 (by kernel_rfl) rfl) (HRP.out _ Bp Bt (by first | assumption | exact Below.drew (by assumption)) (by first | assumption | exact hBp) (by first | assumption | exact hBt)) ?_; rintro v4 w4 ⟨rfl, hk4, hif4⟩))
    all_goals
      go_wp2_with fail
      go_meet
      case rel => exact ⟨by simp, by first | exact hk4 | exact hk4.drew, by first | exact hif4 | (split <;> simp_all)⟩
  case rest =>
    obtain ⟨rfl, hk4, hif4⟩ := hcut
    rename World => w4
    have HK4 := hid_of hk4
    have s4 := hk4.size
    have hTl : T < w.heap.size := by obtain ⟨_, h, _⟩ := HT.out; exact h.lt
    have npB : ¬ (part B = 10 ∧ B < w.heap.size) := fun h => by have := HPB.out; omega
    have hpr : part Br = 0 := by
      rcases Nat.eq_zero_or_pos (part Br) with h | h
      · exact h
      · exact absurd (HPF.out Br (by omega)) hF.1
    have hpw : part Bw = 0 := by
      rcases Nat.eq_zero_or_pos (part Bw) with h | h
      · exact h
      · exact absurd (HPF.out Bw (by omega)) hF.2
    have HR4 := hid_of (HR2.out.kept hk4 npB)
    have HH4 : Hid (HeldAt w4 Br Bw B 0) := ⟨HH2.out.1.kept hk4 (by omega), HH2.out.2.kept hk4 (by omega)⟩
    have HT4 := hid_of (HT2.out.kept hk4 (by omega))
    have HK04 : Hid (Kept (fun b => part b = 10 ∧ b < w.heap.size) w w4) := (Kept.of_below HB2.out (X := fun b => part b = 10 ∧ b < w.heap.size) (fun b h1 h2 => by omega)).trans hk4
    have HKS4 := hid_of (HKS.out.below.kept HK04.out (fun b h1 h2 => by omega))
    have HM4 := hid_of (HM.out.kept HK04.out (fun h => by have := HPM.out; omega))
    have HML := HM.out.lt
    clear r0 b0 b1 b2 x0 x1 x2 hk4
    have r0 := HH4.out.1.cell (o := 0) rfl
    by_cases hlt : s.room < (L.length : Int) + (n : Int)
    · have hd : decide (s.room < (L.length : Int) + (n : Int)) = true := decide_eq_true hlt
      rw [hd]
      rw [if_pos hlt] at hif4
      have hres : res = ({ s with over := true }, 6) := by rw [← HRES.out]; unfold doneS; rw [HN.out, if_pos hlt]
      have HRS := hid_of hres
      have hwb : Below w.heap.size w w4 := HB2.out.trans (hif4.mono s2)
      have HWB := hid_of hwb
      have c6 := HR4.out.cell (o := 6) rfl
      have f6 := HR4.out.frozen 6
      clear hd hres hwb hif4
      go_wp2_with fail
      go_ret
      rw [HRS.out]
      have k5 : Kept (· = B) w (w4.setCell ⟨B, 6, none⟩ (.bool true)) := (Kept.of_below HWB.out (X := (· = B)) (fun b h1 h2 => by omega)).andThen ((Kept.refl (· = B) w4).setCell (.inl (by rfl)) _) (fun b _ h => h)
      obtain ⟨h8, hm8⟩ := HO.out.over k5 (HR4.out.setAt 6 _)
      obtain ⟨h9, hk9⟩ := hm8.okX h8 HPF.out
      exact ⟨rfl, h9, hk9⟩
    · have hd : decide (s.room < (L.length : Int) + (n : Int)) = false := decide_eq_false hlt
      rw [hd]
      rw [if_neg hlt] at hif4
      have hres : res = ({ s with W := s.W.set 0 { x with tasks := L ++ children s.ks t }, values := putS s.values (t.id, valueOf s.ks t) }, 0) := by rw [← HRES.out]; unfold doneS; rw [HN.out, if_neg hlt]
      have HRS := hid_of hres
      have HTL4 := hid_of hif4
      have i0 := HH4.out.2.cell (o := 0) rfl
      have b0 : w4.cell? ⟨B, 0, none⟩ = some (.slice ka s.ks.length kc) := HR4.out.cell (o := 0) rfl
      have b1 : w4.cell? ⟨B, 1, none⟩ = some (.int .i64 s.kind) := HR4.out.cell (o := 1) rfl
      have b2 : w4.cell? ⟨B, 2, none⟩ = some (.int .i64 s.arg) := HR4.out.cell (o := 2) rfl
      have x0 := HT4.out.cell (o := 0) rfl
      have x1 := HT4.out.cell (o := 1) rfl
      have x2 := HT4.out.cell (o := 2) rfl
      have hMB : M ≠ B := fun h => by have h1 := HPB.out; have h2 := HPM.out; rw [h] at h2; omega
      have hMr : M ≠ Br := fun h => by have h2 := HPM.out; rw [h] at h2; omega
      have hMw : M ≠ Bw := fun h => by have h2 := HPM.out; rw [h] at h2; omega
      have HST : Hid (∀ U, Kept (· = M) w4 U → Kept (· = M) w4 U ∧ U.cell? ⟨Br, 0, none⟩ = some (.pointer (some ⟨B, 0, none⟩)) ∧ U.cell? ⟨Bw, 0, none⟩ = some (.int .i64 0) ∧ U.cell? ⟨B, 0, none⟩ = some (.slice ka s.ks.length kc) ∧ U.cell? ⟨B, 1, none⟩ = some (.int .i64 s.kind) ∧ U.cell? ⟨B, 2, none⟩ = some (.int .i64 s.arg) ∧ U.cell? ⟨w1.heap.size, 0, none⟩ = some (.string t.id) ∧ U.cell? ⟨w1.heap.size, 1, none⟩ = some (.int .i64 t.kind) ∧ U.cell? ⟨w1.heap.size, 2, none⟩ = some (.int .i64 t.arg)) := fun U hU =>
        ⟨hU, (hU.cell (p := ⟨Br, 0, none⟩) HH4.out.1.lt (fun h => hMr h.symm)).trans r0, (hU.cell (p := ⟨Bw, 0, none⟩) HH4.out.2.lt (fun h => hMw h.symm)).trans i0, (hU.cell (p := ⟨B, 0, none⟩) HR4.out.lt (fun h => hMB h.symm)).trans b0, (hU.cell (p := ⟨B, 1, none⟩) HR4.out.lt (fun h => hMB h.symm)).trans b1, (hU.cell (p := ⟨B, 2, none⟩) HR4.out.lt (fun h => hMB h.symm)).trans b2,
          (hU.cell (p := ⟨w1.heap.size, 0, none⟩) HT4.out.lt (fun h => by have h' : w1.heap.size = M := h; omega)).trans x0, (hU.cell (p := ⟨w1.heap.size, 1, none⟩) HT4.out.lt (fun h => by have h' : w1.heap.size = M := h; omega)).trans x1, (hU.cell (p := ⟨w1.heap.size, 2, none⟩) HT4.out.lt (fun h => by have h' : w1.heap.size = M := h; omega)).trans x2⟩
      have HVA : Hid (∀ U, Below w4.heap.size w4 U → Calls Tryz.prog 65 #[.agg #[.slice ka s.ks.length kc, .int .i64 s.kind, .int .i64 s.arg], .agg #[.string t.id, .int .i64 t.kind, .int .i64 t.arg]] U fun e w' => e = .returned (.agg #[.string t.id, .int .i64 (valueOf s.ks t)]) ∧ Below w4.heap.size w4 w' ∧ (∀ o, Below w4.heap.size w4 (w'.alloc o)) ∧ Kept (· = M) w4 w') := fun U hU => by
        refine (value_calls (.slice ka s.ks.length kc) s.kind s.arg s.ks t _ U (HKS4.out.kept (Kept.of_below (X := fun b => w4.heap.size ≤ b) hU (fun _ _ h => h)) (fun b h => by omega)) hprog hGd.1 hGd.2.1 hGd.2.2.1 h12).mono ?_
        rintro e w' ⟨rfl, h1⟩
        have h2 := hU.trans (h1.mono hU.size)
        exact ⟨rfl, h2, fun o => h2.alloc h2.size o, Kept.of_below h2 (fun b h1 h2 => by omega)⟩
      have HBR : Hid (∀ U b, Below w4.heap.size w4 U → U.cell? ⟨b, 0, none⟩ = some (.string t.id) → U.cell? ⟨b, 1, none⟩ = some (.int .i64 (valueOf s.ks t)) → b < U.heap.size → Calls Tryz.prog 126 #[.pointer (some ⟨B, 0, none⟩), .int .i64 0, .slice (some ⟨b, 0, none⟩) 1 1] U fun e w' => ∃ u, e = .returned u ∧ MapIs w' M (D.put (keyL t.id) (elemD (valueOf s.ks t))) ∧ Kept (· = M) w4 w') := fun U b hU c0 c1 hbl => by
        refine (bring_calls B M b D _ t.id (valueOf s.ks t) U (HR4.out.below hU HR4.out.lt) rfl (HM4.out.below hU HM4.out.lt) (by omega) (by have := hGd.2.2.2; have := hGd.2.2.1; omega) (valueOf_wf hprog hGd) c0 c1 hbl).mono ?_
        rintro e w' ⟨⟨u, rfl⟩, h1, h2⟩
        exact ⟨u, rfl, h1, (Kept.of_below hU (X := (· = M)) (fun b h1 h2 => by omega)).trans h2⟩
      clear hd hres hif4
      go_upto_region 6 with fail
      go_region_held3 (fun U => Kept (· = M) w4 U ∧ U.cell? ⟨Br, 0, none⟩ = some (.pointer (some ⟨B, 0, none⟩)) ∧ U.cell? ⟨Bw, 0, none⟩ = some (.int .i64 0) ∧ U.cell? ⟨B, 0, none⟩ = some (.slice ka s.ks.length kc) ∧ U.cell? ⟨B, 1, none⟩ = some (.int .i64 s.kind) ∧ U.cell? ⟨B, 2, none⟩ = some (.int .i64 s.arg) ∧ U.cell? ⟨w1.heap.size, 0, none⟩ = some (.string t.id) ∧ U.cell? ⟨w1.heap.size, 1, none⟩ = some (.int .i64 t.kind) ∧ U.cell? ⟨w1.heap.size, 2, none⟩ = some (.int .i64 t.arg))
        (first | assumption | (exact HST.out _ (by assumption)) | (exact HST.out _ (Kept.refl _ _)) | (exact HST.out _ (Kept.refl _ _).drew) | (exact HST.out _ ((And.left (by assumption) : Kept (· = M) w4 _).trans (Kept.alloc _ _ _))) | (exact HST.out _ ((by assumption : Kept (· = M) w4 _).trans (Kept.alloc _ _ _))))
        (first
        | (go_at_call 65; refine (HVA.out _ (by first | assumption | exact Below.refl _ _ | exact (Below.refl _ _).drew)).mono ?_; rintro e w5 ⟨rfl, hb5, hb5a, hk5⟩)
        | (go_at_call 126; refine (HBR.out _ _ (by first | assumption | exact hb5a _) (by simp) (by simp) (by simp)).mono ?_; rintro e w6 ⟨u6, rfl, hm6, hk6⟩))
      all_goals
        go_wp2_with fail
        go_ret
        rw [HRS.out]
        have htidy : Tidy D := World.ownsMap.tidy HM.out strKeyed
        have hsz : Maps.size (D.put (keyL t.id) (elemD (valueOf s.ks t))) ≤ (putS s.values (t.id, valueOf s.ks t)).length := by
          rw [size_put htidy, putS_length]
          split <;> omega
        have k7 : Kept (fun g => part g = 10 + 0) w w4 := HK04.out.mono (fun b _ h => h.1)
        obtain ⟨h7, hm7⟩ := HO.out.retasks (l := L ++ children s.ks t) HY.out HKX.out k7 (by
          rw [HYT.out]
          exact HTL4.out.kept (Kept.refl (fun _ => False) w4) (fun b _ h => ⟨fun h => h, by
            rcases h with h | h
            · exact .inl h
            · exact .inr (by omega)⟩))
        obtain ⟨h8, hm8⟩ := h7.revals (vs := putS s.values (t.id, valueOf s.ks t)) hk6 ⟨_, hm6, (ext_old HML).trans HPM.out, hsz⟩
        obtain ⟨h9, hk9⟩ := (hm7.trans hm8).okX h8 HPF.out
        exact ⟨rfl, h9, hk9⟩
end Go.Proofs.YtdbbejedipfckaaGreatDoor
