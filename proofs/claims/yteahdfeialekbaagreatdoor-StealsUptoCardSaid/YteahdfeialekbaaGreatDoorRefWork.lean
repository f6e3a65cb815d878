/-
  gleanref.New, the document's own answer: the errors of a Config and of a program; else a run whose first task is with worker 0.
-/
import Derived.Test.YteahdfeialekbaaGreatDoorRefTasks
import Derived.Test.YteahdfeialekbaaGreatDoorBooks
namespace Go.Proofs.YteahdfeialekbaaGreatDoor
open Go Go.RowKit
def msg0 : MsgS := ⟨0, 0, 0, 0, ⟨⟨#[]⟩, 0, 0⟩, (⟨#[]⟩, 0), false, false, 0, 0, 0, 0⟩
def worker0 : WorkerS := ⟨[], false, 0, 0, false, false, msg0⟩
def link0 : LinkS := ⟨[], 0, 0, []⟩
def cfgB (workers room mode : Int) : Bool := decide (2 <= workers) && decide (workers <= 5) && decide (1 <= room) && decide (room <= 20) && (decide (mode = 1) || decide (mode = 2))
def newS (workers room mode : Int) (ks : List KindS) (kind arg : Int) : RunS :=
 ⟨workers, room, mode, ks, kind, arg, { worker0 with tasks := [⟨⟨#[]⟩, kind, arg⟩], has := true } :: List.replicate (workers.toNat - 1) worker0, List.replicate workers.toNat (List.replicate workers.toNat link0), [], [], [], false, false, false⟩
def newE (workers room mode : Int) (ks : List KindS) (kind arg : Int) : Int := if cfgB workers room mode then (unfoldS ks kind arg).1 else 2
theorem wpList_append_any {P : Program} {w : World} {ops : Array Oper} {rest : List Oper} {o : Oper} {a : Act} {Q : Exit -> Act -> World -> Prop} (hgd : o.guard = none) (s x : Operand) (t : TypeId)
  (ho : o.op = .call { callee := .builtin .append, args := #[s, x], argTypes := #[t, t] })
  (base : Nat) (e : TypeId) (i : TypeInfo) (z : Value) (size bytes : Nat) (ht : P.underlying t = some (.slice e)) (hi : P.info? e = some i) (hz : i.zero = some z)
  (hsize : i.size = size) (hby : i.bytes = bytes) (hzs : z.cells.size = size) (hsz : 0 < size)
  (v : Value) (n : Nat) (xs : List Value) (hs : a.eval s = v) (hown : w.ownsRow base e size v n xs)
  (ad : Option Addr) (m c : Nat) (news : List Value) (hx : a.eval x = .slice ad m c) (hl : news.length = m * size) (hnews : ∀ j u, news[j]? = some u -> ∃ b, ad = some b /\ w.cell? (b.add j) = some u) (h1 : ∀ u ∈ news, u.oneCell' = true)
  (h63 : n + m <= maxLen) (hbytes : (n + m) * bytes <= 140737488355328) (hbase : base <= w.heap.size)
  (h : ∀ v' w', w'.ownsRow base e size v' (n + m) (xs ++ news) -> w.grownBy w' v.ownBlock -> wpList P ops Q rest (a.put o.dst v') w') : wpList P ops Q (o :: rest) a w := by
 cases ad with
 | some b =>
  exact wpList_append_own w hgd s x t ho base e i z size bytes ht hi hz hsize hby hzs hsz v n xs hs hown b m c news hx hl (fun j u hj => by obtain ⟨b', e', h'⟩ := hnews j u hj; cases e'; exact h') h1 h63 hbytes hbase (fun v' w' h2 h3 _ => h v' w' h2 h3)
 | none =>
  have hn0 : news = [] := by
   cases news with
   | nil => rfl
   | cons u r => obtain ⟨b, e', _⟩ := hnews 0 u rfl; cases e'
  subst hn0
  have hm : m = 0 := by
   have h' : m * size = 0 := by simpa using hl.symm
   rcases Nat.mul_eq_zero.1 h' with h' | h'
   ·exact h'
   ·omega
  subst hm
  refine wpList_plain hgd fun K hK => ?_
  have hrun : (Builtin.append_ #[t, t] o.type #[v, .slice none 0 c]).run P w = .ok v w := by
   rcases hown.2 with ⟨rfl, rfl⟩ | ⟨g, cap, cur, rfl, _, _, hnc, _⟩
   ·simp [Builtin.append_, run_underlying ht, sizeOf, typeInfo, hi, Builtin.lenOf, Builtin.firstCells]
   ·simp [Builtin.append_, run_underlying ht, sizeOf, typeInfo, hi, Builtin.lenOf, Builtin.firstCells, hnc, storeCells]
  unfold Oper.wp
  simp [execOp, ho, resolve, invoke, builtin, hs, hx, hrun, Result.andThen]
  exact hK _ _ (h v w (by simpa using hown) (World.grownBy.refl _ _))
theorem infoPWorker : (Tryz.prog.info? 138).map (fun i => (i.zero, i.size, i.bytes)) = some (some (.pointer none), 1, 8) := by kernel_rfl
theorem infoPLink : (Tryz.prog.info? 144).map (fun i => (i.zero, i.size, i.bytes)) = some (some (.pointer none), 1, 8) := by kernel_rfl
theorem infoSLink : (Tryz.prog.info? 143).map (fun i => (i.zero, i.size, i.bytes)) = some (some (.slice none 0 0), 1, 24) := by kernel_rfl
theorem ref_new_bad (a : Option Addr) (cap : Nat) (workers room mode kind arg : Int) (ks : List KindS) (w : World) (hk : KindsAt (fun _ => True) w (.slice a ks.length cap) ks) (hl : ks.length <= 9223372036854775806) (hl2 : ∀ k ∈ ks, k.kids.length <= 9223372036854775806) (hbad : newE workers room mode ks kind arg ≠ 0) :
  Calls Tryz.prog 37 #[.agg #[.int .i64 workers, .int .i64 room, .int .i64 mode], .agg #[.slice a ks.length cap, .int .i64 kind, .int .i64 arg]] w fun e w' => e = .returned (.tuple #[.pointer none, .int .i64 (newE workers room mode ks kind arg)]) /\ Below w.heap.size w w' := by
 obtain ⟨V, hV⟩ : ∃ V, (w.alloc (Obj.cells #[.int .i64 workers, .int .i64 room, .int .i64 mode] 39)).alloc (Obj.cells #[.slice a ks.length cap, .int .i64 kind, .int .i64 arg] 42) = V := ⟨_, rfl⟩
 have bC : BoxAt V w.heap.size 39 #[.int .i64 workers, .int .i64 room, .int .i64 mode] := by rw [<- hV]; exact (BoxAt.new w _ _).alloc _
 have bP : BoxAt V (w.heap.size + 1) 42 #[.slice a ks.length cap, .int .i64 kind, .int .i64 arg] := by
  rw [<- hV]; have := BoxAt.new (w.alloc (Obj.cells #[.int .i64 workers, .int .i64 room, .int .i64 mode] 39)) 42 #[.slice a ks.length cap, .int .i64 kind, .int .i64 arg]
  rw [World.size_alloc] at this; exact this
 have hbV : Below w.heap.size w V := by rw [<- hV]; exact ((Below.refl _ _).alloc (Nat.le_refl _) _).alloc (by simp) _
 have c0 := bC.cell (o := 0) rfl
 have c1 := bC.cell (o := 1) rfl
 have c2 := bC.cell (o := 2) rfl
 have p0 := bP.cell (o := 0) rfl
 have p1 := bP.cell (o := 1) rfl
 have p2 := bP.cell (o := 2) rfl
 have HKV : Hid (KindsAt (fun _ => True) V (.slice a ks.length cap) ks) := (hk.below.kept (Kept.of_below hbV (X := fun b => w.heap.size <= b) (fun _ _ h => h)) (fun b h1 h2 => by omega)).mono' (fun _ _ => trivial)
 have HBV : Hid (Below w.heap.size w V) := hbV
 have HL2 : Hid (∀ k ∈ ks, k.kids.length <= 9223372036854775806) := hl2
 go_enter Tryz.func37, Tryz.ntmps37
 clear bC bP hbV hk hl2
 by_cases hc : cfgB workers room mode = true
 ·have hn : newE workers room mode ks kind arg = (unfoldS ks kind arg).1 := by simp [newE, hc]
  rw [hn] at hbad ⊢
  have h1 : ¬ workers < 2 := by simp [cfgB] at hc; omega
  have h2 : ¬ workers > 5 := by simp [cfgB] at hc; omega
  have h3 : ¬ room < 1 := by simp [cfgB] at hc; omega
  have h4 : ¬ room > 20 := by simp [cfgB] at hc; omega
  have h5 : mode = 1 \/ mode = 2 := by simp [cfgB] at hc; omega
  clear hc hn
  rcases h5 with rfl | rfl
  all_goals
   go_upto_region 4 with (go_at_call 79; refine (ref_unfold_calls a cap kind arg ks V HKV.out hl HL2.out).mono ?_; rintro e w1 ⟨v1, rfl, -, hb1⟩)
   go_wp2_with fail
   go_ret2
   exact ⟨rfl, HBV.out.trans (hb1.mono HBV.out.size)⟩
 ·have hn : newE workers room mode ks kind arg = 2 := by simp [newE, hc]
  rw [hn]
  have hcase : workers < 2 \/ (¬ workers < 2 /\ workers > 5) \/ (¬ workers < 2 /\ ¬ workers > 5 /\ room < 1) \/ (¬ workers < 2 /\ ¬ workers > 5 /\ ¬ room < 1 /\ room > 20) \/ (¬ workers < 2 /\ ¬ workers > 5 /\ ¬ room < 1 /\ ¬ room > 20 /\ (mode != 1) = true /\ (mode != 2) = true) := by
   simp [cfgB] at hc ⊢
   omega
  clear hc hn hbad
  rcases hcase with h1 | ⟨h1, h2⟩ | ⟨h1, h2, h3⟩ | ⟨h1, h2, h3, h4⟩ | ⟨h1, h2, h3, h4, h5, h6⟩
  all_goals
   go_wp2_with fail
   go_ret2
   exact ⟨rfl, HBV.out⟩
def startE (s : RunS) : Int := if s.done then 5 else if s.over then 6 else 0
def workerE (s : RunS) (i : Int) : Int := if startE s = 0 /\ (i < 0 \/ s.workers <= i) then 7 else startE s
def wayS (s : RunS) (m : MsgS) : RunS := if s.way.length < 60 then { s with way := s.way ++ [m] } else s
def sendS (s : RunS) (m : MsgS) : RunS :=
 let ls := s.links[m.src.toNat]?.getD []
 let l := ls[m.dst.toNat]?.getD link0
 let m' := { m with no := l.all.length + 1 }
 let s1 := { s with links := s.links.set m.src.toNat (ls.set m.dst.toNat { l with all := l.all ++ [m'] }) }
 let x := s1.W[m.src.toNat]?.getD worker0
 let s2 := if m.kind = 2 \/ m.kind = 4 then { s1 with W := s1.W.set m.src.toNat { x with sent := x.sent + 1 } } else s1
 wayS s2 m'
def workS (s : RunS) (i : Int) : RunS × Int :=
 if workerE s i ≠ 0 then (s, workerE s i) else
  match s.W[i.toNat]? with
  | none => (s, 8)
  | some x =>
   match x.tasks.getLast? with
   | none => (s, 8)
   | some t =>
    if s.room < (x.tasks.length : Int) - 1 + ((children s.ks t).length : Int) then ({ s with over := true }, 6)
    else
     let s1 := { s with W := s.W.set i.toNat { x with tasks := x.tasks.dropLast ++ children s.ks t } }
     if i = 0 then ({ s1 with values := putS s.values (t.id, valueOf s.ks t) }, 0)
     else (sendS s1 { msg0 with src := i, dst := 0, kind := 4, v := (t.id, valueOf s.ks t) }, 0)
theorem ref_begins_nil (w : World) : Calls Tryz.prog 102 #[.pointer none] w fun e w' => e = .returned (.int .i64 1) /\ w' = w := by
 go_enter Tryz.func102, Tryz.ntmps102
 go_wp2_with fail
 go_ret
 exact ⟨rfl, rfl⟩
theorem ref_worker_nil (i : Int) (w : World) : Calls Tryz.prog 84 #[.pointer none, .int .i64 i] w fun e w' => e = .returned (.int .i64 1) /\ w' = w := by
 go_enter Tryz.func84, Tryz.ntmps84
 go_wp2_with (go_at_call 102; refine (ref_begins_nil w).mono ?_; rintro e w1 ⟨rfl, rfl⟩)
 go_ret
 exact ⟨rfl, rfl⟩
theorem ref_work_nil (i : Int) (w : World) : Calls Tryz.prog 48 #[.pointer none, .int .i64 i] w fun e w' => e = .returned (.int .i64 1) /\ w' = w := by
 go_enter Tryz.func48, Tryz.ntmps48
 go_wp2_with (go_at_call 84; refine (ref_worker_nil i w).mono ?_; rintro e w1 ⟨rfl, rfl⟩)
 go_ret
 exact ⟨rfl, rfl⟩
set_option maxHeartbeats 1000000 in
theorem ref_begins_calls (F : Nat -> Prop) (B : Nat) (s : RunS) (w : World) (hr : RefOK F w B s) : Calls Tryz.prog 102 #[.pointer (some ⟨B, 0, none⟩)] w fun e w' => e = .returned (.int .i64 (startE s)) /\ w' = w := by
 obtain ⟨part, -, kv, wv, lv, yv, vv, av, ps, rows, hb, -⟩ := hr
 have b13 : w.cell? ⟨B, 13, none⟩ = some (.bool s.over) := hb.cell (o := 13) rfl
 have b14 : w.cell? ⟨B, 14, none⟩ = some (.bool s.done) := hb.cell (o := 14) rfl
 clear hb
 obtain ⟨d, hd⟩ : ∃ d, s.done = d := ⟨_, rfl⟩
 obtain ⟨o, ho⟩ : ∃ o, s.over = o := ⟨_, rfl⟩
 have he : startE s = if d then 5 else if o then 6 else 0 := by simp [startE, hd, ho]
 rw [he]
 rw [hd] at b14
 rw [ho] at b13
 clear he hd ho
 go_enter Tryz.func102, Tryz.ntmps102
 cases d <;> cases o
 all_goals
  go_wp2_with fail
  go_ret
  exact ⟨rfl, rfl⟩
set_option maxHeartbeats 1000000 in
theorem ref_worker_calls (F : Nat -> Prop) (B : Nat) (s : RunS) (i : Int) (w : World) (hr : RefOK F w B s) : Calls Tryz.prog 84 #[.pointer (some ⟨B, 0, none⟩), .int .i64 i] w fun e w' => e = .returned (.int .i64 (workerE s i)) /\ w' = w := by
 have HB : Hid (Calls Tryz.prog 102 #[.pointer (some ⟨B, 0, none⟩)] w fun e w' => e = .returned (.int .i64 (startE s)) /\ w' = w) := ref_begins_calls F B s w hr
 obtain ⟨part, -, kv, wv, lv, yv, vv, av, ps, rows, hb, -⟩ := hr
 have b0 : w.cell? ⟨B, 0, none⟩ = some (.int .i64 s.workers) := hb.cell (o := 0) rfl
 clear hb
 obtain ⟨e, he⟩ : ∃ e, startE s = e := ⟨_, rfl⟩
 obtain ⟨n, hn⟩ : ∃ n, s.workers = n := ⟨_, rfl⟩
 have hw : workerE s i = if e = 0 /\ (i < 0 \/ n <= i) then 7 else e := by simp [workerE, he, hn]
 rw [hw]
 rw [he] at HB
 rw [hn] at b0
 clear hw he hn
 go_enter Tryz.func84, Tryz.ntmps84
 by_cases h0 : e = 0
 ·subst h0
  by_cases h1 : i < 0
  ·rw [if_pos ⟨rfl, .inl h1⟩]
   go_wp2_with (go_at_call 102; refine HB.out.mono ?_; rintro e w1 ⟨rfl, rfl⟩)
   go_ret
   exact ⟨rfl, rfl⟩
  ·by_cases h2 : n <= i
   ·rw [if_pos ⟨rfl, .inr h2⟩]
    go_wp2_with (go_at_call 102; refine HB.out.mono ?_; rintro e w1 ⟨rfl, rfl⟩)
    go_ret
    exact ⟨rfl, rfl⟩
   ·rw [if_neg (by omega)]
    go_wp2_with (go_at_call 102; refine HB.out.mono ?_; rintro e w1 ⟨rfl, rfl⟩)
    go_ret
    exact ⟨rfl, rfl⟩
 ·rw [if_neg (by omega)]
  have hb : (e == 0) = false := by rw [beq_eq_false_iff_ne]; exact h0
  go_wp2_with (go_at_call 102; refine HB.out.mono ?_; rintro e w1 ⟨rfl, rfl⟩)
  go_ret
  exact ⟨rfl, rfl⟩
end Go.Proofs.YteahdfeialekbaaGreatDoor
