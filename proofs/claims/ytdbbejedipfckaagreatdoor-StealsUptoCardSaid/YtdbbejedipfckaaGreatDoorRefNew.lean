/-
  gleanref.New, the document's own answer: the errors of a Config and of a program; else a run whose first task is with worker 0.
-/
import Derived.Test.YtdbbejedipfckaaGreatDoorRefTasks
import Derived.Test.YtdbbejedipfckaaGreatDoorCopyK
namespace Go.Proofs.YtdbbejedipfckaaGreatDoor
open Go Go.RowKit

def msg0 : MsgS := ⟨0, 0, 0, 0, ⟨⟨#[]⟩, 0, 0⟩, (⟨#[]⟩, 0), false, false, 0, 0, 0, 0⟩
def worker0 : WorkerS := ⟨[], false, 0, 0, false, false, msg0⟩
def link0 : LinkS := ⟨[], 0, 0, []⟩
def cfgB (workers room mode : Int) : Bool := decide (2 ≤ workers) && decide (workers ≤ 5) && decide (1 ≤ room) && decide (room ≤ 20) && (decide (mode = 1) || decide (mode = 2))
/-- A run at its beginning. -/
def newS (workers room mode : Int) (ks : List KindS) (kind arg : Int) : RunS :=
  ⟨workers, room, mode, ks, kind, arg, { worker0 with tasks := [⟨⟨#[]⟩, kind, arg⟩], has := true } :: List.replicate (workers.toNat - 1) worker0, List.replicate workers.toNat (List.replicate workers.toNat link0), [], [], [], false, false, false⟩
/-- New's error. -/
def newE (workers room mode : Int) (ks : List KindS) (kind arg : Int) : Int := if cfgB workers room mode then (unfoldS ks kind arg).1 else 2

/-- An append of any list to one of one's own. -/
theorem wpList_append_any {P : Program} {w : World} {ops : Array Oper} {rest : List Oper} {o : Oper} {a : Act} {Q : Exit → Act → World → Prop} (hgd : o.guard = none) (s x : Operand) (t : TypeId)
    (ho : o.op = .call { callee := .builtin .append, args := #[s, x], argTypes := #[t, t] })
    (base : Nat) (e : TypeId) (i : TypeInfo) (z : Value) (size bytes : Nat) (ht : P.underlying t = some (.slice e)) (hi : P.info? e = some i) (hz : i.zero = some z)
    (hsize : i.size = size) (hby : i.bytes = bytes) (hzs : z.cells.size = size) (hsz : 0 < size)
    (v : Value) (n : Nat) (xs : List Value) (hs : a.eval s = v) (hown : w.ownsRow base e size v n xs)
    (ad : Option Addr) (m c : Nat) (news : List Value) (hx : a.eval x = .slice ad m c) (hl : news.length = m * size) (hnews : ∀ j u, news[j]? = some u → ∃ b, ad = some b ∧ w.cell? (b.add j) = some u) (h1 : ∀ u ∈ news, u.oneCell' = true)
    (h63 : n + m ≤ maxLen) (hbytes : (n + m) * bytes ≤ 140737488355328) (hbase : base ≤ w.heap.size)
    (h : ∀ v' w', w'.ownsRow base e size v' (n + m) (xs ++ news) → w.grownBy w' v.ownBlock → wpList P ops Q rest (a.put o.dst v') w') : wpList P ops Q (o :: rest) a w := by
  cases ad with
  | some b =>
    exact wpList_append_own w hgd s x t ho base e i z size bytes ht hi hz hsize hby hzs hsz v n xs hs hown b m c news hx hl (fun j u hj => by obtain ⟨b', e', h'⟩ := hnews j u hj; cases e'; exact h') h1 h63 hbytes hbase (fun v' w' h2 h3 _ => h v' w' h2 h3)
  | none =>
    have hn0 : news = [] := by
      cases news with
      | nil => rfl
      | cons u r => obtain ⟨b, e', _⟩ := hnews 0 u rfl; cases e'
    subst hn0
    have hm : m = 0 := by
      have h' : m * size = 0 := by simpa using hl.symm
      rcases Nat.mul_eq_zero.1 h' with h' | h'
      · exact h'
      · omega
    subst hm
    refine wpList_plain hgd fun K hK => ?_
    have hrun : (Builtin.append_ #[t, t] o.type #[v, .slice none 0 c]).run P w = .ok v w := by
      rcases hown.2 with ⟨rfl, rfl⟩ | ⟨g, cap, cur, rfl, _, _, hnc, _⟩
      · simp [Builtin.append_, run_underlying ht, sizeOf, typeInfo, hi, Builtin.lenOf, Builtin.firstCells]
      · simp [Builtin.append_, run_underlying ht, sizeOf, typeInfo, hi, Builtin.lenOf, Builtin.firstCells, hnc, storeCells]
    unfold Oper.wp
    simp [execOp, ho, resolve, invoke, builtin, hs, hx, hrun, Result.andThen]
    exact hK _ _ (h v w (by simpa using hown) (World.grownBy.refl _ _))

theorem infoPWorker : (Tryz.prog.info? 137).map (fun i => (i.zero, i.size, i.bytes)) = some (some (.pointer none), 1, 8) := by kernel_rfl
theorem infoPLink : (Tryz.prog.info? 143).map (fun i => (i.zero, i.size, i.bytes)) = some (some (.pointer none), 1, 8) := by kernel_rfl
theorem infoSLink : (Tryz.prog.info? 142).map (fun i => (i.zero, i.size, i.bytes)) = some (some (.slice none 0 0), 1, 24) := by kernel_rfl

/-- New refuses a Config, or what is no program, or one that is too large. -/
theorem ref_new_bad (a : Option Addr) (cap : Nat) (workers room mode kind arg : Int) (ks : List KindS) (w : World) (hk : KindsAt (fun _ => True) w (.slice a ks.length cap) ks) (hl : ks.length ≤ 9223372036854775806) (hl2 : ∀ k ∈ ks, k.kids.length ≤ 9223372036854775806) (hbad : newE workers room mode ks kind arg ≠ 0) :
    Calls Tryz.prog 36 #[.agg #[.int .i64 workers, .int .i64 room, .int .i64 mode], .agg #[.slice a ks.length cap, .int .i64 kind, .int .i64 arg]] w fun e w' => e = .returned (.tuple #[.pointer none, .int .i64 (newE workers room mode ks kind arg)]) ∧ Below w.heap.size w w' := by
  obtain ⟨V, hV⟩ : ∃ V, (w.alloc (Obj.cells #[.int .i64 workers, .int .i64 room, .int .i64 mode] 39)).alloc (Obj.cells #[.slice a ks.length cap, .int .i64 kind, .int .i64 arg] 42) = V := ⟨_, rfl⟩
  have bC : BoxAt V w.heap.size 39 #[.int .i64 workers, .int .i64 room, .int .i64 mode] := by rw [← hV]; exact (BoxAt.new w _ _).alloc _
  have bP : BoxAt V (w.heap.size + 1) 42 #[.slice a ks.length cap, .int .i64 kind, .int .i64 arg] := by
    rw [← hV]; have := BoxAt.new (w.alloc (Obj.cells #[.int .i64 workers, .int .i64 room, .int .i64 mode] 39)) 42 #[.slice a ks.length cap, .int .i64 kind, .int .i64 arg]
    rw [World.size_alloc] at this; exact this
  have hbV : Below w.heap.size w V := by rw [← hV]; exact ((Below.refl _ _).alloc (Nat.le_refl _) _).alloc (by simp) _
  have c0 := bC.cell (o := 0) rfl
  have c1 := bC.cell (o := 1) rfl
  have c2 := bC.cell (o := 2) rfl
  have p0 := bP.cell (o := 0) rfl
  have p1 := bP.cell (o := 1) rfl
  have p2 := bP.cell (o := 2) rfl
  have HKV : Hid (KindsAt (fun _ => True) V (.slice a ks.length cap) ks) := (hk.below.kept (Kept.of_below hbV (X := fun b => w.heap.size ≤ b) (fun _ _ h => h)) (fun b h1 h2 => by omega)).mono' (fun _ _ => trivial)
  have HBV : Hid (Below w.heap.size w V) := hbV
  have HL2 : Hid (∀ k ∈ ks, k.kids.length ≤ 9223372036854775806) := hl2
  go_enter Tryz.func36, Tryz.ntmps36
  clear bC bP hbV hk hl2
  by_cases hc : cfgB workers room mode = true
  · have hn : newE workers room mode ks kind arg = (unfoldS ks kind arg).1 := by simp [newE, hc]
    rw [hn] at hbad ⊢
    have h1 : ¬ workers < 2 := by simp [cfgB] at hc; omega
    have h2 : ¬ workers > 5 := by simp [cfgB] at hc; omega
    have h3 : ¬ room < 1 := by simp [cfgB] at hc; omega
    have h4 : ¬ room > 20 := by simp [cfgB] at hc; omega
    have h5 : mode = 1 ∨ mode = 2 := by simp [cfgB] at hc; omega
    clear hc hn
    rcases h5 with rfl | rfl
    all_goals
      go_upto_region 4 with (go_at_call 78; refine (ref_unfold_calls a cap kind arg ks V HKV.out hl HL2.out).mono ?_; rintro e w1 ⟨v1, rfl, -, hb1⟩)
      go_wp2_with fail
      go_ret2
      exact ⟨rfl, HBV.out.trans (hb1.mono HBV.out.size)⟩
  · have hn : newE workers room mode ks kind arg = 2 := by simp [newE, hc]
    rw [hn]
    have hcase : workers < 2 ∨ (¬ workers < 2 ∧ workers > 5) ∨ (¬ workers < 2 ∧ ¬ workers > 5 ∧ room < 1) ∨ (¬ workers < 2 ∧ ¬ workers > 5 ∧ ¬ room < 1 ∧ room > 20) ∨ (¬ workers < 2 ∧ ¬ workers > 5 ∧ ¬ room < 1 ∧ ¬ room > 20 ∧ (mode != 1) = true ∧ (mode != 2) = true) := by
      simp [cfgB] at hc ⊢
      omega
    clear hc hn hbad
    rcases hcase with h1 | ⟨h1, h2⟩ | ⟨h1, h2, h3⟩ | ⟨h1, h2, h3, h4⟩ | ⟨h1, h2, h3, h4, h5, h6⟩
    all_goals
      go_wp2_with fail
      go_ret2
      exact ⟨rfl, HBV.out⟩
end Go.Proofs.YtdbbejedipfckaaGreatDoor
