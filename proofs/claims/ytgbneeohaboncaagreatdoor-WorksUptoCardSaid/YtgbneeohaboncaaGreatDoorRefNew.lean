/-
  Messages as plain data; lists of values, of tasks and of messages that lie in memory.
-/
import Derived.Test.YtgbneeohaboncaaGreatDoorMarks
import Derived.Test.YtgbneeohaboncaaGreatDoorRefKids
import Derived.Test.YtgbneeohaboncaaGreatDoorRefUnfold
namespace Go.Proofs.YtgbneeohaboncaaGreatDoor
open Go Go.RowKit

/-- A message. -/
structure MsgS where
  src : Int
  dst : Int
  no : Int
  kind : Int
  t : TaskS
  v : ByteArray × Int
  black : Bool
  idle : Bool
  count : Int
  round : Int
  sent : Int
  came : Int
def valEnc (x : ByteArray × Int) : List Value := [.string x.1, .int .i64 x.2]
def taskEnc (t : TaskS) : List Value := [.string t.id, .int .i64 t.kind, .int .i64 t.arg]
def msgEnc (m : MsgS) : List Value := [.int .i64 m.src, .int .i64 m.dst, .int .i64 m.no, .int .i64 m.kind, .string m.t.id, .int .i64 m.t.kind, .int .i64 m.t.arg, .string m.v.1, .int .i64 m.v.2, .bool m.black, .bool m.idle, .int .i64 m.count, .int .i64 m.round, .int .i64 m.sent, .int .i64 m.came]
theorem infoMessage : (Tryz.prog.info? 139).map (fun i => (i.zero, i.size, i.bytes)) = some (some (.agg #[.int .i64 0, .int .i64 0, .int .i64 0, .int .i64 0, .string ⟨#[]⟩, .int .i64 0, .int .i64 0, .string ⟨#[]⟩, .int .i64 0, .bool false, .bool false, .int .i64 0, .int .i64 0, .int .i64 0, .int .i64 0]), 15, 128) := by kernel_rfl

theorem hid_of {p : Prop} (h : p) : Hid p := h
/-- A list of elements lies at a slice's value. -/
def ListAt {α : Type} (sz : Nat) (enc : α → List Value) (W : World) (v : Value) (l : List α) : Prop :=
  ∃ a cap, v = .slice a l.length cap ∧ ∀ j x, l[j]? = some x → ∃ g o, a = some ⟨g, o, none⟩ ∧ g < W.heap.size ∧ ∀ i u, (enc x)[i]? = some u → W.cell? ⟨g, o + j * sz + i, none⟩ = some u
theorem ListAt.below {α : Type} {sz n : Nat} {enc : α → List Value} {W W' : World} {v : Value} {l : List α} (h : ListAt sz enc W v l) (hb : Below n W W') (hn : W.heap.size ≤ n) : ListAt sz enc W' v l := by
  obtain ⟨a, cap, rfl, hc⟩ := h
  refine ⟨a, cap, rfl, fun j x hj => ?_⟩
  obtain ⟨g, o, ha, hg, c0⟩ := hc j x hj
  exact ⟨g, o, ha, Nat.lt_of_lt_of_le hg hb.size, fun i u hi => (hb.cell (p := ⟨g, _, none⟩) (Nat.lt_of_lt_of_le hg hn)).trans (c0 i u hi)⟩
theorem ListAt.nil {α : Type} (sz : Nat) (enc : α → List Value) (W : World) : ListAt sz enc W (.slice none 0 0) [] := ⟨none, 0, rfl, fun j x h => by simp at h⟩
theorem flat_length {α : Type} {sz : Nat} {enc : α → List Value} (he : ∀ x, (enc x).length = sz) : ∀ l : List α, (l.flatMap enc).length = l.length * sz
  | [] => by simp
  | x :: r => by rw [List.flatMap_cons, List.length_append, he x, flat_length he r, List.length_cons, Nat.succ_mul]; omega
theorem flat_get {α : Type} {sz : Nat} {enc : α → List Value} (he : ∀ x, (enc x).length = sz) : ∀ (l : List α) (j : Nat) (x : α) (i : Nat) (u : Value), l[j]? = some x → (enc x)[i]? = some u → (l.flatMap enc)[j * sz + i]? = some u
  | [], j, x, i, u, h, _ => by simp at h
  | y :: r, 0, x, i, u, h, hi => by
    simp at h
    subst h
    rw [List.flatMap_cons, Nat.zero_mul, Nat.zero_add, List.getElem?_append_left (List.getElem?_eq_some_iff.1 hi).1]
    exact hi
  | y :: r, j + 1, x, i, u, h, hi => by
    rw [List.flatMap_cons, List.getElem?_append_right (by rw [he y, Nat.succ_mul]; omega), he y, Nat.succ_mul, show j * sz + sz + i - sz = j * sz + i from by omega]
    exact flat_get he r j x i u (by simpa using h) hi
theorem list_of_row {α : Type} {sz t base n : Nat} {enc : α → List Value} {W : World} {v : Value} {l : List α} (he : ∀ x, (enc x).length = sz) (h : W.ownsRow base t sz v n (l.flatMap enc)) (hn : n = l.length) : ListAt sz enc W v l := by
  subst hn
  obtain ⟨a, cap, rfl, hc⟩ := row_slice h
  refine ⟨a, cap, rfl, fun j x hj => ?_⟩
  rcases h.2 with ⟨_, h2⟩ | ⟨g, cap', cur, h0, hg, hgb, _⟩
  · have := (List.getElem?_eq_some_iff.1 hj).1
    omega
  · cases h0
    refine ⟨g, 0, rfl, (Array.getElem?_eq_some_iff.1 hgb).1, fun i u hi => ?_⟩
    obtain ⟨g', e, _, _, c1⟩ := hc _ _ (flat_get he l j x i u hj hi)
    cases e
    rw [Nat.zero_add]
    exact c1
theorem flat_one {α : Type} {enc : α → List Value} (he : ∀ x, ∀ u ∈ enc x, u.oneCell' = true) (l : List α) : ∀ u ∈ l.flatMap enc, u.oneCell' = true := by
  intro u hu
  obtain ⟨x, _, hx⟩ := List.mem_flatMap.1 hu
  exact he x u hx
theorem valEnc_one (x : ByteArray × Int) : ∀ u ∈ valEnc x, u.oneCell' = true := by simp [valEnc, Value.oneCell']
theorem taskEnc_one (x : TaskS) : ∀ u ∈ taskEnc x, u.oneCell' = true := by simp [taskEnc, Value.oneCell']
theorem msgEnc_one (x : MsgS) : ∀ u ∈ msgEnc x, u.oneCell' = true := by simp [msgEnc, Value.oneCell']
end Go.Proofs.YtgbneeohaboncaaGreatDoor
/-
  A run as plain data (the document's own way to keep one), and how gleanref's Run lies in memory: definitions and small facts on them.
-/
namespace Go.Proofs.YtgbneeohaboncaaGreatDoor
open Go Go.RowKit

/-- A worker: its tasks; has it asked; its counts, its colour; has it the token, and which. -/
structure WorkerS where
  tasks : List TaskS
  asked : Bool
  sent : Int
  came : Int
  black : Bool
  has : Bool
  token : MsgS
/-- A link: all that was ever sent on it; up to which it is known to have come; up to which it has come; which are kept. -/
structure LinkS where
  all : List MsgS
  known : Int
  came : Int
  kept : List Int
/-- What a round of Waves told. -/
structure AnsS where
  many : Int
  sent : Int
  came : Int
  idle : Bool
structure RunS where
  workers : Int
  room : Int
  mode : Int
  ks : List KindS
  kind : Int
  arg : Int
  W : List WorkerS
  links : List (List LinkS)
  way : List MsgS
  values : List (ByteArray × Int)
  answers : List AnsS
  around : Bool
  over : Bool
  done : Bool

def ansEnc (a : AnsS) : List Value := [.int .i64 a.many, .int .i64 a.sent, .int .i64 a.came, .bool a.idle]
def intEnc (n : Int) : List Value := [.int .i64 n]
def ptrEnc (p : Nat) : List Value := [.pointer (some ⟨p, 0, none⟩)]
abbrev workerCells (tv : Value) (s : WorkerS) : Array Value := #[tv, .bool s.asked, .int .i64 s.sent, .int .i64 s.came, .bool s.black, .bool s.has, .int .i64 s.token.src, .int .i64 s.token.dst, .int .i64 s.token.no, .int .i64 s.token.kind, .string s.token.t.id, .int .i64 s.token.t.kind, .int .i64 s.token.t.arg, .string s.token.v.1, .int .i64 s.token.v.2, .bool s.token.black, .bool s.token.idle, .int .i64 s.token.count, .int .i64 s.token.round, .int .i64 s.token.sent, .int .i64 s.token.came]
abbrev linkCells (av kv : Value) (s : LinkS) : Array Value := #[av, .int .i64 s.known, .int .i64 s.came, kv]
abbrev runCells (s : RunS) (kv wv lv yv vv av : Value) : Array Value := #[.int .i64 s.workers, .int .i64 s.room, .int .i64 s.mode, kv, .int .i64 s.kind, .int .i64 s.arg, wv, lv, yv, vv, .int .i64 0, av, .bool s.around, .bool s.over, .bool s.done]

/-- A row of one's own, in blocks that X names. -/
def RowIn {α : Type} (X : Nat → Prop) (t : TypeId) (sz : Nat) (enc : α → List Value) (W : World) (v : Value) (l : List α) : Prop :=
  W.ownsRow 0 t sz v l.length (l.flatMap enc) ∧ ∀ g, v.ownBlock = some g → X g
theorem RowIn.kept {α : Type} {X X' Y : Nat → Prop} {t : TypeId} {sz : Nat} {enc : α → List Value} {W W' : World} {v : Value} {l : List α} (h : RowIn X t sz enc W v l) (k : Kept Y W W') (hx : ∀ g, g < W.heap.size → X g → ¬ Y g ∧ X' g) : RowIn X' t sz enc W' v l :=
  ⟨row_kept h.1 k (fun g e => (hx g (h.1.lt g e).2 (h.2 g e)).1) (Nat.le_refl _), fun g e => (hx g (h.1.lt g e).2 (h.2 g e)).2⟩
theorem RowIn.nil {α : Type} (X : Nat → Prop) (t : TypeId) (sz : Nat) (enc : α → List Value) (W : World) : RowIn X t sz enc W (.slice none 0 0) [] := ⟨World.ownsRow_nil _ _ _ _, fun g e => by cases e⟩

def WorkerAt (X : Nat → Prop) (W : World) (p : Nat) (s : WorkerS) : Prop :=
  ∃ tv, BoxAt W p 141 (workerCells tv s) ∧ X p ∧ RowIn X 76 3 taskEnc W tv s.tasks
theorem WorkerAt.kept {X X' Y : Nat → Prop} {W W' : World} {p : Nat} {s : WorkerS} (h : WorkerAt X W p s) (k : Kept Y W W') (hx : ∀ g, g < W.heap.size → X g → ¬ Y g ∧ X' g) : WorkerAt X' W' p s := by
  obtain ⟨tv, h1, h2, h3⟩ := h
  exact ⟨tv, h1.kept k (hx p h1.lt h2).1, (hx p h1.lt h2).2, h3.kept k hx⟩
def LinkAt (X : Nat → Prop) (W : World) (p : Nat) (s : LinkS) : Prop :=
  ∃ av kv, BoxAt W p 145 (linkCells av kv s) ∧ X p ∧ RowIn X 139 15 msgEnc W av s.all ∧ RowIn X 3 1 intEnc W kv s.kept
theorem LinkAt.kept {X X' Y : Nat → Prop} {W W' : World} {p : Nat} {s : LinkS} (h : LinkAt X W p s) (k : Kept Y W W') (hx : ∀ g, g < W.heap.size → X g → ¬ Y g ∧ X' g) : LinkAt X' W' p s := by
  obtain ⟨av, kv, h1, h2, h3, h4⟩ := h
  exact ⟨av, kv, h1.kept k (hx p h1.lt h2).1, (hx p h1.lt h2).2, h3.kept k hx, h4.kept k hx⟩
/-- The links that begin at worker i. -/
def LinksAt (part : Nat → Nat) (i : Nat) (W : World) (v : Value) (qs : List Nat) (ls : List LinkS) : Prop :=
  RowIn (fun b => part b = 9) 143 1 ptrEnc W v qs ∧ qs.length = ls.length ∧ ∀ j q x, qs[j]? = some q → ls[j]? = some x → LinkAt (fun b => part b = 100 + 10 * i + j) W q x
theorem LinksAt.kept {part part' : Nat → Nat} {Y : Nat → Prop} {i : Nat} {W W' : World} {v : Value} {qs : List Nat} {ls : List LinkS} (h : LinksAt part i W v qs ls) (k : Kept Y W W') (hx : ∀ g, g < W.heap.size → part g = 9 ∨ 100 ≤ part g → ¬ Y g ∧ part' g = part g) : LinksAt part' i W' v qs ls := by
  obtain ⟨h1, h2, h3⟩ := h
  refine ⟨h1.kept k (fun g hg e => ⟨(hx g hg (.inl e)).1, (hx g hg (.inl e)).2.trans e⟩), h2, fun j q x hq hxj => (h3 j q x hq hxj).kept k (fun g hg e => ⟨(hx g hg (.inr (by omega))).1, (hx g hg (.inr (by omega))).2.trans e⟩)⟩
theorem KidsAt.mono' {ok ok' : Nat → Prop} {W : World} {v : Value} {l : List KidS} (h : KidsAt ok W v l) (hx : ∀ b, ok b → ok' b) : KidsAt ok' W v l := by
  obtain ⟨a, cap, rfl, hc⟩ := h
  refine ⟨a, cap, rfl, fun j c hj => ?_⟩
  obtain ⟨b, o, ha, hok, hb⟩ := hc j c hj
  exact ⟨b, o, ha, hx b hok, hb⟩
theorem KindsAt.mono' {ok ok' : Nat → Prop} {W : World} {v : Value} {l : List KindS} (h : KindsAt ok W v l) (hx : ∀ b, ok b → ok' b) : KindsAt ok' W v l := by
  obtain ⟨a, cap, rfl, hc⟩ := h
  refine ⟨a, cap, rfl, fun j c hj => ?_⟩
  obtain ⟨b, o, kv, ha, hok, hb, c0, c1, c2, hk⟩ := hc j c hj
  exact ⟨b, o, kv, ha, hx b hok, hb, c0, c1, c2, hk.mono' hx⟩
/-- gleanref's Run at block B. part: 1 the run's own block; 2 the messages on their way; 3 the values; 4 the answers; 5 what is no part of it yet; 6 the kinds; 7, 8, 9 the lists of workers and links; 10 and i worker i; 100, 10 i and j the link from i to j. -/
def RefAt (part : Nat → Nat) (W : World) (B : Nat) (s : RunS) : Prop :=
  ∃ (kv wv lv yv vv av : Value) (ps : List Nat) (rows : List (Value × List Nat)),
    BoxAt W B 103 (runCells s kv wv lv yv vv av) ∧ part B = 1 ∧ KindsAt (fun b => part b = 6) W kv s.ks ∧
    (RowIn (fun b => part b = 7) 137 1 ptrEnc W wv ps ∧ ps.length = s.W.length ∧ ∀ i p x, ps[i]? = some p → s.W[i]? = some x → WorkerAt (fun b => part b = 10 + i) W p x) ∧
    (RowIn (fun b => part b = 8) 142 1 (fun r : Value × List Nat => [r.1]) W lv rows ∧ rows.length = s.links.length ∧ ∀ i r ls, rows[i]? = some r → s.links[i]? = some ls → LinksAt part i W r.1 r.2 ls) ∧
    RowIn (fun b => part b = 2) 139 15 msgEnc W yv s.way ∧ RowIn (fun b => part b = 3) 84 2 valEnc W vv s.values ∧ RowIn (fun b => part b = 4) 176 4 ansEnc W av s.answers
theorem RefAt.kept {part part' : Nat → Nat} {Y : Nat → Prop} {W W' : World} {B : Nat} {s : RunS} (h : RefAt part W B s) (k : Kept Y W W') (hx : ∀ g, g < W.heap.size → part g ≠ 0 → part g ≠ 5 → ¬ Y g ∧ part' g = part g) : RefAt part' W' B s := by
  obtain ⟨kv, wv, lv, yv, vv, av, ps, rows, h1, h2, h3, ⟨h4, h5, h6⟩, ⟨h7, h8, h9⟩, h10, h11, h12⟩ := h
  have hg : ∀ (n : Nat), n ≠ 0 → n ≠ 5 → ∀ g, g < W.heap.size → part g = n → ¬ Y g ∧ part' g = n := fun n hn hn5 g hl e => ⟨(hx g hl (by omega) (by omega)).1, (hx g hl (by omega) (by omega)).2.trans e⟩
  have hB := hg 1 (by omega) (by omega) B h1.lt h2
  refine ⟨kv, wv, lv, yv, vv, av, ps, rows, h1.kept k hB.1, hB.2, ?_, ⟨h4.kept k (hg 7 (by omega) (by omega)), h5, fun i p x hp hxi => (h6 i p x hp hxi).kept k (hg _ (by omega) (by omega))⟩, ⟨h7.kept k (hg 8 (by omega) (by omega)), h8, fun i r ls hr hl => (h9 i r ls hr hl).kept k (fun g hl e => hx g hl (by omega) (by omega))⟩, h10.kept k (hg 2 (by omega) (by omega)), h11.kept k (hg 3 (by omega) (by omega)), h12.kept k (hg 4 (by omega) (by omega))⟩
  have h3' := h3.below
  exact (h3'.kept k (fun b hb => (hg 6 (by omega) (by omega) b hb.2 hb.1).1)).mono' (fun b hb => (hg 6 (by omega) (by omega) b hb.2 hb.1).2)
/-- gleanref's Run in blocks that F names. -/
def RefOK (F : Nat → Prop) (W : World) (B : Nat) (s : RunS) : Prop := ∃ part : Nat → Nat, (∀ b, part b ≠ 0 → F b) ∧ RefAt part W B s
theorem RefOK.kept {F F' Y : Nat → Prop} {W W' : World} {B : Nat} {s : RunS} (h : RefOK F W B s) (k : Kept Y W W') (hx : ∀ g, g < W.heap.size → F g → ¬ Y g ∧ F' g) : RefOK F' W' B s := by
  obtain ⟨part, h1, h2⟩ := h
  refine ⟨fun b => if b < W.heap.size then part b else 0, fun b hb => ?_, h2.kept k (fun g hl hp _ => ⟨(hx g hl (h1 g hp)).1, by simp [hl]⟩)⟩
  by_cases hl : b < W.heap.size
  · exact (hx b hl (h1 b (by simpa [hl] using hb))).2
  · simp [hl] at hb
theorem RefOK.later {F : Nat → Prop} {W W' : World} {B : Nat} {s : RunS} (h : RefOK F W B s) (hk : Below W.heap.size W W') : RefOK F W' B s :=
  h.kept (Kept.of_below hk (X := fun b => W.heap.size ≤ b) (fun _ _ h => h)) (fun g hl hF => ⟨by omega, hF⟩)
end Go.Proofs.YtgbneeohaboncaaGreatDoor
/-
  gleanref's Run.Tasks tells a worker's tasks in a new list.
-/
namespace Go.Proofs.YtgbneeohaboncaaGreatDoor
open Go Go.RowKit

/-- What Tasks answers: the list, and the error's number. -/
def tasksS (s : RunS) (i : Int) : List TaskS × Int := if i < 0 ∨ s.workers ≤ i then ([], 7) else (((s.W[i.toNat]?).map WorkerS.tasks).getD [], 0)
/-- What every run keeps to: as many workers as it says, few tasks each. -/
structure Fits (s : RunS) : Prop where
  len : (s.W.length : Int) = s.workers
  two : 2 ≤ s.workers
  five : s.workers ≤ 5
  rmin : 1 ≤ s.room
  rmax : s.room ≤ 20
  few : ∀ x ∈ s.W, (x.tasks.length : Int) ≤ s.room
  prog : progB s.ks s.kind s.arg = true
  good : ∀ x ∈ s.W, ∀ t ∈ x.tasks, Good s.ks t ∧ t.arg ≤ 12

theorem ref_tasks_nil (i : Int) (w : World) : Calls Tryz.prog 36 #[.pointer none, .int .i64 i] w fun e w' => e = .returned (.tuple #[.slice none 0 0, .int .i64 1]) ∧ w' = w := by
  go_enter Tryz.func36, Tryz.ntmps36
  go_wp2_with fail
  go_ret2
  exact ⟨rfl, rfl⟩

set_option maxHeartbeats 2000000 in
theorem ref_tasks_calls (F : Nat → Prop) (B : Nat) (s : RunS) (i : Int) (w : World) (hr : RefOK F w B s) (hf : Fits s) :
    Calls Tryz.prog 36 #[.pointer (some ⟨B, 0, none⟩), .int .i64 i] w fun e w' => ∃ v, e = .returned (.tuple #[v, .int .i64 (tasksS s i).2]) ∧
      w'.ownsRow w.heap.size 76 3 v (tasksS s i).1.length ((tasksS s i).1.flatMap taskEnc) ∧ Below w.heap.size w w' := by
  obtain ⟨i1, hi1, hy0, hy1, hy2⟩ := info_parts infoTask
  obtain ⟨part, -, kv, wv, lv, yv, vv, av, ps, rows, hb, -, -, ⟨hw, hpl, hwk⟩, -⟩ := hr
  have b0 := hb.cell (o := 0) rfl
  have b6 := hb.cell (o := 6) rfl
  have hBl := hb.lt
  clear hb
  have hlen := hf.len
  go_enter Tryz.func36, Tryz.ntmps36
  by_cases h1 : i < 0
  · have ht : tasksS s i = ([], 7) := by simp [tasksS, h1]
    rw [ht]
    clear ht
    go_wp2_with fail
    go_ret2
    exact ⟨_, rfl, World.ownsRow_nil _ _ _ _, Below.refl _ _⟩
  by_cases h2 : s.workers ≤ i
  · have ht : tasksS s i = ([], 7) := by simp [tasksS, h2]
    rw [ht]
    clear ht
    have h3 : ¬ i < s.workers := by omega
    go_wp2_with fail
    go_ret2
    exact ⟨_, rfl, World.ownsRow_nil _ _ _ _, Below.refl _ _⟩
  obtain ⟨k, rfl⟩ := Int.eq_ofNat_of_zero_le (show 0 ≤ i by omega)
  have hk : k < s.W.length := by omega
  obtain ⟨x, hx⟩ : ∃ x, s.W[k]? = some x := ⟨_, List.getElem?_eq_getElem hk⟩
  obtain ⟨p, hp⟩ : ∃ p, ps[k]? = some p := ⟨_, List.getElem?_eq_getElem (by omega)⟩
  have ht : tasksS s (k : Int) = (x.tasks, 0) := by simp [tasksS, h2, hx]
  rw [ht]
  have hxl : (x.tasks.length : Int) ≤ 20 := by
    have := hf.few x (List.mem_of_getElem? hx)
    have := hf.rmax
    omega
  obtain ⟨tv, hbp, -, hrow, -⟩ := hwk k p x hp hx
  have p0 := hbp.cell (o := 0) rfl
  obtain ⟨wa, wc, rfl, hwc⟩ := row_slice hw.1
  obtain ⟨g, rfl, -, hgl, cg⟩ := hwc k _ (by have := flat_get (sz := 1) (enc := ptrEnc) (fun _ => rfl) ps k p 0 (.pointer (some ⟨p, 0, none⟩)) hp rfl; rw [Nat.mul_one, Nat.add_zero] at this; exact this)
  obtain ⟨ta, tc, rfl⟩ := row_form hrow
  have HROW : Hid (w.ownsRow 0 76 3 (.slice ta x.tasks.length tc) x.tasks.length (x.tasks.flatMap taskEnc)) := hrow
  have j1 : (0 : Int) ≤ (k : Int) := by omega
  have j2 : (k : Int) < (ps.length : Int) := by omega
  clear ht hrow hbp hwc hw hwk hp hx hf
  go_wp2_with (at_builtin; refine wpList_append_row rfl _ _ _ rfl 76 i1 _ 3 32 Tryz.underlying52 hi1 hy0 hy1 hy2 rfl (by omega) rfl 0 (.slice ta x.tasks.length tc) x.tasks.length (x.tasks.flatMap taskEnc) rfl HROW.out (flat_one taskEnc_one _) (by unfold maxLen; omega) (by omega) ?_; intro wv' w1 hrow1 hk1)
  go_ret2
  exact ⟨_, rfl, hrow1, hk1.below (Nat.le_refl _) (fun _ h => h.elim)⟩
end Go.Proofs.YtgbneeohaboncaaGreatDoor
/-
  gleanref.New, the document's own answer: the errors of a Config and of a program; else a run whose first task is with worker 0.
-/
namespace Go.Proofs.YtgbneeohaboncaaGreatDoor
open Go Go.RowKit

def msg0 : MsgS := ⟨0, 0, 0, 0, ⟨⟨#[]⟩, 0, 0⟩, (⟨#[]⟩, 0), false, false, 0, 0, 0, 0⟩
def worker0 : WorkerS := ⟨[], false, 0, 0, false, false, msg0⟩
def link0 : LinkS := ⟨[], 0, 0, []⟩
def cfgB (workers room mode : Int) : Bool := decide (2 ≤ workers) && decide (workers ≤ 5) && decide (1 ≤ room) && decide (room ≤ 20) && (decide (mode = 1) || decide (mode = 2))
/-- A run at its beginning. -/
def newS (workers room mode : Int) (ks : List KindS) (kind arg : Int) : RunS :=
  ⟨workers, room, mode, ks, kind, arg, { worker0 with tasks := [⟨⟨#[]⟩, kind, arg⟩], has := true } :: List.replicate (workers.toNat - 1) worker0, List.replicate workers.toNat (List.replicate workers.toNat link0), [], [], [], false, false, false⟩
/-- New's error. -/
def newE (workers room mode : Int) (ks : List KindS) (kind arg : Int) : Int := if cfgB workers room mode then (unfoldS ks kind arg).1 else 2

/-- An append of any list to one of one's own. -/
theorem wpList_append_any {P : Program} {w : World} {ops : Array Oper} {rest : List Oper} {o : Oper} {a : Act} {Q : Exit → Act → World → Prop} (hgd : o.guard = none) (s x : Operand) (t : TypeId)
    (ho : o.op = .call { callee := .builtin .append, args := #[s, x], argTypes := #[t, t] })
    (base : Nat) (e : TypeId) (i : TypeInfo) (z : Value) (size bytes : Nat) (ht : P.underlying t = some (.slice e)) (hi : P.info? e = some i) (hz : i.zero = some z)
    (hsize : i.size = size) (hby : i.bytes = bytes) (hzs : z.cells.size = size) (hsz : 0 < size)
    (v : Value) (n : Nat) (xs : List Value) (hs : a.eval s = v) (hown : w.ownsRow base e size v n xs)
    (ad : Option Addr) (m c : Nat) (news : List Value) (hx : a.eval x = .slice ad m c) (hl : news.length = m * size) (hnews : ∀ j u, news[j]? = some u → ∃ b, ad = some b ∧ w.cell? (b.add j) = some u) (h1 : ∀ u ∈ news, u.oneCell' = true)
    (h63 : n + m ≤ maxLen) (hbytes : (n + m) * bytes ≤ 140737488355328) (hbase : base ≤ w.heap.size)
    (h : ∀ v' w', w'.ownsRow base e size v' (n + m) (xs ++ news) → w.grownBy w' v.ownBlock → wpList P ops Q rest (a.put o.dst v') w') : wpList P ops Q (o :: rest) a w := by
  cases ad with
  | some b =>
    exact wpList_append_own w hgd s x t ho base e i z size bytes ht hi hz hsize hby hzs hsz v n xs hs hown b m c news hx hl (fun j u hj => by obtain ⟨b', e', h'⟩ := hnews j u hj; cases e'; exact h') h1 h63 hbytes hbase (fun v' w' h2 h3 _ => h v' w' h2 h3)
  | none =>
    have hn0 : news = [] := by
      cases news with
      | nil => rfl
      | cons u r => obtain ⟨b, e', _⟩ := hnews 0 u rfl; cases e'
    subst hn0
    have hm : m = 0 := by
      have h' : m * size = 0 := by simpa using hl.symm
      rcases Nat.mul_eq_zero.1 h' with h' | h'
      · exact h'
      · omega
    subst hm
    refine wpList_plain hgd fun K hK => ?_
    have hrun : (Builtin.append_ #[t, t] o.type #[v, .slice none 0 c]).run P w = .ok v w := by
      rcases hown.2 with ⟨rfl, rfl⟩ | ⟨g, cap, cur, rfl, _, _, hnc, _⟩
      · simp [Builtin.append_, run_underlying ht, sizeOf, typeInfo, hi, Builtin.lenOf, Builtin.firstCells]
      · simp [Builtin.append_, run_underlying ht, sizeOf, typeInfo, hi, Builtin.lenOf, Builtin.firstCells, hnc, storeCells]
    unfold Oper.wp
    simp [execOp, ho, resolve, invoke, builtin, hs, hx, hrun, Result.andThen]
    exact hK _ _ (h v w (by simpa using hown) (World.grownBy.refl _ _))

theorem infoPWorker : (Tryz.prog.info? 137).map (fun i => (i.zero, i.size, i.bytes)) = some (some (.pointer none), 1, 8) := by kernel_rfl
theorem infoPLink : (Tryz.prog.info? 143).map (fun i => (i.zero, i.size, i.bytes)) = some (some (.pointer none), 1, 8) := by kernel_rfl
theorem infoSLink : (Tryz.prog.info? 142).map (fun i => (i.zero, i.size, i.bytes)) = some (some (.slice none 0 0), 1, 24) := by kernel_rfl

/-- New refuses a Config, or what is no program, or one that is too large. -/
theorem ref_new_bad (a : Option Addr) (cap : Nat) (workers room mode kind arg : Int) (ks : List KindS) (w : World) (hk : KindsAt (fun _ => True) w (.slice a ks.length cap) ks) (hl : ks.length ≤ 9223372036854775806) (hl2 : ∀ k ∈ ks, k.kids.length ≤ 9223372036854775806) (hbad : newE workers room mode ks kind arg ≠ 0) :
    Calls Tryz.prog 35 #[.agg #[.int .i64 workers, .int .i64 room, .int .i64 mode], .agg #[.slice a ks.length cap, .int .i64 kind, .int .i64 arg]] w fun e w' => e = .returned (.tuple #[.pointer none, .int .i64 (newE workers room mode ks kind arg)]) ∧ Below w.heap.size w w' := by
  obtain ⟨V, hV⟩ : ∃ V, (w.alloc (Obj.cells #[.int .i64 workers, .int .i64 room, .int .i64 mode] 39)).alloc (Obj.cells #[.slice a ks.length cap, .int .i64 kind, .int .i64 arg] 42) = V := ⟨_, rfl⟩
  have bC : BoxAt V w.heap.size 39 #[.int .i64 workers, .int .i64 room, .int .i64 mode] := by rw [← hV]; exact (BoxAt.new w _ _).alloc _
  have bP : BoxAt V (w.heap.size + 1) 42 #[.slice a ks.length cap, .int .i64 kind, .int .i64 arg] := by
    rw [← hV]; have := BoxAt.new (w.alloc (Obj.cells #[.int .i64 workers, .int .i64 room, .int .i64 mode] 39)) 42 #[.slice a ks.length cap, .int .i64 kind, .int .i64 arg]
    rw [World.size_alloc] at this; exact this
  have hbV : Below w.heap.size w V := by rw [← hV]; exact ((Below.refl _ _).alloc (Nat.le_refl _) _).alloc (by simp) _
  have c0 := bC.cell (o := 0) rfl
  have c1 := bC.cell (o := 1) rfl
  have c2 := bC.cell (o := 2) rfl
  have p0 := bP.cell (o := 0) rfl
  have p1 := bP.cell (o := 1) rfl
  have p2 := bP.cell (o := 2) rfl
  have HKV : Hid (KindsAt (fun _ => True) V (.slice a ks.length cap) ks) := (hk.below.kept (Kept.of_below hbV (X := fun b => w.heap.size ≤ b) (fun _ _ h => h)) (fun b h1 h2 => by omega)).mono' (fun _ _ => trivial)
  have HBV : Hid (Below w.heap.size w V) := hbV
  have HL2 : Hid (∀ k ∈ ks, k.kids.length ≤ 9223372036854775806) := hl2
  go_enter Tryz.func35, Tryz.ntmps35
  clear bC bP hbV hk hl2
  by_cases hc : cfgB workers room mode = true
  · have hn : newE workers room mode ks kind arg = (unfoldS ks kind arg).1 := by simp [newE, hc]
    rw [hn] at hbad ⊢
    have h1 : ¬ workers < 2 := by simp [cfgB] at hc; omega
    have h2 : ¬ workers > 5 := by simp [cfgB] at hc; omega
    have h3 : ¬ room < 1 := by simp [cfgB] at hc; omega
    have h4 : ¬ room > 20 := by simp [cfgB] at hc; omega
    have h5 : mode = 1 ∨ mode = 2 := by simp [cfgB] at hc; omega
    clear hc hn
    rcases h5 with rfl | rfl
    all_goals
      go_upto_region 4 with (go_at_call 77; refine (ref_unfold_calls a cap kind arg ks V HKV.out hl HL2.out).mono ?_; rintro e w1 ⟨v1, rfl, -, hb1⟩)
      go_wp2_with fail
      go_ret2
      exact ⟨rfl, HBV.out.trans (hb1.mono HBV.out.size)⟩
  · have hn : newE workers room mode ks kind arg = 2 := by simp [newE, hc]
    rw [hn]
    have hcase : workers < 2 ∨ (¬ workers < 2 ∧ workers > 5) ∨ (¬ workers < 2 ∧ ¬ workers > 5 ∧ room < 1) ∨ (¬ workers < 2 ∧ ¬ workers > 5 ∧ ¬ room < 1 ∧ room > 20) ∨ (¬ workers < 2 ∧ ¬ workers > 5 ∧ ¬ room < 1 ∧ ¬ room > 20 ∧ (mode != 1) = true ∧ (mode != 2) = true) := by
      simp [cfgB] at hc ⊢
      omega
    clear hc hn hbad
    rcases hcase with h1 | ⟨h1, h2⟩ | ⟨h1, h2, h3⟩ | ⟨h1, h2, h3, h4⟩ | ⟨h1, h2, h3, h4, h5, h6⟩
    all_goals
      go_wp2_with fail
      go_ret2
      exact ⟨rfl, HBV.out⟩
end Go.Proofs.YtgbneeohaboncaaGreatDoor
