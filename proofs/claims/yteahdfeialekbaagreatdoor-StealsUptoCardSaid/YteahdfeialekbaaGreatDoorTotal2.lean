/-
  What stays true of a run as plain data, whatever is done with it: the parts, and Work, Steal, Drop, Twice, Tick.
-/
import Derived.Test.YteahdfeialekbaaGreatDoorRefCameAll
import Derived.Test.YteahdfeialekbaaGreatDoorXAgain
import Derived.Test.YteahdfeialekbaaGreatDoorRefPass
namespace Go.Proofs.YteahdfeialekbaaGreatDoor
open Go Go.RowKit
theorem childrenFrom_good {ks : List KindS} {kind arg : Int} (hp : progB ks kind arg = true) {t : TaskS} (hG : Good ks t /\ t.arg <= 12) : ∀ c ∈ children ks t, Good ks c /\ c.arg <= 12 := by
 intro c hc
 obtain ⟨⟨h0, h1, h2, h3⟩, h4⟩ := hG
 obtain ⟨j, cK, hj, hcc, hka, hl3, hkids, -, -⟩ := kind_facts hp h0 h1
 unfold children at hc
 rw [hka] at hc
 obtain ⟨d, hd, m, rfl, hle⟩ := childrenFrom_mem hc
 obtain ⟨g1, g2, g3, g4⟩ := hkids d hd
 refine ⟨⟨g3, g4, ?_, ?_⟩, ?_⟩
 ·dsimp only; omega
 ·dsimp only
  rw [kidId_size]
  omega
 ·dsimp only; omega
structure MsgOK (ks : List KindS) (ans : Prop) (N i j n : Nat) (m : MsgS) : Prop where
 src : m.src = i
 dst : m.dst = j
 ne : i ≠ j
 no : m.no = n + 1
 kind : 1 <= m.kind /\ m.kind <= 7
 task : m.kind = 2 -> Good ks m.t /\ m.t.arg <= 12
 told : m.kind = 6 \/ m.kind = 7 -> ans
 wave : m.kind = 6 -> i = 0
 rep : m.kind = 7 -> j = 0
 nums : 0 <= m.sent /\ m.sent <= 1000000000 /\ 0 <= m.came /\ m.came <= 1000000000 /\ -((N : Int) * 1000000000) <= m.count /\ m.count <= (N : Int) * 1000000000
structure LinkOK (ks : List KindS) (ans : Prop) (N i j : Nat) (l : LinkS) : Prop where
 msgs : ∀ n m, l.all[n]? = some m -> MsgOK ks ans N i j n m
 all : l.all.length <= N
 known : 0 <= l.known /\ l.known <= l.all.length
 came : 0 <= l.came /\ l.came <= l.all.length
 kept : ∀ n ∈ l.kept, 1 <= n /\ n <= l.all.length /\ n <= l.came + 4
 klen : l.kept.length <= N
structure WorkerOK (ks : List KindS) (N : Nat) (x : WorkerS) : Prop where
 few : x.tasks.length <= 20 + N
 good : ∀ t ∈ x.tasks, Good ks t /\ t.arg <= 12
 sent : 0 <= x.sent /\ x.sent <= N
 came : 0 <= x.came /\ x.came <= N
 tok : -((N : Int) * 1000000000) <= x.token.count /\ x.token.count <= (N : Int) * 1000000000
structure AnsOK (N : Nat) (a : AnsS) : Prop where
 many : 0 <= a.many /\ a.many <= N
 sent : 0 <= a.sent /\ a.sent <= (N : Int) * 1000000000
 came : 0 <= a.came /\ a.came <= (N : Int) * 1000000000
structure WayOK (s : RunS) (m : MsgS) : Prop where
 src : 0 <= m.src /\ m.src < s.workers
 dst : 0 <= m.dst /\ m.dst < s.workers
 kind : 0 <= m.kind /\ m.kind <= 7
 ack : m.kind = 0 -> 0 <= m.no /\ m.no <= (linkOf s m.dst.toNat m.src.toNat).all.length
 sent : m.kind ≠ 0 -> ∃ n : Nat, m.no = n + 1 /\ (linkOf s m.src.toNat m.dst.toNat).all[n]? = some m
structure Fine (N : Nat) (s : RunS) : Prop where
 len : (s.W.length : Int) = s.workers
 two : 2 <= s.workers
 five : s.workers <= 5
 llen : s.links.length = s.W.length
 lrow : ∀ ls ∈ s.links, ls.length = s.W.length
 w60 : s.way.length <= 60
 rmin : 1 <= s.room
 rmax : s.room <= 20
 prog : progB s.ks s.kind s.arg = true
 works : ∀ x ∈ s.W, WorkerOK s.ks N x
 links : ∀ i j, i < s.W.length -> j < s.W.length -> LinkOK s.ks (s.answers ≠ []) N i j (linkOf s i j)
 ways : ∀ m ∈ s.way, WayOK s m
 vals : s.values.length <= N
 alen : s.answers.length <= N
 ans : ∀ a ∈ s.answers, AnsOK N a
theorem MsgOK.more {ks : List KindS} {ans ans' : Prop} {N N' i j n : Nat} {m : MsgS} (h : MsgOK ks ans N i j n m) (hN : N <= N') (ha : ans -> ans') : MsgOK ks ans' N' i j n m :=
 ⟨h.src, h.dst, h.ne, h.no, h.kind, h.task, fun e => ha (h.told e), h.wave, h.rep, by have := h.nums; omega⟩
theorem LinkOK.more {ks : List KindS} {ans ans' : Prop} {N N' i j : Nat} {l : LinkS} (h : LinkOK ks ans N i j l) (hN : N <= N') (ha : ans -> ans') : LinkOK ks ans' N' i j l :=
 ⟨fun n m e => (h.msgs n m e).more hN ha, Nat.le_trans h.all hN, h.known, h.came, h.kept, Nat.le_trans h.klen hN⟩
theorem WorkerOK.more {ks : List KindS} {N N' : Nat} {x : WorkerS} (h : WorkerOK ks N x) (hN : N <= N') : WorkerOK ks N' x :=
 ⟨by have := h.few; omega, h.good, by have := h.sent; omega, by have := h.came; omega, by have := h.tok; omega⟩
theorem AnsOK.more {N N' : Nat} {a : AnsS} (h : AnsOK N a) (hN : N <= N') : AnsOK N' a := ⟨by have := h.many; omega, by have := h.sent; omega, by have := h.came; omega⟩
theorem Fine.more {N N' : Nat} {s : RunS} (h : Fine N s) (hN : N <= N') : Fine N' s :=
 ⟨h.len, h.two, h.five, h.llen, h.lrow, h.w60, h.rmin, h.rmax, h.prog, fun x hx => (h.works x hx).more hN, fun i j hi hj => (h.links i j hi hj).more hN id, h.ways, Nat.le_trans h.vals hN, Nat.le_trans h.alen hN, fun a ha => (h.ans a ha).more hN⟩
theorem linkOf_set {s : RunS} {i j : Nat} (l : LinkS) (hl : s.links.length = s.W.length) (hr : ∀ ls ∈ s.links, ls.length = s.W.length) (hi : i < s.W.length) (hj : j < s.W.length) (a b : Nat) :
  linkOf (setLink s i j l) a b = if a = i /\ b = j then l else linkOf s a b := by
 have h1 : s.links[i]? = some s.links[i] := List.getElem?_eq_getElem (by omega)
 have h2 := hr _ (List.mem_of_getElem? h1)
 unfold linkOf setLink
 dsimp only
 rw [List.getElem?_set]
 by_cases ha : i = a
 ·subst ha
  rw [if_pos rfl, if_pos (by omega), h1]
  simp only [Option.getD_some, true_and]
  rw [List.getElem?_set]
  by_cases hb : j = b
  ·subst hb
   rw [if_pos rfl, if_pos (by omega), if_pos rfl]
   rfl
  ·rw [if_neg hb, if_neg (fun e => hb e.symm)]
 ·rw [if_neg ha, if_neg (fun e => ha e.1.symm)]
theorem setLink_row {s : RunS} {i j : Nat} (l : LinkS) (hr : ∀ ls ∈ s.links, ls.length = s.W.length) (hl : s.links.length = s.W.length) (hi : i < s.W.length) : ∀ ls ∈ (setLink s i j l).links, ls.length = s.W.length := fun ls h => by
 rcases List.mem_or_eq_of_mem_set h with h' | rfl
 ·exact hr ls h'
 ·rw [List.length_set, List.getElem?_eq_getElem (show i < s.links.length by omega)]
  exact hr _ (List.getElem_mem _)
theorem Fine.relink {N N' : Nat} {s : RunS} (h : Fine N s) {i j : Nat} (hi : i < s.W.length) (hj : j < s.W.length) {l : LinkS} {L : List MsgS} (hL : l.all = (linkOf s i j).all ++ L) (hl : LinkOK s.ks (s.answers ≠ []) N' i j l) (hN : N <= N') : Fine N' (setLink s i j l) := by
 have h' := h.more hN
 have hset := linkOf_set l h.llen h.lrow hi hj
 have hpre : ∀ a b, ∃ M, (linkOf (setLink s i j l) a b).all = (linkOf s a b).all ++ M := fun a b => by
  rw [hset]
  split
  ·rename_i e
   obtain ⟨rfl, rfl⟩ := e
   exact ⟨L, hL⟩
  ·exact ⟨[], by simp⟩
 refine ⟨h.len, h.two, h.five, ?_, setLink_row l h.lrow h.llen hi, h.w60, h.rmin, h.rmax, h.prog, h'.works, fun a b ha hb => ?_, fun m hm => ?_, h'.vals, h'.alen, h'.ans⟩
 ·show (s.links.set i _).length = s.W.length
  rw [List.length_set]; exact h.llen
 ·rw [hset]
  split
  ·rename_i e
   obtain ⟨rfl, rfl⟩ := e
   exact hl
  ·exact h'.links a b ha hb
 ·have hw := h.ways m hm
  refine ⟨hw.src, hw.dst, hw.kind, fun e => ?_, fun e => ?_⟩
  ·obtain ⟨M, hM⟩ := hpre m.dst.toNat m.src.toNat
   have := hw.ack e
   rw [hM, List.length_append]
   omega
  ·obtain ⟨M, hM⟩ := hpre m.src.toNat m.dst.toNat
   obtain ⟨n, h1, h2⟩ := hw.sent e
   refine ⟨n, h1, ?_⟩
   rw [hM, List.getElem?_append_left (List.getElem?_eq_some_iff.1 h2).1]
   exact h2
theorem Fine.reway {N : Nat} {s : RunS} (h : Fine N s) {y : List MsgS} (hy : y.length <= 60) (hw : ∀ m ∈ y, WayOK s m) : Fine N { s with way := y } :=
 ⟨h.len, h.two, h.five, h.llen, h.lrow, hy, h.rmin, h.rmax, h.prog, h.works, h.links, fun m hm => ⟨(hw m hm).src, (hw m hm).dst, (hw m hm).kind, (hw m hm).ack, (hw m hm).sent⟩, h.vals, h.alen, h.ans⟩
theorem Fine.way {N : Nat} {s : RunS} (h : Fine N s) {m : MsgS} (hm : WayOK s m) : Fine N (wayS s m) := by
 unfold wayS
 split
 ·refine h.reway (by simp; omega) (fun m' hm' => ?_)
  rcases List.mem_append.1 hm' with e | e
  ·exact h.ways m' e
  ·rw [List.mem_singleton.1 e]; exact hm
 ·exact h
theorem Fine.reworker {N N' : Nat} {s : RunS} (h : Fine N s) (i : Nat) {x : WorkerS} (hx : WorkerOK s.ks N' x) (hN : N <= N') : Fine N' { s with W := s.W.set i x } := by
 have h' := h.more hN
 refine ⟨?_, h.two, h.five, ?_, fun ls hl => ?_, h.w60, h.rmin, h.rmax, h.prog, fun y hy => ?_, fun a b ha hb => ?_, fun m hm => ⟨(h.ways m hm).src, (h.ways m hm).dst, (h.ways m hm).kind, (h.ways m hm).ack, (h.ways m hm).sent⟩, h'.vals, h'.alen, h'.ans⟩
 ·show ((s.W.set i x).length : Int) = s.workers
  rw [List.length_set]; exact h.len
 ·show s.links.length = (s.W.set i x).length
  rw [List.length_set]; exact h.llen
 ·show ls.length = (s.W.set i x).length
  rw [List.length_set]; exact h.lrow ls hl
 ·rcases List.mem_or_eq_of_mem_set hy with e | rfl
  ·exact h'.works y e
  ·exact hx
 ·have ha' : a < s.W.length := by simpa using ha
  have hb' : b < s.W.length := by simpa using hb
  exact h'.links a b ha' hb'
theorem Fine.revals {N N' : Nat} {s : RunS} (h : Fine N s) {v : List (ByteArray × Int)} (hv : v.length <= N') (hN : N <= N') : Fine N' { s with values := v } := by
 have h' := h.more hN
 exact ⟨h.len, h.two, h.five, h.llen, h.lrow, h.w60, h.rmin, h.rmax, h.prog, h'.works, h'.links, fun m hm => ⟨(h.ways m hm).src, (h.ways m hm).dst, (h.ways m hm).kind, (h.ways m hm).ack, (h.ways m hm).sent⟩, hv, h'.alen, h'.ans⟩
theorem Fine.reflags {N : Nat} {s : RunS} (h : Fine N s) (a o d : Bool) : Fine N { s with around := a, over := o, done := d } :=
 ⟨h.len, h.two, h.five, h.llen, h.lrow, h.w60, h.rmin, h.rmax, h.prog, h.works, h.links, fun m hm => ⟨(h.ways m hm).src, (h.ways m hm).dst, (h.ways m hm).kind, (h.ways m hm).ack, (h.ways m hm).sent⟩, h.vals, h.alen, h.ans⟩
theorem Fine.reans {N N' : Nat} {s : RunS} (h : Fine N s) {l : List AnsS} (hl : l.length <= N') (hn : l ≠ []) (ha : ∀ a ∈ l, AnsOK N' a) (hN : N <= N') : Fine N' { s with answers := l } := by
 have h' := h.more hN
 exact ⟨h.len, h.two, h.five, h.llen, h.lrow, h.w60, h.rmin, h.rmax, h.prog, h'.works, fun i j hi hj => (h'.links i j hi hj).more (Nat.le_refl _) (fun _ => hn), fun m hm => ⟨(h.ways m hm).src, (h.ways m hm).dst, (h.ways m hm).kind, (h.ways m hm).ack, (h.ways m hm).sent⟩, h'.vals, hl, ha⟩
theorem worker0_ok (ks : List KindS) (N : Nat) : WorkerOK ks N worker0 := ⟨by simp [worker0], fun t h => by simp [worker0] at h, by simp [worker0], by simp [worker0], by simp [worker0, msg0]; omega⟩
theorem Fine.worker {N : Nat} {s : RunS} (h : Fine N s) (i : Nat) : WorkerOK s.ks N (s.W[i]?.getD worker0) := by
 cases hx : s.W[i]? with
 | none => exact worker0_ok _ _
 | some x => exact h.works x (List.mem_of_getElem? hx)
theorem Fine.send {N : Nat} {s : RunS} (h : Fine N s) {m : MsgS} {i j : Nat} (hi : i < s.W.length) (hj : j < s.W.length) (hm : ∀ n : Nat, MsgOK s.ks (s.answers ≠ []) (N + 1) i j n { m with no := n + 1 }) : Fine (N + 1) (sendS s m) := by
 have e1 : m.src.toNat = i := by have := (hm 0).src; dsimp only at this; omega
 have e2 : m.dst.toNat = j := by have := (hm 0).dst; dsimp only at this; omega
 have hl := h.links i j hi hj
 have hlk : LinkOK s.ks (s.answers ≠ []) (N + 1) i j { linkOf s i j with all := (linkOf s i j).all ++ [{ m with no := (linkOf s i j).all.length + 1 }] } := by
  refine ⟨fun n m' e => ?_, ?_, ?_, ?_, fun n hn => ?_, Nat.le_succ_of_le hl.klen⟩
  ·rcases Nat.lt_or_ge n (linkOf s i j).all.length with hlt | hge
   ·rw [List.getElem?_append_left hlt] at e
    exact (hl.msgs n m' e).more (Nat.le_succ _) id
   ·rw [List.getElem?_append_right hge] at e
    have hn : n = (linkOf s i j).all.length := by
     have := (List.getElem?_eq_some_iff.1 e).1
     simp at this
     omega
    subst hn
    simp at e
    subst e
    exact hm _
  ·simp; exact hl.all
  ·have := hl.known; simp; omega
  ·have := hl.came; simp; omega
  ·have := hl.kept n hn; simp; omega
 have hs1 := h.relink hi hj (L := [{ m with no := (linkOf s i j).all.length + 1 }]) rfl hlk (Nat.le_succ _)
 have hk := (hm 0).kind
 have hwk : ∀ s2 : RunS, s2.links = (setLink s i j { linkOf s i j with all := (linkOf s i j).all ++ [{ m with no := (linkOf s i j).all.length + 1 }] }).links -> s2.workers = s.workers -> WayOK s2 { m with no := (linkOf s i j).all.length + 1 } := fun s2 h2 h3 => by
  have q1 := (hm 0).src
  have q2 := (hm 0).dst
  have q3 := h.len
  dsimp only at q1 q2 hk
  refine ⟨by rw [h3]; dsimp only; omega, by rw [h3]; dsimp only; omega, by dsimp only; omega, fun e => by dsimp only at e; omega, fun _ => ⟨(linkOf s i j).all.length, rfl, ?_⟩⟩
  have : linkOf s2 m.src.toNat m.dst.toNat = linkOf (setLink s i j { linkOf s i j with all := (linkOf s i j).all ++ [{ m with no := (linkOf s i j).all.length + 1 }] }) i j := by
   show (s2.links[m.src.toNat]?.getD [])[m.dst.toNat]?.getD link0 = _
   rw [h2, e1, e2]
   rfl
  show (linkOf s2 m.src.toNat m.dst.toNat).all[_]? = _
  rw [this, linkOf_set _ h.llen h.lrow hi hj, if_pos ⟨rfl, rfl⟩]
  simp
 unfold sendS
 dsimp only
 rw [e1, e2]
 split
 ·refine Fine.way ?_ (hwk _ rfl rfl)
  have hx := h.worker i
  exact hs1.reworker i (x := { s.W[i]?.getD worker0 with sent := (s.W[i]?.getD worker0).sent + 1 }) ⟨by have := hx.few; dsimp only; omega, hx.good, by have := hx.sent; dsimp only; omega, by have := hx.came; dsimp only; omega, by have := hx.tok; dsimp only; omega⟩ (Nat.le_refl _)
 ·exact Fine.way hs1 (hwk _ rfl rfl)
theorem Fine.nat {N : Nat} {s : RunS} (h : Fine N s) {i : Int} (h0 : 0 <= i) (h1 : i < s.workers) : i.toNat < s.W.length /\ i = (i.toNat : Int) := by
 have := h.len
 omega
theorem msg_ok {ks : List KindS} {ans : Prop} {N i j n : Nat} {m : MsgS} (h1 : m.src = i) (h2 : m.dst = j) (h3 : i ≠ j) (h4 : m.no = n + 1) (h5 : 1 <= m.kind /\ m.kind <= 4) (h6 : m.kind = 2 -> Good ks m.t /\ m.t.arg <= 12) (h7 : m.sent = 0 /\ m.came = 0 /\ m.count = 0) : MsgOK ks ans N i j n m :=
 ⟨h1, h2, h3, h4, by omega, h6, fun e => by omega, fun e => by omega, fun e => by omega, by omega⟩
theorem Fine.work {N : Nat} {s : RunS} (h : Fine N s) (i : Int) : Fine (N + 1) (workS s i).1 := by
 have h1 := h.more (Nat.le_succ N)
 unfold workS
 split
 ·exact h1
 ·rename_i hw
  have hr : 0 <= i /\ i < s.workers := by
   unfold workerE at hw
   split at hw
   ·omega
   ·rename_i hn
    simp at hw
    simp [hw] at hn
    omega
  obtain ⟨hil, hie⟩ := h.nat hr.1 hr.2
  split
  ·exact h1
  ·rename_i x hx
   have hxo := h.works x (List.mem_of_getElem? hx)
   split
   ·exact h1
   ·rename_i t ht
    have htm : t ∈ x.tasks := List.mem_of_getLast? ht
    split
    ·exact h1.reflags _ _ _
    ·rename_i hroom
     have hwk : WorkerOK s.ks N { x with tasks := x.tasks.dropLast ++ children s.ks t } := by
      refine ⟨?_, fun c hc => ?_, hxo.sent, hxo.came, hxo.tok⟩
      ·have := h.rmax
       have : x.tasks.length ≠ 0 := fun e => by rw [List.length_eq_zero_iff] at e; rw [e] at htm; simp at htm
       simp
       omega
      ·rcases List.mem_append.1 hc with e | e
       ·exact hxo.good c ((List.dropLast_sublist _).subset e)
       ·exact childrenFrom_good h.prog (hxo.good t htm) c e
     have hs1 := h.reworker i.toNat hwk (Nat.le_refl _)
     dsimp only
     split
     ·refine (hs1.more (Nat.le_succ N)).revals ?_ (Nat.le_refl _)
      rw [putS_length]
      have := h.vals
      omega
     ·rename_i h0
      refine hs1.send (i := i.toNat) (j := 0) ?_ ?_ (fun n => msg_ok hie rfl (by omega) rfl (by dsimp only; decide) (fun e => by simp at e) ⟨rfl, rfl, rfl⟩)
      ·simpa using hil
      ·have := h.len
       have := h.two
       simp; omega
theorem workerE_range {s : RunS} {i : Int} (hw : ¬ workerE s i ≠ 0) : 0 <= i /\ i < s.workers := by
 unfold workerE at hw
 split at hw
 ·omega
 ·rename_i hn
  simp at hw
  simp [hw] at hn
  omega
theorem messageE_range {s : RunS} {i : Int} (hw : ¬ messageE s i ≠ 0) : 0 <= i /\ i < s.way.length := by
 unfold messageE at hw
 split at hw
 ·omega
 ·rename_i hn
  simp at hw
  simp [hw] at hn
  omega
theorem Fine.steal {N : Nat} {s : RunS} (h : Fine N s) (i v : Int) : Fine (N + 1) (stealS s i v).1 := by
 have h1 := h.more (Nat.le_succ N)
 unfold stealS
 split
 ·exact h1
 ·rename_i hi
  split
  ·exact h1
  ·rename_i hv
   split
   ·exact h1
   ·rename_i hne
    obtain ⟨hi0, hi1⟩ := workerE_range hi
    obtain ⟨hv0, hv1⟩ := workerE_range hv
    obtain ⟨hil, hie⟩ := h.nat hi0 hi1
    obtain ⟨hvl, hve⟩ := h.nat hv0 hv1
    split
    ·exact h1
    ·rename_i x hx
     have hxo := h.works x (List.mem_of_getElem? hx)
     split
     ·exact h1
     ·refine Fine.send (h.reworker i.toNat (x := { x with asked := true }) ⟨hxo.few, hxo.good, hxo.sent, hxo.came, hxo.tok⟩ (Nat.le_refl _)) (i := i.toNat) (j := v.toNat) ?_ ?_ (fun n => msg_ok hie hve (by omega) rfl (by dsimp only; decide) (fun e => by simp at e) ⟨rfl, rfl, rfl⟩)
      ·simpa using hil
      ·simpa using hvl
theorem Fine.drop {N : Nat} {s : RunS} (h : Fine N s) (k : Int) : Fine N (dropS s k).1 := by
 unfold dropS
 split
 ·exact h
 ·refine h.reway ?_ (fun m hm => h.ways m ?_)
  ·have := h.w60
   simp
   omega
  ·rcases List.mem_append.1 hm with e | e
   ·exact List.mem_of_mem_take e
   ·exact List.mem_of_mem_drop e
theorem Fine.twice {N : Nat} {s : RunS} (h : Fine N s) (k : Int) : Fine N (twiceS s k).1 := by
 unfold twiceS
 split
 ·exact h
 ·rename_i hm
  obtain ⟨h0, h1⟩ := messageE_range hm
  refine h.way ?_
  rw [List.getElem?_eq_getElem (show k.toNat < s.way.length by omega)]
  exact h.ways _ (List.getElem_mem _)
theorem Fine.again {N : Nat} {s : RunS} (h : Fine N s) {i j : Nat} (hi : i < s.W.length) (hj : j < s.W.length) (l : LinkS) (hl : l = linkOf s i j) : Fine N (againS s l) := by
 subst hl
 have hk := h.links i j hi hj
 unfold againS
 split
 ·rename_i hlt
  refine h.way ?_
  have h0 := hk.known
  have hg : (linkOf s i j).all[(linkOf s i j).known.toNat]? = some (linkOf s i j).all[(linkOf s i j).known.toNat] := List.getElem?_eq_getElem (by omega)
  rw [hg]
  have hm := hk.msgs _ _ hg
  have hlen := h.len
  have hkd := hm.kind
  simp only [Option.getD_some]
  refine ⟨by have := hm.src; omega, by have := hm.dst; omega, by omega, fun e => by omega, fun _ => ⟨_, hm.no, ?_⟩⟩
  have e1 : (linkOf s i j).all[(linkOf s i j).known.toNat].src.toNat = i := by have := hm.src; omega
  have e2 : (linkOf s i j).all[(linkOf s i j).known.toNat].dst.toNat = j := by have := hm.dst; omega
  rw [e1, e2]
  exact hg
 ·exact h
theorem againS_links (s : RunS) (l : LinkS) : (againS s l).links = s.links /\ (againS s l).W = s.W := by
 unfold againS wayS
 split
 ·split <;> exact ⟨rfl, rfl⟩
 ·exact ⟨rfl, rfl⟩
theorem Fine.tick {N : Nat} {s : RunS} (h : Fine N s) (i : Int) : Fine N (tickS s i).1 := by
 unfold tickS
 split
 ·exact h
 ·rename_i hw
  obtain ⟨h0, h1⟩ := workerE_range hw
  obtain ⟨hil, hie⟩ := h.nat h0 h1
  have key : ∀ (L : List LinkS) (k : Nat) (s' : RunS), Fine N s' -> s'.links = s.links -> s'.W = s.W -> (∀ n l, L[n]? = some l -> l = linkOf s i.toNat (k + n) /\ k + n < s.W.length) -> Fine N (L.foldl againS s') := by
   intro L
   induction L with
   | nil => intro k s' h' _ _ _; exact h'
   | cons l r ih =>
    intro k s' h' e1 e2 hL
    have hl := hL 0 l rfl
    rw [Nat.add_zero] at hl
    refine ih (k + 1) _ (h'.again (i := i.toNat) (j := k) (by rw [e2]; exact hil) (by rw [e2]; exact hl.2) l ?_) ((againS_links s' l).1.trans e1) ((againS_links s' l).2.trans e2) (fun n l' hn => ?_)
    ·rw [hl.1]
     unfold linkOf
     rw [e1]
    ·have := hL (n + 1) l' (by simpa using hn)
     rw [show k + 1 + n = k + (n + 1) by omega]
     exact this
  have hg : s.links[i.toNat]? = some (s.links[i.toNat]'(by have := h.llen; omega)) := List.getElem?_eq_getElem _
  have hlen := h.lrow _ (List.mem_of_getElem? hg)
  refine key _ 0 s h rfl rfl (fun n l hn => ?_)
  rw [hg] at hn
  simp only [Option.getD_some] at hn
  have hnl := (List.getElem?_eq_some_iff.1 hn).1
  refine ⟨?_, by omega⟩
  unfold linkOf
  rw [hg, Nat.zero_add, Option.getD_some, hn]
  rfl
theorem Fine.noted {N : Nat} {s : RunS} (h : Fine N s) {a b : Int} (c : Bool) (ha : 0 <= a /\ a <= 1000000000) (hb : 0 <= b /\ b <= 1000000000) : Fine (N + 1) (notedS s a b c) := by
 unfold notedS
 split
 ·exact h.more (Nat.le_succ N)
 ·rename_i x hx
  have hm : x ∈ s.answers := List.mem_of_getLast? hx
  have hxo := h.ans x hm
  refine h.reans ?_ (by simp) (fun y hy => ?_) (Nat.le_succ N)
  ·have := h.alen
   have : s.answers.length ≠ 0 := fun e => by rw [List.length_eq_zero_iff] at e; rw [e] at hm; simp at hm
   simp
   omega
  ·rcases List.mem_append.1 hy with e | e
   ·exact (h.ans y ((List.dropLast_sublist _).subset e)).more (Nat.le_succ N)
   ·rw [List.mem_singleton.1 e]
    exact ⟨by have := hxo.many; dsimp only; omega, by have := hxo.sent; dsimp only; omega, by have := hxo.came; dsimp only; omega⟩
theorem Fine.came {N : Nat} {s : RunS} (h : Fine N s) (hN : N <= 1000000000) {i j n : Nat} {m : MsgS} (hi : i < s.W.length) (hj : j < s.W.length) (hm : MsgOK s.ks (s.answers ≠ []) N i j n m) : Fine (N + 1) (cameS s m) := by
 have h1 := h.more (Nat.le_succ N)
 have hxo := h.worker m.dst.toNat
 have hs0 := hm.src
 have hd0 := hm.dst
 have hne := hm.ne
 have hnums := hm.nums
 unfold cameS
 dsimp only
 generalize hx : s.W[m.dst.toNat]?.getD worker0 = x at hxo ⊢
 split
 ·split
  ·exact h.send (i := j) (j := i) hj hi (fun n => msg_ok hd0 hs0 (by omega) rfl (by dsimp only; decide) (fun e => by simp at e) ⟨rfl, rfl, rfl⟩)
  ·rename_i t r ht
   have hwk : WorkerOK s.ks N { x with tasks := r } := ⟨by have := hxo.few; rw [ht] at this; simp at this; dsimp only; omega, fun c hc => hxo.good c (by rw [ht]; exact List.mem_cons_of_mem _ hc), hxo.sent, hxo.came, hxo.tok⟩
   refine Fine.send (h.reworker m.dst.toNat hwk (Nat.le_refl _)) (i := j) (j := i) (by simpa using hj) (by simpa using hi) (fun n => msg_ok hd0 hs0 (by omega) rfl (by dsimp only; decide) (fun _ => hxo.good t (by rw [ht]; exact List.mem_cons_self ..)) ⟨rfl, rfl, rfl⟩)
 ·split
  ·rename_i h2
   refine h.reworker _ ⟨?_, fun c hc => ?_, ?_, ?_, ?_⟩ (Nat.le_succ N)
   ·have := hxo.few; simp; omega
   ·rcases List.mem_append.1 hc with e | e
    ·exact hxo.good c e
    ·rw [List.mem_singleton.1 e]; exact hm.task h2
   ·have := hxo.sent; dsimp only; omega
   ·have := hxo.came; dsimp only; omega
   ·have := hxo.tok; dsimp only; omega
  ·split
   ·refine (h.reworker m.dst.toNat (x := { x with asked := false }) ⟨hxo.few, hxo.good, hxo.sent, hxo.came, hxo.tok⟩ (Nat.le_refl _)).more (Nat.le_succ N)
   ·split
    ·refine Fine.revals (h.reworker m.dst.toNat (x := { x with came := x.came + 1, black := true }) (N' := N + 1) ⟨by have := hxo.few; dsimp only; omega, hxo.good, by have := hxo.sent; dsimp only; omega, by have := hxo.came; dsimp only; omega, by have := hxo.tok; dsimp only; omega⟩ (Nat.le_succ N)) ?_ (Nat.le_refl _)
     rw [putS_length]
     have := h.vals
     omega
    ·split
     ·exact Fine.reflags ((h.reworker m.dst.toNat (x := { x with has := true, token := m }) ⟨hxo.few, hxo.good, hxo.sent, hxo.came, by dsimp only; omega⟩ (Nat.le_refl _)).more (Nat.le_succ N)) _ _ _
     ·split
      ·rename_i h6
       have hi0 := hm.wave h6
       have hsn := hxo.sent
       have hcm := hxo.came
       refine h.send (i := j) (j := i) hj hi (fun n => ⟨hd0, by show (0 : Int) = _; omega, by omega, rfl, by dsimp only; decide, fun e => by simp at e, fun _ => hm.told (.inl h6), fun e => by simp at e, fun _ => hi0, ?_⟩)
       refine ⟨hsn.1, ?_, hcm.1, ?_, ?_, ?_⟩
       ·show x.sent <= _; omega
       ·show x.came <= _; omega
       ·show _ <= (0 : Int); omega
       ·show (0 : Int) <= _; omega
      ·split
       ·exact h.noted _ ⟨hnums.1, hnums.2.1⟩ ⟨hnums.2.2.1, hnums.2.2.2.1⟩
       ·exact h1
theorem sendS_link (s : RunS) (m : MsgS) {a b : Nat} (hl : s.links.length = s.W.length) (hr : ∀ ls ∈ s.links, ls.length = s.W.length) (hi : m.src.toNat < s.W.length) (hj : m.dst.toNat < s.W.length) (h : ¬ (a = m.src.toNat /\ b = m.dst.toNat)) : linkOf (sendS s m) a b = linkOf s a b := by
 have e : ∀ s2 : RunS, s2.links = (setLink s m.src.toNat m.dst.toNat { linkOf s m.src.toNat m.dst.toNat with all := (linkOf s m.src.toNat m.dst.toNat).all ++ [{ m with no := (linkOf s m.src.toNat m.dst.toNat).all.length + 1 }] }).links -> linkOf s2 a b = linkOf s a b := fun s2 h2 => by
  have := linkOf_set { linkOf s m.src.toNat m.dst.toNat with all := (linkOf s m.src.toNat m.dst.toNat).all ++ [{ m with no := (linkOf s m.src.toNat m.dst.toNat).all.length + 1 }] } hl hr hi hj a b
  rw [if_neg h] at this
  rw [<- this]
  show (s2.links[a]?.getD [])[b]?.getD link0 = _
  rw [h2]
  rfl
 apply e
 unfold sendS wayS
 dsimp only
 split <;> split <;> rfl
theorem cameS_link {N : Nat} {s : RunS} (h : Fine N s) {i j n : Nat} {m : MsgS} (hi : i < s.W.length) (hj : j < s.W.length) (hm : MsgOK s.ks (s.answers ≠ []) N i j n m) : linkOf (cameS s m) i j = linkOf s i j /\ (cameS s m).W.length = s.W.length := by
 have hs0 := hm.src
 have hd0 := hm.dst
 have hne := hm.ne
 have sendW : ∀ (s : RunS) (m : MsgS), (sendS s m).W.length = s.W.length := fun s m => by
  unfold sendS wayS
  dsimp only
  split <;> split <;> simp
 unfold cameS
 dsimp only
 generalize s.W[m.dst.toNat]?.getD worker0 = x
 split
 ·split
  ·exact ⟨sendS_link _ _ h.llen h.lrow (by show m.dst.toNat < _; omega) (by show m.src.toNat < _; omega) (by show ¬ (i = m.dst.toNat /\ j = m.src.toNat); omega), sendW _ _⟩
  ·rename_i t r ht
   refine ⟨(sendS_link _ _ (by simpa using h.llen) (by simpa using h.lrow) (by show m.dst.toNat < _; simp; omega) (by show m.src.toNat < _; simp; omega) (by show ¬ (i = m.dst.toNat /\ j = m.src.toNat); omega)).trans rfl, (sendW _ _).trans (by simp)⟩
 ·split
  ·exact ⟨rfl, by simp⟩
  ·split
   ·exact ⟨rfl, by simp⟩
   ·split
    ·exact ⟨rfl, by simp⟩
    ·split
     ·exact ⟨rfl, by simp⟩
     ·split
      ·exact ⟨sendS_link _ _ h.llen h.lrow (by show m.dst.toNat < _; omega) (by show (0 : Int).toNat < _; simp; omega) (by show ¬ (i = m.dst.toNat /\ j = (0 : Int).toNat); omega), sendW _ _⟩
      ·split
       ·unfold notedS
        split <;> exact ⟨rfl, rfl⟩
       ·exact ⟨rfl, rfl⟩
theorem linkOf_mem {s : RunS} (hl : s.links.length = s.W.length) (hr : ∀ ls ∈ s.links, ls.length = s.W.length) {ls : List LinkS} {l : LinkS} (h1 : ls ∈ s.links) (h2 : l ∈ ls) : ∃ i j, i < s.W.length /\ j < s.W.length /\ l = linkOf s i j := by
 obtain ⟨i, hi, rfl⟩ := List.mem_iff_getElem.1 h1
 obtain ⟨j, hj, rfl⟩ := List.mem_iff_getElem.1 h2
 have := hr _ h1
 refine ⟨i, j, by omega, by omega, ?_⟩
 unfold linkOf
 rw [List.getElem?_eq_getElem hi, Option.getD_some, List.getElem?_eq_getElem hj, Option.getD_some]
theorem Fine.shaped {N : Nat} {s : RunS} (h : Fine N s) : Shaped s := ⟨h.len, h.two, h.five, h.llen, h.lrow, h.w60⟩
theorem Fine.small {N : Nat} {s : RunS} (h : Fine N s) : Small N s := by
 have key : ∀ ls ∈ s.links, ∀ l ∈ ls, ∃ i j, LinkOK s.ks (s.answers ≠ []) N i j l := fun ls h1 l h2 => by
  obtain ⟨i, j, hi, hj, rfl⟩ := linkOf_mem h.llen h.lrow h1 h2
  exact ⟨i, j, h.links i j hi hj⟩
 refine ⟨fun ls h1 l h2 => ?_, fun ls h1 l h2 => ?_, fun ls h1 l h2 => ?_, fun ls h1 l h2 => ?_, fun x hx => (h.works x hx).sent, fun x hx => (h.works x hx).came⟩
 all_goals obtain ⟨i, j, hk⟩ := key ls h1 l h2
 ·exact hk.all
 ·exact hk.known.1
 ·have := hk.came
  have := hk.all
  omega
 ·exact hk.klen
theorem Fine.known {N : Nat} {s : RunS} (h : Fine N s) : ∀ ls ∈ s.links, ∀ l ∈ ls, l.known.toNat <= l.all.length := fun ls h1 l h2 => by
 obtain ⟨i, j, hi, hj, rfl⟩ := linkOf_mem h.llen h.lrow h1 h2
 have := (h.links i j hi hj).known
 omega
theorem Fine.ready {N : Nat} {s : RunS} (h : Fine N s) (hN : N <= 900000) {i j n : Nat} {m : MsgS} (hi : i < s.W.length) (hj : j < s.W.length) (hm : MsgOK s.ks (s.answers ≠ []) N i j n m) : CameReady s m := by
 have hlen := h.len
 have hs0 := hm.src
 have hd0 := hm.dst
 have hnums := hm.nums
 refine ⟨h.shaped, ⟨N, by omega, h.small⟩, by omega, by omega, fun x hx => by have := (h.works x hx).few; omega, by have := h.vals; omega, hm.kind, fun h7 => ?_⟩
 have hne := hm.told (.inr h7)
 have e := List.dropLast_concat_getLast hne
 have ha := h.ans _ (List.getLast_mem hne)
 have hal := h.alen
 refine ⟨s.answers.dropLast, s.answers.getLast hne, e.symm, by simp; omega, by have := ha.many; omega, ?_, ?_⟩
 ·have := ha.sent; omega
 ·have := ha.came; omega
theorem Fine.linkFine {N : Nat} {s : RunS} (h : Fine N s) (hN : N <= 900000) {i j : Nat} (hi : i < s.W.length) (hj : j < s.W.length) : LinkFine s i j := by
 have hl := h.links i j hi hj
 have h1 := hl.klen
 have h2 := hl.came
 have h3 := hl.all
 exact ⟨h.shaped, by omega, by omega⟩
theorem Fine.come {i j : Nat} : ∀ (f d N : Nat) (s : RunS), Fine N s -> i < s.W.length -> j < s.W.length -> N + d <= 900000 -> (∀ n ∈ (linkOf s i j).kept, n <= (linkOf s i j).came + d) -> ((linkOf s i j).all.length : Int) + 1 <= (linkOf s i j).came + f -> ComeOK f s i j /\ Fine (N + d) (comeS f s i j) := by
 intro f
 induction f with
 | zero =>
  intro d N s h hi hj _ _ hf
  have := (h.links i j hi hj).came
  omega
 | succ f ih =>
  intro d N s h hi hj hN hd hf
  have hl := h.links i j hi hj
  unfold ComeOK comeS
  by_cases hb : nextB (linkOf s i j) = true
  ·rw [if_pos hb]
   have hmem : (linkOf s i j).came + 1 ∈ (linkOf s i j).kept := by
    unfold nextB at hb
    obtain ⟨y, hy, hye⟩ := List.any_eq_true.1 hb
    have : y = (linkOf s i j).came + 1 := by simpa using hye
    rw [<- this]; exact hy
   have hk := hl.kept _ hmem
   have hd1 := hd _ hmem
   have hc := hl.came
   have hs1 : Fine N (setLink s i j { linkOf s i j with came := (linkOf s i j).came + 1 }) := h.relink hi hj (L := []) (by simp) ⟨hl.msgs, hl.all, hl.known, by dsimp only; omega, fun n hn => by have := hl.kept n hn; dsimp only; omega, hl.klen⟩ (Nat.le_refl _)
   have hg : (linkOf s i j).all[(linkOf s i j).came.toNat]? = some ((linkOf s i j).all[(linkOf s i j).came.toNat]'(by omega)) := List.getElem?_eq_getElem _
   have hm := hl.msgs _ _ hg
   have hst : stepS s i j = cameS (setLink s i j { linkOf s i j with came := (linkOf s i j).came + 1 }) ((linkOf s i j).all[(linkOf s i j).came.toNat]'(by omega)) := by
    unfold stepS
    rw [hg, Option.getD_some]
   have hfin : Fine (N + 1) (stepS s i j) := by
    rw [hst]
    exact hs1.came (by omega) hi hj hm
   obtain ⟨hlk, hlw⟩ := cameS_link hs1 hi hj hm
   rw [<- hst] at hlk hlw
   rw [linkOf_set _ h.llen h.lrow hi hj, if_pos ⟨rfl, rfl⟩] at hlk
   have hlw' : (stepS s i j).W.length = s.W.length := hlw
   have r := ih (d - 1) (N + 1) (stepS s i j) hfin (by omega) (by omega) (by omega) (fun n hn => by rw [hlk] at hn ⊢; have := hd n hn; dsimp only; omega) (by rw [hlk]; dsimp only; omega)
   refine ⟨⟨h.linkFine (by omega) hi hj, fun _ => ⟨by omega, ?_, r.1⟩⟩, ?_⟩
   ·rw [hg, Option.getD_some]
    exact hs1.ready (by omega) hi hj hm
   ·have := r.2
    rw [show N + 1 + (d - 1) = N + d by omega] at this
    exact this
  ·rw [if_neg hb]
   exact ⟨⟨h.linkFine (by omega) hi hj, fun e => absurd e hb⟩, h.more (Nat.le_add_right _ _)⟩
theorem Fine.unway {N : Nat} {s : RunS} (h : Fine N s) (k : Nat) : Fine N { s with way := s.way.take k ++ s.way.drop (k + 1) } := by
 refine h.reway ?_ (fun m hm => h.ways m ?_)
 ·have := h.w60
  simp
  omega
 ·rcases List.mem_append.1 hm with e | e
  ·exact List.mem_of_mem_take e
  ·exact List.mem_of_mem_drop e
theorem Fine.keep {N : Nat} {s : RunS} (h : Fine N s) {i j : Nat} (hi : i < s.W.length) (hj : j < s.W.length) {n : Int} (hn : n <= (linkOf s i j).all.length) : Fine (N + 1) (setLink s i j (keepS (linkOf s i j) n)) := by
 have hl := h.links i j hi hj
 refine h.relink hi hj (L := []) ?_ ?_ (Nat.le_succ N)
 ·unfold keepS
  split <;> simp
 ·unfold keepS
  split
  ·rename_i hc
   obtain ⟨h1, h2, -⟩ := hc
   have h0 := hl.came
   have hk := hl.klen
   refine ⟨fun a m e => (hl.msgs a m e).more (Nat.le_succ N) id, Nat.le_succ_of_le hl.all, hl.known, hl.came, fun a ha => ?_, by simp; omega⟩
   rcases List.mem_append.1 ha with e | e
   ·exact hl.kept a e
   ·rw [List.mem_singleton.1 e]
    dsimp only
    omega
  ·exact hl.more (Nat.le_succ N) id
theorem sendS_workers (s : RunS) (m : MsgS) : (sendS s m).workers = s.workers := by
 unfold sendS wayS
 dsimp only
 split <;> split <;> rfl
theorem cameS_workers (s : RunS) (m : MsgS) : (cameS s m).workers = s.workers := by
 unfold cameS
 dsimp only
 split
 ·split
  ·exact sendS_workers _ _
  ·exact sendS_workers _ _
 ·repeat' split
  all_goals first | rfl | exact sendS_workers _ _ | (unfold notedS; split <;> rfl)
theorem comeS_workers (i j : Nat) : ∀ (f : Nat) (s : RunS), (comeS f s i j).workers = s.workers := by
 intro f
 induction f with
 | zero => intro s; rfl
 | succ f ih =>
  intro s
  unfold comeS
  split
  ·rw [ih]
   unfold stepS
   rw [cameS_workers]
   rfl
  ·rfl
theorem Fine.deliver {N : Nat} {s : RunS} (h : Fine N s) (hN : N + 5 <= 900000) (k : Int) : Fine (N + 5) (deliverS s k).1 := by
 have h5 := h.more (Nat.le_add_right N 5)
 unfold deliverS
 split
 ·exact h5
 ·rename_i hme
  obtain ⟨h0, h1⟩ := messageE_range hme
  have hg : s.way[k.toNat]? = some (s.way[k.toNat]'(by omega)) := List.getElem?_eq_getElem _
  have hw := h.ways _ (List.mem_of_getElem? hg)
  rw [hg]
  dsimp only [Option.getD_some]
  generalize s.way[k.toNat] = m at hw ⊢
  have hu := h.unway k.toNat
  obtain ⟨hsl, hse⟩ := h.nat hw.src.1 hw.src.2
  obtain ⟨hdl, hde⟩ := h.nat hw.dst.1 hw.dst.2
  split
  ·rename_i hk0
   split
   ·rename_i hlt
    have hl := hu.links _ _ hdl hsl
    refine (hu.relink hdl hsl (l := { linkOf { s with way := s.way.take k.toNat ++ s.way.drop (k.toNat + 1) } m.dst.toNat m.src.toNat with known := m.no }) (L := []) (by simp) ⟨hl.msgs, hl.all, ?_, hl.came, hl.kept, hl.klen⟩ (Nat.le_refl _)).more (Nat.le_add_right N 5)
    exact hw.ack hk0
   ·exact hu.more (Nat.le_add_right N 5)
  ·rename_i hk0
   obtain ⟨n, hn, hne⟩ := hw.sent hk0
   have hnl := (List.getElem?_eq_some_iff.1 hne).1
   have hkp := hu.keep hsl hdl (n := m.no) (by rw [hn]; show (n : Int) + 1 <= ((linkOf s m.src.toNat m.dst.toNat).all.length : Int); omega)
   have hset := linkOf_set (s := { s with way := s.way.take k.toNat ++ s.way.drop (k.toNat + 1) }) (keepS (linkOf { s with way := s.way.take k.toNat ++ s.way.drop (k.toNat + 1) } m.src.toNat m.dst.toNat) m.no) hu.llen hu.lrow hsl hdl m.src.toNat m.dst.toNat
   rw [if_pos ⟨rfl, rfl⟩] at hset
   have hc := Fine.come (i := m.src.toNat) (j := m.dst.toNat) ((linkOf { s with way := s.way.take k.toNat ++ s.way.drop (k.toNat + 1) } m.src.toNat m.dst.toNat).all.length + 1) 4 _ _ hkp hsl hdl (by omega) (fun a ha => ((hkp.links _ _ hsl hdl).kept a ha).2.2) (by
    have hkc := (hkp.links _ _ hsl hdl).came
    rw [hset] at hkc ⊢
    have : (keepS (linkOf { s with way := s.way.take k.toNat ++ s.way.drop (k.toNat + 1) } m.src.toNat m.dst.toNat) m.no).all = (linkOf { s with way := s.way.take k.toNat ++ s.way.drop (k.toNat + 1) } m.src.toNat m.dst.toNat).all := by
     unfold keepS
     split <;> rfl
    rw [this] at hkc ⊢
    omega)
   have hf := hc.2
   have hwk := comeS_workers m.src.toNat m.dst.toNat ((linkOf { s with way := s.way.take k.toNat ++ s.way.drop (k.toNat + 1) } m.src.toNat m.dst.toNat).all.length + 1) (setLink { s with way := s.way.take k.toNat ++ s.way.drop (k.toNat + 1) } m.src.toNat m.dst.toNat (keepS (linkOf { s with way := s.way.take k.toNat ++ s.way.drop (k.toNat + 1) } m.src.toNat m.dst.toNat) m.no))
   have hwk' : _ = s.workers := hwk
   clear hc hset hkp
   revert hf hwk'
   generalize comeS _ _ _ _ = s3
   intro hf hwk'
   refine Fine.way hf ⟨?_, ?_, ?_, fun _ => ?_, fun e => absurd rfl e⟩
   ·rw [hwk']; exact hw.dst
   ·rw [hwk']; exact hw.src
   ·exact ⟨Int.le_refl _, by show (0 : Int) <= 7; omega⟩
   ·have h3 := hf.len
    rw [hwk'] at h3
    have h4 := h.len
    have hl3 := (hf.links m.src.toNat m.dst.toNat (by omega) (by omega)).came
    exact hl3
theorem Fine.comeOK {N : Nat} {s : RunS} (h : Fine N s) (hN : N + 5 <= 900000) {k : Nat} {m : MsgS} (hm : s.way[k]? = some m) (hk : m.kind ≠ 0) : ∀ i j s1, m.src = (i : Nat) -> m.dst = (j : Nat) -> s1 = { s with way := s.way.take k ++ s.way.drop (k + 1) } -> ComeOK ((linkOf s1 i j).all.length + 1) (setLink s1 i j (keepS (linkOf s1 i j) m.no)) i j := by
 intro i j s1 e1 e2 e3
 have hw := h.ways m (List.mem_of_getElem? hm)
 have hu : Fine N s1 := by rw [e3]; exact h.unway k
 have hwl : s1.W.length = s.W.length := by rw [e3]
 have hlen := h.len
 have hw1 := hw.src
 have hw2 := hw.dst
 have hi : i < s1.W.length := by omega
 have hj : j < s1.W.length := by omega
 obtain ⟨n, hn, hne⟩ := hw.sent hk
 have hnl := (List.getElem?_eq_some_iff.1 hne).1
 have hlo : linkOf s1 i j = linkOf s m.src.toNat m.dst.toNat := by rw [e3, e1, e2]; rfl
 have hkp := hu.keep hi hj (n := m.no) (by rw [hlo]; omega)
 have hset := linkOf_set (keepS (linkOf s1 i j) m.no) hu.llen hu.lrow hi hj i j
 rw [if_pos ⟨rfl, rfl⟩] at hset
 refine (Fine.come ((linkOf s1 i j).all.length + 1) 4 _ _ hkp hi hj (by omega) (fun a ha => ((hkp.links _ _ hi hj).kept a ha).2.2) ?_).1
 have hkc := (hkp.links _ _ hi hj).came
 rw [hset] at hkc ⊢
 have : (keepS (linkOf s1 i j) m.no).all = (linkOf s1 i j).all := by
  unfold keepS
  split <;> rfl
 rw [this] at hkc ⊢
 omega
theorem sendS_rest (s : RunS) (m : MsgS) : (sendS s m).answers = s.answers /\ (sendS s m).W.length = s.W.length /\ (sendS s m).ks = s.ks := by
 unfold sendS wayS
 dsimp only
 split <;> split <;> simp
theorem Fine.new {workers room mode kind arg : Int} {ks : List KindS} (hc : cfgB workers room mode = true) (hp : progB ks kind arg = true) : Fine 0 (newS workers room mode ks kind arg) := by
 simp [cfgB] at hc
 have hr : 0 <= kind /\ kind < ks.length /\ 0 <= arg /\ arg <= 12 := by
  have := hp
  simp [progB, rangeB, numB] at this
  omega
 have hlen : (newS workers room mode ks kind arg).W.length = workers.toNat := by simp [newS]; omega
 have hL : ∀ ls ∈ (newS workers room mode ks kind arg).links, ls = List.replicate workers.toNat link0 := fun ls h => List.eq_of_mem_replicate h
 refine ⟨?_, hc.1.1.1.1, hc.1.1.1.2, ?_, fun ls h => ?_, Nat.zero_le _, hc.1.1.2, hc.1.2, hp, fun x hx => ?_, fun i j hi hj => ?_, fun m hm => by simp [newS] at hm, Nat.zero_le _, Nat.zero_le _, fun a ha => by simp [newS] at ha⟩
 ·rw [hlen]; show (workers.toNat : Int) = workers; omega
 ·rw [hlen]; simp [newS]
 ·rw [hlen, hL ls h]; simp
 ·rcases List.mem_cons.1 hx with e | e
  ·subst e
   refine ⟨by simp, fun t ht => ?_, ⟨Int.le_refl _, Int.le_refl _⟩, ⟨Int.le_refl _, Int.le_refl _⟩, ⟨Int.le_refl _, Int.le_refl _⟩⟩
   simp at ht
   subst ht
   refine ⟨⟨hr.1, hr.2.1, hr.2.2.1, ?_⟩, hr.2.2.2⟩
   show (((⟨#[]⟩ : ByteArray).size : Nat) : Int) + arg <= 12
   have : (⟨#[]⟩ : ByteArray).size = 0 := rfl
   rw [this]; omega
  ·rw [List.eq_of_mem_replicate e]
   exact worker0_ok _ _
 ·have : linkOf (newS workers room mode ks kind arg) i j = link0 := by
   unfold linkOf
   rw [hlen] at hi hj
   simp [newS, hi, hj]
  rw [this]
  exact ⟨fun n m e => by simp [link0] at e, Nat.le_refl _, ⟨Int.le_refl _, Int.le_refl _⟩, ⟨Int.le_refl _, Int.le_refl _⟩, fun n hn => by simp [link0] at hn, Nat.le_refl _⟩
theorem sum_set {α : Type} (g : α -> Nat) : ∀ (l : List α) (i : Nat) (x y : α), l[i]? = some y -> ((l.set i x).map g).sum + g y = (l.map g).sum + g x
 | [], i, x, y, h => by simp at h
 | a :: r, 0, x, y, h => by
  simp at h
  subst h
  simp
  omega
 | a :: r, i + 1, x, y, h => by
  have := sum_set g r i x y (by simpa using h)
  rw [List.set_cons_succ, List.map_cons, List.map_cons, List.sum_cons, List.sum_cons]
  omega
def linkSum (f : MsgS -> Nat) (l : LinkS) : Nat := ((l.all.drop l.came.toNat).map f).sum
def total (f : MsgS -> Nat) (s : RunS) : Nat := (s.links.map fun ls => (ls.map (linkSum f)).sum).sum
theorem total_set (f : MsgS -> Nat) {s : RunS} {i j : Nat} (l : LinkS) (hl : s.links.length = s.W.length) (hr : ∀ ls ∈ s.links, ls.length = s.W.length) (hi : i < s.W.length) (hj : j < s.W.length) : total f (setLink s i j l) + linkSum f (linkOf s i j) = total f s + linkSum f l := by
 have h1 : s.links[i]? = some (s.links[i]'(by omega)) := List.getElem?_eq_getElem _
 have h2 := hr _ (List.mem_of_getElem? h1)
 have h3 : (s.links[i]'(by omega))[j]? = some ((s.links[i]'(by omega))[j]'(by omega)) := List.getElem?_eq_getElem _
 have e1 := sum_set (linkSum f) _ j l _ h3
 have e2 := sum_set (fun ls => (ls.map (linkSum f)).sum) s.links i ((s.links[i]'(by omega)).set j l) _ h1
 have e3 : linkOf s i j = (s.links[i]'(by omega))[j]'(by omega) := by
  unfold linkOf
  rw [h1, Option.getD_some, h3, Option.getD_some]
 unfold total setLink
 dsimp only
 rw [h1, Option.getD_some, e3]
 omega
theorem total_congr (f : MsgS -> Nat) {s s' : RunS} (h : s.links = s'.links) : total f s = total f s' := by
 unfold total
 rw [h]
theorem total_send (f : MsgS -> Nat) {N : Nat} {s : RunS} (h : Fine N s) (m : MsgS) (hi : m.src.toNat < s.W.length) (hj : m.dst.toNat < s.W.length) : ∃ n, total f (sendS s m) = total f s + f { m with no := n } := by
 have hl := h.links _ _ hi hj
 have e := total_set f { linkOf s m.src.toNat m.dst.toNat with all := (linkOf s m.src.toNat m.dst.toNat).all ++ [{ m with no := (linkOf s m.src.toNat m.dst.toNat).all.length + 1 }] } h.llen h.lrow hi hj
 refine ⟨(linkOf s m.src.toNat m.dst.toNat).all.length + 1, ?_⟩
 have e2 : total f (sendS s m) = total f (setLink s m.src.toNat m.dst.toNat { linkOf s m.src.toNat m.dst.toNat with all := (linkOf s m.src.toNat m.dst.toNat).all ++ [{ m with no := (linkOf s m.src.toNat m.dst.toNat).all.length + 1 }] }) := by
  apply total_congr
  unfold sendS wayS
  dsimp only
  split <;> split <;> rfl
 have e3 : linkSum f { linkOf s m.src.toNat m.dst.toNat with all := (linkOf s m.src.toNat m.dst.toNat).all ++ [{ m with no := (linkOf s m.src.toNat m.dst.toNat).all.length + 1 }] } = linkSum f (linkOf s m.src.toNat m.dst.toNat) + f { m with no := (linkOf s m.src.toNat m.dst.toNat).all.length + 1 } := by
  unfold linkSum
  dsimp only
  rw [List.drop_append_of_le_length (by have := hl.came; omega)]
  simp
 rw [e2]
 omega
theorem total_step (f : MsgS -> Nat) {N : Nat} {s : RunS} (h : Fine N s) {i j : Nat} (hi : i < s.W.length) (hj : j < s.W.length) {m : MsgS} (hm : (linkOf s i j).all[(linkOf s i j).came.toNat]? = some m) : total f (setLink s i j { linkOf s i j with came := (linkOf s i j).came + 1 }) + f m = total f s := by
 have hl := h.links _ _ hi hj
 have e := total_set f { linkOf s i j with came := (linkOf s i j).came + 1 } h.llen h.lrow hi hj
 have e3 : linkSum f (linkOf s i j) = f m + linkSum f { linkOf s i j with came := (linkOf s i j).came + 1 } := by
  unfold linkSum
  dsimp only
  have h0 := hl.came
  obtain ⟨hlt, hme⟩ := List.getElem?_eq_some_iff.1 hm
  rw [show ((linkOf s i j).came + 1).toNat = (linkOf s i j).came.toNat + 1 by omega, List.drop_eq_getElem_cons hlt, hme]
  simp
 omega
theorem wayS_rest (s : RunS) (m : MsgS) : (wayS s m).links = s.links /\ (wayS s m).W = s.W /\ (wayS s m).values = s.values := by
 unfold wayS
 split <;> exact ⟨rfl, rfl, rfl⟩
theorem Fine.step {N : Nat} {s : RunS} (h : Fine N s) (hN : N <= 900000) {i j : Nat} (hi : i < s.W.length) (hj : j < s.W.length) (hb : nextB (linkOf s i j) = true) : Fine (N + 1) (stepS s i j) /\ linkOf (stepS s i j) i j = { linkOf s i j with came := (linkOf s i j).came + 1 } /\ (stepS s i j).W.length = s.W.length /\ (linkOf s i j).came + 1 ∈ (linkOf s i j).kept := by
 have hl := h.links i j hi hj
 have hmem : (linkOf s i j).came + 1 ∈ (linkOf s i j).kept := by
  unfold nextB at hb
  obtain ⟨y, hy, hye⟩ := List.any_eq_true.1 hb
  have : y = (linkOf s i j).came + 1 := by simpa using hye
  rw [<- this]; exact hy
 have hk := hl.kept _ hmem
 have hc := hl.came
 have hs1 : Fine N (setLink s i j { linkOf s i j with came := (linkOf s i j).came + 1 }) := h.relink hi hj (L := []) (by simp) ⟨hl.msgs, hl.all, hl.known, by dsimp only; omega, fun n hn => by have := hl.kept n hn; dsimp only; omega, hl.klen⟩ (Nat.le_refl _)
 have hg : (linkOf s i j).all[(linkOf s i j).came.toNat]? = some ((linkOf s i j).all[(linkOf s i j).came.toNat]'(by omega)) := List.getElem?_eq_getElem _
 have hm := hl.msgs _ _ hg
 have hst : stepS s i j = cameS (setLink s i j { linkOf s i j with came := (linkOf s i j).came + 1 }) ((linkOf s i j).all[(linkOf s i j).came.toNat]'(by omega)) := by
  unfold stepS
  rw [hg, Option.getD_some]
 obtain ⟨hlk, hlw⟩ := cameS_link hs1 hi hj hm
 rw [<- hst] at hlk hlw
 rw [linkOf_set _ h.llen h.lrow hi hj, if_pos ⟨rfl, rfl⟩] at hlk
 exact ⟨by rw [hst]; exact hs1.came (by omega) hi hj hm, hlk, hlw, hmem⟩
end Go.Proofs.YteahdfeialekbaaGreatDoor
