/-
  A program in memory, and one that was lent: what more may be written.
-/
import Derived.Test.YtdbbejedipfckaaGreatDoorKeptP
import Derived.Test.YtdbbejedipfckaaGreatDoorRefWork2
import Derived.Test.YtdbbejedipfckaaGreatDoorRefWork
namespace Go.Proofs.YtdbbejedipfckaaGreatDoor
open Go Go.RowKit

theorem KidsAt.mono {ok ok' : Nat → Prop} {W : World} {v : Value} {l : List KidS} (h : KidsAt ok W v l) (hx : ∀ b, ok b → ok' b) : KidsAt ok' W v l := by
  obtain ⟨a, cap, rfl, hc⟩ := h
  refine ⟨a, cap, rfl, fun j c hj => ?_⟩
  obtain ⟨b, o, ha, hok, hb⟩ := hc j c hj
  exact ⟨b, o, ha, hx b hok, hb⟩
theorem KindsAt.mono {ok ok' : Nat → Prop} {W : World} {v : Value} {l : List KindS} (h : KindsAt ok W v l) (hx : ∀ b, ok b → ok' b) : KindsAt ok' W v l := by
  obtain ⟨a, cap, rfl, hc⟩ := h
  refine ⟨a, cap, rfl, fun j c hj => ?_⟩
  obtain ⟨b, o, kv, ha, hok, hb, c0, c1, c2, hk⟩ := hc j c hj
  exact ⟨b, o, kv, ha, hx b hok, hb, c0, c1, c2, hk.mono hx⟩
theorem LentAt.kept {X : Nat → Prop} {W W' : World} {BL S : Nat} {K : Nat → Nat} {ks : List KindS} (h : LentAt W BL K ks) (k : Kept X W W') (hx : ∀ b, BL ≤ b → b < S → ¬ X b) (hS : BL < S) (hK : ∀ j, j < ks.length → K j < S) : LentAt W' BL K ks := by
  obtain ⟨cs, h1, h2, h3, h4⟩ := h
  refine ⟨cs, h1.kept k (hx BL (Nat.le_refl _) hS), h2, ⟨fun j c hj hc => ?_, h3.2⟩, h4⟩
  obtain ⟨g1, g2, g3, g4⟩ := h3.1 j c hj hc
  exact ⟨g1, g2.kept k (hx _ (Nat.le_of_lt g3) (hK j hj)), g3, Nat.lt_of_lt_of_le g4 k.size⟩
theorem LentAt.lt {W : World} {BL : Nat} {K : Nat → Nat} {ks : List KindS} (h : LentAt W BL K ks) (j : Nat) (hj : j < ks.length) : K j < W.heap.size := by
  obtain ⟨cs, h1, h2, h3, h4⟩ := h
  exact (h3.1 j _ hj (List.getElem?_eq_getElem hj)).2.2.2
theorem row_later {W W' : World} {base e size n : Nat} {v : Value} {xs : List Value} (h : W.ownsRow base e size v n xs) (k : Below W.heap.size W W') : W'.ownsRow base e size v n xs :=
  row_below h k (fun g e => (h.lt g e).2)
end Go.Proofs.YtdbbejedipfckaaGreatDoor
/-
  gleanref's Run in memory, opened: what stays of it when one of its parts is changed.
-/
namespace Go.Proofs.YtdbbejedipfckaaGreatDoor
open Go Go.RowKit

/-- gleanref's Run at block B, with the values of its cells. -/
structure RefAtO (part : Nat → Nat) (W : World) (B : Nat) (s : RunS) (kv wv lv yv vv av : Value) (ps : List Nat) (rows : List (Value × List Nat)) : Prop where
  box : BoxAt W B 103 (runCells s kv wv lv yv vv av)
  pB : part B = 1
  kinds : KindsAt (fun b => part b = 6) W kv s.ks
  wrow : RowIn (fun b => part b = 7) 137 1 ptrEnc W wv ps
  wlen : ps.length = s.W.length
  wat : ∀ i p x, ps[i]? = some p → s.W[i]? = some x → WorkerAt (fun b => part b = 10 + i) W p x
  lrow : RowIn (fun b => part b = 8) 142 1 (fun r : Value × List Nat => [r.1]) W lv rows
  llen : rows.length = s.links.length
  lat : ∀ i r ls, rows[i]? = some r → s.links[i]? = some ls → LinksAt part i W r.1 r.2 ls
  yrow : RowIn (fun b => part b = 2) 139 15 msgEnc W yv s.way
  vrow : RowIn (fun b => part b = 3) 84 2 valEnc W vv s.values
  arow : RowIn (fun b => part b = 4) 185 4 ansEnc W av s.answers
theorem RefAt.opened {part : Nat → Nat} {W : World} {B : Nat} {s : RunS} (h : RefAt part W B s) : ∃ kv wv lv yv vv av ps rows, RefAtO part W B s kv wv lv yv vv av ps rows := by
  obtain ⟨kv, wv, lv, yv, vv, av, ps, rows, h1, h2, h3, ⟨h4, h5, h6⟩, ⟨h7, h8, h9⟩, h10, h11, h12⟩ := h
  exact ⟨kv, wv, lv, yv, vv, av, ps, rows, h1, h2, h3, h4, h5, h6, h7, h8, h9, h10, h11, h12⟩
theorem RefAtO.shut {part : Nat → Nat} {W : World} {B : Nat} {s : RunS} {kv wv lv yv vv av : Value} {ps : List Nat} {rows : List (Value × List Nat)} (h : RefAtO part W B s kv wv lv yv vv av ps rows) : RefAt part W B s :=
  ⟨kv, wv, lv, yv, vv, av, ps, rows, h.box, h.pB, h.kinds, ⟨h.wrow, h.wlen, h.wat⟩, ⟨h.lrow, h.llen, h.lat⟩, h.yrow, h.vrow, h.arow⟩
theorem Moved.ok {part part' : Nat → Nat} {F : Nat → Prop} {W W' : World} {B : Nat} {s : RunS} {kv wv lv yv vv av : Value} {ps : List Nat} {rows : List (Value × List Nat)} (h : Moved part part' W W') (hr : RefAtO part' W' B s kv wv lv yv vv av ps rows) (hF : ∀ b, part b ≠ 0 → F b) :
    RefOK (fun b => F b ∨ W.heap.size ≤ b) W' B s ∧ Kept F W W' := by
  refine ⟨⟨part', fun b hb => ?_, hr.shut⟩, h.kept.mono (fun b _ hb => hF b hb)⟩
  rcases Nat.lt_or_ge b W.heap.size with hl | hl
  · exact .inl (hF b (h.old b hl hb))
  · exact .inr hl
/-- What stays of a run when nothing but its own block and the blocks of one part is changed. -/
structure RefRest (n : Nat) (part' : Nat → Nat) (W' : World) (s : RunS) (kv wv lv yv vv av : Value) (ps : List Nat) (rows : List (Value × List Nat)) : Prop where
  kinds : n ≠ 6 → KindsAt (fun b => part' b = 6) W' kv s.ks
  wrow : n ≠ 7 → RowIn (fun b => part' b = 7) 137 1 ptrEnc W' wv ps
  wat : ∀ i p x, n ≠ 10 + i → ps[i]? = some p → s.W[i]? = some x → WorkerAt (fun b => part' b = 10 + i) W' p x
  lrow : n ≠ 8 → RowIn (fun b => part' b = 8) 142 1 (fun r : Value × List Nat => [r.1]) W' lv rows
  lat : n ≠ 9 → n < 100 → ∀ i r ls, rows[i]? = some r → s.links[i]? = some ls → LinksAt part' i W' r.1 r.2 ls
  lptr : n ≠ 9 → ∀ (i : Nat) (r : Value × List Nat) (ls : List LinkS), rows[i]? = some r → s.links[i]? = some ls → RowIn (fun b => part' b = 9) 143 1 ptrEnc W' r.1 r.2 ∧ r.2.length = ls.length
  link : ∀ (i : Nat) (r : Value × List Nat) (ls : List LinkS) (j q : Nat) (x : LinkS), n ≠ 100 + 10 * i + j → rows[i]? = some r → s.links[i]? = some ls → r.2[j]? = some q → ls[j]? = some x → LinkAt (fun b => part' b = 100 + 10 * i + j) W' q x
  yrow : n ≠ 2 → RowIn (fun b => part' b = 2) 139 15 msgEnc W' yv s.way
  vrow : n ≠ 3 → RowIn (fun b => part' b = 3) 84 2 valEnc W' vv s.values
  arow : n ≠ 4 → RowIn (fun b => part' b = 4) 185 4 ansEnc W' av s.answers
theorem RefAtO.rest {part part' : Nat → Nat} {Y : Nat → Prop} {W W' : World} {B : Nat} {s : RunS} {kv wv lv yv vv av : Value} {ps : List Nat} {rows : List (Value × List Nat)} (h : RefAtO part W B s kv wv lv yv vv av ps rows) (n : Nat) (k : Kept Y W W') (hp : ∀ g, g < W.heap.size → part' g = part g) (hY : ∀ g, g < W.heap.size → Y g → part g = 1 ∨ part g = n) :
    RefRest n part' W' s kv wv lv yv vv av ps rows := by
  have hg : ∀ t, t ≠ 1 → n ≠ t → ∀ g, g < W.heap.size → part g = t → ¬ Y g ∧ part' g = t := fun t h1 hn g hl e => ⟨fun hy => by have := hY g hl hy; omega, (hp g hl).trans e⟩
  refine ⟨fun hn => ?_, fun hn => h.wrow.kept k (hg 7 (by omega) hn), fun i p x hn hi hx => (h.wat i p x hi hx).kept k (hg _ (by omega) hn), fun hn => h.lrow.kept k (hg 8 (by omega) hn), fun hn hn' i r ls hr hl => (h.lat i r ls hr hl).kept k (fun g hl e => ?_), fun hn i r ls hr hl => ⟨(h.lat i r ls hr hl).1.kept k (hg 9 (by omega) hn), (h.lat i r ls hr hl).2.1⟩, fun i r ls j q x hn hr hl hq hx => ((h.lat i r ls hr hl).2.2 j q x hq hx).kept k (hg _ (by omega) hn), fun hn => h.yrow.kept k (hg 2 (by omega) hn), fun hn => h.vrow.kept k (hg 3 (by omega) hn), fun hn => h.arow.kept k (hg 4 (by omega) hn)⟩
  · exact (h.kinds.below.kept k (fun b hb => (hg 6 (by omega) hn b hb.2 hb.1).1)).mono' (fun b hb => (hg 6 (by omega) hn b hb.2 hb.1).2)
  · exact ⟨fun hy => by have := hY g hl hy; omega, hp g hl⟩
/-- Nothing is changed, blocks may be new. -/
theorem RefAtO.later {part : Nat → Nat} {W W' : World} {B : Nat} {s : RunS} {kv wv lv yv vv av : Value} {ps : List Nat} {rows : List (Value × List Nat)} (h : RefAtO part W B s kv wv lv yv vv av ps rows) (hb : Below W.heap.size W W') : RefAtO (ext W part 0) W' B s kv wv lv yv vv av ps rows ∧ Moved part (ext W part 0) W W' := by
  have k : Kept (fun b => W.heap.size ≤ b) W W' := Kept.of_below hb (fun _ _ h => h)
  have R := h.rest (part' := ext W part 0) 5 k (fun g hg => ext_old hg) (fun g hl hg => by omega)
  exact ⟨⟨h.box.below hb h.box.lt, (ext_old h.box.lt).trans h.pB, R.kinds (by omega), R.wrow (by omega), h.wlen, fun i p x => R.wat i p x (by omega), R.lrow (by omega), h.llen, R.lat (by omega) (by omega), R.yrow (by omega), R.vrow (by omega), R.arow (by omega)⟩, Moved.of 0 k (fun g hl hg => by omega)⟩
/-- Its flags. -/
theorem RefAtO.flags {part : Nat → Nat} {W W' : World} {B : Nat} {s : RunS} {kv wv lv yv vv av : Value} {ps : List Nat} {rows : List (Value × List Nat)} {ar ov dn : Bool} (h : RefAtO part W B s kv wv lv yv vv av ps rows) (k : Kept (· = B) W W') (hb : BoxAt W' B 103 (runCells { s with around := ar, over := ov, done := dn } kv wv lv yv vv av)) :
    RefAtO (ext W part 0) W' B { s with around := ar, over := ov, done := dn } kv wv lv yv vv av ps rows ∧ Moved part (ext W part 0) W W' := by
  have hY : ∀ g, g < W.heap.size → g = B → part g = 1 := fun g _ e => by rw [e]; exact h.pB
  have R := h.rest (part' := ext W part 0) 5 k (fun g hg => ext_old hg) (fun g hl hg => .inl (hY g hl hg))
  exact ⟨⟨hb, (ext_old h.box.lt).trans h.pB, R.kinds (by omega), R.wrow (by omega), h.wlen, fun i p x => R.wat i p x (by omega), R.lrow (by omega), h.llen, R.lat (by omega) (by omega), R.yrow (by omega), R.vrow (by omega), R.arow (by omega)⟩, Moved.of 0 k (fun g hl hg => by have := hY g hl hg; omega)⟩
/-- Other messages are on their way. -/
theorem RefAtO.reway {part : Nat → Nat} {W W' : World} {B : Nat} {s : RunS} {kv wv lv yv vv av yv' : Value} {ps : List Nat} {rows : List (Value × List Nat)} {way' : List MsgS} (h : RefAtO part W B s kv wv lv yv vv av ps rows) (k : Kept (fun g => g = B ∨ part g = 2) W W')
    (hb : BoxAt W' B 103 (runCells { s with way := way' } kv wv lv yv' vv av)) (hr : W'.ownsRow 0 139 15 yv' way'.length (way'.flatMap msgEnc)) (ho : ∀ g, yv'.ownBlock = some g → part g = 2 ∧ g < W.heap.size ∨ W.heap.size ≤ g) :
    RefAtO (ext W part 2) W' B { s with way := way' } kv wv lv yv' vv av ps rows ∧ Moved part (ext W part 2) W W' := by
  have hpB := h.pB
  have hY : ∀ g, g < W.heap.size → (g = B ∨ part g = 2) → part g = 1 ∨ part g = 2 := fun g _ e => by rcases e with rfl | e <;> omega
  have R := h.rest (part' := ext W part 2) 2 k (fun g hg => ext_old hg) hY
  exact ⟨⟨hb, (ext_old h.box.lt).trans h.pB, R.kinds (by omega), R.wrow (by omega), h.wlen, fun i p x => R.wat i p x (by omega), R.lrow (by omega), h.llen, R.lat (by omega) (by omega), rowIn_ext hr ho, R.vrow (by omega), R.arow (by omega)⟩, Moved.of 2 k (fun g hl hg => by have := hY g hl hg; omega)⟩
/-- Other values are kept. -/
theorem RefAtO.revals {part : Nat → Nat} {W W' : World} {B : Nat} {s : RunS} {kv wv lv yv vv av vv' : Value} {ps : List Nat} {rows : List (Value × List Nat)} {vals' : List (ByteArray × Int)} (h : RefAtO part W B s kv wv lv yv vv av ps rows) (k : Kept (fun g => g = B ∨ part g = 3) W W')
    (hb : BoxAt W' B 103 (runCells { s with values := vals' } kv wv lv yv vv' av)) (hr : W'.ownsRow 0 84 2 vv' vals'.length (vals'.flatMap valEnc)) (ho : ∀ g, vv'.ownBlock = some g → part g = 3 ∧ g < W.heap.size ∨ W.heap.size ≤ g) :
    RefAtO (ext W part 3) W' B { s with values := vals' } kv wv lv yv vv' av ps rows ∧ Moved part (ext W part 3) W W' := by
  have hpB := h.pB
  have hY : ∀ g, g < W.heap.size → (g = B ∨ part g = 3) → part g = 1 ∨ part g = 3 := fun g _ e => by rcases e with rfl | e <;> omega
  have R := h.rest (part' := ext W part 3) 3 k (fun g hg => ext_old hg) hY
  exact ⟨⟨hb, (ext_old h.box.lt).trans h.pB, R.kinds (by omega), R.wrow (by omega), h.wlen, fun i p x => R.wat i p x (by omega), R.lrow (by omega), h.llen, R.lat (by omega) (by omega), R.yrow (by omega), rowIn_ext hr ho, R.arow (by omega)⟩, Moved.of 3 k (fun g hl hg => by have := hY g hl hg; omega)⟩
/-- Other answers are noted. -/
theorem RefAtO.reans {part : Nat → Nat} {W W' : World} {B : Nat} {s : RunS} {kv wv lv yv vv av av' : Value} {ps : List Nat} {rows : List (Value × List Nat)} {ans' : List AnsS} (h : RefAtO part W B s kv wv lv yv vv av ps rows) (k : Kept (fun g => g = B ∨ part g = 4) W W')
    (hb : BoxAt W' B 103 (runCells { s with answers := ans' } kv wv lv yv vv av')) (hr : W'.ownsRow 0 185 4 av' ans'.length (ans'.flatMap ansEnc)) (ho : ∀ g, av'.ownBlock = some g → part g = 4 ∧ g < W.heap.size ∨ W.heap.size ≤ g) :
    RefAtO (ext W part 4) W' B { s with answers := ans' } kv wv lv yv vv av' ps rows ∧ Moved part (ext W part 4) W W' := by
  have hpB := h.pB
  have hY : ∀ g, g < W.heap.size → (g = B ∨ part g = 4) → part g = 1 ∨ part g = 4 := fun g _ e => by rcases e with rfl | e <;> omega
  have R := h.rest (part' := ext W part 4) 4 k (fun g hg => ext_old hg) hY
  exact ⟨⟨hb, (ext_old h.box.lt).trans h.pB, R.kinds (by omega), R.wrow (by omega), h.wlen, fun i p x => R.wat i p x (by omega), R.lrow (by omega), h.llen, R.lat (by omega) (by omega), R.yrow (by omega), R.vrow (by omega), rowIn_ext hr ho⟩, Moved.of 4 k (fun g hl hg => by have := hY g hl hg; omega)⟩
theorem WorkerAt.mono {X X' : Nat → Prop} {W : World} {p : Nat} {s : WorkerS} (h : WorkerAt X W p s) (hx : ∀ b, X b → X' b) : WorkerAt X' W p s := by
  obtain ⟨tv, h1, h2, h3, h4⟩ := h
  exact ⟨tv, h1, hx _ h2, h3, fun g e => hx g (h4 g e)⟩
theorem LinkAt.mono {X X' : Nat → Prop} {W : World} {p : Nat} {s : LinkS} (h : LinkAt X W p s) (hx : ∀ b, X b → X' b) : LinkAt X' W p s := by
  obtain ⟨av, kv, h1, h2, ⟨h3, h4⟩, ⟨h5, h6⟩⟩ := h
  exact ⟨av, kv, h1, hx _ h2, ⟨h3, fun g e => hx g (h4 g e)⟩, ⟨h5, fun g e => hx g (h6 g e)⟩⟩
/-- A worker is another. -/
theorem RefAtO.reworker {part : Nat → Nat} {W W' : World} {B : Nat} {s : RunS} {kv wv lv yv vv av : Value} {ps : List Nat} {rows : List (Value × List Nat)} {i p : Nat} {x' : WorkerS} (h : RefAtO part W B s kv wv lv yv vv av ps rows) (hi : i < 90) (hp : ps[i]? = some p) (k : Kept (fun g => part g = 10 + i) W W')
    (hx : WorkerAt (fun b => part b = 10 + i ∧ b < W.heap.size ∨ W.heap.size ≤ b) W' p x') :
    RefAtO (ext W part (10 + i)) W' B { s with W := s.W.set i x' } kv wv lv yv vv av ps rows ∧ Moved part (ext W part (10 + i)) W W' := by
  have hpB := h.pB
  have R := h.rest (part' := ext W part (10 + i)) (10 + i) k (fun g hg => ext_old hg) (fun g _ hg => .inr hg)
  refine ⟨⟨h.box.kept k (by omega), (ext_old h.box.lt).trans h.pB, R.kinds (by omega), R.wrow (by omega), by simpa using h.wlen, fun i' p' x hp' hx' => ?_, R.lrow (by omega), h.llen, R.lat (by omega) (by omega), R.yrow (by omega), R.vrow (by omega), R.arow (by omega)⟩, Moved.of _ k (fun g hl hg => by omega)⟩
  by_cases e : i' = i
  · subst e
    have hpe : p' = p := by rw [hp] at hp'; exact (Option.some.inj hp').symm
    have hlt : i' < s.W.length := by have := (List.getElem?_eq_some_iff.1 hp').1; have := h.wlen; omega
    have hxe : x = x' := by
      have h1 : (s.W.set i' x')[i']? = some x := hx'
      rw [List.getElem?_set_self hlt] at h1
      exact (Option.some.inj h1).symm
    subst hpe hxe
    exact hx.mono (fun b hb => by
      rcases hb with ⟨h1, h2⟩ | h1
      · exact (ext_old h2).trans h1
      · exact ext_new h1)
  · refine R.wat i' p' x (by omega) hp' ?_
    have h1 : (s.W.set i x')[i']? = some x := hx'
    rwa [List.getElem?_set_ne (fun e' => e e'.symm)] at h1
/-- A link is another. -/
theorem RefAtO.relink {part : Nat → Nat} {W W' : World} {B : Nat} {s : RunS} {kv wv lv yv vv av : Value} {ps : List Nat} {rows : List (Value × List Nat)} {i j q : Nat} {r : Value × List Nat} {ls : List LinkS} {x' : LinkS} (h : RefAtO part W B s kv wv lv yv vv av ps rows) (h9 : ∀ l ∈ s.links, l.length ≤ 9) (h89 : s.W.length ≤ 89)
    (hr : rows[i]? = some r) (hl : s.links[i]? = some ls) (hq : r.2[j]? = some q) (k : Kept (fun g => part g = 100 + 10 * i + j) W W')
    (hx : LinkAt (fun b => part b = 100 + 10 * i + j ∧ b < W.heap.size ∨ W.heap.size ≤ b) W' q x') :
    RefAtO (ext W part (100 + 10 * i + j)) W' B { s with links := s.links.set i (ls.set j x') } kv wv lv yv vv av ps rows ∧ Moved part (ext W part (100 + 10 * i + j)) W W' := by
  have hpB := h.pB
  have R := h.rest (part' := ext W part (100 + 10 * i + j)) (100 + 10 * i + j) k (fun g hg => ext_old hg) (fun g _ hg => .inr hg)
  have hjl : j < ls.length := by have := (List.getElem?_eq_some_iff.1 hq).1; have := (h.lat i r ls hr hl).2.1; omega
  have hj9 := h9 ls (List.mem_of_getElem? hl)
  refine ⟨⟨h.box.kept k (by omega), (ext_old h.box.lt).trans h.pB, R.kinds (by omega), R.wrow (by omega), h.wlen, fun i' p x hp' hx' => R.wat i' p x (by have := (List.getElem?_eq_some_iff.1 hp').1; have := h.wlen; omega) hp' hx', R.lrow (by omega), by simpa using h.llen, fun i' r' ls' hr' hl' => ?_, R.yrow (by omega), R.vrow (by omega), R.arow (by omega)⟩, Moved.of _ k (fun g hl hg => by omega)⟩
  have hl1 : (s.links.set i (ls.set j x'))[i']? = some ls' := hl'
  by_cases e : i' = i
  · subst e
    obtain rfl : r' = r := by rw [hr] at hr'; exact (Option.some.inj hr').symm
    rw [List.getElem?_set_self (List.getElem?_eq_some_iff.1 hl).1] at hl1
    obtain rfl := Option.some.inj hl1
    obtain ⟨h1, h2⟩ := R.lptr (by omega) i' r' ls hr hl
    refine ⟨h1, by simpa using h2, fun j' q' x hq' hx' => ?_⟩
    by_cases e : j' = j
    · subst e
      rw [hq] at hq'
      obtain rfl := Option.some.inj hq'
      rw [List.getElem?_set_self hjl] at hx'
      obtain rfl := Option.some.inj hx'
      exact hx.mono (fun b hb => by
        rcases hb with ⟨h1, h2⟩ | h1
        · exact (ext_old h2).trans h1
        · exact ext_new h1)
    · rw [List.getElem?_set_ne (fun e' => e e'.symm)] at hx'
      exact R.link i' r' ls j' q' x (by omega) hr hl hq' hx'
  · rw [List.getElem?_set_ne (fun e' => e e'.symm)] at hl1
    obtain ⟨h1, h2⟩ := R.lptr (by omega) i' r' ls' hr' hl1
    refine ⟨h1, h2, fun j' q' x hq' hx' => R.link i' r' ls' j' q' x ?_ hr' hl1 hq' hx'⟩
    have := (List.getElem?_eq_some_iff.1 hx').1
    have := h9 ls' (List.mem_of_getElem? hl1)
    omega
end Go.Proofs.YtdbbejedipfckaaGreatDoor
/-
  gleanref's Run.put, the document's own answer: a message is put on its way.
-/
namespace Go.Proofs.YtdbbejedipfckaaGreatDoor
open Go Go.RowKit


set_option maxHeartbeats 4000000 in
set_option maxRecDepth 100000 in
theorem ref_put_o (m : MsgS) {part : Nat → Nat} {w : World} {B : Nat} {s : RunS} {kv wv lv yv vv av : Value} {ps : List Nat} {rows : List (Value × List Nat)} (h : RefAtO part w B s kv wv lv yv vv av ps rows) (hn : s.way.length ≤ 1000) :
    Calls Tryz.prog 97 #[.pointer (some ⟨B, 0, none⟩), .agg (msgCells m)] w fun e w' => e = .returned (.tuple #[]) ∧ ∃ part' yv', RefAtO part' w' B (wayS s m) kv wv lv yv' vv av ps rows ∧ Moved part part' w w' := by
  obtain ⟨iM, hiM, hzM0, hzM1, hzM2⟩ := info_parts infoMessage
  obtain ⟨ya, yc, hyf⟩ := row_form h.yrow.1
  subst hyf
  obtain ⟨Z, hZ⟩ : ∃ Z, w.alloc (Obj.cells (msgCells m) 139) = Z := ⟨_, rfl⟩
  have hbZ : Below w.heap.size w Z := by rw [← hZ]; exact (Below.refl _ _).alloc (Nat.le_refl _) _
  have bM : BoxAt Z w.heap.size 139 (msgCells m) := by rw [← hZ]; exact BoxAt.new w _ _
  have SZ : Hid (Z.heap.size = w.heap.size + 1) := by show _ = _; rw [← hZ]; simp
  have bR := h.box.below hbZ h.box.lt
  have b8 := bR.cell (o := 8) rfl
  have f8 := bR.frozen 8
  have HBR := hid_of bR
  have HH := hid_of h
  have HRY := hid_of (row_later h.yrow.1 hbZ)
  have HBZ := hid_of hbZ
  have hbl := h.box.lt
  have hbz : B < Z.heap.size := bR.lt
  have HNE : Hid ((Value.slice ya s.way.length yc).ownBlock ≠ some B) := row_ne h.yrow.1 h.box (by decide)
  have m0 := bM.cell (o := 0) rfl
  have m1 := bM.cell (o := 1) rfl
  have m2 := bM.cell (o := 2) rfl
  have m3 := bM.cell (o := 3) rfl
  have m4 := bM.cell (o := 4) rfl
  have m5 := bM.cell (o := 5) rfl
  have m6 := bM.cell (o := 6) rfl
  have m7 := bM.cell (o := 7) rfl
  have m8 := bM.cell (o := 8) rfl
  have m9 := bM.cell (o := 9) rfl
  have m10 := bM.cell (o := 10) rfl
  have m11 := bM.cell (o := 11) rfl
  have m12 := bM.cell (o := 12) rfl
  have m13 := bM.cell (o := 13) rfl
  have m14 := bM.cell (o := 14) rfl
  clear bM bR hbZ h
  by_cases hlt : s.way.length < 60
  · have HS : Hid (wayS s m = { s with way := s.way ++ [m] }) := by show _ = _; simp [wayS, hlt]
    have l1 : (s.way.length : Int) < 60 := by omega
    go_enter Tryz.func97, Tryz.ntmps97
    go_upto_region 2 with fail
    go_region_law (refine step_append_lies _ (by rfl) _ _ _ (by rfl) 0 139 iM _ 15 128 Tryz.underlying53 hiM hzM0 hzM1 hzM2 rfl (by omega) (.slice ya s.way.length yc) s.way.length (s.way.flatMap msgEnc) (by rfl) ((HRY.out.alloc _).drew) ⟨Z.heap.size, 0, none⟩ 1 1 (msgEnc m) (by rfl) (by rfl) (World.news_of_block (cs := msgCells m) (t := 139) (fr := (0, 0)) (heap_alloc_new Z _)) (by simp [msgEnc, Value.oneCell']) (by omega) (by unfold maxLen; omega) (by omega) (by simp) (Z.heap.size + 1) (by simp) ?_; intro g cp w1 hown1 hgrow hat hlt1; have hbx : BoxAt w1 B 103 (runCells s kv wv lv (.slice ya s.way.length yc) vv av) := (hgrow.block B (by simp; have := SZ.out; omega) (fun e => HNE.out e.symm)).trans (HBR.out.alloc _); have c8 := hbx.cell (o := 8) rfl; have e8 := hbx.frozen 8)
    all_goals
      go_wp2_with fail
      go_end0
      have kG : Kept (fun g => g = B ∨ part g = 2) w w1 := (((Kept.of_below HBZ.out (fun k h1 h2 => absurd h1 (by omega))).trans (Kept.alloc _ Z _)).drew).trans (Kept.grown hgrow (fun r e => .inr (HH.out.yrow.2 r e)))
      have kS : Kept (· = B) w1 (w1.setCell ⟨B, 8, none⟩ (.slice (some ⟨g, 0, none⟩) (s.way.length + 1) cp)) := (Kept.refl _ _).setCell (.inl (by rfl)) _
      rw [HS.out]
      obtain ⟨h1, h2⟩ := HH.out.reway (way' := s.way ++ [m]) (kG.trans (kS.mono (fun _ _ h => .inl h))) (hbx.setAt 8 _) (by
        rw [List.flatMap_append, List.length_append, List.length_singleton]
        simpa using row_kept hown1 kS (fun g' e h => by subst h; exact row_ne hown1 hbx (by decide) e) (Nat.le_refl _)) (fun g' e => by
        obtain rfl : g = g' := by simpa [Value.ownBlock] using e
        rcases hat with h | h
        · exact .inl ⟨HH.out.yrow.2 g h, (HH.out.yrow.1.lt g h).2⟩
        · exact .inr (by have := SZ.out; omega))
      exact ⟨rfl, _, _, h1, h2⟩
  · have HS : Hid (wayS s m = s) := by show _ = _; simp [wayS, hlt]
    have l1 : ¬ (s.way.length : Int) < 60 := by omega
    go_enter Tryz.func97, Tryz.ntmps97
    go_wp2_with fail
    go_end0
    obtain ⟨h1, h2⟩ := HH.out.later HBZ.out
    rw [HS.out]
    exact ⟨rfl, _, ⟨_, h1⟩, h2⟩
end Go.Proofs.YtdbbejedipfckaaGreatDoor
/-
  post.List's Put and Has: a message is put on its way; whether there is such a message.
-/
namespace Go.Proofs.YtdbbejedipfckaaGreatDoor
open Go Go.RowKit

set_option maxHeartbeats 4000000 in
set_option maxRecDepth 100000 in
theorem put_x (m : MsgS) (b : Nat) {part : Nat → Nat} {w : World} {B M : Nat} {s : RunS} {kv wv yv : Value} {xs : List XW} (h : XAtO part w B s kv wv yv M xs) (hn : s.way.length ≤ 1000) (hm : BoxAt w b 139 (msgCells m)) :
    Calls Tryz.prog 139 #[.pointer (some ⟨B, 4, none⟩), .slice (some ⟨b, 0, none⟩) 1 1] w fun e w' => ∃ v, e = .returned v ∧ (v = .tuple #[] ∧ ∃ part' yv', XAtO part' w' B (wayS s m) kv wv yv' M xs ∧ Moved part part' w w' ∧ Kept (fun g => g = B ∨ part g = 2) w w') := by
  obtain ⟨iM, hiM, hzM0, hzM1, hzM2⟩ := info_parts infoMessage
  obtain ⟨ya, yc, hyf⟩ := row_form h.yrow.1
  subst hyf
  obtain ⟨Z, hZ⟩ : ∃ Z, w.alloc (Obj.cells (msgCells m) 139) = Z := ⟨_, rfl⟩
  have hbZ : Below w.heap.size w Z := by rw [← hZ]; exact (Below.refl _ _).alloc (Nat.le_refl _) _
  have bM : BoxAt Z w.heap.size 139 (msgCells m) := by rw [← hZ]; exact BoxAt.new w _ _
  have SZ : Hid (Z.heap.size = w.heap.size + 1) := by show _ = _; rw [← hZ]; simp
  have bR := h.box.below hbZ h.box.lt
  have HH := hid_of h
  have HRY := hid_of (row_later h.yrow.1 hbZ)
  have HBZ := hid_of hbZ
  have HBR := hid_of bR
  have HBM := hid_of bM
  have hbl := h.box.lt
  have hbz : B < Z.heap.size := bR.lt
  have HNE : Hid ((Value.slice ya s.way.length yc).ownBlock ≠ some B) := row_ne h.yrow.1 h.box (by decide)
  have c0 := hm.cell (o := 0) rfl
  have c1 := hm.cell (o := 1) rfl
  have c2 := hm.cell (o := 2) rfl
  have c3 := hm.cell (o := 3) rfl
  have c4 := hm.cell (o := 4) rfl
  have c5 := hm.cell (o := 5) rfl
  have c6 := hm.cell (o := 6) rfl
  have c7 := hm.cell (o := 7) rfl
  have c8 := hm.cell (o := 8) rfl
  have c9 := hm.cell (o := 9) rfl
  have c10 := hm.cell (o := 10) rfl
  have c11 := hm.cell (o := 11) rfl
  have c12 := hm.cell (o := 12) rfl
  have c13 := hm.cell (o := 13) rfl
  have c14 := hm.cell (o := 14) rfl
  clear bM bR hbZ h hm
  go_enter Tryz.func139, Tryz.ntmps139
  go_wp2_with fail
  go_loopw [8] (fun iv wr => (iv = .int .i64 0 ∧ w = wr) ∨ (iv = .int .i64 1 ∧ ∃ part' yv', XAtO part' wr B (wayS s m) kv wv yv' M xs ∧ Moved part part' w wr ∧ Kept (fun g => g = B ∨ part g = 2) w wr)) (fun iv _ => 1 - (intOf iv).toNat)
  case atStart => exact .inl ⟨rfl, rfl⟩
  case round =>
    rename World => wr
    rcases hrel with ⟨rfl, rfl⟩ | ⟨rfl, h1⟩
    · go_upto_region 3 with fail
      have b4 := HBR.out.cell (o := 4) rfl
      have f4 := HBR.out.frozen 4
      clear hZ
      by_cases hlt : s.way.length < 60
      · have HS : Hid (wayS s m = { s with way := s.way ++ [m] }) := by show _ = _; simp [wayS, hlt]
        have l1 : (s.way.length : Int) < 60 := by omega
        have m0 := HBM.out.cell (o := 0) rfl
        have m1 := HBM.out.cell (o := 1) rfl
        have m2 := HBM.out.cell (o := 2) rfl
        have m3 := HBM.out.cell (o := 3) rfl
        have m4 := HBM.out.cell (o := 4) rfl
        have m5 := HBM.out.cell (o := 5) rfl
        have m6 := HBM.out.cell (o := 6) rfl
        have m7 := HBM.out.cell (o := 7) rfl
        have m8 := HBM.out.cell (o := 8) rfl
        have m9 := HBM.out.cell (o := 9) rfl
        have m10 := HBM.out.cell (o := 10) rfl
        have m11 := HBM.out.cell (o := 11) rfl
        have m12 := HBM.out.cell (o := 12) rfl
        have m13 := HBM.out.cell (o := 13) rfl
        have m14 := HBM.out.cell (o := 14) rfl
        clear c0 c1 c2 c3 c4 c5 c6 c7 c8 c9 c10 c11 c12 c13 c14
        go_upto_region 4 with fail
        go_region_law (refine step_append_lies _ (by rfl) _ _ _ (by rfl) 0 139 iM _ 15 128 Tryz.underlying125 hiM hzM0 hzM1 hzM2 rfl (by omega) (.slice ya s.way.length yc) s.way.length (s.way.flatMap msgEnc) (by rfl) ((HRY.out.alloc _).drew) ⟨Z.heap.size, 0, none⟩ 1 1 (msgEnc m) (by rfl) (by rfl) (World.news_of_block (cs := msgCells m) (t := 139) (fr := (0, 0)) (heap_alloc_new Z _)) (by simp [msgEnc, Value.oneCell']) (by omega) (by unfold maxLen; omega) (by omega) (by simp) (Z.heap.size + 1) (by simp) ?_; intro g cp w1 hown1 hgrow hat hlt1; have hbx : BoxAt w1 B 127 (xrunCells s kv wv (.slice ya s.way.length yc) M) := (hgrow.block B (by simp; have := SZ.out; omega) (fun e => HNE.out e.symm)).trans (HBR.out.alloc _); have c4 := hbx.cell (o := 4) rfl; have e4 := hbx.frozen 4)
        all_goals
          go_wp2_with fail
          go_roundw
          case rel =>
            refine .inr ⟨by go_num, ?_⟩
            have kG : Kept (fun g => g = B ∨ part g = 2) w w1 := (((Kept.of_below HBZ.out (fun k h1 h2 => absurd h1 (by omega))).trans (Kept.alloc _ Z _)).drew).trans (Kept.grown hgrow (fun r e => .inr (HH.out.yrow.2 r e)))
            have kS : Kept (· = B) w1 (w1.setCell ⟨B, 4, none⟩ (.slice (some ⟨g, 0, none⟩) (s.way.length + 1) cp)) := (Kept.refl _ _).setCell (.inl (by rfl)) _
            rw [HS.out]
            obtain ⟨h1, h2⟩ := HH.out.reway (way' := s.way ++ [m]) (kG.trans (kS.mono (fun _ _ h => .inl h))) (hbx.setAt 4 _) (by
              rw [List.flatMap_append, List.length_append, List.length_singleton]
              simpa using row_kept hown1 kS (fun g' e h => by subst h; exact row_ne hown1 hbx (by decide) e) (Nat.le_refl _)) (fun g' e => by
              obtain rfl : g = g' := by simpa [Value.ownBlock] using e
              rcases hat with h | h
              · exact .inl ⟨HH.out.yrow.2 g h, (HH.out.yrow.1.lt g h).2⟩
              · exact .inr (by have := SZ.out; omega))
            exact ⟨_, _, h1, h2, kG.trans (kS.mono (fun _ _ h => .inl h))⟩
          case measure => simp [intOf]
      · have HS : Hid (wayS s m = s) := by show _ = _; simp [wayS, hlt]
        have l1 : ¬ (s.way.length : Int) < 60 := by omega
        clear c0 c1 c2 c3 c4 c5 c6 c7 c8 c9 c10 c11 c12 c13 c14
        go_wp2_with fail
        go_roundw
        case rel =>
          refine .inr ⟨by go_num, ?_⟩
          obtain ⟨h1, h2⟩ := HH.out.later HBZ.out
          rw [HS.out]
          exact ⟨_, _, h1, h2, Kept.of_below HBZ.out (fun k h1 h2 => absurd h1 (by omega))⟩
        case measure => simp [intOf]
    · have H1 := hid_of h1
      clear h1
      go_wp2_with fail
      go_end0
      exact ⟨_, rfl, rfl, H1.out⟩
theorem has_calls (ya : Option Addr) (n yc : Nat) (i : Int) (w : World) : Calls Tryz.prog 135 #[.slice ya n yc, .int .i64 i] w fun e w' => e = .returned (.bool (decide (0 ≤ i ∧ i < (n : Int)))) ∧ w = w' := by
  by_cases h0 : 0 ≤ i
  · obtain ⟨b, hb⟩ : ∃ b, decide (i < (n : Int)) = b := ⟨_, rfl⟩
    have HR : Hid (decide (0 ≤ i ∧ i < (n : Int)) = b) := by show _ = _; rw [← hb]; simp [h0]
    go_enter Tryz.func135, Tryz.ntmps135
    go_wp2_with fail
    go_ret
    rw [HR.out]
    exact ⟨rfl, rfl⟩
  · have HR : Hid (decide (0 ≤ i ∧ i < (n : Int)) = false) := by show _ = _; simp [h0]
    have d0 : decide (0 ≤ i) = false := decide_eq_false h0
    go_enter Tryz.func135, Tryz.ntmps135
    go_wp2_with fail
    go_ret
    refine ⟨?_, rfl⟩
    first | rfl | (rw [HR.out]; rfl)
end Go.Proofs.YtdbbejedipfckaaGreatDoor
