/- gleanlaw.Delivers answers true for every script whose values are together at most 1048576, and its argument reads as before; the package-level variables that its row lists are tied to the program's text. -/
import Derived.Test.YteahdfeialekbaaGreatDoorRows
import Derived.Test.YteahdfeialekbaaGreatDoorTie
import Derived.Test.YteahdfeialekbaaGreatDoorCards
import Derived.Test.YteahdfeialekbaaGreatDoorOpenedS
import Derived.ProofKit
import Derived.LaidMore
import Derived.OpenShut
import Derived.Stop.Joined
import Derived.SevenTiedAt
import Derived.SizedLaws
import Derived.JoinedCond
import Derived.Deep.DeepHandedRow
import Derived.Deep.DeepWitnessRowRef
namespace Go.Proofs.YteahdfeialekbaaGreatDoor
open Go.ChangeShapes Go.WideShapes Go.ChangeAt Go.WideMaps Go.WideElems Go.RowKit
theorem ownW : ownKnob Tryz.prog.godebug = none := by kernel_rfl
theorem laidOutW : laidOutB Tryz.prog = true := by kernel_rfl
theorem bulk_steps {H : Type} : ∀ (l : List (DataW H)), (∀ d ∈ l, OpAgg d) -> 7 * l.length <= Rows.uptoBulkAll l
 | [], _ => by simp
 | d :: r, h => by
  have ih := bulk_steps r (fun x hx => h x (List.mem_cons_of_mem _ hx))
  obtain ⟨n0, n1, n2, n3, n4, n5, n6, q, rfl⟩ := h d (List.mem_cons_self ..)
  simp only [Rows.uptoBulkAll, Rows.uptoBulk, List.length_cons]
  omega
theorem door_metW (os : Os) (args : Array Value) : laidMetH Tryz.prog Rows.deliversUptoRow.laid ((World.doorLaid Tryz.prog 400 os).forCall (fun _ _ => 0) ⟨#[], args, []⟩).memory :=
 laidMetH_of_parts3 (fuel := 8) (laidMet_of_run' 8 (by kernel_rfl) (by kernel_rfl)) (by kernel_rfl) (by kernel_rfl)
theorem readsW (os : Os) {H : Type} (enc : TypeId × Value -> H) : ∃ places, DataW.whole enc Tryz.prog ((World.doorLaid Tryz.prog 400 os).forCall (fun _ _ => 0) ⟨#[], #[.slice none 0 0], []⟩).memory Tryz.f5.params.toList Rows.deliversSpec.vars false #[Value.slice none 0 0].toList 8 = some ([.nil], [], places) :=
 ⟨[], by kernel_rfl⟩
set_option maxRecDepth 100000 in
theorem delivers_lifted (os : Os) (started : os.Started) (H : Type) (enc : TypeId × Value -> H) (F : Stop.Interp) :
  ReturnsInHanded {} Tryz.checked os 5 .any ((Rows.OpenSpec.upto Rows.deliversSpec).preRow enc Tryz.prog Tryz.f5 Rows.deliversUptoRow.domain false Rows.deliversUptoRow.laid) (((Rows.OpenSpec.upto Rows.deliversSpec).at F).post enc Tryz.prog Tryz.f5 false true false false) := by
 obtain ⟨places, hx⟩ := readsW os enc
 refine returnsInHanded_of_row (C := Tryz.checked) (s := Rows.OpenSpec.upto Rows.deliversSpec) ownW started (by kernel_rfl) Tryz.func5
  (witness_row_atRef (enc := enc) (C := Tryz.checked) false (World.doorLaid Tryz.prog 400 os) #[.slice none 0 0] rfl (by kernel_rfl) (by kernel_rfl) (by kernel_rfl)
   (OpenSpec.preRow_of_cond 8 hx (by kernel_rfl) (fun k hk => by cases hk; kernel_rfl) (by kernel_rfl) (door_metW os _))) ?_
 intro W base args ds gs before hval0 hW _ hcond hsz0 _ _ _
 have hval : ∀ (j : Nat) t v, Tryz.f5.params[j]? = some t -> args[j]? = some v -> Value.okWide Tryz.prog W .any base t v := hval0
 have hW' := hW
 obtain ⟨p, q, hA0, hV, rfl, hfz, hnd⟩ := hW
 have hA : DataW.TrodAll enc Tryz.prog W 0 (fun _ => true) true Tryz.f5.params.toList args.toList ds p := hA0
 have hsz : (DataW.weightsEach Tryz.prog (Tryz.f5.params.toList ++ Rows.deliversSpec.plain.varTypes Tryz.prog) (ds ++ gs)).all (· <= reachBytes) = true := hsz0
 rw [Tryz.params5] at hA hval hsz
 obtain ⟨v0, d0, rfl, rfl, h0⟩ := trodAll_one hA
 obtain ⟨rfl, rfl⟩ := trodVars_none hV
 clear hA0 hval0
 simp only [List.append_nil] at hW'
 have hlt : ∀ x ∈ p, x.block < W.heap.size := fun x hx => by simpa using hW'.lt x (by simp [hx])
 have h0k := h0
 obtain ⟨fuel, h0f⟩ := h0
 have hbulk : Rows.uptoBulkAll ([d0] ++ []) <= 1048576 := of_decide_eq_true (hcond _ rfl)
 simp only [List.append_nil, Rows.uptoBulkAll, Nat.add_zero] at hbulk
 obtain ⟨a0, len0, cap0, hv0⟩ := okWide_slice Tryz.underlying22 (hval 0 22 v0 rfl rfl)
 have hf : DataW.trod enc Tryz.prog W 0 (fun _ => true) true fuel 22 [v0] = some (d0, p) := by
  rw [hv0] at h0f ⊢
  simpa [Value.cells] using h0f
 have hw : ∀ m ∈ d0.weights Tryz.prog 22, m <= reachBytes := fun m hm => by
  have := List.all_eq_true.1 hsz m (DataW.weights_mem_each (j := 0) (t := 22) rfl rfl m hm)
  simpa using this
 obtain ⟨a, cap, l, hv, hs, hlen⟩ := script_opened hf hw
 have hl : l.length <= 170000 := by
  rcases hlen with h | ⟨el, sp, hx, hel, hag⟩
  ·omega
  ·have h2 := bulk_steps el hag
   dsimp only at hx
   rw [hx] at hbulk
   simp only [Rows.uptoBulk] at hbulk
   omega
 subst hv
 refine (delivers_calls a cap l W hs hl).mono fun e W' ⟨he, bel⟩ => ?_
 subst he
 refine ⟨_, rfl, ?_⟩
 refine ⟨_, _, _, [], p, [], hW', ?_, ?_, rfl, bel.frame _, fun h => by cases h⟩
 ·exact trodAll_mk1 (shut_bool Tryz.underlying4 _)
 ·exact trodAll_mk1 (Below.trod laidOutW (by kernel_rfl) (of_decide_eq_true (by kernel_rfl)) h0k bel hlt)
theorem delivers_holds : Rows.DeliversUptoSaid :=
 OpenClaim.holds_of_cond 5 Tryz.f5 rfl rfl rfl rfl rfl rfl rfl ⟨rfl, rfl, rfl, rfl, rfl⟩ rfl rfl rfl rfl rfl (by kernel_rfl) Tryz.func5 (by kernel_rfl)
  (of_decide_eq_true (by kernel_rfl)) (by unfold Func.isWrapper; first | (rw [if_pos (by decide +kernel)]; kernel_rfl) | (rw [if_neg (by decide +kernel)]; exact ⟨rfl, rfl⟩))
  (fun os started H enc _ F => by rw [OpenClaim.pre_eq_preRow]; exact delivers_lifted os started H enc F)
theorem deliversUptoCard_holds : Rows.DeliversUptoCardSaid :=
 Claim7.holds_tied_plain_at .later [] [.data, .data, .data] true _ false
  delivers_holds (fun _ h => by cases h) (by kernel_rfl) (fun _ h => by cases h) deliversUpto_row_tie rfl ⟨rfl, rfl⟩ (by kernel_rfl) rfl
  (fun f fn hf hfn => by
   obtain rfl : f = 5 := Option.some.inj ((show Tryz.prog.funcNamed "glean/gleanlaw.Delivers" = some 5 by kernel_rfl).symm.trans hf) |>.symm
   obtain rfl : fn = Tryz.f5 := (Option.some.inj (Tryz.func5.symm.trans hfn)).symm
   exact ⟨by kernel_rfl, fun j t ht => by
    rw [Tryz.params5] at ht
    have hm : t ∈ [22] := by simpa using Array.mem_of_getElem? ht
    have hall : ([22].all fun u => !Tryz.prog.wantsStandIn u) = true := by kernel_rfl
    exact (show Tryz.prog.wantsStandIn t = false by simpa using List.all_eq_true.1 hall t hm)⟩)
  (by kernel_rfl)
#print axioms deliversUptoCard_holds
end Go.Proofs.YteahdfeialekbaaGreatDoor
