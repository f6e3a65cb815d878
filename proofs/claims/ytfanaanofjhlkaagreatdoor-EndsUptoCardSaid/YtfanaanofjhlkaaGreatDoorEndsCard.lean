/- gleankeep.Ends answers true for every case and script whose values are together at most 1048576, and its arguments read as before; the package-level variables that its row lists are tied to the program's text. -/
import Derived.Test.YtfanaanofjhlkaaGreatDoorRows
import Derived.Test.YtfanaanofjhlkaaGreatDoorTie
import Derived.Test.YtfanaanofjhlkaaGreatDoorCards
import Derived.Test.YtfanaanofjhlkaaGreatDoorXPass2
import Derived.Test.YtfanaanofjhlkaaGreatDoorKeepEnds
import Derived.Test.YtfanaanofjhlkaaGreatDoorXCalls
import Derived.ProofKit
import Derived.LaidMore
import Derived.OpenShut
import Derived.Stop.Joined
import Derived.SevenTiedAt
import Derived.SizedLaws
import Derived.JoinedCond
import Derived.Deep.DeepHandedRow
import Derived.Deep.DeepWitnessRowRef
namespace Go.Proofs.YtfanaanofjhlkaaGreatDoor
open Go.ChangeShapes Go.WideShapes Go.ChangeAt Go.WideMaps Go.WideElems Go.RowKit
theorem ownEnds:ownKnob Tryz.prog.godebug=none:=by kernel_rfl
theorem laidOutEnds:laidOutB Tryz.prog=true:=by kernel_rfl
theorem door_metEnds(os:Os)(args:Array Value):laidMetH Tryz.prog Rows.endsUptoRow.laid ((World.doorLaid Tryz.prog 400 os).forCall (fun _ _=>0) ⟨#[],args,[]⟩).memory:=
 laidMetH_of_parts3 (fuel:=8) (laidMet_of_run' 8 (by kernel_rfl) (by kernel_rfl)) (by kernel_rfl) (by kernel_rfl)
theorem readsEnds(os:Os){H:Type}(enc:TypeId×Value->H):∃places,DataW.whole enc Tryz.prog ((World.doorLaid Tryz.prog 400 os).forCall (fun _ _=>0) ⟨#[],#[.agg #[.int .i64 0,.int .i64 0,.int .i64 0,.slice none 0 0,.int .i64 0,.int .i64 0],.slice none 0 0],[]⟩).memory Tryz.f9.params.toList Rows.endsSpec.vars false #[Value.agg #[.int .i64 0,.int .i64 0,.int .i64 0,.slice none 0 0,.int .i64 0,.int .i64 0],.slice none 0 0].toList 8=some ([.agg [.lit (.int .i64 0),.lit (.int .i64 0),.lit (.int .i64 0),.nil,.lit (.int .i64 0),.lit (.int .i64 0)],.nil],[],places):=
 ⟨[],by kernel_rfl⟩
set_option maxRecDepth 100000 in
theorem ends_lifted(os:Os)(started:os.Started)(H:Type)(enc:TypeId×Value->H)(F:Stop.Interp) :
  ReturnsInHanded {} Tryz.checked os 9 .any ((Rows.OpenSpec.upto Rows.endsSpec).preRow enc Tryz.prog Tryz.f9 Rows.endsUptoRow.domain false Rows.endsUptoRow.laid) (((Rows.OpenSpec.upto Rows.endsSpec).at F).post enc Tryz.prog Tryz.f9 false true false false):=by
 obtain⟨places,hx⟩:=readsEnds os enc
 refine returnsInHanded_of_row (C:=Tryz.checked) (s:=Rows.OpenSpec.upto Rows.endsSpec) ownEnds started (by kernel_rfl) Tryz.func9
  (witness_row_atRef (enc:=enc) (C:=Tryz.checked) false (World.doorLaid Tryz.prog 400 os) #[.agg #[.int .i64 0,.int .i64 0,.int .i64 0,.slice none 0 0,.int .i64 0,.int .i64 0],.slice none 0 0] rfl (by kernel_rfl) (by kernel_rfl) (by kernel_rfl)
   (OpenSpec.preRow_of_cond 8 hx (by kernel_rfl) (fun k hk=>by cases hk;kernel_rfl) (by kernel_rfl) (door_metEnds os _))) ?_
 intro W base args ds gs before hval0 hW _ hcond hsz0 _ _ _
 have hval:∀(j:Nat) t v,Tryz.f9.params[j]?= some t->args[j]?= some v->Value.okWide Tryz.prog W .any base t v:=hval0
 have hW':=hW
 obtain⟨p,q,hA0,hV,rfl,hfz,hnd⟩:=hW
 have hA:DataW.TrodAll enc Tryz.prog W 0 (fun _=>true) true Tryz.f9.params.toList args.toList ds p:=hA0
 rw[Tryz.params9]at hA hval
 obtain⟨v0,v1,d0,d1,p0,p1,rfl,rfl,rfl,h0,h1⟩:=trodAll_two hA
 obtain⟨rfl,rfl⟩:=trodVars_none hV
 clear hA0 hval0
 simp only[List.append_nil]at hW'
 have hlt:∀x∈p0++p1,x.block < W.heap.size:=fun x hx=>by simpa using hW'.lt x (by simpa using hx)
 have hlt0:∀x∈p0,x.block < W.heap.size:=fun x hx=>hlt x (List.mem_append_left _ hx)
 have hlt1:∀x∈p1,x.block < W.heap.size:=fun x hx=>hlt x (List.mem_append_right _ hx)
 have h0k:=h0
 have h1k:=h1
 obtain⟨fuel,h1f⟩:=h1
 have hbulk:Rows.uptoBulkAll ([d0,d1]++ [])<=1048576:=of_decide_eq_true (hcond _ rfl)
 simp only[List.append_nil,Rows.uptoBulkAll,Nat.add_zero]at hbulk
 obtain⟨a1,len1,cap1,hv1⟩:=okWide_slice Tryz.underlying28 (hval 1 28 v1 rfl rfl)
 have hf:DataW.trod enc Tryz.prog W 0 (fun _=>true) true fuel 28 [v1]=some (d1,p1):=by
  rw[hv1]at h1f ⊢
  simpa[Value.cells]using h1f
 obtain⟨wk,rm,md,kind,arg,ra,rl,rc,hv0,f1,f2,f3,f4,f5,hraw,hrl⟩:=case_opened (hval 0 27 v0 rfl rfl) h0 hlt0
 obtain⟨a,cap,l,hv,hs,hlen⟩:=moves_opened hf
 have hl:l.length<=1000000:=by
  rcases hlen with h|⟨el,sp,hx,hel,hag⟩
  ·omega
  ·have h2:=bulk_moves el hag
   dsimp only at hx
   rw[hx]at hbulk
   simp only[Rows.uptoBulk]at hbulk
   omega
 have hrl':rl<=9223372036854775806:=by
  rcases hrl with h|⟨e0,e1,e2,e4,e5,el,sp,hx,hel,hag⟩
  ·omega
  ·have h2:=bulk_ints el hag
   rw[hx]at hbulk
   simp only[Rows.uptoBulk,Rows.uptoBulkAll]at hbulk
   omega
 clear hv1
 subst hv0 hv
 refine(ends_calls runCalls wk rm md kind arg ra rl rc a cap l W f1 f2 f3 f4 f5 hrl' hraw hs hl).mono fun e W' ⟨he,bel⟩=> ?_
 subst he
 refine⟨_,rfl,?_⟩
 refine⟨_,_,_,[],p0++p1,[],hW',?_,?_,rfl,bel.frame _,fun h=>by cases h⟩
 ·exact trodAll_mk1 (shut_bool Tryz.underlying4 _)
 ·exact trodAll_mk2 (Below.trod laidOutEnds (by kernel_rfl) (of_decide_eq_true (by kernel_rfl)) h0k bel hlt0) (Below.trod laidOutEnds (by kernel_rfl) (of_decide_eq_true (by kernel_rfl)) h1k bel hlt1)
theorem ends_holds:Rows.EndsUptoSaid:=
 OpenClaim.holds_of_cond 9 Tryz.f9 rfl rfl rfl rfl rfl rfl rfl ⟨rfl,rfl,rfl,rfl,rfl⟩ rfl rfl rfl rfl rfl (by kernel_rfl) Tryz.func9 (by kernel_rfl)
  (of_decide_eq_true (by kernel_rfl)) (by unfold Func.isWrapper;first|(rw[if_pos (by decide +kernel)];kernel_rfl)|(rw[if_neg (by decide +kernel)];exact⟨rfl,rfl⟩))
  (fun os started H enc _ F=>by rw[OpenClaim.pre_eq_preRow];exact ends_lifted os started H enc F)
theorem endsUptoCard_holds:Rows.EndsUptoCardSaid:=
 Claim7.holds_tied_plain_at .later [] [.data,.data,.data] true _ false
  ends_holds (fun _ h=>by cases h) (by kernel_rfl) (fun _ h=>by cases h) endsUpto_row_tie rfl ⟨rfl,rfl⟩ (by kernel_rfl) rfl
  (fun f fn hf hfn=>by
   obtain rfl:f=9:=Option.some.inj ((show Tryz.prog.funcNamed "glean/gleankeep.Ends" = some 9 by kernel_rfl).symm.trans hf) |>.symm
   obtain rfl:fn=Tryz.f9:=(Option.some.inj (Tryz.func9.symm.trans hfn)).symm
   exact⟨by kernel_rfl,fun j t ht=>by
    rw[Tryz.params9]at ht
    have hm:t∈ [27,28]:=by simpa using Array.mem_of_getElem? ht
    have hall:([27,28].all fun u=> !Tryz.prog.wantsStandIn u)=true:=by kernel_rfl
    exact(show Tryz.prog.wantsStandIn t=false by simpa using List.all_eq_true.1 hall t hm)⟩)
  (by kernel_rfl)
#print axioms endsUptoCard_holds
end Go.Proofs.YtfanaanofjhlkaaGreatDoor
