import Derived.Test.YtfanaanofjhlkaaGreatDoorXYoung
import Derived.Test.YtfanaanofjhlkaaGreatDoorRefWork2
import Derived.Test.YtfanaanofjhlkaaGreatDoorXAgain
import Derived.StillTailTactics
import Derived.Test.YtfanaanofjhlkaaGreatDoorRefSteal
namespace Go.Proofs.YtfanaanofjhlkaaGreatDoor
open Go Go.RowKit Go.Maps
theorem ask_calls(B:Nat)(v:Value)(w:World)(R:Int->World->Prop)(h:Calls Tryz.prog 95 #[v] w fun e w'=>∃r,e= .returned (.int .i64 r)/\R r w') :
  Calls Tryz.prog 45 #[.pointer (some ⟨B,0,none⟩),v] w fun e w'=>∃r,e= .returned (.int .i64 r)/\R r w':=by
 have H:=hid_of h
 clear h
 go_enter Tryz.func45,Tryz.ntmps45
 go_wp2_with (go_at_call 95;refine H.out.mono ?_;rintro e w1 ⟨r,rfl,hr⟩)
 go_ret
 exact⟨r,rfl,hr⟩
theorem change1_calls(Bs:Nat)(v:Value)(w:World)(R:Int->World->Prop)(hb:BoxAt w Bs 148 #[v])(h:Calls Tryz.prog 95 #[v] w fun e w'=>∃r,e= .returned (.int .i64 r)/\R r w') :
  Calls Tryz.prog 94 #[.pointer (some ⟨Bs,0,none⟩)] w fun e w'=>∃r,e= .returned (.int .i64 r)/\R r w':=by
 have H:=hid_of h
 have b0:=hb.cell (o:=0) rfl
 clear h hb
 go_enter Tryz.func94,Tryz.ntmps94
 go_wp2_with (go_at_call 95;refine H.out.mono ?_;rintro e w1 ⟨r,rfl,hr⟩)
 go_ret
 exact⟨r,rfl,hr⟩
set_option maxHeartbeats 1000000 in
set_option maxRecDepth 100000 in
theorem change_calls(F:Nat->Prop)(B g n:Nat)(s:RunS)(w:World)(hx:XOK F w B s)(R:Int->World->Prop)(h:s.done=false->s.over=false->∀U,Below w.heap.size w U->Calls Tryz.prog 95 #[.slice (some ⟨g,0,none⟩) n n] U fun e w'=>∃r,e= .returned (.int .i64 r)/\R r w') :
  Calls Tryz.prog 42 #[.pointer (some ⟨B,0,none⟩),.slice (some ⟨g,0,none⟩) n n] w fun e w'=>∃r,e= .returned (.int .i64 r)/\((startE s≠0/\r=startE s/\Below w.heap.size w w')\/(startE s=0/\R r w')):=by
 obtain⟨V,hV⟩:∃V,(w.alloc (Obj.cells #[.slice (some ⟨g,0,none⟩) n n] 148)).alloc (Obj.cells #[.func (.func 92) #[.pointer (some ⟨B,0,none⟩)] #[],.func (.func 93) #[.pointer (some ⟨B,0,none⟩)] #[],.func (.func 94) #[] #[.pointer (some ⟨w.heap.size,0,none⟩)]] 94)=V:=⟨_,rfl⟩
 have hbV:Below w.heap.size w V:=by rw[<-hV];exact((Below.refl _ _).alloc (Nat.le_refl _) _).alloc (by simp) _
 have bS:BoxAt V w.heap.size 148 #[.slice (some ⟨g,0,none⟩) n n]:=by rw[<-hV];exact(BoxAt.new w _ _).alloc _
 have bL:BoxAt V (w.heap.size+1) 94 #[.func (.func 92) #[.pointer (some ⟨B,0,none⟩)] #[],.func (.func 93) #[.pointer (some ⟨B,0,none⟩)] #[],.func (.func 94) #[] #[.pointer (some ⟨w.heap.size,0,none⟩)]]:=by rw[<-hV];exact boxAt_at _ _ _ _ (by simp)
 have HT:=hid_of (ask_calls B (.slice (some ⟨w.heap.size+1,0,none⟩) 3 3) V (fun r w'=>(startE s≠0/\r=startE s/\Below w.heap.size w w')\/(startE s=0/\R r w')) (by
  refine(inTurn_calls (w.heap.size+1) 3 3 [(92,#[.pointer (some ⟨B,0,none⟩)],#[]),(93,#[.pointer (some ⟨B,0,none⟩)],#[]),(94,#[],#[.pointer (some ⟨w.heap.size,0,none⟩)])] V rfl (by omega)
   (fun i W=>if i=0 then Below V.heap.size V W else if i=1 then Below V.heap.size V W/\s.done=false else if i=2 then Below V.heap.size V W/\s.done=false/\s.over=false else startE s=0/\R 0 W)
   (fun r W=>(startE s≠0/\r=startE s/\Below w.heap.size w W)\/(startE s=0/\R r W)) ?_ ?_ ?_ ?_).mono ?_
  ·intro i W hJ f hf
   match i,hf with
   |0,hf=>cases hf;simp only[if_true]at hJ;exact(bL.below hJ bL.lt).cell (o:=0) rfl
   |1,hf=>cases hf;simp only[Nat.one_ne_zero,if_false,if_true]at hJ;exact(bL.below hJ.1 bL.lt).cell (o:=1) rfl
   |2,hf=>cases hf;simp only[show¬(2:Nat)=0 by omega,show¬(2:Nat)=1 by omega,if_false,if_true]at hJ;exact(bL.below hJ.1 bL.lt).cell (o:=2) rfl
   |(m+3),hf=>simp at hf
  ·intro f hf args W
   simp at hf
   rcases hf with rfl|rfl|rfl
   ·exact enters_of Tryz.func92 (by kernel_rfl) rfl args W
   ·exact enters_of Tryz.func93 (by kernel_rfl) rfl args W
   ·exact enters_of Tryz.func94 (by kernel_rfl) rfl args W
  ·intro i f hf W hJ
   match i,hf with
   |0,hf=>
    cases hf
    simp only[if_true]at hJ
    refine(goesOn_calls F B s W ((hx.later hbV).later hJ)).mono ?_
    rintro e w' ⟨rfl,rfl⟩
    cases ho:s.done
    ·exact⟨0,rfl,.inl ⟨rfl,by simpa[ho]using hJ⟩⟩
    ·exact⟨5,rfl,.inr ⟨by omega,.inl ⟨by simp[startE,ho],by simp[startE,ho],hbV.trans (hJ.mono hbV.size)⟩⟩⟩
   |1,hf=>
    cases hf
    simp only[Nat.one_ne_zero,if_false,if_true]at hJ
    obtain⟨hJ,hd⟩:=hJ
    refine(hadRoom_calls F B s W ((hx.later hbV).later hJ)).mono ?_
    rintro e w' ⟨rfl,rfl⟩
    cases ho:s.over
    ·exact⟨0,rfl,.inl ⟨rfl,by simpa[ho,hd]using hJ⟩⟩
    ·exact⟨6,rfl,.inr ⟨by omega,.inl ⟨by simp[startE,ho,hd],by simp[startE,ho,hd],hbV.trans (hJ.mono hbV.size)⟩⟩⟩
   |2,hf=>
    cases hf
    simp only[show¬(2:Nat)=0 by omega,show¬(2:Nat)=1 by omega,if_false,if_true]at hJ
    have h0:startE s=0:=by simp[startE,hJ.2.1,hJ.2.2]
    refine(change1_calls w.heap.size _ W R (bS.below hJ.1 bS.lt) (h hJ.2.1 hJ.2.2 W (hbV.trans (hJ.1.mono hbV.size)))).mono ?_
    rintro e w' ⟨r,rfl,hr⟩
    by_cases hr0:r=0
    ·subst hr0
     exact⟨0,rfl,.inl ⟨rfl,by simpa using ⟨h0,hr⟩⟩⟩
    ·exact⟨r,rfl,.inr ⟨hr0,.inr ⟨h0,hr⟩⟩⟩
   |(m+3),hf=>simp at hf
  ·exact Below.refl _ _
  ·rintro e w' ⟨r,rfl,hr⟩
   refine⟨r,rfl,?_⟩
   rcases hr with⟨rfl,h2⟩|⟨_,h2⟩
   ·simp only[show¬(3:Nat)=0 by omega,show¬(3:Nat)=1 by omega,show¬(3:Nat)=2 by omega,if_false]at h2
    exact .inr h2
   ·exact h2))
 clear h hx
 go_enter Tryz.func42,Tryz.ntmps42
 go_wp2_with (go_at_call 45;refine HT.out.mono ?_;rintro e w1 ⟨r,rfl,hr⟩)
 go_ret
 exact⟨r,rfl,hr⟩
theorem workerE_halt{s:RunS}(h:startE s≠0)(t:Int):workerE s t=startE s:=if_neg (fun h'=>h h'.1)
theorem Calls.at_world{P:Program}{f:Nat}{args:Array Value}{w w':World}{Q:Ending->World->Prop}(h:w=w')(hc:Calls P f args w' Q):Calls P f args w Q:=by subst h;exact hc
theorem workS_done1{s:RunS}{k:Nat}{x:WorkerS}{L:List TaskS}{t:TaskS}(hw:workerE s (k:Int)=0)(hk:s.W[k]?= some x)(hxt:x.tasks=L++ [t]):workS s (k:Int)=doneS s k x L t:=by
 simp only[workS,hw,ne_eq,not_true_eq_false,if_false,Int.toNat_natCast,hk,hxt,List.getLast?_append,List.getLast?_singleton,Option.some_or,List.length_append,List.length_singleton,List.dropLast_concat,doneS,bringS]
 have e:((L.length+1:Nat):Int) - 1+((children s.ks t).length:Int)=(L.length:Int)+((children s.ks t).length:Int):=by omega
 rw[e]
 by_cases h:k=0
 ·subst h;simp
 ·simp[h]
theorem XOK.low{F:Nat->Prop}{w:World}{B:Nat}{s:RunS}(h:XOK F w B s):XOK (fun b=>F b/\b < w.heap.size) w B s:=h.kept (Kept.refl (fun _=>False) w) (fun _ hg hF=>⟨fun h=>h,hF,hg⟩)
theorem XOK.mono{F F':Nat->Prop}{w:World}{B:Nat}{s:RunS}(h:XOK F w B s)(hF:∀b,b < w.heap.size->F b->F' b):XOK F' w B s:=h.kept (Kept.refl (fun _=>False) w) (fun b hb h=>⟨fun h=>h,hF b hb h⟩)
set_option maxHeartbeats 4000000 in
set_option maxRecDepth 100000 in
theorem x_work_calls(F:Nat->Prop)(B N:Nat)(s:RunS)(i:Int)(w:World)(hx:XOK F w B s)(hf:Fits s)(hsh:Shaped s)(hN:Small N s)(hN':N<=90000000)(hkn:Known s)(hv:s.values.length<=90000000) :
  Calls Tryz.prog 22 #[.pointer (some ⟨B,0,none⟩),.int .i64 i] w fun e w'=>e= .returned (.int .i64 (workS s i).2)/\XOK (fun b=>F b\/w.heap.size<=b) w' B (workS s i).1/\Kept F w w':=by
 have hx0:=hx.low
 obtain⟨w1,hw1⟩:∃w1,(w.alloc (Obj.cells #[.pointer (some ⟨B,0,none⟩)] 36)).alloc (Obj.cells #[.int .i64 i] 3)=w1:=⟨_,rfl⟩
 obtain⟨w2,hw2⟩:∃w2,(w1.alloc (Obj.cells #[.pointer (some ⟨B,0,none⟩)] 36)).alloc (Obj.cells #[.int .i64 i] 3)=w2:=⟨_,rfl⟩
 obtain⟨w3,hw3⟩:∃w3,(w2.alloc (Obj.cells #[.pointer (some ⟨B,0,none⟩)] 36)).alloc (Obj.cells #[.int .i64 i] 3)=w3:=⟨_,rfl⟩
 obtain⟨w4,hw4⟩:∃w4,w3.alloc (Obj.cells #[stepVal (110,#[],#[.pointer (some ⟨w.heap.size+1,0,none⟩),.pointer (some ⟨w.heap.size,0,none⟩)]),stepVal (111,#[],#[.pointer (some ⟨w1.heap.size,0,none⟩),.pointer (some ⟨w1.heap.size+1,0,none⟩)]),stepVal (112,#[],#[.pointer (some ⟨w2.heap.size,0,none⟩),.pointer (some ⟨w2.heap.size+1,0,none⟩)])] 94)=w4:=⟨_,rfl⟩
 have g1:Below w.heap.size w w1:=by rw[<-hw1];exact((Below.refl _ _).alloc (Nat.le_refl _) _).alloc (by simp) _
 have g2:Below w1.heap.size w1 w2:=by rw[<-hw2];exact((Below.refl _ _).alloc (Nat.le_refl _) _).alloc (by simp) _
 have g3:Below w2.heap.size w2 w3:=by rw[<-hw3];exact((Below.refl _ _).alloc (Nat.le_refl _) _).alloc (by simp) _
 have g4:Below w3.heap.size w3 w4:=by rw[<-hw4];exact(Below.refl _ _).alloc (Nat.le_refl _) _
 have z1:w1.heap.size=w.heap.size+2:=by rw[<-hw1];simp
 have z2:w2.heap.size=w1.heap.size+2:=by rw[<-hw2];simp
 have z3:w3.heap.size=w2.heap.size+2:=by rw[<-hw3];simp
 have z4:w4.heap.size=w3.heap.size+1:=by rw[<-hw4];simp
 have hA:HeldAt w4 w.heap.size (w.heap.size+1) B i:=by
  have h:HeldAt w1 w.heap.size (w.heap.size+1) B i:=⟨by rw[<-hw1];exact(BoxAt.new w _ _).alloc _,by rw[<-hw1];exact boxAt_at _ _ _ _ (by simp)⟩
  exact((h.below g2).below g3).below g4
 have hB:HeldAt w4 w1.heap.size (w1.heap.size+1) B i:=by
  have h:HeldAt w2 w1.heap.size (w1.heap.size+1) B i:=⟨by rw[<-hw2];exact(BoxAt.new w1 _ _).alloc _,by rw[<-hw2];exact boxAt_at _ _ _ _ (by simp)⟩
  exact(h.below g3).below g4
 have hC:HeldAt w4 w2.heap.size (w2.heap.size+1) B i:=by
  have h:HeldAt w3 w2.heap.size (w2.heap.size+1) B i:=⟨by rw[<-hw3];exact(BoxAt.new w2 _ _).alloc _,by rw[<-hw3];exact boxAt_at _ _ _ _ (by simp)⟩
  exact h.below g4
 have bL:BoxAt w4 w3.heap.size 94 #[stepVal (110,#[],#[.pointer (some ⟨w.heap.size+1,0,none⟩),.pointer (some ⟨w.heap.size,0,none⟩)]),stepVal (111,#[],#[.pointer (some ⟨w1.heap.size,0,none⟩),.pointer (some ⟨w1.heap.size+1,0,none⟩)]),stepVal (112,#[],#[.pointer (some ⟨w2.heap.size,0,none⟩),.pointer (some ⟨w2.heap.size+1,0,none⟩)])]:=by rw[<-hw4];exact BoxAt.new w3 _ _
 have hb4:Below w.heap.size w w4:=(((g1.trans (g2.mono (by omega))).trans (g3.mono (by omega))).trans (g4.mono (by omega)))
 have hx4:XOK (fun b=>F b/\b < w.heap.size) w4 B s:=hx0.later hb4
 have hlen:=hf.len
 have hfit:=hf
 have key:Calls Tryz.prog 42 #[.pointer (some ⟨B,0,none⟩),.slice (some ⟨w3.heap.size,0,none⟩) 3 3] w4 fun e w'=>∃r,e= .returned (.int .i64 r)/\r=(workS s i).2/\XOK (fun b=>F b\/w.heap.size<=b) w' B (workS s i).1/\Kept F w w':=by
  refine(change_calls _ B w3.heap.size 3 s w4 hx4 (fun r w'=>r=(workS s i).2/\XOK (fun b=>F b\/w.heap.size<=b) w' B (workS s i).1/\Kept F w w') (fun hd hov U hU=> ?_)).mono ?_
  ·have hwU:Below w.heap.size w U:=hb4.trans (hU.mono hb4.size)
   have hxU:XOK (fun b=>F b/\b < w.heap.size) U B s:=hx4.later hU
   have hstart:startE s=0:=by simp[startE,hd,hov]
   have keepU:∀W,Below U.heap.size U W->(∀r,workS s i=(s,r)->(workS s i).2=r/\XOK (fun b=>F b\/w.heap.size<=b) W B (workS s i).1/\Kept F w W):=fun W hW r hr=>by
    rw[hr]
    refine⟨rfl,(hxU.later hW).mono (fun b _ h=> .inl h.1),Kept.of_below (hwU.trans (hW.mono hwU.size)) (fun b h1 h2=>by omega)⟩
   refine(inTurn_calls w3.heap.size 3 3 [(110,#[],#[.pointer (some ⟨w.heap.size+1,0,none⟩),.pointer (some ⟨w.heap.size,0,none⟩)]),(111,#[],#[.pointer (some ⟨w1.heap.size,0,none⟩),.pointer (some ⟨w1.heap.size+1,0,none⟩)]),(112,#[],#[.pointer (some ⟨w2.heap.size,0,none⟩),.pointer (some ⟨w2.heap.size+1,0,none⟩)])] U rfl (by omega)
    (fun j W=>if j=0 then Below U.heap.size U W else if j=1 then Below U.heap.size U W/\0<=i/\i < s.workers else if j=2 then Below U.heap.size U W/\(0<=i/\i < s.workers)/\(tasksS s i).1≠ []else 0=(workS s i).2/\XOK (fun b=>F b\/w.heap.size<=b) W B (workS s i).1/\Kept F w W)
    (fun r W=>r=(workS s i).2/\XOK (fun b=>F b\/w.heap.size<=b) W B (workS s i).1/\Kept F w W) ?_ ?_ ?_ ?_).mono ?_
   ·intro j W hJ f hf
    have hBU:=bL.below hU bL.lt
    match j,hf with
    |0,hf=>cases hf;simp only[if_true]at hJ;exact(hBU.below hJ hBU.lt).cell (o:=0) rfl
    |1,hf=>cases hf;simp only[Nat.one_ne_zero,if_false,if_true]at hJ;exact(hBU.below hJ.1 hBU.lt).cell (o:=1) rfl
    |2,hf=>cases hf;simp only[show¬(2:Nat)=0 by omega,show¬(2:Nat)=1 by omega,if_false,if_true]at hJ;exact(hBU.below hJ.1 hBU.lt).cell (o:=2) rfl
    |(m+3),hf=>simp at hf
   ·intro f hf args W
    simp at hf
    rcases hf with rfl|rfl|rfl
    ·exact enters_of Tryz.func110 (by kernel_rfl) rfl args W
    ·exact enters_of Tryz.func111 (by kernel_rfl) rfl args W
    ·exact enters_of Tryz.func112 (by kernel_rfl) rfl args W
   ·intro j f hf W hJ
    match j,hf with
    |0,hf=>
     cases hf
     simp only[if_true]at hJ
     refine(isWorker1_calls _ B w.heap.size (w.heap.size+1) s i W (hxU.later hJ) hfit ((hA.below hU).below hJ)).mono ?_
     rintro e w' ⟨rfl,hbw⟩
     have hbUw:Below U.heap.size U w':=hJ.trans (hbw.mono hJ.size)
     by_cases hin:i < 0\/s.workers<=i
     ·have hws:workS s i=(s,7):=by simp[workS,workerE,hstart,hin]
      obtain⟨k1,k2,k3⟩:=keepU w' hbUw 7 hws
      exact⟨7,by rw[if_pos hin],.inr ⟨by omega,k1.symm,k2,k3⟩⟩
     ·exact⟨0,by rw[if_neg hin],.inl ⟨rfl,by simp only[Nat.zero_add,Nat.one_ne_zero,if_false,if_true];exact⟨hbUw,by omega⟩⟩⟩
    |1,hf=>
     cases hf
     simp only[Nat.one_ne_zero,if_false,if_true]at hJ
     obtain⟨hJ,hin⟩:=hJ
     obtain⟨k,rfl⟩:=Int.eq_ofNat_of_zero_le hin.1
     have hf5:=hfit.five
     obtain⟨x,hxk⟩:∃x,s.W[k]?= some x:=⟨_,List.getElem?_eq_getElem (by omega)⟩
     have htk:(tasksS s (k:Int)).1=x.tasks:=by
      unfold tasksS
      rw[if_neg (by omega)]
      simp[hxk]
     refine(hasTask1_calls _ B w1.heap.size (w1.heap.size+1) k s x W (hxU.later hJ) hxk (by omega) ((hB.below hU).below hJ)).mono ?_
     rintro e w' ⟨rfl,hbw⟩
     have hbUw:Below U.heap.size U w':=hJ.trans (hbw.mono hJ.size)
     by_cases hz:x.tasks.length=0
     ·have hwe:workerE s (k:Int)=0:=by simp[workerE,hstart];omega
      have hz':x.tasks=[]:=List.length_eq_zero_iff.1 hz
      have hws:workS s (k:Int)=(s,8):=by simp[workS,hwe,hxk,hz']
      obtain⟨k1,k2,k3⟩:=keepU w' hbUw 8 hws
      exact⟨8,by rw[if_pos hz],.inr ⟨by omega,k1.symm,k2,k3⟩⟩
     ·refine⟨0,by rw[if_neg hz],.inl ⟨rfl,?_⟩⟩
      simp only[show¬(1+1:Nat)=0 by omega,show¬(1+1:Nat)=1 by omega,show(1+1:Nat)=2 from rfl,if_false,if_true]
      exact⟨hbUw,hin,by rw[htk];intro h;rw[h]at hz;simp at hz⟩
    |2,hf=>
     cases hf
     simp only[show¬(2:Nat)=0 by omega,show¬(2:Nat)=1 by omega,if_false,if_true]at hJ
     obtain⟨hJ,hin,hne⟩:=hJ
     obtain⟨k,rfl⟩:∃k:Nat,i=(k:Int):=⟨i.toNat,by omega⟩
     have h5:=hfit.five
     obtain⟨x,hxk⟩:∃x,s.W[k]?= some x:=⟨_,List.getElem?_eq_getElem (by omega)⟩
     have htk:(tasksS s (k:Int)).1=x.tasks:=by
      unfold tasksS
      rw[if_neg (by omega)]
      simp[hxk]
     rw[htk]at hne
     rcases List.eq_nil_or_concat x.tasks with hxt|⟨L,t,hxt⟩
     ·exact absurd hxt hne
     rw[List.concat_eq_append]at hxt
     have hwe:workerE s (k:Int)=0:=by simp[workerE,hstart];omega
     have hws:=workS_done1 hwe hxk hxt
     have zU:=hwU.size
     have zW:=hJ.size
     have zUU:=hU.size
     refine(doYoungest1_calls _ B w2.heap.size (w2.heap.size+1) k N s x L t W (hxU.later hJ) hfit hsh hN hN' hkn hxk (by omega) hxt hv ((hC.below hU).below hJ) ⟨fun h=>by omega,fun h=>by omega⟩).mono ?_
     rintro e w' ⟨rfl,k2,k3⟩
     have hxw:XOK (fun b=>F b\/w.heap.size<=b) w' B (workS s (k:Int)).1:=by rw[hws];exact k2.mono (fun b _ h=>by rcases h with h|h;exact .inl h.1;exact .inr (by omega))
     have hkw:Kept F w w':=(Kept.of_below (hwU.trans (hJ.mono zU)) (X:=F) (fun b h1 h2=>by omega)).andThen k3 (fun b _ h=>h.1)
     refine⟨(doneS s k x L t).2,rfl,?_⟩
     by_cases hr:(doneS s k x L t).2=0
     ·refine .inl ⟨hr,?_⟩
      simp only[show¬(2+1:Nat)=0 by omega,show¬(2+1:Nat)=1 by omega,show¬(2+1:Nat)=2 by omega,if_false]
      exact⟨by rw[hws,hr],hxw,hkw⟩
     ·exact .inr ⟨hr,by rw[hws],hxw,hkw⟩
    |(m+3),hf=>simp at hf
   ·exact Below.refl _ _
   ·rintro e w' ⟨r,rfl,hr⟩
    refine⟨r,rfl,?_⟩
    rcases hr with⟨rfl,h2⟩|⟨_,h2⟩
    ·simp only[show¬(3:Nat)=0 by omega,show¬(3:Nat)=1 by omega,show¬(3:Nat)=2 by omega,if_false]at h2
     exact h2
    ·exact h2
  ·rintro e w' ⟨r,rfl,hr⟩
   refine⟨r,rfl,?_⟩
   rcases hr with⟨ho,rfl,hb⟩|⟨_,h2⟩
   ·have hws:workS s i=(s,startE s):=by simp[workS,workerE_halt ho,ho]
    rw[hws]
    exact⟨rfl,(hx4.later hb).mono (fun b _ h=> .inl h.1),Kept.of_below (hb4.trans (hb.mono hb4.size)) (fun b h1 h2=>by omega)⟩
   ·exact h2
 have HKEY:=hid_of key
 have HW1:=hid_of hw1
 have HW2:=hid_of hw2
 have HW3:=hid_of hw3
 have HW4:=hid_of hw4
 obtain⟨res,hres⟩:∃res,workS s i=res:=⟨_,rfl⟩
 rw[hres]at HKEY ⊢
 clear key hw1 hw2 hw3 hw4 hx hx0 hx4 hA hB hC bL hb4 g1 g2 g3 g4 z1 z2 z3 z4 hf hfit hlen hres
 go_enter Tryz.func22,Tryz.ntmps22
 go_wp2_with (first
  |(go_at_call 51;refine(isWorker_calls (some ⟨B,0,none⟩) i w).mono ?_;rintro e a1 ⟨rfl,hq⟩;obtain rfl:w1=a1:=HW1.out.symm.trans hq.symm;clear hq)
  |(go_at_call 52;refine(hasTask_calls (some ⟨B,0,none⟩) i w1).mono ?_;rintro e a2 ⟨rfl,hq⟩;obtain rfl:w2=a2:=HW2.out.symm.trans hq.symm;clear hq)
  |(go_at_call 53;refine(doYoungest_calls (some ⟨B,0,none⟩) i w2).mono ?_;rintro e a3 ⟨rfl,hq⟩;obtain rfl:w3=a3:=HW3.out.symm.trans hq.symm;clear hq)
  |(go_at_call 42;refine Calls.at_world HW4.out ?_;refine HKEY.out.mono ?_;rintro e a4 ⟨r,rfl,hr,k2,k3⟩;subst hr))
 go_ret
 exact⟨rfl,k2,k3⟩
theorem values_calls(a:Option Addr)(n c:Nat)(w:World):Calls Tryz.prog 118 #[.slice a n c] w fun e w'=>e= .returned (.func (.func 173) #[] #[.pointer (some ⟨w.heap.size,0,none⟩)])/\w'=w.alloc (Obj.cells #[.slice a n c] 58):=by
 go_enter Tryz.func118,Tryz.ntmps118
 go_wp2_with fail
 go_ret
 exact⟨rfl,rfl⟩
theorem all_calls(X:Nat->Prop)(T:Nat)(room:Int)(l:List TaskS)(w:World)(ht:TaskListAt X w T room l):Calls Tryz.prog 55 #[.pointer (some ⟨T,0,none⟩)] w fun e w'=>∃Bs v,e= .returned (.func (.func 173) #[] #[.pointer (some ⟨Bs,0,none⟩)])/\BoxAt w' Bs 58 #[v]/\ListAt 3 taskEnc w' v l/\w.heap.size<=Bs/\Below w.heap.size w w':=by
 obtain⟨tv,hb,-,hr⟩:=ht
 have hL:ListAt 3 taskEnc w tv l:=list_of_row (sz:=3) (enc:=taskEnc) (fun _=>rfl) hr.1 rfl
 obtain⟨ta,tc,rfl⟩:=row_form hr.1
 have b0:=hb.cell (o:=0) rfl
 have HL:=hid_of hL
 clear hb hr hL
 go_enter Tryz.func55,Tryz.ntmps55
 go_wp2_with (go_at_call 118;refine(values_calls _ _ _ w).mono ?_;rintro e w1 ⟨rfl,hw1⟩;have HW1:=hid_of hw1;clear hw1)
 go_ret
 have h1:Below w.heap.size w w1:=by rw[HW1.out];exact(Below.refl _ _).alloc (Nat.le_refl _) _
 exact⟨_,_,rfl,by rw[HW1.out];exact BoxAt.new w _ _,HL.out.below h1 (Nat.le_refl _),Nat.le_refl _,h1⟩
set_option maxHeartbeats 2000000 in
set_option maxRecDepth 100000 in
theorem x_tasks_calls(F:Nat->Prop)(B:Nat)(s:RunS)(i:Int)(w:World)(hx:XOK F w B s)(hf:Fits s) :
  Calls Tryz.prog 23 #[.pointer (some ⟨B,0,none⟩),.int .i64 i] w fun e w'=>∃v,e= .returned (.tuple #[v,.int .i64 (tasksS s i).2])/\
   w'.ownsRow w.heap.size 62 3 v (tasksS s i).1.length ((tasksS s i).1.flatMap taskEnc)/\Below w.heap.size w w':=by
 obtain⟨w1,hw1⟩:∃w1,(w.alloc (Obj.cells #[.pointer (some ⟨B,0,none⟩)] 36)).alloc (Obj.cells #[.int .i64 i] 3)=w1:=⟨_,rfl⟩
 obtain⟨w4,hw4⟩:∃w4,w1.alloc (Obj.cells #[stepVal (110,#[],#[.pointer (some ⟨w.heap.size+1,0,none⟩),.pointer (some ⟨w.heap.size,0,none⟩)])] 94)=w4:=⟨_,rfl⟩
 have g1:Below w.heap.size w w1:=by rw[<-hw1];exact((Below.refl _ _).alloc (Nat.le_refl _) _).alloc (by simp) _
 have g4:Below w1.heap.size w1 w4:=by rw[<-hw4];exact(Below.refl _ _).alloc (Nat.le_refl _) _
 have hA:HeldAt w4 w.heap.size (w.heap.size+1) B i:=by
  have h:HeldAt w1 w.heap.size (w.heap.size+1) B i:=⟨by rw[<-hw1];exact(BoxAt.new w _ _).alloc _,by rw[<-hw1];exact boxAt_at _ _ _ _ (by simp)⟩
  exact h.below g4
 have bL:BoxAt w4 w1.heap.size 94 #[stepVal (110,#[],#[.pointer (some ⟨w.heap.size+1,0,none⟩),.pointer (some ⟨w.heap.size,0,none⟩)])]:=by rw[<-hw4];exact BoxAt.new w1 _ _
 have hb4:Below w.heap.size w w4:=g1.trans (g4.mono g1.size)
 have hx4:XOK F w4 B s:=hx.later hb4
 have hlen:=hf.len
 have key:Calls Tryz.prog 45 #[.pointer (some ⟨B,0,none⟩),.slice (some ⟨w1.heap.size,0,none⟩) 1 1] w4 fun e w'=>∃r,e= .returned (.int .i64 r)/\r=(if i < 0\/s.workers<=i then(7:Int)else 0)/\Below w4.heap.size w4 w':=by
  refine ask_calls B _ w4 (fun r w'=>r=(if i < 0\/s.workers<=i then(7:Int)else 0)/\Below w4.heap.size w4 w') ?_
  refine(inTurn_calls w1.heap.size 1 1 [(110,#[],#[.pointer (some ⟨w.heap.size+1,0,none⟩),.pointer (some ⟨w.heap.size,0,none⟩)])] w4 rfl (by omega)
   (fun j W=>if j=0 then Below w4.heap.size w4 W else 0=(if i < 0\/s.workers<=i then(7:Int)else 0)/\Below w4.heap.size w4 W) (fun r W=>r=(if i < 0\/s.workers<=i then(7:Int)else 0)/\Below w4.heap.size w4 W) ?_ ?_ ?_ ?_).mono ?_
  ·intro j W hJ f hf
   match j,hf with
   |0,hf=>cases hf;simp only[if_true]at hJ;exact(bL.below hJ bL.lt).cell (o:=0) rfl
   |(m+1),hf=>simp at hf
  ·intro f hf args W
   simp at hf
   subst hf
   exact enters_of Tryz.func110 (by kernel_rfl) rfl args W
  ·intro j f hfj W hJ
   match j,hfj with
   |0,hfj=>
    cases hfj
    simp only[if_true]at hJ
    refine(isWorker1_calls F B w.heap.size (w.heap.size+1) s i W (hx4.later hJ) hf (hA.below hJ)).mono ?_
    rintro e w' ⟨rfl,hbw⟩
    have hbUw:Below w4.heap.size w4 w':=hJ.trans (hbw.mono hJ.size)
    by_cases hin:i < 0\/s.workers<=i
    ·exact⟨7,by rw[if_pos hin],.inr ⟨by omega,by rw[if_pos hin],hbUw⟩⟩
    ·exact⟨0,by rw[if_neg hin],.inl ⟨rfl,by simp only[Nat.zero_add,Nat.one_ne_zero,if_false];exact⟨by rw[if_neg hin],hbUw⟩⟩⟩
   |(m+1),hfj=>simp at hfj
  ·exact Below.refl _ _
  ·rintro e w' ⟨r,rfl,hr⟩
   refine⟨r,rfl,?_⟩
   rcases hr with⟨rfl,h2⟩|⟨_,h2⟩
   ·simpa using h2
   ·exact h2
 have HKEY:=hid_of key
 have HW1:=hid_of hw1
 have HW4:=hid_of hw4
 have HB4:=hid_of hb4
 clear key hw1 hw4 hA bL hb4 g1 g4
 by_cases hin:i < 0\/s.workers<=i
 ·have ht:tasksS s i=([],7):=by unfold tasksS;rw[if_pos hin]
  rw[ht]
  rw[if_pos hin]at HKEY
  clear ht hx hx4 hf hin hlen
  go_enter Tryz.func23,Tryz.ntmps23
  go_wp2_with (first
   |(go_at_call 51;refine(isWorker_calls (some ⟨B,0,none⟩) i w).mono ?_;rintro e a1 ⟨rfl,hq⟩;obtain rfl:w1=a1:=HW1.out.symm.trans hq.symm;clear hq)
   |(go_at_call 45;refine Calls.at_world HW4.out ?_;refine HKEY.out.mono ?_;rintro e a4 ⟨r,rfl,rfl,k2⟩))
  go_ret2
  exact⟨_,rfl,World.ownsRow_nil _ _ _ _,HB4.out.trans (k2.mono HB4.out.size)⟩
 ·obtain⟨k,rfl⟩:=Int.eq_ofNat_of_zero_le (show 0<=i by omega)
  obtain⟨x,hxk⟩:∃x,s.W[k]?= some x:=⟨_,List.getElem?_eq_getElem (by omega)⟩
  have ht:tasksS s (k:Int)=(x.tasks,0):=by unfold tasksS;rw[if_neg hin];simp[hxk]
  have hxl:(x.tasks.length:Int)<=20:=by have h1:=hf.few x (List.mem_of_getElem? hxk);have:=hf.rmax;omega
  rw[ht]
  rw[if_neg hin]at HKEY
  obtain⟨part,kv,yv,g,c,M,T,xs,y,-,h,-,-,htl,hc,hkl⟩:=x_worker hx hxk
  have hb:=h.box
  have hrw:=h.wrow
  clear h
  have hgl:=(hrw.1.lt g rfl).2
  have HB:=hid_of hb
  have HTL:=hid_of htl
  have HC:=hid_of hc
  have hbl:=hb.lt
  have j1:(0:Int)<=(k:Int):=by omega
  have j2:(k:Int) < (xs.length:Int):=by omega
  clear ht hx hx4 hf hin hlen hb htl hc hrw hxk
  go_enter Tryz.func23,Tryz.ntmps23
  go_upto_region 4 with(first
   |(go_at_call 51;refine(isWorker_calls (some ⟨B,0,none⟩) k w).mono ?_;rintro e a1 ⟨rfl,hq⟩;obtain rfl:w1=a1:=HW1.out.symm.trans hq.symm;clear hq)
   |(go_at_call 45;refine Calls.at_world HW4.out ?_;refine HKEY.out.mono ?_;rintro e w5 ⟨r,rfl,rfl,k2⟩))
  have hb5:Below w.heap.size w w5:=HB4.out.trans (k2.mono HB4.out.size)
  have s5:=hb5.size
  have b3:=(HB.out.below hb5 hbl).cell (o:=4) rfl
  have e0:=(hb5.cell (p:=⟨g,k*8,none⟩) hgl).trans HC.out
  have HB5:=hid_of hb5
  have HALL:=hid_of (all_calls _ T s.room x.tasks w5 (HTL.out.kept (Kept.of_below hb5 (X:=fun b=>w.heap.size<=b) (fun _ _ h=>h)) (fun g hg h=>⟨by omega,h⟩)))
  have HCO:Hid (∀w6 Bs v6,BoxAt w6 Bs 58 #[v6]->ListAt 3 taskEnc w6 v6 x.tasks->Calls Tryz.prog 54 #[.func (.func 173) #[] #[.pointer (some ⟨Bs,0,none⟩)]] w6 fun e w'=>∃v,e= .returned v/\w'.ownsRow w6.heap.size 62 3 v x.tasks.length (x.tasks.flatMap taskEnc)/\Below w6.heap.size w6 w'):=fun w6 Bs v6 hBs hL6=>by
   refine collect_calls _ _ x.tasks w6 (by omega) (enters_of Tryz.func173 (by kernel_rfl) rfl) (fun n X W hW hX=>values1_seqY n Bs X v6 x.tasks W (hBs.below hW hBs.lt) (hL6.below hW (Nat.le_refl _)) (fun g' o m c' e hm hXg=> ?_) (by omega))
   obtain⟨a9,c9,h9,hc9⟩:=hL6
   rw[h9]at e
   simp only[Value.slice.injEq]at e
   obtain⟨g9,o9,ha9,hg9,_⟩:=hc9 0 _ (List.getElem?_eq_getElem (show 0 < x.tasks.length by omega))
   rw[ha9]at e
   have:=hX g' hXg
   simp at e
  clear k2 hb5
  go_wp2_with (first
   |(go_at_call 55;refine HALL.out.mono ?_;rintro e w6 ⟨Bs,v6,rfl,hBs,hL6,hBl,hb6⟩)
   |(go_at_call 54;refine(HCO.out w6 Bs v6 hBs hL6).mono ?_;rintro e w7 ⟨v7,rfl,hrow7,hb7⟩))
  go_ret2
  have s6:=hb6.size
  refine⟨_,rfl,ownsRow_base hrow7 (by omega),(HB5.out.trans (hb6.mono s5)).trans (hb7.mono (by omega))⟩
end Go.Proofs.YtfanaanofjhlkaaGreatDoor
namespace Go.Proofs.YtfanaanofjhlkaaGreatDoor
open Go Go.RowKit
def Passed(es:List Int)(i:Nat):Prop:=∀j e,j < i->es[j]?= some e->e=0
theorem Passed.next{es:List Int}{i:Nat}(h:Passed es i)(he:es[i]?= some 0):Passed es (i+1):=fun j e hj hje=>by
 rcases Nat.lt_or_ge j i with h'|h'
 ·exact h j e h' hje
 ·obtain rfl:j=i:=by omega
  rw[he]at hje
  exact(Option.some.inj hje).symm
theorem inTurn_tests(g:Nat)(fs:List StepV)(es:List Int)(fl:StepV)(U:World)(R:Int->World->Prop)(hn:fs.length<=8)(hes:es.length=fs.length)(t:TypeId)(hbox:BoxAt U g t ((fs++ [fl]).map stepVal).toArray)
  (he:∀f∈fs++ [fl],∀args w,(callFunc f.1 args).run Tryz.prog w= .ok (.enter f.1 args) w)
  (test:∀i f e,fs[i]?= some f->es[i]?= some e->Passed es i->∀W,Below U.heap.size U W->Calls Tryz.prog f.1 (f.2.1++f.2.2) W fun en w'=>en= .returned (.int .i64 e)/\Below W.heap.size W w')
  (bad:∀i e,es[i]?= some e->e≠0->Passed es i->∀W,Below U.heap.size U W->R e W)
  (last:Passed es es.length->∀W,Below U.heap.size U W->Calls Tryz.prog fl.1 (fl.2.1++fl.2.2) W fun en w'=>∃r,en= .returned (.int .i64 r)/\R r w') :
  Calls Tryz.prog 95 #[.slice (some ⟨g,0,none⟩) (fs.length+1) (fs.length+1)] U fun e w'=>∃r,e= .returned (.int .i64 r)/\R r w':=by
 refine(inTurn_calls g (fs.length+1) (fs.length+1) (fs++ [fl]) U (by simp) (by omega) (fun i W=>if i<=fs.length then Below U.heap.size U W/\Passed es i else R 0 W) (fun r W=>R r W) ?_ he ?_ ?_).mono ?_
 ·intro i W hJ f hf
  have hi:=(List.getElem?_eq_some_iff.1 hf).1
  simp at hi
  rw[if_pos (by omega)]at hJ
  refine(hbox.below hJ.1 hbox.lt).cell (o:=i) ?_
  rw[List.getElem?_toArray,List.getElem?_map,hf]
  rfl
 ·intro i f hf W hJ
  have hi:=(List.getElem?_eq_some_iff.1 hf).1
  simp at hi
  rw[if_pos (by omega)]at hJ
  rcases Nat.lt_or_ge i fs.length with hl|hl
  ·rw[List.getElem?_append_left hl]at hf
   obtain⟨e,hee⟩:∃e,es[i]?= some e:=⟨_,List.getElem?_eq_getElem (by omega)⟩
   refine(test i f e hf hee hJ.2 W hJ.1).mono ?_
   rintro en w' ⟨rfl,hb⟩
   have hb':Below U.heap.size U w':=hJ.1.trans (hb.mono hJ.1.size)
   refine⟨e,rfl,?_⟩
   by_cases h0:e=0
   ·subst h0
    refine .inl ⟨rfl,?_⟩
    rw[if_pos (by omega)]
    exact⟨hb',hJ.2.next hee⟩
   ·exact .inr ⟨h0,bad i e hee h0 hJ.2 w' hb'⟩
  ·obtain rfl:i=fs.length:=by omega
   have hfe:f=fl:=by simpa using hf.symm
   subst hfe
   refine(last (by rw[hes];exact hJ.2) W hJ.1).mono ?_
   rintro en w' ⟨r,rfl,hr⟩
   refine⟨r,rfl,?_⟩
   by_cases h0:r=0
   ·subst h0
    refine .inl ⟨rfl,?_⟩
    rw[if_neg (by omega)]
    exact hr
   ·exact .inr ⟨h0,hr⟩
 ·rw[if_pos (Nat.zero_le _)]
  exact⟨Below.refl _ _,fun j e hj=>absurd hj (Nat.not_lt_zero _)⟩
 ·rintro e w' ⟨r,rfl,hr⟩
  refine⟨r,rfl,?_⟩
  rcases hr with⟨rfl,h⟩|⟨-,h⟩
  ·rwa [if_neg (by omega)]at h
  ·exact h
theorem change_tests(F:Nat->Prop)(B g:Nat)(s:RunS)(w:World)(hx:XOK F w B s)(fs:List StepV)(es:List Int)(fl:StepV)(res:RunS×Int)(w0:World)(hw0:Below w0.heap.size w0 w)(hx0:XOK F w0 B s)(hn:fs.length<=8)(hes:es.length=fs.length)(t:TypeId)(hbox:BoxAt w g t ((fs++ [fl]).map stepVal).toArray)
  (hover:startE s≠0->res=(s,startE s))
  (he:∀f∈fs++ [fl],∀args w,(callFunc f.1 args).run Tryz.prog w= .ok (.enter f.1 args) w)
  (test:s.done=false->s.over=false->∀i f e,fs[i]?= some f->es[i]?= some e->Passed es i->∀W,Below w.heap.size w W->Calls Tryz.prog f.1 (f.2.1++f.2.2) W fun en w'=>en= .returned (.int .i64 e)/\Below W.heap.size W w')
  (bad:s.done=false->s.over=false->∀i e,es[i]?= some e->e≠0->Passed es i->res=(s,e))
  (last:s.done=false->s.over=false->Passed es es.length->∀W,Below w.heap.size w W->Calls Tryz.prog fl.1 (fl.2.1++fl.2.2) W (XGives (fun b=>F b/\b < w0.heap.size) W B res)) :
  Calls Tryz.prog 42 #[.pointer (some ⟨B,0,none⟩),.slice (some ⟨g,0,none⟩) (fs.length+1) (fs.length+1)] w (XGives F w0 B res):=by
 have same:∀W r,Below w.heap.size w W->res=(s,r)->XGives F w0 B res (.returned (.int .i64 r)) W:=fun W r hb hr=>by
  rw[hr]
  have hb0:Below w0.heap.size w0 W:=hw0.trans (hb.mono hw0.size)
  exact⟨rfl,(hx0.later hb0).mono (fun b _ h=> .inl h),Kept.of_below hb0 (fun b h1 h2=>by omega)⟩
 refine(change_calls F B g (fs.length+1) s w hx (fun r w'=>XGives F w0 B res (.returned (.int .i64 r)) w') (fun hd hov U hU=> ?_)).mono ?_
 ·refine(inTurn_tests g fs es fl U (fun r w'=>XGives F w0 B res (.returned (.int .i64 r)) w') hn hes t (hbox.below hU hbox.lt) he (fun i f e h1 h2 h3 W hW=>test hd hov i f e h1 h2 h3 W (hU.trans (hW.mono hU.size))) (fun i e h1 h2 h3 W hW=>same W e (hU.trans (hW.mono hU.size)) (bad hd hov i e h1 h2 h3)) (fun hp W hW=> ?_)).mono (fun e w' h=>h)
  have hb:Below w.heap.size w W:=hU.trans (hW.mono hU.size)
  have hb0:Below w0.heap.size w0 W:=hw0.trans (hb.mono hw0.size)
  have z0:=hb0.size
  refine(last hd hov hp W hb).mono ?_
  rintro en w' ⟨rfl,h2,h3⟩
  refine⟨_,rfl,rfl,h2.mono (fun b _ h=> ?_),?_⟩
  ·rcases h with h|h
   ·exact .inl h.1
   ·exact .inr (by omega)
  ·exact(Kept.of_below hb0 (X:=F) (fun b h1 h2=>by omega)).andThen h3 (fun b _ h=>h.1)
 ·rintro e w' ⟨r,rfl,h⟩
  rcases h with⟨h1,rfl,h2⟩|⟨-,h⟩
  ·exact same w' _ h2 (hover h1)
  ·exact h
def TwoAt(W:World)(Bw Bv:Nat)(i v:Int):Prop:=BoxAt W Bw 3 #[.int .i64 i]/\BoxAt W Bv 3 #[.int .i64 v]
theorem TwoAt.below{W W':World}{Bw Bv:Nat}{i v:Int}(h:TwoAt W Bw Bv i v)(hb:Below W.heap.size W W'):TwoAt W' Bw Bv i v:=⟨h.1.below hb h.1.lt,h.2.below hb h.2.lt⟩
theorem areTwo1_calls(Bw Bv:Nat)(i v:Int)(w:World)(h:TwoAt w Bw Bv i v):Calls Tryz.prog 175 #[.pointer (some ⟨Bw,0,none⟩),.pointer (some ⟨Bv,0,none⟩)] w fun e w'=>e= .returned (.int .i64 (if i=v then 7 else 0))/\Below w.heap.size w w':=by
 have a0:=h.1.cell (o:=0) rfl
 have a1:=h.2.cell (o:=0) rfl
 clear h
 obtain⟨res,hres⟩:∃res:Int,(if i=v then(7:Int)else 0)=res:=⟨_,rfl⟩
 rw[hres]
 by_cases hiv:i=v
 ·obtain rfl:(7:Int)=res:=by rw[<-hres,if_pos hiv]
  have he:(i==v)=true:=by simp[hiv]
  clear hiv hres
  go_enter Tryz.func175,Tryz.ntmps175
  go_wp2_with fail
  go_ret
  exact⟨rfl,Below.refl _ _⟩
 ·obtain rfl:(0:Int)=res:=by rw[<-hres,if_neg hiv]
  have he:(i==v)=false:=by rw[beq_eq_false_iff_ne];exact hiv
  clear hiv hres
  go_enter Tryz.func175,Tryz.ntmps175
  go_wp2_with fail
  go_ret
  exact⟨rfl,Below.refl _ _⟩
set_option maxHeartbeats 1000000 in
set_option maxRecDepth 100000 in
theorem isIdle1_calls(F:Nat->Prop)(B Br Bw k:Nat)(s:RunS)(x:WorkerS)(w:World)(hx:XOK F w B s)(hk:s.W[k]?= some x)(hh:HeldAt w Br Bw B k) :
  Calls Tryz.prog 96 #[.pointer (some ⟨Br,0,none⟩),.pointer (some ⟨Bw,0,none⟩)] w fun e w'=>e= .returned (.int .i64 (if x.tasks.length=0 then 0 else 9))/\Below w.heap.size w w':=by
 obtain⟨part,kv,yv,g,c,M,T,xs,y,-,h,-,-,ht,hc,hkl⟩:=x_worker hx hk
 have hb:=h.box
 have hgl0:g < w.heap.size:=(h.wrow.1.lt g rfl).2
 clear h
 have HI:Hid (∀U,Below w.heap.size w U->Calls Tryz.prog 97 #[.pointer (some ⟨T,0,none⟩)] U fun e w'=>e= .returned (.bool (decide (x.tasks.length=0)))/\Below w.heap.size w w'):=fun U hU=>by
  refine(idle_calls (fun b=>part b=10+k) T s.room x.tasks U (ht.kept (Kept.of_below hU (X:=fun b=>w.heap.size<=b) (fun _ _ h=>h)) (fun g hg h=>⟨by omega,h⟩))).mono ?_
  rintro e w' ⟨rfl,rfl⟩
  exact⟨rfl,hU⟩
 have b3:w.cell? ⟨B,4,none⟩=some (.slice (some ⟨g,0,none⟩) xs.length c):=hb.cell (o:=4) rfl
 have r0:=hh.1.cell (o:=0) rfl
 have i0:=hh.2.cell (o:=0) rfl
 have j1:(0:Int)<=(k:Int):=by omega
 have j2:(k:Int) < (xs.length:Int):=by omega
 obtain⟨eb,heb⟩:∃eb,decide (x.tasks.length=0)=eb:=⟨_,rfl⟩
 rw[heb]at HI
 have hif:(if x.tasks.length=0 then(0:Int)else 9)=if eb then 0 else 9:=by rw[<-heb];simp
 rw[hif]
 clear hif heb hb hh ht
 go_enter Tryz.func96,Tryz.ntmps96
 cases eb
 all_goals
  go_upto_region 1 with fail
  go_still_tail 8,(by kernel_rfl)
  go_wp2_with (go_at_call 97;refine(HI.out _ ((Below.refl _ _).drew)).mono ?_;rintro e w1 ⟨rfl,hb1⟩)
  go_ret
  exact⟨rfl,hb1⟩
set_option maxHeartbeats 1000000 in
set_option maxRecDepth 100000 in
theorem hasAnswer1_calls(F:Nat->Prop)(B Br Bw k:Nat)(s:RunS)(x:WorkerS)(w:World)(hx:XOK F w B s)(hk:s.W[k]?= some x)(hh:HeldAt w Br Bw B k) :
  Calls Tryz.prog 176 #[.pointer (some ⟨Br,0,none⟩),.pointer (some ⟨Bw,0,none⟩)] w fun e w'=>e= .returned (.int .i64 (if x.asked=true then 9 else 0))/\Below w.heap.size w w':=by
 obtain⟨part,kv,yv,g,c,M,T,xs,y,-,h,hy,-,ht,hc,hkl⟩:=x_worker hx hk
 have b3:w.cell? ⟨B,4,none⟩=some (.slice (some ⟨g,0,none⟩) xs.length c):=h.box.cell (o:=4) rfl
 have a3:w.cell? ⟨g,k*8+1,none⟩=some (.bool x.asked):=by
  have h1:=h.wrow.1.cells (g:=g) rfl (k*8+1) _ (flat_get (sz:=8) (enc:=xwEnc) (fun _=>rfl) xs k y 1 _ hy rfl)
  rw[addr_add,(h.wat k y x hy hk).1.asked]at h1
  exact h1
 have r0:=hh.1.cell (o:=0) rfl
 have i0:=hh.2.cell (o:=0) rfl
 have j1:(0:Int)<=(k:Int):=by omega
 have j2:(k:Int) < (xs.length:Int):=by omega
 obtain⟨eb,heb⟩:∃eb,x.asked=eb:=⟨_,rfl⟩
 rw[heb]at a3 ⊢
 clear heb hh ht h hc
 go_enter Tryz.func176,Tryz.ntmps176
 cases eb
 all_goals
  go_upto_region 1 with fail
  go_quiet (fail)
  go_wp2_with fail
  go_ret
  exact⟨rfl,below_drewN (Below.refl _ _) _⟩
theorem sendS_post(s:RunS)(i j:Nat)(m:MsgS)(hk:m.kind≠2/\m.kind≠4)(h0:m.src=i)(h1:m.dst=j):sendS s m=postS s i j m:=by
 have h2:¬(m.kind=2\/m.kind=4):=by omega
 simp only[sendS,postS,LinkS.sent,h2,if_false,h0,h1,Int.toNat_natCast]
set_option maxHeartbeats 4000000 in
set_option maxRecDepth 100000 in
theorem sendRequest1_calls(F:Nat->Prop)(B Br Bw Bv k j:Nat)(s:RunS)(x:WorkerS)(ls:List LinkS)(l:LinkS)(w:World)(hx:XOK F w B s)(hk:s.W[k]?= some x)(hls:s.links[k]?= some ls)(hl:ls[j]?= some l)(hij:j≠k)(hkn:l.known.toNat<=l.all.length)(hn:l.all.length<=100000000)(hy:s.way.length<=1000)
  (hh:HeldAt w Br Bw B k) (hv:BoxAt w Bv 3 #[.int .i64 (j:Int)]) (hF:¬F Br/\¬F Bw/\¬F Bv) :
  Calls Tryz.prog 177 #[.pointer (some ⟨Br,0,none⟩),.pointer (some ⟨Bw,0,none⟩),.pointer (some ⟨Bv,0,none⟩)] w (XGives F w B (sendS {s with W:=s.W.set k {x with asked:=true}} {msg0 with src:=(k:Int),dst:=(j:Int),kind:=1},0)):=by
 obtain⟨part,kv,yv,g,c,M,T,xs,y,hpF,h,hy',-,-,hc,hkl⟩:=x_worker hx hk
 have b3:w.cell? ⟨B,4,none⟩=some (.slice (some ⟨g,0,none⟩) xs.length c):=h.box.cell (o:=4) rfl
 have hrow:=h.wrow
 have hxw:=h.wat k y x hy' hk
 have a3:w.cell? ⟨g,k*8+1,none⟩=some (.bool x.asked):=by
  have h1:=h.wrow.1.cells (g:=g) rfl (k*8+1) _ (flat_get (sz:=8) (enc:=xwEnc) (fun _=>rfl) xs k y 1 _ hy' rfl)
  rw[addr_add,hxw.1.asked]at h1
  exact h1
 obtain⟨cur,hcur⟩:∃cur,BoxAt w g 119 cur:=by
  obtain⟨cs,hcs⟩:=row_obj h.wrow.1 (g:=g) rfl
  exact⟨cs,hcs⟩
 have f3:=hcur.frozen (k*8+1)
 obtain⟨Y,hY⟩:∃Y,(w.drew).setCell ⟨g,k*8+1,none⟩ (.bool true)=Y:=⟨_,rfl⟩
 have kY:Kept (·= g) w Y:=by rw[<-hY];exact(Kept.refl (·= g) w).drew.setCell (.inl (by rfl)) _
 have rY:Y.ownsRow 0 119 8 (.slice (some ⟨g,0,none⟩) xs.length c) (xs.set k {y with asked:=true}).length ((xs.set k {y with asked:=true}).flatMap xwEnc):=by
  have h1:=row_putAll [.bool true] (xs.flatMap xwEnc) (k*8+1) w.drew h.wrow.1 (by simp;omega)
  have h2:setAll (xs.flatMap xwEnc) (k*8+1) [.bool true]=(xs.set k {y with asked:=true}).flatMap xwEnc:=by
   simp only[setAll]
   refine flat_set (sz:=8) (enc:=xwEnc) (fun _=>rfl) xs k y _ 1 _ hy' (by omega) ?_
   simp[xwEnc]
  rw[h2]at h1
  rw[List.length_set,<-hY]
  exact h1
 obtain⟨h2,hm2⟩:=h.renote (x':={y with asked:=true}) (y':={x with asked:=true}) hy' hk ⟨rfl,rfl,rfl⟩ ⟨rfl,hxw.1.sent,hxw.1.came,hxw.1.black⟩ ⟨rfl,rfl,rfl,rfl⟩ (kY.mono (fun b _ e=>by subst e;exact h.wrow.2 b rfl)) rY
 have hpg:part g=7:=h.wrow.2 g rfl
 have nF:∀b,¬F b->b≠g:=fun b hb e=>hb (hpF b (by rw[e];omega))
 have r0:=hh.1.cell (o:=0) rfl
 have i0:=hh.2.cell (o:=0) rfl
 have r1:=(hh.1.kept kY (nF _ hF.1)).cell (o:=0) rfl
 have i1:=(hh.2.kept kY (nF _ hF.2.1)).cell (o:=0) rfl
 have v1:=(hv.kept kY (nF _ hF.2.2)).cell (o:=0) rfl
 have j1:(0:Int)<=(k:Int):=by omega
 have j2:(k:Int) < (xs.length:Int):=by omega
 have HSD:Hid (Calls Tryz.prog 165 #[.pointer (some ⟨B,0,none⟩),.int .i64 (k:Int),.int .i64 (j:Int),.slice (some ⟨Y.heap.size,0,none⟩) 1 1] (Y.alloc (Obj.cells (msgCells {msg0 with kind:=1}) 124)) fun e w'=>∃v,e= .returned v/\(v= .tuple #[]/\XGives F w B (sendS {s with W:=s.W.set k {x with asked:=true}} {msg0 with src:=(k:Int),dst:=(j:Int),kind:=1},0) (.returned (.int .i64 0)) w')):=by
  obtain⟨h3,hm3⟩:=h2.later ((Below.refl _ _).alloc (Nat.le_refl _) (Obj.cells (msgCells {msg0 with kind:=1}) 124))
  refine(send_x k j {msg0 with kind:=1} Y.heap.size h3 hls hl hij hkn hn hy (BoxAt.new Y _ _)).mono ?_
  rintro e w' ⟨v,rfl,rfl,part',yv',h4,hm4⟩
  obtain⟨h5,h6⟩:=((hm2.trans hm3).trans hm4).okX h4 hpF
  refine⟨_,rfl,rfl,rfl,?_,h6⟩
  show XOK _ w' B (sendS _ _)
  rw[sendS_post _ k j _ (by simp) rfl rfl]
  exact h5
 clear h h2 hm2 hrow hxw hcur rY kY hh hv hc
 simp only[msg0]at HSD
 go_enter Tryz.func177,Tryz.ntmps177
 go_upto_region 1 with fail
 go_still_tail 7,(by kernel_rfl)
 go_wp2_with (go_at_call 165;refine HSD.out.mono ?_;rintro e w3 ⟨v3,rfl,rfl,hres⟩;have HRES:=hid_of hres;clear hres)
 go_ret
 exact HRES.out
abbrev held2(W:World)(rp:Option Addr)(i:Int):World:=(W.alloc (Obj.cells #[.pointer rp] 36)).alloc (Obj.cells #[.int .i64 i] 3)
abbrev two2(W:World)(i v:Int):World:=(W.alloc (Obj.cells #[.int .i64 i] 3)).alloc (Obj.cells #[.int .i64 v] 3)
abbrev held3(W:World)(rp:Option Addr)(i v:Int):World:=((W.alloc (Obj.cells #[.pointer rp] 36)).alloc (Obj.cells #[.int .i64 i] 3)).alloc (Obj.cells #[.int .i64 v] 3)
theorem held2_below(W:World)(rp:Option Addr)(i:Int):Below W.heap.size W (held2 W rp i):=((Below.refl _ _).alloc (Nat.le_refl _) _).alloc (by simp) _
theorem two2_below(W:World)(i v:Int):Below W.heap.size W (two2 W i v):=((Below.refl _ _).alloc (Nat.le_refl _) _).alloc (by simp) _
theorem held3_below(W:World)(rp:Option Addr)(i v:Int):Below W.heap.size W (held3 W rp i v):=(((Below.refl _ _).alloc (Nat.le_refl _) _).alloc (by simp) _).alloc (by simp;omega) _
theorem held2_at(W:World)(B:Nat)(i:Int):HeldAt (held2 W (some ⟨B,0,none⟩) i) W.heap.size (W.heap.size+1) B i:=⟨(BoxAt.new W _ _).alloc _,boxAt_at _ _ _ _ (by simp)⟩
theorem two2_at(W:World)(i v:Int):TwoAt (two2 W i v) W.heap.size (W.heap.size+1) i v:=⟨(BoxAt.new W _ _).alloc _,boxAt_at _ _ _ _ (by simp)⟩
theorem held3_at(W:World)(B:Nat)(i v:Int):HeldAt (held3 W (some ⟨B,0,none⟩) i v) W.heap.size (W.heap.size+1) B i/\BoxAt (held3 W (some ⟨B,0,none⟩) i v) (W.heap.size+2) 3 #[.int .i64 v]:=⟨⟨((BoxAt.new W _ _).alloc _).alloc _,(boxAt_at _ _ _ _ (by simp)).alloc _⟩,boxAt_at _ _ _ _ (by simp)⟩
theorem areTwo_calls(i v:Int)(w:World):Calls Tryz.prog 120 #[.int .i64 i,.int .i64 v] w fun e w'=>e= .returned (.func (.func 175) #[] #[.pointer (some ⟨w.heap.size,0,none⟩),.pointer (some ⟨w.heap.size+1,0,none⟩)])/\w'=two2 w i v:=by
 go_enter Tryz.func120,Tryz.ntmps120
 go_wp2_with fail
 go_ret
 exact⟨rfl,rfl⟩
theorem isIdle_calls(rp:Option Addr)(i:Int)(w:World):Calls Tryz.prog 43 #[.pointer rp,.int .i64 i] w fun e w'=>e= .returned (.func (.func 96) #[] #[.pointer (some ⟨w.heap.size,0,none⟩),.pointer (some ⟨w.heap.size+1,0,none⟩)])/\w'=held2 w rp i:=by
 go_enter Tryz.func43,Tryz.ntmps43
 go_wp2_with fail
 go_ret
 exact⟨rfl,rfl⟩
theorem hasAnswer_calls(rp:Option Addr)(i:Int)(w:World):Calls Tryz.prog 121 #[.pointer rp,.int .i64 i] w fun e w'=>e= .returned (.func (.func 176) #[] #[.pointer (some ⟨w.heap.size,0,none⟩),.pointer (some ⟨w.heap.size+1,0,none⟩)])/\w'=held2 w rp i:=by
 go_enter Tryz.func121,Tryz.ntmps121
 go_wp2_with fail
 go_ret
 exact⟨rfl,rfl⟩
theorem sendRequest_calls(rp:Option Addr)(i v:Int)(w:World):Calls Tryz.prog 122 #[.pointer rp,.int .i64 i,.int .i64 v] w fun e w'=>e= .returned (.func (.func 177) #[] #[.pointer (some ⟨w.heap.size,0,none⟩),.pointer (some ⟨w.heap.size+1,0,none⟩),.pointer (some ⟨w.heap.size+2,0,none⟩)])/\w'=held3 w rp i v:=by
 go_enter Tryz.func122,Tryz.ntmps122
 go_wp2_with fail
 go_ret
 exact⟨rfl,rfl⟩
abbrev stealFs(W W1 W2 W3 W4:World):List StepV:=[(110,#[],#[.pointer (some ⟨W.heap.size+1,0,none⟩),.pointer (some ⟨W.heap.size,0,none⟩)]),(110,#[],#[.pointer (some ⟨W1.heap.size+1,0,none⟩),.pointer (some ⟨W1.heap.size,0,none⟩)]),(175,#[],#[.pointer (some ⟨W2.heap.size,0,none⟩),.pointer (some ⟨W2.heap.size+1,0,none⟩)]),(96,#[],#[.pointer (some ⟨W3.heap.size,0,none⟩),.pointer (some ⟨W3.heap.size+1,0,none⟩)]),(176,#[],#[.pointer (some ⟨W4.heap.size,0,none⟩),.pointer (some ⟨W4.heap.size+1,0,none⟩)])]
abbrev stealF(W5:World):StepV:=(177,#[],#[.pointer (some ⟨W5.heap.size,0,none⟩),.pointer (some ⟨W5.heap.size+1,0,none⟩),.pointer (some ⟨W5.heap.size+2,0,none⟩)])
set_option maxHeartbeats 2000000 in
set_option maxRecDepth 100000 in
theorem steal_opens(rp:Option Addr)(i v:Int)(w:World)(R:Ending->World->Prop)
  (h:∀W1 W2 W3 W4 W5 W6 W7,held2 w rp i=W1->held2 W1 rp v=W2->two2 W2 i v=W3->held2 W3 rp i=W4->held2 W4 rp i=W5->held3 W5 rp i v=W6->W6.alloc (Obj.cells ((stealFs w W1 W2 W3 W4++ [stealF W5]).map stepVal).toArray 94)=W7->Calls Tryz.prog 42 #[.pointer rp,.slice (some ⟨W6.heap.size,0,none⟩) 6 6] W7 fun e w'=>(∃r,e= .returned (.int .i64 r))/\R e w') :
  Calls Tryz.prog 57 #[.pointer rp,.int .i64 i,.int .i64 v] w R:=by
 obtain⟨W1,h1⟩:∃W1,held2 w rp i=W1:=⟨_,rfl⟩
 obtain⟨W2,h2⟩:∃W2,held2 W1 rp v=W2:=⟨_,rfl⟩
 obtain⟨W3,h3⟩:∃W3,two2 W2 i v=W3:=⟨_,rfl⟩
 obtain⟨W4,h4⟩:∃W4,held2 W3 rp i=W4:=⟨_,rfl⟩
 obtain⟨W5,h5⟩:∃W5,held2 W4 rp i=W5:=⟨_,rfl⟩
 obtain⟨W6,h6⟩:∃W6,held3 W5 rp i v=W6:=⟨_,rfl⟩
 obtain⟨W7,h7⟩:∃W7,W6.alloc (Obj.cells ((stealFs w W1 W2 W3 W4++ [stealF W5]).map stepVal).toArray 94)=W7:=⟨_,rfl⟩
 have HC:=hid_of (h W1 W2 W3 W4 W5 W6 W7 h1 h2 h3 h4 h5 h6 h7)
 have H1:Hid ((w.alloc (Obj.cells #[.pointer rp] 36)).alloc (Obj.cells #[.int .i64 i] 3)=W1):=h1
 have H2:Hid ((W1.alloc (Obj.cells #[.pointer rp] 36)).alloc (Obj.cells #[.int .i64 v] 3)=W2):=h2
 have H3:=hid_of h3
 have H4:=hid_of h4
 have H5:=hid_of h5
 have H6:=hid_of h6
 have H7:=hid_of h7
 clear h h1 h2 h3 h4 h5 h6 h7
 go_enter Tryz.func57,Tryz.ntmps57
 go_wp2_with (first
  |(go_at_call 51;refine(isWorker_calls rp _ _).mono ?_;rintro e a1 ⟨rfl,hq⟩;(first|(rw[H1.out]at hq;obtain rfl:=hq.symm)|(rw[H2.out]at hq;obtain rfl:=hq.symm));clear hq)
  |(go_at_call 120;refine(areTwo_calls i v _).mono ?_;rintro e a1 ⟨rfl,hq⟩;obtain rfl:W3=a1:=H3.out.symm.trans hq.symm;clear hq)
  |(go_at_call 43;refine(isIdle_calls rp i _).mono ?_;rintro e a1 ⟨rfl,hq⟩;obtain rfl:W4=a1:=H4.out.symm.trans hq.symm;clear hq)
  |(go_at_call 121;refine(hasAnswer_calls rp i _).mono ?_;rintro e a1 ⟨rfl,hq⟩;obtain rfl:W5=a1:=H5.out.symm.trans hq.symm;clear hq)
  |(go_at_call 122;refine(sendRequest_calls rp i v _).mono ?_;rintro e a1 ⟨rfl,hq⟩;obtain rfl:W6=a1:=H6.out.symm.trans hq.symm;clear hq)
  |(go_at_call 42;refine Calls.at_world H7.out ?_;refine HC.out.mono ?_;rintro e a7 ⟨⟨r,rfl⟩,hr⟩))
 exact hr
theorem workerE_run{s:RunS}(hd:s.done=false)(ho:s.over=false)(t:Int):workerE s t=if t < 0\/s.workers<=t then 7 else 0:=by
 have:startE s=0:=by simp[startE,hd,ho]
 unfold workerE
 rw[this]
 by_cases h:t < 0\/s.workers<=t
 ·rw[if_pos ⟨rfl,h⟩,if_pos h]
 ·rw[if_neg (fun h'=>h h'.2),if_neg h]
theorem if_zero{c:Prop} [Decidable c]{n:Int}(hn:n≠0)(h:(if c then n else 0)=0):¬c:=fun hc=>hn (by rwa [if_pos hc]at h)
set_option maxHeartbeats 2000000 in
theorem x_steal_calls(F:Nat->Prop)(B N:Nat)(s:RunS)(i v:Int)(w:World)(hx:XOK F w B s)(hf:Fits s)(hs:Shaped s)(hN:Small N s)(hN':N<=90000000)(hkn:∀ls∈s.links,∀l∈ls,l.known.toNat<=l.all.length) :
  Calls Tryz.prog 57 #[.pointer (some ⟨B,0,none⟩),.int .i64 i,.int .i64 v] w (XGives F w B (stealS s i v)):=by
 refine steal_opens (some ⟨B,0,none⟩) i v w _ (fun W1 W2 W3 W4 W5 W6 W7 h1 h2 h3 h4 h5 h6 h7=> ?_)
 have g1:=held2_below w (some ⟨B,0,none⟩) i
 have g2:=held2_below W1 (some ⟨B,0,none⟩) v
 have g3:=two2_below W2 i v
 have g4:=held2_below W3 (some ⟨B,0,none⟩) i
 have g5:=held2_below W4 (some ⟨B,0,none⟩) i
 have g6:=held3_below W5 (some ⟨B,0,none⟩) i v
 have a1:=held2_at w B i
 have a2:=held2_at W1 B v
 have a3:=two2_at W2 i v
 have a4:=held2_at W3 B i
 have a5:=held2_at W4 B i
 have a6:=held3_at W5 B i v
 rw[h1]at g1 a1
 rw[h2]at g2 a2
 rw[h3]at g3 a3
 rw[h4]at g4 a4
 rw[h5]at g5 a5
 rw[h6]at g6 a6
 have g7:Below W6.heap.size W6 W7:=by rw[<-h7];exact(Below.refl _ _).alloc (Nat.le_refl _) _
 have bL:BoxAt W7 W6.heap.size 94 ((stealFs w W1 W2 W3 W4++ [stealF W5]).map stepVal).toArray:=by rw[<-h7];exact BoxAt.new W6 _ _
 have z1:=g1.size
 have z2:=g2.size
 have z3:=g3.size
 have z4:=g4.size
 have z5:=g5.size
 have z6:=g6.size
 have z7:=g7.size
 have k6:Below W5.heap.size W5 W7:=g6.trans (g7.mono z6)
 have k5:Below W4.heap.size W4 W7:=g5.trans (k6.mono z5)
 have k4:Below W3.heap.size W3 W7:=g4.trans (k5.mono z4)
 have k3:Below W2.heap.size W2 W7:=g3.trans (k4.mono z3)
 have k2:Below W1.heap.size W1 W7:=g2.trans (k3.mono z2)
 have hb:Below w.heap.size w W7:=g1.trans (k2.mono z1)
 have c1:=a1.below k2
 have c2:=a2.below k3
 have c3:=a3.below k4
 have c4:=a4.below k5
 have c5:=a5.below k6
 have c6:HeldAt W7 W5.heap.size (W5.heap.size+1) B i/\BoxAt W7 (W5.heap.size+2) 3 #[.int .i64 v]:=⟨a6.1.below g7,a6.2.below g7 a6.2.lt⟩
 clear a1 a2 a3 a4 a5 a6 h1 h2 h3 h4 h5 h6 h7 g1 g2 g3 g4 g5 g6 k2 k3 k4 k5 k6
 have hlow:=hx.low
 obtain⟨x0,hx0⟩:∃x0,s.W[i.toNat]?.getD worker0=x0:=⟨_,rfl⟩
 have hlen:=hs.len
 have h5w:=hs.five
 have valid:∀{t:Int},¬(t < 0\/s.workers<=t)->∃(k:Nat),t=(k:Int)/\k < s.W.length:=fun{t} ht=>⟨t.toNat,by omega,by omega⟩
 have getx:∀{k:Nat},i=(k:Int)->k < s.W.length->s.W[k]?= some x0:=fun{k} hi hk=>by
  rw[<-hx0,hi]
  simp[hk]
 refine(change_tests F B W6.heap.size s W7 (hx.later hb) (stealFs w W1 W2 W3 W4) [if i < 0\/s.workers<=i then 7 else 0,if v < 0\/s.workers<=v then 7 else 0,if i=v then 7 else 0,if x0.tasks.length=0 then 0 else 9,if x0.asked=true then 9 else 0] (stealF W5) (stealS s i v) w hb hx (by simp) (by simp) 94 bL ?over ?enter ?test ?bad ?last).mono (fun e w' h=>⟨⟨_,h.1⟩,h⟩)
 case over=>
  intro ho
  simp[stealS,workerE_halt ho,ho]
 case enter=>
  intro f hf' args W
  simp at hf'
  rcases hf' with rfl|rfl|rfl|rfl|rfl|rfl
  ·exact enters_of Tryz.func110 (by kernel_rfl) rfl args W
  ·exact enters_of Tryz.func110 (by kernel_rfl) rfl args W
  ·exact enters_of Tryz.func175 (by kernel_rfl) rfl args W
  ·exact enters_of Tryz.func96 (by kernel_rfl) rfl args W
  ·exact enters_of Tryz.func176 (by kernel_rfl) rfl args W
  ·exact enters_of Tryz.func177 (by kernel_rfl) rfl args W
 case test=>
  intro hd ho j f e hj he hp W hW
  have hxW:=(hx.later hb).later hW
  match j,hj,he with
  |0,hj,he=>cases hj;cases he;exact isWorker1_calls F B _ _ s i W hxW hf (c1.below hW)
  |1,hj,he=>cases hj;cases he;exact isWorker1_calls F B _ _ s v W hxW hf (c2.below hW)
  |2,hj,he=>cases hj;cases he;exact areTwo1_calls _ _ i v W (c3.below hW)
  |3,hj,he=>
   cases hj;cases he
   obtain⟨k,rfl,hk⟩:=valid (if_zero (by omega) (hp 0 _ (by omega) rfl))
   exact isIdle1_calls F B _ _ k s x0 W hxW (getx rfl hk) (c4.below hW)
  |4,hj,he=>
   cases hj;cases he
   obtain⟨k,rfl,hk⟩:=valid (if_zero (by omega) (hp 0 _ (by omega) rfl))
   exact hasAnswer1_calls F B _ _ k s x0 W hxW (getx rfl hk) (c5.below hW)
  |(n+5),hj,he=>simp at hj
 case bad=>
  intro hd ho j e he hne hp
  have wi:=workerE_run hd ho i
  have wv:=workerE_run hd ho v
  match j,he with
  |0,he=>cases he;simp only[stealS,wi,if_pos hne]
  |1,he=>
   cases he
   have p0:=hp 0 _ (by omega) rfl
   simp only[stealS,wi,p0,wv,ne_eq,not_true_eq_false,if_false,if_pos hne]
  |2,he=>
   cases he
   have p0:=hp 0 _ (by omega) rfl
   have p1:=hp 1 _ (by omega) rfl
   have hiv:i=v:=by
    by_cases h:i=v
    ·exact h
    ·rw[if_neg h]at hne;exact absurd rfl hne
   simp[stealS,wv,p1,hiv]
  |3,he=>
   cases he
   have p0:=hp 0 _ (by omega) rfl
   have p1:=hp 1 _ (by omega) rfl
   have p2:=if_zero (by omega) (hp 2 _ (by omega) rfl)
   obtain⟨k,rfl,hk⟩:=valid (if_zero (by omega) p0)
   have hg:=getx rfl hk
   have ht:x0.tasks≠ []:=fun h=>by rw[h]at hne;simp at hne
   have ht':¬x0.tasks.length=0:=fun h=>ht (List.length_eq_zero_iff.1 h)
   simp only[stealS,wi,p0,wv,p1,ne_eq,not_true_eq_false,if_false,if_neg p2,Int.toNat_natCast,hg,if_neg ht']
   rw[if_pos (.inl ht)]
  |4,he=>
   cases he
   have p0:=hp 0 _ (by omega) rfl
   have p1:=hp 1 _ (by omega) rfl
   have p2:=if_zero (by omega) (hp 2 _ (by omega) rfl)
   obtain⟨k,rfl,hk⟩:=valid (if_zero (by omega) p0)
   have hg:=getx rfl hk
   have ha:x0.asked=true:=by
    by_cases h:x0.asked=true
    ·exact h
    ·rw[if_neg h]at hne;exact absurd rfl hne
   simp only[stealS,wi,p0,wv,p1,ne_eq,not_true_eq_false,if_false,if_neg p2,Int.toNat_natCast,hg,if_pos ha]
   rw[if_pos (.inr ha)]
  |(n+5),he=>simp at he
 case last=>
  intro hd ho hp W hW
  have wi:=workerE_run hd ho i
  have wv:=workerE_run hd ho v
  have p0:=hp 0 _ (by simp) rfl
  have p1:=hp 1 _ (by simp) rfl
  have p2:=if_zero (by omega) (hp 2 _ (by simp) rfl)
  have p3:=hp 3 _ (by simp) rfl
  have p4:=if_zero (by omega) (hp 4 _ (by simp) rfl)
  obtain⟨k,rfl,hk⟩:=valid (if_zero (by omega) p0)
  obtain⟨q,rfl,hq⟩:=valid (if_zero (by omega) p1)
  have hg:=getx rfl hk
  obtain⟨ls,l,hls,hl⟩:=hs.link hk hq
  have ht:x0.tasks=[]:=by
   by_cases h:x0.tasks.length=0
   ·exact List.length_eq_zero_iff.1 h
   ·rw[if_neg h]at p3;omega
  have hres:stealS s (k:Int) (q:Int)=(sendS {s with W:=s.W.set k {x0 with asked:=true}} {msg0 with src:=(k:Int),dst:=(q:Int),kind:=1},0):=by
   simp only[stealS,wi,p0,wv,p1,ne_eq,not_true_eq_false,if_false,if_neg p2,Int.toNat_natCast,hg]
   rw[if_neg (by rintro(h|h);exact h ht;exact p4 h)]
  rw[hres]
  have hbW:Below w.heap.size w W:=hb.trans (hW.mono hb.size)
  have c6W:=c6.1.below hW
  exact sendRequest1_calls _ B _ _ _ k q s x0 ls l W (hlow.later hbW) hg hls hl (fun e=>p2 (by rw[e])) (hkn ls (List.mem_of_getElem? hls) l (List.mem_of_getElem? hl)) (by have:=hN.all ls (List.mem_of_getElem? hls) l (List.mem_of_getElem? hl);omega) (by have:=hs.way;omega) c6W (c6.2.below hW c6.2.lt) ⟨fun h=>by omega,fun h=>by omega,fun h=>by omega⟩
end Go.Proofs.YtfanaanofjhlkaaGreatDoor
