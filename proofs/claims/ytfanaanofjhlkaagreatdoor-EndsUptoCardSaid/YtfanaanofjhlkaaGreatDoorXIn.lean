import Derived.Test.YtfanaanofjhlkaaGreatDoorXPut
import Derived.Test.YtfanaanofjhlkaaGreatDoorXToken2
import Derived.Test.YtfanaanofjhlkaaGreatDoorStoreM
import Derived.Test.YtfanaanofjhlkaaGreatDoorRaw
namespace Go.Proofs.YtfanaanofjhlkaaGreatDoor
open Go Go.RowKit Go.Maps Go.WideMaps
theorem inNext_calls(q M:Nat)(c:Int)(w:World)(hq:BoxAt w q 164 #[.int .i64 c,.map (some M)])(hc:0<=c/\c<=1000000000):Calls Tryz.prog 203 #[.pointer (some ⟨q,0,none⟩)] w fun e w'=>e= .returned (.int .i64 (c+1))/\w'=w:=by
 have y0:=hq.cell (o:=0) rfl
 have w1:IntKind.i64.wrap (c+1)=c+1:=IntWalk.i64_in _ (by omega)
 clear hq
 go_enter Tryz.func203,Tryz.ntmps203
 go_wp2_with fail
 go_ret
 exact⟨rfl,rfl⟩
theorem inCame_calls(q M:Nat)(c:Int)(w:World)(hq:BoxAt w q 164 #[.int .i64 c,.map (some M)]):Calls Tryz.prog 188 #[.pointer (some ⟨q,0,none⟩)] w fun e w'=>e= .returned (.int .i64 c)/\w'=w:=by
 have y0:=hq.cell (o:=0) rfl
 clear hq
 go_enter Tryz.func188,Tryz.ntmps188
 go_wp2_with fail
 go_ret
 exact⟨rfl,rfl⟩
theorem held_eq{v u:Value}{ps:List MemPlace}{d:DataW Value}(hd:d= .held u)(h:heldElem v=some (d,ps)):v=u:=by
 subst hd
 simp[heldElem]at h
 exact h.1
theorem nextB_iff(l:LinkS):nextB l=decide (l.came+1∈l.kept):=by
 unfold nextB
 rw[Bool.eq_iff_iff]
 simp
def sliceLen:Value->Nat
 | .slice _ n _=>n
 |_=>0
set_option maxHeartbeats 4000000 in
set_option maxRecDepth 100000 in
theorem release_calls(X:Nat->Prop)(q:Nat)(l:LinkS)(w:World)(h:InAt X w q l)(hX:∀b,X b->b < w.heap.size)(hc:0<=l.came/\l.came<=100000000)(hall:l.all.length<=100000000)(hno:∀(n:Nat) (m:MsgS),l.all[n]?= some m->m.no=(n:Int)+1) :
  Calls Tryz.prog 204 #[.pointer (some ⟨q,0,none⟩)] w fun e w'=>∃v,e= .returned v/\∃n,Comes l n/\n<=l.all.length/\w'.ownsRow w.heap.size 124 15 v n (((l.all.drop l.came.toNat).take n).flatMap msgEnc)/\InAt X w' q (l.on n)/\Kept X w w':=by
 obtain⟨iM,hiM,hzM0,hzM1,hzM2⟩:=info_parts infoMessage
 have HH:=hid_of h
 have HNO:=hid_of hno
 clear h hno
 go_enter Tryz.func204,Tryz.ntmps204
 go_wp2_with fail
 go_loopw [3] (fun v wr=>∃(k:Nat) (a:Option Addr) (c:Nat),v= .slice a k c/\k<=l.all.length/\(∀j,j < k->nextB (l.on j)=true)/\wr.ownsRow w.heap.size 124 15 (.slice a k c) k (((l.all.drop l.came.toNat).take k).flatMap msgEnc)/\InAt X wr q (l.on k)/\Kept X w wr) (fun v _=>l.all.length+1 - sliceLen v)
 case atStart=>exact⟨0,none,0,rfl,Nat.zero_le _,(fun j h=>by omega),World.ownsRow_nil _ _ _ _,by rw[on_zero];exact HH.out,Kept.refl _ _⟩
 case round=>
  obtain⟨k,a,c,rfl,hk,hpre,hrow,hin,hkw⟩:=hrel
  rename World=>wr
  obtain⟨M,hq,hXq,⟨D,hown,hsz,hhas,hat⟩,hXM⟩:=hin
  have hcame:(l.on k).came=l.came+k:=rfl
  have hkept:(l.on k).kept=l.kept:=rfl
  have hall':(l.on k).all=l.all:=rfl
  rw[hcame]at hq hhas hat
  rw[hkept]at hhas hat hsz
  rw[hall']at hat
  have hMl:=World.ownsMap.lt hown
  have hql:=hq.lt
  have hnx:nextB (l.on k)=decide (l.came+k+1∈l.kept):=nextB_iff _
  have hh1:=hhas (l.came+k+1)
  have hmq:M≠q:=fun e=>by
   obtain⟨es,cl,hb,-⟩:=hown
   have h1:wr.heap[q]?= _:=hq
   rw[e,h1]at hb
   cases hb
  have y0:=hq.cell (o:=0) rfl
  have y1:=hq.cell (o:=1) rfl
  have hwf:(Lit.int .i64 (l.came+k+1)).wf=true:=by simp[Lit.wf,IntKind.min,IntKind.max,IntKind.bits,IntKind.signed];omega
  have hkey:keyOf Tryz.prog 3 (.int .i64 (l.came+k+1))=some (numL (l.came+k+1)):=keyOf_int_mk Tryz.underlying3 hwf
  obtain⟨ok,u,hok,hu,hnxt,hum⟩:∃(ok:Bool) (u:MsgS),Maps.has D (numL (l.came+k+1))=ok/\(∀v ps,heldElem v=some (D.atKey (numL (l.came+k+1)) (.held (.agg (msgCells msg0))),ps)->v= .agg (msgCells u))/\nextB (l.on k)=ok/\(ok=true->l.all[l.came.toNat+k]?= some u/\u.no=l.came+k+1):=by
   by_cases hb:l.came+k+1∈l.kept
   ·obtain⟨m,hm,hz⟩:=hat (l.came+k+1) (by omega) hb
    have e:(l.came+k+1 - 1).toNat=l.came.toNat+k:=by omega
    rw[e]at hm
    have:=HNO.out _ m hm
    exact⟨true,m,by rw[hh1];exact decide_eq_true ⟨by omega,hb⟩,fun v ps hv=>held_eq (hz _) hv,by rw[hnx];simp[hb],fun _=>⟨hm,by omega⟩⟩
   ·have hf:Maps.has D (numL (l.came+k+1))=false:=by rw[hh1];simp[hb]
    exact⟨false,msg0,hf,fun v ps hv=>held_eq (atKey_of_not_has hf _) hv,by rw[hnx];simp[hb],fun h=>by cases h⟩
  have HHAS:Hid (Maps.has D (numL (l.came+k+1))=ok):=hok
  have HU:=hid_of hu
  have HNXT:Hid (nextB (l.on k)=ok):=hnxt
  have HUM:=hid_of hum
  have HOWN:Hid (∀U,Kept (fun _=>False) wr U->U.ownsMap Tryz.prog 3 heldElem M (Maps.size D) D):=fun U hU=>by
   obtain⟨es,cl,hb,hrest⟩:=hown
   exact⟨es,cl,hU.heap hb (fun h=>h),hrest⟩
  have HNX:Hid (∀U,Kept (fun _=>False) wr U->Calls Tryz.prog 203 #[.pointer (some ⟨q,0,none⟩)] U fun e w'=>∃v,e= .returned v/\(v= .int .i64 (l.came+k+1)/\w'=U)):=fun U hU=>by
   refine(inNext_calls q M (l.came+k) U (hq.kept hU (fun h=>h)) (by omega)).mono ?_
   rintro e w' ⟨rfl,rfl⟩
   exact⟨_,rfl,rfl,rfl⟩
  have HLK:Hid (∀U,Kept (fun _=>False) wr U->(Instr.lookup 162 (.map (some M)) (.int .i64 (l.came+k+1)) true).run Tryz.prog U= .ok (.tuple #[.agg (msgCells u),.bool ok]) U):=fun U hU=>by
   obtain⟨v,ps,hrun,hv⟩:=(HOWN.out U hU).look_ok intKeyed Tryz.underlying162 (zeroMessage U) (zd:= .held (.agg (msgCells msg0))) (zp:=[]) rfl hkey
   rw[hrun,HU.out v ps hv,HHAS.out]
  have HQ:=hid_of hq
  have HROW:=hid_of hrow
  have HKW:=hid_of hkw
  have HPRE:=hid_of hpre
  have HHS:Hid (∀n,Maps.has D (numL n)=decide (l.came+k < n/\n∈l.kept)):=hhas
  have HAT:=hid_of hat
  clear hq hrow hkw hpre hown hhas hat hok hu hnxt hum hh1 hnx
  go_upto_region 2 with fail
  go_cut [4,5]from 6 to 33 (fun b okv wx=>b= .pointer (some ⟨wr.heap.size,0,none⟩)/\okv= .bool ok/\BoxAt wx wr.heap.size 124 (msgCells u)/\Kept (fun _=>False) wr wx)
  case first=>
   have lk0:=HLK.out wr.drew (Kept.refl _ _).drew
   have lk1:∀o,_:=fun o=>HLK.out (wr.drew.alloc o) ((Kept.refl _ _).drew.trans (Kept.alloc _ _ _))
   have lk2:∀o,_:=fun o=>HLK.out (wr.alloc o).drew ((Kept.refl _ _).trans (Kept.alloc _ _ _)).drew
   go_region_law (first
    |(refine step_call1 (by rfl) 203 _ _ (by rfl) (.pointer (some ⟨q,0,none⟩)) (by rfl) (enters_of Tryz.func203 (by kernel_rfl) rfl) (HNX.out _ (by first|exact Kept.refl _ _|exact(Kept.refl _ _).drew|exact(Kept.refl _ _).trans (Kept.alloc _ _ _)|exact(Kept.refl _ _).drew.trans (Kept.alloc _ _ _)|exact((Kept.refl _ _).trans (Kept.alloc _ _ _)).drew)) ?_;rintro v8 w8 ⟨rfl,rfl⟩))
   all_goals
    go_wp2_with fail
    go_meet
    case rel=>
     refine⟨rfl,rfl,?_,?_⟩
     ·first
       |exact BoxAt.new wr.drew _ _
       |exact box_putAll (msgEnc u) (show BoxAt (wr.alloc (Obj.cells (msgCells msg0) 124)).drew wr.heap.size 124 (msgCells msg0)from BoxAt.new wr _ _) rfl
       |exact box_putAll (msgEnc u) (show BoxAt (wr.drew.alloc (Obj.cells (msgCells msg0) 124)) wr.heap.size 124 (msgCells msg0)from BoxAt.new wr.drew _ _) rfl
     ·first
       |exact(Kept.refl _ _).drew.trans (Kept.alloc _ _ _)
       |exact kept_putAll (X:=fun _=>False) (.inr (Nat.le_refl _)) (msgEnc u) 0 _ (show Kept (fun _=>False) wr (wr.alloc (Obj.cells (msgCells msg0) 124)).drew from((Kept.refl _ _).trans (Kept.alloc _ _ _)).drew)
       |exact kept_putAll (X:=fun _=>False) (.inr (Nat.le_refl _)) (msgEnc u) 0 _ (show Kept (fun _=>False) wr (wr.drew.alloc (Obj.cells (msgCells msg0) 124))from(Kept.refl _ _).drew.trans (Kept.alloc _ _ _))
  case rest=>
   obtain⟨rfl,rfl,hbx,hkx⟩:=hcut
   rename World=>wx
   have hqx:=HQ.out.kept hkx (fun h=>h)
   have hownx:=HOWN.out wx hkx
   have szx:=hkx.size
   have hx0:wr.heap.size < wx.heap.size:=hbx.lt
   cases ok with
   |false=>
    have HKX:=hid_of hkx
    clear hbx hqx hownx y0 y1 hkx
    go_wp2_with fail
    go_ret
    refine⟨_,rfl,k,⟨HPRE.out,HNXT.out⟩,hk,row_kept HROW.out HKX.out (fun _ _ h=>h) (Nat.le_refl _),⟨M,HQ.out.kept HKX.out (fun h=>h),hXq,⟨D,HOWN.out _ HKX.out,hsz,HHS.out,HAT.out⟩,hXM⟩,HKW.out.trans (HKX.out.mono (fun _ _ h=>h.elim))⟩
   |true=>
    obtain⟨hmi,hun⟩:=HUM.out rfl
    have HMI:Hid (l.all[l.came.toNat+k]?= some u):=hmi
    have HUN:Hid (u.no=l.came+k+1):=hun
    have hkey':keyOf Tryz.prog 3 (.int .i64 u.no)=some (numL (l.came+k+1)):=by rw[hun];exact hkey
    have x1:=hqx.cell (o:=1) rfl
    have x2:=hbx.cell (o:=2) rfl
    have HBX:=hid_of hbx
    have HKX:=hid_of hkx
    have HQX:=hid_of hqx
    have HOX:=hid_of hownx
    have hqr:q≠wr.heap.size:=by omega
    have hMr:M≠wr.heap.size:=by omega
    clear hbx hqx hownx y0 y1 hkx hmi hun
    go_upto_region 5 with fail
    go_still_tail 6,(by kernel_rfl)
    go_upto_region 6 with(at_delete;refine wpList_delete_own _ rfl _ _ 162 3 rfl 124 intKeyed Tryz.underlying162 heldElem M (Maps.size D) D rfl (by first|exact HOX.out|exact HOX.out.drew) _ _ rfl hkey' ?_;intro w1 hown1 hturn1)
    have k1:Kept (·= M) wx w1:=by
     have h9:Kept (·= M) wx.drew w1:=Kept.grown hturn1.grown (fun r e=>by cases e;rfl)
     exact(Kept.refl _ _).drew.trans h9
    have q1:=HQX.out.kept k1 (fun e=>hmq e.symm)
    have b1:=HBX.out.kept k1 (fun e=>hMr e.symm)
    have HIM:Hid (InMap w1 M (l.came+k+1) l.kept l.all):=InMap.step HOX.out hsz HHS.out HAT.out hown1
    have HK1:=hid_of k1
    have HQ1:=hid_of q1
    have HB1:=hid_of b1
    have c0:=q1.cell (o:=0) rfl
    have f0:=q1.frozen 0
    have n2:=b1.cell (o:=2) rfl
    clear x1 x2 q1 b1
    obtain⟨w2,hw2⟩:∃w2,w1.setCell ⟨q,0,none⟩ (.int .i64 u.no)=w2:=⟨_,rfl⟩
    have k2:Kept (·= q) w1 w2:=by rw[<-hw2];exact(Kept.refl _ _).setCell (.inl (by rfl)) _
    have q2:BoxAt w2 q 164 #[.int .i64 u.no,.map (some M)]:=by rw[<-hw2];exact HQ1.out.setAt 0 _
    have b2:=HB1.out.kept k2 (fun e=>hqr e.symm)
    have kx2:Kept (fun b=>b=M\/b=q) wr w2:=((HKX.out.mono (fun _ _ h=>h.elim)).trans (HK1.out.mono (fun _ _ h=> .inl h))).trans (k2.mono (fun _ _ h=> .inr h))
    have r2:w2.ownsRow w.heap.size 124 15 (.slice a k c) k (((l.all.drop l.came.toNat).take k).flatMap msgEnc):=row_kept HROW.out kx2 (fun g e h=>by have:=(HROW.out.lt g e).1;have:=HKW.out.size;rcases h with rfl|rfl;have:=hX _ hXM;omega;have:=hX _ hXq;omega) (Nat.le_refl _)
    have HQ2:=hid_of q2
    have HB2:=hid_of b2
    have HKX2:=hid_of kx2
    have HR2:=hid_of r2
    have HIM2:Hid (InMap w2 M (l.came+k+1) l.kept l.all):=HIM.out.kept k2 hmq
    go_upto_region 7 with fail
    try rw[hw2]
    clear hw2 c0 f0 n2 k2 q2 r2
    obtain⟨m0,m1,m2,m3,m4,m5,m6,m7,m8,m9,m10,m11,m12,m13,m14⟩:=cells15 b2
    obtain⟨Z,hZ⟩:∃Z,w2.alloc (Obj.cells (msgCells u) 124)=Z:=⟨_,rfl⟩
    have gZ:Below w2.heap.size w2 Z:=by rw[<-hZ];exact(Below.refl _ _).alloc (Nat.le_refl _) _
    have hbZ:BoxAt Z w2.heap.size 124 (msgCells u):=by rw[<-hZ];exact BoxAt.new w2 _ _
    have HGZ:=hid_of gZ
    have HRZ:Hid (Z.ownsRow w.heap.size 124 15 (.slice a k c) k (((l.all.drop l.came.toNat).take k).flatMap msgEnc)):=row_later HR2.out gZ
    have HNW:Hid (∀j v,(msgEnc u)[j]?= some v->Z.cell? ((⟨w2.heap.size,0,none⟩:Addr).add j)=some v):=fun j v hj=>by
     have e:(⟨w2.heap.size,0,none⟩:Addr).add j=⟨w2.heap.size,j,none⟩:=by unfold Addr.add;split<;>simp_all
     rw[e]
     exact hbZ.cell (o:=j) (by simpa[msgEnc]using hj)
    have hwsz:w.heap.size<=Z.heap.size:=by have:=HKW.out.size;have:=HKX2.out.size;have:=gZ.size;omega
    clear gZ hbZ b2
    go_wp2_with (at_builtin;refine wpList_append_lies _ rfl _ _ _ rfl w.heap.size 124 iM _ 15 128 Tryz.underlying68 hiM hzM0 hzM1 hzM2 rfl (by omega) (.slice a k c) k (((l.all.drop l.came.toNat).take k).flatMap msgEnc) rfl (by first|exact HRZ.out|(rw[hZ];exact HRZ.out)) ⟨w2.heap.size,0,none⟩ 1 1 (msgEnc u) rfl rfl (by first|exact HNW.out|(rw[hZ];exact HNW.out)) (msgEnc_one u) (by omega) (by unfold maxLen;omega) (by omega) (by first|exact hwsz|(rw[hZ];exact hwsz)) Z.heap.size (by first|rfl|rw[hZ]) ?_;intro g3 c3 w3 hown3 hgrow3 hat3 hlt3)
    go_roundw
    case rel=>
     try rw[hZ]at hgrow3
     have hkl':l.came.toNat+k < l.all.length:=(List.getElem?_eq_some_iff.1 HMI.out).1
     have kg:Kept (fun b=>(Value.slice a k c).ownBlock=some b) Z w3:=Kept.grown hgrow3 (fun r e=>e)
     have kg2:Kept (fun b=>(Value.slice a k c).ownBlock=some b) w2 w3:=(Kept.of_below HGZ.out (X:=fun b=>(Value.slice a k c).ownBlock=some b) (fun b h1 h2=>by omega)).trans kg
     have hnb:∀b,b < w.heap.size->¬(Value.slice a k c).ownBlock=some b:=fun b hb e=>by have:=(HR2.out.lt b e).1;omega
     have hc1:(l.on (k+1)).came=l.came+k+1:=by show l.came+((k+1:Nat):Int)=_;omega
     refine⟨k+1,some ⟨g3,0,none⟩,c3,rfl,by omega,fun j hj=> ?_,?_,⟨M,?_,hXq,?_,hXM⟩,?_⟩
     ·rcases Nat.lt_succ_iff_lt_or_eq.1 hj with h|rfl
      ·exact HPRE.out j h
      ·exact HNXT.out
     ·have e:(l.all.drop l.came.toNat).take (k+1)=(l.all.drop l.came.toNat).take k++ [u]:=by
       rw[List.take_add_one,List.getElem?_drop,HMI.out];rfl
      rw[e,List.flatMap_append]
      have e1: [u].flatMap msgEnc=msgEnc u:=by simp
      rw[e1]
      exact hown3
     ·have h9:=HQ2.out.kept kg2 (hnb q (hX q hXq))
      rw[hc1,<-HUN.out]
      exact h9
     ·rw[hc1]
      exact HIM2.out.kept kg2 (hnb M (hX M hXM))
     ·refine(HKW.out.andThen HKX2.out (fun b _ e=>by rcases e with rfl|rfl;exact hXM;exact hXq)).andThen kg2 (fun b hb e=>absurd e (hnb b hb))
    case measure=>simp[sliceLen];omega
end Go.Proofs.YtfanaanofjhlkaaGreatDoor
