import Derived.Test.YtfanaanofjhlkaaGreatDoorStillB
import Derived.Test.YtfanaanofjhlkaaGreatDoorXToken
import Derived.Test.YtfanaanofjhlkaaGreatDoorStoreM
import Derived.Test.YtfanaanofjhlkaaGreatDoorRaw
import Derived.Test.YtfanaanofjhlkaaGreatDoorTotal2
import Derived.Test.YtfanaanofjhlkaaGreatDoorXOut
import Derived.BigQuiet
import Derived.Test.YtfanaanofjhlkaaGreatDoorCalm
import Derived.Test.YtfanaanofjhlkaaGreatDoorXCome
import Derived.Test.YtfanaanofjhlkaaGreatDoorXMsgs
namespace Go.Proofs.YtfanaanofjhlkaaGreatDoor
open Go Go.RowKit Go.Maps Go.WideMaps
theorem inNext_calls(q M:Nat)(c:Int)(w:World)(hq:BoxAt w q 164 #[.int .i64 c,.map (some M)])(hc:0<=c/\c<=1000000000):Calls Tryz.prog 203 #[.pointer (some ⟨q,0,none⟩)] w fun e w'=>e= .returned (.int .i64 (c+1))/\w'=w:=by
 have y0:=hq.cell (o:=0) rfl
 have w1:IntKind.i64.wrap (c+1)=c+1:=IntWalk.i64_in _ (by omega)
 clear hq
 go_enter Tryz.func203,Tryz.ntmps203
 go_wp2_with fail
 go_ret
 exact⟨rfl,rfl⟩
theorem inCame_calls(q M:Nat)(c:Int)(w:World)(hq:BoxAt w q 164 #[.int .i64 c,.map (some M)]):Calls Tryz.prog 188 #[.pointer (some ⟨q,0,none⟩)] w fun e w'=>e= .returned (.int .i64 c)/\w'=w:=by
 have y0:=hq.cell (o:=0) rfl
 clear hq
 go_enter Tryz.func188,Tryz.ntmps188
 go_wp2_with fail
 go_ret
 exact⟨rfl,rfl⟩
theorem held_eq{v u:Value}{ps:List MemPlace}{d:DataW Value}(hd:d= .held u)(h:heldElem v=some (d,ps)):v=u:=by
 subst hd
 simp[heldElem]at h
 exact h.1
theorem nextB_iff(l:LinkS):nextB l=decide (l.came+1∈l.kept):=by
 unfold nextB
 rw[Bool.eq_iff_iff]
 simp
def sliceLen:Value->Nat
 | .slice _ n _=>n
 |_=>0
set_option maxHeartbeats 4000000 in
set_option maxRecDepth 100000 in
theorem release_calls(X:Nat->Prop)(q:Nat)(l:LinkS)(w:World)(h:InAt X w q l)(hX:∀b,X b->b < w.heap.size)(hc:0<=l.came/\l.came<=100000000)(hall:l.all.length<=100000000)(hno:∀(n:Nat) (m:MsgS),l.all[n]?= some m->m.no=(n:Int)+1) :
  Calls Tryz.prog 204 #[.pointer (some ⟨q,0,none⟩)] w fun e w'=>∃v,e= .returned v/\∃n,Comes l n/\n<=l.all.length/\w'.ownsRow w.heap.size 124 15 v n (((l.all.drop l.came.toNat).take n).flatMap msgEnc)/\InAt X w' q (l.on n)/\Kept X w w':=by
 obtain⟨iM,hiM,hzM0,hzM1,hzM2⟩:=info_parts infoMessage
 have HH:=hid_of h
 have HNO:=hid_of hno
 clear h hno
 go_enter Tryz.func204,Tryz.ntmps204
 go_wp2_with fail
 go_loopw [3] (fun v wr=>∃(k:Nat) (a:Option Addr) (c:Nat),v= .slice a k c/\k<=l.all.length/\(∀j,j < k->nextB (l.on j)=true)/\wr.ownsRow w.heap.size 124 15 (.slice a k c) k (((l.all.drop l.came.toNat).take k).flatMap msgEnc)/\InAt X wr q (l.on k)/\Kept X w wr) (fun v _=>l.all.length+1 - sliceLen v)
 case atStart=>exact⟨0,none,0,rfl,Nat.zero_le _,(fun j h=>by omega),World.ownsRow_nil _ _ _ _,by rw[on_zero];exact HH.out,Kept.refl _ _⟩
 case round=>
  obtain⟨k,a,c,rfl,hk,hpre,hrow,hin,hkw⟩:=hrel
  rename World=>wr
  obtain⟨M,hq,hXq,⟨D,hown,hsz,hhas,hat⟩,hXM⟩:=hin
  have hcame:(l.on k).came=l.came+k:=rfl
  have hkept:(l.on k).kept=l.kept:=rfl
  have hall':(l.on k).all=l.all:=rfl
  rw[hcame]at hq hhas hat
  rw[hkept]at hhas hat hsz
  rw[hall']at hat
  have hMl:=World.ownsMap.lt hown
  have hql:=hq.lt
  have hnx:nextB (l.on k)=decide (l.came+k+1∈l.kept):=nextB_iff _
  have hh1:=hhas (l.came+k+1)
  have hmq:M≠q:=fun e=>by
   obtain⟨es,cl,hb,-⟩:=hown
   have h1:wr.heap[q]?= _:=hq
   rw[e,h1]at hb
   cases hb
  have y0:=hq.cell (o:=0) rfl
  have y1:=hq.cell (o:=1) rfl
  have hwf:(Lit.int .i64 (l.came+k+1)).wf=true:=by simp[Lit.wf,IntKind.min,IntKind.max,IntKind.bits,IntKind.signed];omega
  have hkey:keyOf Tryz.prog 3 (.int .i64 (l.came+k+1))=some (numL (l.came+k+1)):=keyOf_int_mk Tryz.underlying3 hwf
  obtain⟨ok,u,hok,hu,hnxt,hum⟩:∃(ok:Bool) (u:MsgS),Maps.has D (numL (l.came+k+1))=ok/\(∀v ps,heldElem v=some (D.atKey (numL (l.came+k+1)) (.held (.agg (msgCells msg0))),ps)->v= .agg (msgCells u))/\nextB (l.on k)=ok/\(ok=true->l.all[l.came.toNat+k]?= some u/\u.no=l.came+k+1):=by
   by_cases hb:l.came+k+1∈l.kept
   ·obtain⟨m,hm,hz⟩:=hat (l.came+k+1) (by omega) hb
    have e:(l.came+k+1 - 1).toNat=l.came.toNat+k:=by omega
    rw[e]at hm
    have:=HNO.out _ m hm
    exact⟨true,m,by rw[hh1];exact decide_eq_true ⟨by omega,hb⟩,fun v ps hv=>held_eq (hz _) hv,by rw[hnx];simp[hb],fun _=>⟨hm,by omega⟩⟩
   ·have hf:Maps.has D (numL (l.came+k+1))=false:=by rw[hh1];simp[hb]
    exact⟨false,msg0,hf,fun v ps hv=>held_eq (atKey_of_not_has hf _) hv,by rw[hnx];simp[hb],fun h=>by cases h⟩
  have HHAS:Hid (Maps.has D (numL (l.came+k+1))=ok):=hok
  have HU:=hid_of hu
  have HNXT:Hid (nextB (l.on k)=ok):=hnxt
  have HUM:=hid_of hum
  have HOWN:Hid (∀U,Kept (fun _=>False) wr U->U.ownsMap Tryz.prog 3 heldElem M (Maps.size D) D):=fun U hU=>by
   obtain⟨es,cl,hb,hrest⟩:=hown
   exact⟨es,cl,hU.heap hb (fun h=>h),hrest⟩
  have HNX:Hid (∀U,Kept (fun _=>False) wr U->Calls Tryz.prog 203 #[.pointer (some ⟨q,0,none⟩)] U fun e w'=>∃v,e= .returned v/\(v= .int .i64 (l.came+k+1)/\w'=U)):=fun U hU=>by
   refine(inNext_calls q M (l.came+k) U (hq.kept hU (fun h=>h)) (by omega)).mono ?_
   rintro e w' ⟨rfl,rfl⟩
   exact⟨_,rfl,rfl,rfl⟩
  have HLK:Hid (∀U,Kept (fun _=>False) wr U->(Instr.lookup 162 (.map (some M)) (.int .i64 (l.came+k+1)) true).run Tryz.prog U= .ok (.tuple #[.agg (msgCells u),.bool ok]) U):=fun U hU=>by
   obtain⟨v,ps,hrun,hv⟩:=(HOWN.out U hU).look_ok intKeyed Tryz.underlying162 (zeroMessage U) (zd:= .held (.agg (msgCells msg0))) (zp:=[]) rfl hkey
   rw[hrun,HU.out v ps hv,HHAS.out]
  have HQ:=hid_of hq
  have HROW:=hid_of hrow
  have HKW:=hid_of hkw
  have HPRE:=hid_of hpre
  have HHS:Hid (∀n,Maps.has D (numL n)=decide (l.came+k < n/\n∈l.kept)):=hhas
  have HAT:=hid_of hat
  clear hq hrow hkw hpre hown hhas hat hok hu hnxt hum hh1 hnx
  go_upto_region 2 with fail
  go_cut [4,5]from 6 to 33 (fun b okv wx=>b= .pointer (some ⟨wr.heap.size,0,none⟩)/\okv= .bool ok/\BoxAt wx wr.heap.size 124 (msgCells u)/\Kept (fun _=>False) wr wx)
  case first=>
   have lk0:=HLK.out wr.drew (Kept.refl _ _).drew
   have lk1:∀o,_:=fun o=>HLK.out (wr.drew.alloc o) ((Kept.refl _ _).drew.trans (Kept.alloc _ _ _))
   have lk2:∀o,_:=fun o=>HLK.out (wr.alloc o).drew ((Kept.refl _ _).trans (Kept.alloc _ _ _)).drew
   go_region_law (first
    |(refine step_call1 (by rfl) 203 _ _ (by rfl) (.pointer (some ⟨q,0,none⟩)) (by rfl) (enters_of Tryz.func203 (by kernel_rfl) rfl) (HNX.out _ (by first|exact Kept.refl _ _|exact(Kept.refl _ _).drew|exact(Kept.refl _ _).trans (Kept.alloc _ _ _)|exact(Kept.refl _ _).drew.trans (Kept.alloc _ _ _)|exact((Kept.refl _ _).trans (Kept.alloc _ _ _)).drew)) ?_;rintro v8 w8 ⟨rfl,rfl⟩))
   all_goals
    go_wp2_with fail
    go_meet
    case rel=>
     refine⟨rfl,rfl,?_,?_⟩
     ·first
       |exact BoxAt.new wr.drew _ _
       |exact box_putAll (msgEnc u) (show BoxAt (wr.alloc (Obj.cells (msgCells msg0) 124)).drew wr.heap.size 124 (msgCells msg0)from BoxAt.new wr _ _) rfl
       |exact box_putAll (msgEnc u) (show BoxAt (wr.drew.alloc (Obj.cells (msgCells msg0) 124)) wr.heap.size 124 (msgCells msg0)from BoxAt.new wr.drew _ _) rfl
     ·first
       |exact(Kept.refl _ _).drew.trans (Kept.alloc _ _ _)
       |exact kept_putAll (X:=fun _=>False) (.inr (Nat.le_refl _)) (msgEnc u) 0 _ (show Kept (fun _=>False) wr (wr.alloc (Obj.cells (msgCells msg0) 124)).drew from((Kept.refl _ _).trans (Kept.alloc _ _ _)).drew)
       |exact kept_putAll (X:=fun _=>False) (.inr (Nat.le_refl _)) (msgEnc u) 0 _ (show Kept (fun _=>False) wr (wr.drew.alloc (Obj.cells (msgCells msg0) 124))from(Kept.refl _ _).drew.trans (Kept.alloc _ _ _))
  case rest=>
   obtain⟨rfl,rfl,hbx,hkx⟩:=hcut
   rename World=>wx
   have hqx:=HQ.out.kept hkx (fun h=>h)
   have hownx:=HOWN.out wx hkx
   have szx:=hkx.size
   have hx0:wr.heap.size < wx.heap.size:=hbx.lt
   cases ok with
   |false=>
    have HKX:=hid_of hkx
    clear hbx hqx hownx y0 y1 hkx
    go_wp2_with fail
    go_ret
    refine⟨_,rfl,k,⟨HPRE.out,HNXT.out⟩,hk,row_kept HROW.out HKX.out (fun _ _ h=>h) (Nat.le_refl _),⟨M,HQ.out.kept HKX.out (fun h=>h),hXq,⟨D,HOWN.out _ HKX.out,hsz,HHS.out,HAT.out⟩,hXM⟩,HKW.out.trans (HKX.out.mono (fun _ _ h=>h.elim))⟩
   |true=>
    obtain⟨hmi,hun⟩:=HUM.out rfl
    have HMI:Hid (l.all[l.came.toNat+k]?= some u):=hmi
    have HUN:Hid (u.no=l.came+k+1):=hun
    have hkey':keyOf Tryz.prog 3 (.int .i64 u.no)=some (numL (l.came+k+1)):=by rw[hun];exact hkey
    have x1:=hqx.cell (o:=1) rfl
    have x2:=hbx.cell (o:=2) rfl
    have HBX:=hid_of hbx
    have HKX:=hid_of hkx
    have HQX:=hid_of hqx
    have HOX:=hid_of hownx
    have hqr:q≠wr.heap.size:=by omega
    have hMr:M≠wr.heap.size:=by omega
    clear hbx hqx hownx y0 y1 hkx hmi hun
    go_upto_region 5 with fail
    go_still_tail 6,(by kernel_rfl)
    go_upto_region 6 with(at_delete;refine wpList_delete_own _ rfl _ _ 162 3 rfl 124 intKeyed Tryz.underlying162 heldElem M (Maps.size D) D rfl (by first|exact HOX.out|exact HOX.out.drew) _ _ rfl hkey' ?_;intro w1 hown1 hturn1)
    have k1:Kept (·= M) wx w1:=by
     have h9:Kept (·= M) wx.drew w1:=Kept.grown hturn1.grown (fun r e=>by cases e;rfl)
     exact(Kept.refl _ _).drew.trans h9
    have q1:=HQX.out.kept k1 (fun e=>hmq e.symm)
    have b1:=HBX.out.kept k1 (fun e=>hMr e.symm)
    have HIM:Hid (InMap w1 M (l.came+k+1) l.kept l.all):=InMap.step HOX.out hsz HHS.out HAT.out hown1
    have HK1:=hid_of k1
    have HQ1:=hid_of q1
    have HB1:=hid_of b1
    have c0:=q1.cell (o:=0) rfl
    have f0:=q1.frozen 0
    have n2:=b1.cell (o:=2) rfl
    clear x1 x2 q1 b1
    obtain⟨w2,hw2⟩:∃w2,w1.setCell ⟨q,0,none⟩ (.int .i64 u.no)=w2:=⟨_,rfl⟩
    have k2:Kept (·= q) w1 w2:=by rw[<-hw2];exact(Kept.refl _ _).setCell (.inl (by rfl)) _
    have q2:BoxAt w2 q 164 #[.int .i64 u.no,.map (some M)]:=by rw[<-hw2];exact HQ1.out.setAt 0 _
    have b2:=HB1.out.kept k2 (fun e=>hqr e.symm)
    have kx2:Kept (fun b=>b=M\/b=q) wr w2:=((HKX.out.mono (fun _ _ h=>h.elim)).trans (HK1.out.mono (fun _ _ h=> .inl h))).trans (k2.mono (fun _ _ h=> .inr h))
    have r2:w2.ownsRow w.heap.size 124 15 (.slice a k c) k (((l.all.drop l.came.toNat).take k).flatMap msgEnc):=row_kept HROW.out kx2 (fun g e h=>by have:=(HROW.out.lt g e).1;have:=HKW.out.size;rcases h with rfl|rfl;have:=hX _ hXM;omega;have:=hX _ hXq;omega) (Nat.le_refl _)
    have HQ2:=hid_of q2
    have HB2:=hid_of b2
    have HKX2:=hid_of kx2
    have HR2:=hid_of r2
    have HIM2:Hid (InMap w2 M (l.came+k+1) l.kept l.all):=HIM.out.kept k2 hmq
    go_upto_region 7 with fail
    try rw[hw2]
    clear hw2 c0 f0 n2 k2 q2 r2
    obtain⟨m0,m1,m2,m3,m4,m5,m6,m7,m8,m9,m10,m11,m12,m13,m14⟩:=cells15 b2
    obtain⟨Z,hZ⟩:∃Z,w2.alloc (Obj.cells (msgCells u) 124)=Z:=⟨_,rfl⟩
    have gZ:Below w2.heap.size w2 Z:=by rw[<-hZ];exact(Below.refl _ _).alloc (Nat.le_refl _) _
    have hbZ:BoxAt Z w2.heap.size 124 (msgCells u):=by rw[<-hZ];exact BoxAt.new w2 _ _
    have HGZ:=hid_of gZ
    have HRZ:Hid (Z.ownsRow w.heap.size 124 15 (.slice a k c) k (((l.all.drop l.came.toNat).take k).flatMap msgEnc)):=row_later HR2.out gZ
    have HNW:Hid (∀j v,(msgEnc u)[j]?= some v->Z.cell? ((⟨w2.heap.size,0,none⟩:Addr).add j)=some v):=fun j v hj=>by
     have e:(⟨w2.heap.size,0,none⟩:Addr).add j=⟨w2.heap.size,j,none⟩:=by unfold Addr.add;split<;>simp_all
     rw[e]
     exact hbZ.cell (o:=j) (by simpa[msgEnc]using hj)
    have hwsz:w.heap.size<=Z.heap.size:=by have:=HKW.out.size;have:=HKX2.out.size;have:=gZ.size;omega
    clear gZ hbZ b2
    go_wp2_with (at_builtin;refine wpList_append_lies _ rfl _ _ _ rfl w.heap.size 124 iM _ 15 128 Tryz.underlying68 hiM hzM0 hzM1 hzM2 rfl (by omega) (.slice a k c) k (((l.all.drop l.came.toNat).take k).flatMap msgEnc) rfl (by first|exact HRZ.out|(rw[hZ];exact HRZ.out)) ⟨w2.heap.size,0,none⟩ 1 1 (msgEnc u) rfl rfl (by first|exact HNW.out|(rw[hZ];exact HNW.out)) (msgEnc_one u) (by omega) (by unfold maxLen;omega) (by omega) (by first|exact hwsz|(rw[hZ];exact hwsz)) Z.heap.size (by first|rfl|rw[hZ]) ?_;intro g3 c3 w3 hown3 hgrow3 hat3 hlt3)
    go_roundw
    case rel=>
     try rw[hZ]at hgrow3
     have hkl':l.came.toNat+k < l.all.length:=(List.getElem?_eq_some_iff.1 HMI.out).1
     have kg:Kept (fun b=>(Value.slice a k c).ownBlock=some b) Z w3:=Kept.grown hgrow3 (fun r e=>e)
     have kg2:Kept (fun b=>(Value.slice a k c).ownBlock=some b) w2 w3:=(Kept.of_below HGZ.out (X:=fun b=>(Value.slice a k c).ownBlock=some b) (fun b h1 h2=>by omega)).trans kg
     have hnb:∀b,b < w.heap.size->¬(Value.slice a k c).ownBlock=some b:=fun b hb e=>by have:=(HR2.out.lt b e).1;omega
     have hc1:(l.on (k+1)).came=l.came+k+1:=by show l.came+((k+1:Nat):Int)=_;omega
     refine⟨k+1,some ⟨g3,0,none⟩,c3,rfl,by omega,fun j hj=> ?_,?_,⟨M,?_,hXq,?_,hXM⟩,?_⟩
     ·rcases Nat.lt_succ_iff_lt_or_eq.1 hj with h|rfl
      ·exact HPRE.out j h
      ·exact HNXT.out
     ·have e:(l.all.drop l.came.toNat).take (k+1)=(l.all.drop l.came.toNat).take k++ [u]:=by
       rw[List.take_add_one,List.getElem?_drop,HMI.out];rfl
      rw[e,List.flatMap_append]
      have e1: [u].flatMap msgEnc=msgEnc u:=by simp
      rw[e1]
      exact hown3
     ·have h9:=HQ2.out.kept kg2 (hnb q (hX q hXq))
      rw[hc1,<-HUN.out]
      exact h9
     ·rw[hc1]
      exact HIM2.out.kept kg2 (hnb M (hX M hXM))
     ·refine(HKW.out.andThen HKX2.out (fun b _ e=>by rcases e with rfl|rfl;exact hXM;exact hXq)).andThen kg2 (fun b hb e=>absurd e (hnb b hb))
    case measure=>simp[sliceLen];omega
theorem keepS_in{l:LinkS}{n:Int}(h:l.came < n/\n<=l.came+4):keepS l n={l with kept:=if l.kept.any (·== n)=true then l.kept else l.kept++ [n]}:=by
 unfold keepS
 by_cases hk:l.kept.any (·== n)=true
 ·rw[if_neg (fun e=>by rw[hk]at e;exact absurd e.2.2 (by simp)),if_pos hk]
 ·rw[if_pos ⟨h.1,h.2,Bool.eq_false_iff.2 hk⟩,if_neg hk]
theorem keepS_out{l:LinkS}{n:Int}(h:¬(l.came < n/\n<=l.came+4)):keepS l n=l:=by
 unfold keepS
 rw[if_neg (fun e=>h ⟨e.1,e.2.1⟩)]
set_option maxHeartbeats 4000000 in
set_option maxRecDepth 100000 in
theorem arrive_in(X:Nat->Prop)(q:Nat)(l:LinkS)(m:MsgS)(w:World)(h:InAt X w q l)(hX:∀b,X b->b < w.heap.size)(hc:0<=l.came/\l.came<=100000000)(hall:l.all.length<=100000000)(hkl:l.kept.length<=100000000)(hno:∀(n:Nat) (m:MsgS),l.all[n]?= some m->m.no=(n:Int)+1)(hm:1<=m.no/\l.all[(m.no - 1).toNat]?= some m) :
  Calls Tryz.prog 187 #[.pointer (some ⟨q,0,none⟩),.agg (msgCells m)] w fun e w'=>∃v,e= .returned v/\∃n,Comes (keepS l m.no) n/\n<=l.all.length/\w'.ownsRow w.heap.size 124 15 v n (((l.all.drop l.came.toNat).take n).flatMap msgEnc)/\InAt X w' q ((keepS l m.no).on n)/\Kept X w w':=by
 have hmn:m.no<=100000000:=by have:=(List.getElem?_eq_some_iff.1 hm.2).1;omega
 obtain⟨M,hq,hXq,⟨D,hown,hsz,hhas,hat⟩,hXM⟩:=h
 obtain⟨Z,hZ⟩:∃Z,w.alloc (Obj.cells (msgCells m) 124)=Z:=⟨_,rfl⟩
 have gZ:Below w.heap.size w Z:=by rw[<-hZ];exact(Below.refl _ _).alloc (Nat.le_refl _) _
 have sZ:Z.heap.size=w.heap.size+1:=by rw[<-hZ];simp
 have bZ:BoxAt Z w.heap.size 124 (msgCells m):=by rw[<-hZ];exact BoxAt.new w _ _
 have kZ:Kept (fun _=>False) w Z:=Kept.of_below gZ (fun b h1 h2=>by omega)
 have qZ:=hq.kept kZ (fun h=>h)
 have hMl:=World.ownsMap.lt hown
 have hql:=hq.lt
 have HOWN:Hid (∀U,Kept (fun _=>False) w U->U.ownsMap Tryz.prog 3 heldElem M (Maps.size D) D):=fun U hU=>by
  obtain⟨es,cl,hb,hrest⟩:=hown
  exact⟨es,cl,hU.heap hb (fun h=>h),hrest⟩
 have hMq:M≠q:=fun e=>by
  obtain⟨es,cl,hb,-⟩:=hown
  have h1:w.heap[q]?= _:=hq
  rw[e,h1]at hb
  cases hb
 have hwf:(Lit.int .i64 m.no).wf=true:=by simp[Lit.wf,IntKind.min,IntKind.max,IntKind.bits,IntKind.signed];omega
 have hkey:keyOf Tryz.prog 3 (.int .i64 m.no)=some (numL m.no):=keyOf_int_mk Tryz.underlying3 hwf
 have hw1:IntKind.i64.wrap (m.no - (l.came+1))=m.no - (l.came+1):=IntWalk.i64_in _ (by omega)
 have HNX:Hid (∀U,Kept (fun _=>False) w U->Calls Tryz.prog 203 #[.pointer (some ⟨q,0,none⟩)] U fun e w'=>∃v,e= .returned v/\(v= .int .i64 (l.came+1)/\w'=U)):=fun U hU=>by
  refine(inNext_calls q M l.came U (hq.kept hU (fun h=>h)) (by omega)).mono ?_
  rintro e w' ⟨rfl,rfl⟩
  exact⟨_,rfl,rfl,rfl⟩
 have hka:(keepS l m.no).all=l.all/\(keepS l m.no).came=l.came:=by
  unfold keepS
  split<;>exact⟨rfl,rfl⟩
 have HRL:Hid (∀U,InAt X U q (keepS l m.no)->Kept X w U->Calls Tryz.prog 204 #[.pointer (some ⟨q,0,none⟩)] U fun e w'=>∃v,e= .returned v/\∃n,Comes (keepS l m.no) n/\n<=l.all.length/\w'.ownsRow w.heap.size 124 15 v n (((l.all.drop l.came.toNat).take n).flatMap msgEnc)/\InAt X w' q ((keepS l m.no).on n)/\Kept X w w'):=fun U hI hK=>by
  refine(release_calls X q (keepS l m.no) U hI (fun b hb=>Nat.lt_of_lt_of_le (hX b hb) hK.size) (by rw[hka.2];exact hc) (by rw[hka.1];exact hall) (by rw[hka.1];exact hno)).mono ?_
  rintro e w' ⟨v,rfl,n,h1,h2,h3,h4,h5⟩
  rw[hka.1]at h2 h3
  rw[hka.2]at h3
  exact⟨v,rfl,n,h1,h2,ownsRow_base h3 hK.size,h4,hK.trans h5⟩
 have HQ:=hid_of hq
 have HO:=hid_of hown
 have HHS:=hid_of hhas
 have HAT:=hid_of hat
 have HKZ:=hid_of kZ
 have HBZ:=hid_of bZ
 have HQZ:=hid_of qZ
 have HM2:Hid (l.all[(m.no - 1).toNat]?= some m):=hm.2
 have m2:=bZ.cell (o:=2) rfl
 clear hq hown hhas hat gZ kZ bZ qZ hno
 go_enter Tryz.func187,Tryz.ntmps187
 go_upto_region 1 with fail
 try rw[hZ]
 clear hZ
 go_cut [5] (fun dv wx=>dv= .int .i64 (m.no - (l.came+1))/\Kept (fun _=>False) Z wx)
 case first=>
  go_region_law (refine step_call1 (by rfl) 203 _ _ (by rfl) (.pointer (some ⟨q,0,none⟩)) (by rfl) (enters_of Tryz.func203 (by kernel_rfl) rfl) (HNX.out _ (by first|exact HKZ.out|exact HKZ.out.drew)) ?_;rintro v8 w8 ⟨rfl,rfl⟩)
  all_goals
   go_wp2_with fail
   go_meet
   case rel=>exact⟨rfl,by first|exact Kept.refl _ _|exact(Kept.refl _ _).drew⟩
 case rest=>
  obtain⟨rfl,hkx⟩:=hcut
  rename World=>wx
  have hKx:Kept (fun _=>False) w wx:=HKZ.out.trans hkx
  have bx:=HBZ.out.kept hkx (fun h=>h)
  have qx:=HQZ.out.kept hkx (fun h=>h)
  have HKX:=hid_of hKx
  have HBX:=hid_of bx
  have HQX:=hid_of qx
  by_cases hwin:l.came < m.no/\m.no<=l.came+4
  ·have d0:decide (0<=m.no - (l.came+1))=true:=by simp;omega
   have d1:decide (m.no - (l.came+1) < 4)=true:=by simp;omega
   have d2:(0:Int)<=m.no - (l.came+1):=by omega
   have d3:m.no - (l.came+1) < 4:=by omega
   have x1:=qx.cell (o:=1) rfl
   obtain⟨n0,n1,n2,n3,n4,n5,n6,n7,n8,n9,n10,n11,n12,n13,n14⟩:=cells15 bx
   have HW:Hid (l.came < m.no/\m.no<=l.came+4):=hwin
   clear bx qx hkx hKx m2 hwin
   go_upto_region 3 with fail
   go_still_tail 7,(by kernel_rfl)
   go_upto_region 4 with(at_mapUpdate;refine wpList_mapUpdate_own _ rfl _ _ _ 162 rfl 3 124 intKeyed Tryz.underlying162 heldElem M (Maps.size D) D rfl (by first|exact HOWN.out _ HKX.out|exact HOWN.out _ HKX.out.drew) (by unfold maxLen;omega) _ _ _ rfl rfl hkey (.held (.agg (msgCells m))) [] rfl ?_;intro w1 hown1 hgrow1)
   have k1:Kept (·= M) wx w1:=by
    have h9:Kept (·= M) wx.drew w1:=Kept.grown hgrow1 (fun r e=>by cases e;rfl)
    exact(Kept.refl _ _).drew.trans h9
   have hI1:InAt X w1 q (keepS l m.no):=by
    refine⟨M,?_,hXq,?_,hXM⟩
    ·rw[hka.2]
     exact HQX.out.kept k1 (fun e=>hMq e.symm)
    ·rw[hka.2,hka.1,keepS_in HW.out]
     exact InMap.put HO.out hsz HHS.out HAT.out hown1 HW.out.1 HM2.out
   have HR1:=hid_of (HRL.out w1 hI1 ((HKX.out.mono (fun _ _ h=>h.elim)).trans (k1.mono (fun b _ e=>by subst e;exact hXM))))
   clear hI1 k1
   go_wp2_with (go_at_call 204;refine HR1.out.mono ?_;rintro e w2 ⟨v2,rfl,hres⟩;have HRES:=hid_of hres;clear hres)
   go_ret
   exact⟨_,rfl,HRES.out⟩
  ·have hI1:InAt X wx q (keepS l m.no):=by
    rw[keepS_out hwin]
    exact⟨M,HQX.out,hXq,⟨D,HOWN.out wx HKX.out,hsz,HHS.out,HAT.out⟩,hXM⟩
   have HR1:=hid_of (HRL.out wx hI1 (HKX.out.mono (fun _ _ h=>h.elim)))
   clear hI1 bx qx hkx hKx m2
   by_cases d2:(0:Int)<=m.no - (l.came+1)
   ·have d1:decide (m.no - (l.came+1) < 4)=false:=by simp;omega
    have d0:decide (0<=m.no - (l.came+1))=true:=by simp;omega
    have d3:¬m.no - (l.came+1) < 4:=by omega
    clear hwin
    go_wp2_with (go_at_call 204;refine HR1.out.mono ?_;rintro e w2 ⟨v2,rfl,hres⟩;have HRES:=hid_of hres;clear hres)
    go_ret
    exact⟨_,rfl,HRES.out⟩
   ·have d0:decide (0<=m.no - (l.came+1))=false:=by simp;omega
    clear hwin
    go_wp2_with (go_at_call 204;refine HR1.out.mono ?_;rintro e w2 ⟨v2,rfl,hres⟩;have HRES:=hid_of hres;clear hres)
    go_ret
    exact⟨_,rfl,HRES.out⟩
end Go.Proofs.YtfanaanofjhlkaaGreatDoor
namespace Go.Proofs.YtfanaanofjhlkaaGreatDoor
open Go Go.RowKit
abbrev frN(q:Nat)(no:Int)(x:Nat->Value):Act:=⟨#[.pointer (some ⟨q,0,none⟩),.int .i64 no,x 2,x 3,x 4,x 5,x 6,x 7,x 8,x 9,x 10,x 11,x 12,x 13,x 14,x 15,x 16,x 17,x 18,x 19,x 20],[]⟩
theorem frN_eq(q:Nat)(no:Int)(a2 a3 a4 a5 a6 a7 a8 a9 a10 a11 a12 a13 a14 a15 a16 a17 a18 a19 a20:Value):(⟨#[.pointer (some ⟨q,0,none⟩),.int .i64 no,a2,a3,a4,a5,a6,a7,a8,a9,a10,a11,a12,a13,a14,a15,a16,a17,a18,a19,a20],[]⟩:Act)=frN q no (fun i=>(#[undef,undef,a2,a3,a4,a5,a6,a7,a8,a9,a10,a11,a12,a13,a14,a15,a16,a17,a18,a19,a20]).getD i undef):=rfl
set_option maxHeartbeats 1000000 in
set_option maxRecDepth 100000 in
theorem first_calls1(q c cap n:Nat)(L:List MsgS)(w:World)(hq:BoxAt w q 159 #[.int .i64 (n:Int),.chan (some c)])(hc:ChanAt w c cap L)(hn:n<=100000000)(hL:L.length<=n) :
  Calls Tryz.prog 198 #[.pointer (some ⟨q,0,none⟩)] w fun e w'=>e= .returned (.int .i64 ((n:Int) - (L.length:Int)+1))/\∃d,w'=w.drewN d:=by
 obtain⟨s,r,hch⟩:=hc
 have hsz:((L.map msgV).toArray).size=L.length:=by simp
 have l0:∀ty k,(Builtin.len_ #[157] ty #[.chan (some c)]).run Tryz.prog (w.drewN k)= .ok (.int .i64 (L.length:Int)) (w.drewN k):=fun ty k=>by
  have:=run_len_ch (P:=Tryz.prog) (w:=w.drewN k) 157 ty Tryz.underlying157 (show(w.drewN k).heap[c]?= _ from hch)
  rw[hsz]at this
  exact this
 have y0:=hq.cell (o:=0) rfl
 have y1:=hq.cell (o:=1) rfl
 have w1:IntKind.i64.wrap ((n:Int) - (L.length:Int))=(n:Int) - (L.length:Int):=IntWalk.i64_in _ (by omega)
 have w2:IntKind.i64.wrap ((n:Int) - (L.length:Int)+1)=(n:Int) - (L.length:Int)+1:=IntWalk.i64_in _ (by omega)
 clear hq hch
 go_enter Tryz.func198,Tryz.ntmps198
 go_upto_region 1 with fail
 go_quiet (fail)
 go_wp2_with fail
 go_ret
 exact⟨rfl,_,rfl⟩
set_option maxHeartbeats 4000000 in
set_option maxRecDepth 100000 in
theorem known_calls(q c cap n:Nat)(no:Int)(L:List MsgS)(w:World)(hq:BoxAt w q 159 #[.int .i64 (n:Int),.chan (some c)])(hc:ChanAt w c cap L)(hn:n<=100000000)(hL:L.length<=n) :
  Calls Tryz.prog 185 #[.pointer (some ⟨q,0,none⟩),.int .i64 no] w fun e w'=>∃v,e= .returned v/\ChanAt w' c cap (L.drop (no - ((n:Int) - (L.length:Int))).toNat)/\Kept (·= c) w w':=by
 refine calls_of_walkN Tryz.func185 rfl ?_ (by rintro w' ⟨v,h,-⟩;cases h)
 simp only[Tryz.ntmps185,List.size_toArray,List.length_cons,List.length_nil,Nat.reduceAdd,Nat.reduceSub,Array.replicate_succ,Array.replicate_zero,List.push_toArray,List.append_toArray,List.nil_append,List.cons_append]
 have hqc:q≠c:=fun e=>by
  obtain⟨s,r,hch⟩:=hc
  subst e
  have h1:w.heap[q]?= _:=hq
  rw[hch]at h1
  cases h1
 refine WalkN.block ?_
 refine WalkN.loop (fun m a W=>∃(k:Nat) (x:Nat->Value),L.length - k=m/\k<=L.length/\(k=0\/(n:Int) - (L.length:Int)+k<=no)/\a=frN q no x/\ChanAt W c cap (L.drop k)/\Kept (·= c) w W) (L.length - 0) ?start ?round
 case start=>exact⟨0,fun i=>(#[.pointer (some ⟨q,0,none⟩),.int .i64 no]).getD i undef,rfl,Nat.zero_le _,.inl rfl,rfl,by simpa using hc,Kept.refl _ _⟩
 case round=>
  rintro m a W ⟨k,x,hm,hk,hkn,rfl,hcW,hkW⟩
  have hqW:=hq.kept hkW hqc
  have hch:=hcW
  obtain⟨s,r,hch⟩:=hch
  have hsz:(((L.drop k).map msgV).toArray).size=(L.drop k).length:=by simp
  have hlen:∀ty,(Builtin.len_ #[157] ty #[.chan (some c)]).run Tryz.prog W= .ok (.int .i64 ((L.drop k).length:Int)) W:=fun ty=>by
   have:=run_len_ch (P:=Tryz.prog) (w:=W) 157 ty Tryz.underlying157 hch
   rw[hsz]at this
   exact this
  have hll:(L.drop k).length=L.length - k:=List.length_drop ..
  have HF:=hid_of (first_calls1 q c cap n (L.drop k) W hqW hcW hn (by omega))
  have y1:=hqW.cell (o:=1) rfl
  refine WalkN.seq ?_
  by_cases h0:(L.drop k).length=0
  ·
   have g0:decide (((L.drop k).length:Int) > 0)=false:=by rw[h0];rfl
   have HKW:=hid_of hkW
   have HCW:=hid_of hcW
   have HD:Hid (L.drop (no - ((n:Int) - (L.length:Int))).toNat=L.drop k\/True):= .inr trivial
   rw[h0]at hlen
   clear hcW hkW hch
   refine WalkN.step (fun K hK=> ?_)
   go_wp2_with fail
   refine WalkN.cond (t:=false) rfl ?_
   refine WalkN.of_wp (wp_exit ?_)
   simp only[Exit.then,Exit.inBlock,if_true]
   go_end0
   refine⟨_,rfl,?_,HKW.out⟩
   have e:L.drop (no - ((n:Int) - (L.length:Int))).toNat=L.drop k:=by
    rw[List.drop_eq_nil_of_le (by omega:L.length<=k)]
    rcases hkn with rfl|hkn
    ·rw[List.drop_eq_nil_of_le];omega
    ·rw[List.drop_eq_nil_of_le];omega
   rw[e];exact HCW.out
  ·obtain⟨d,hd⟩:∃d,(L.drop k).length=d:=⟨_,rfl⟩
   rw[hd]at hlen HF h0 hll
   have HLL:Hid (d=L.length - k):=hll
   have HMM:Hid (L.length - k=m):=hm
   have HDD:Hid ((L.drop k).length=d):=hd
   clear hll hm hsz hd
   have g0:decide ((d:Int) > 0)=true:=by simp;omega
   have g1:(0:Int) < (d:Int):=by omega
   by_cases hle:(n:Int) - (d:Int)+1<=no
   ·have hdc:decide ((n:Int) - (d:Int)+1<=no)=true:=decide_eq_true hle
    have HKW:=hid_of hkW
    have HCW:=hid_of hch
    have HQW:=hid_of hqW
    clear hcW hkW hch hqW
    refine WalkN.step (fun K hK=> ?_)
    go_wp2_with (go_at_call 198;refine HF.out.mono ?_;rintro e W1 ⟨rfl,dd,rfl⟩)
    refine WalkN.cond (t:=true) (by first|rfl|(show Value.bool (decide _)=_;rw[hdc])) ?_
    refine WalkN.of_wp (wp_skip ?_)
    simp only[Exit.then]
    refine WalkN.block (WalkN.region ?_)
    change WalkO _ _ [0,1,2,3,4] _ _ _
    have y1':(W.drewN dd).cell? ⟨q,1,none⟩=some (.chan (some c)):=y1
    refine WalkO.oper rfl rfl (fun K hK=> ?_)
    go_simp
    rw[uponV_value]
    refine hK _ _ ?_
    clear hK K
    refine WalkO.oper rfl rfl (fun K hK=> ?_)
    go_simp
    rw[uponV_value]
    refine hK _ _ ?_
    clear hK K
    refine WalkO.oper rfl rfl (fun K hK=> ?_)
    go_simp
    rw[uponV_value]
    refine hK _ _ ?_
    clear hK K
    refine WalkO.oper rfl rfl (fun K hK=> ?_)
    go_simp
    rw[uponV_value]
    refine hK _ _ ?_
    clear hK K
    obtain⟨m',rest,hmr⟩:∃m' rest,L.drop k=m' :: rest:=by
     cases hx:L.drop k with
     |nil=>have hd:=HDD.out;rw[hx]at hd;simp at hd;omega
     |cons a b=>exact⟨a,b,rfl⟩
    have hrest:L.drop (k+1)=rest:=by
     rw[<-List.drop_drop,hmr];rfl
    have hcW:=HCW.out
    rw[hmr]at hcW
    refine WalkO.recv (ok:=false) (c:=c) (z:= .agg (msgCells msg0)) rfl rfl (by simp[go_sem,Conc.rcase,msg0]) (show(W.drewN dd).heap[c]?= _ from hcW) (by simp) ?_
    have hg1:(((m' :: rest).map msgV).toArray).extract 1 (((m' :: rest).map msgV).toArray).size=(rest.map msgV).toArray:=by simp;exact List.take_of_length_le (by simp)
    rw[hg1]
    refine WalkO.nil ?_
    simp only[Exit.then,Exit.inBlock]
    obtain⟨W3,hW3⟩:∃W3,(W.drewN dd).setChan c cap (rest.map msgV).toArray false s (r+1) false=W3:=⟨_,rfl⟩
    have hcl:c < (W.drewN dd).heap.size:=(Array.getElem?_eq_some_iff.1 (show(W.drewN dd).heap[c]?= _ from hcW)).1
    have c3:W3.heap[c]?= some (.chan cap (rest.map msgV).toArray false s (r+1) false):=by rw[<-hW3];exact chan_set hcl _ _ _ _ _ _
    have k3:Kept (·= c) (W.drewN dd) W3:=by rw[<-hW3];exact(Kept.refl _ _).setChan (.inl (by rfl)) _ _ _ _ _ _
    rw[hW3]
    have hLL:=HLL.out
    have hMM:=HMM.out
    refine⟨L.length - (k+1),by omega,k+1,_,rfl,by omega,.inr (by omega),frN_eq _ _ _ _ _ _ _ _ _ _ _ _ _ _ _ _ _ _ _ _ _,?_,(HKW.out.drewN dd).trans k3⟩
    rw[hrest]
    exact⟨s,r+1,c3⟩
   ·have HKW:=hid_of hkW
    have HCW:=hid_of hcW
    have hdc:decide ((n:Int) - (d:Int)+1<=no)=false:=decide_eq_false hle
    have HLE:Hid (¬(n:Int) - (d:Int)+1<=no):=hle
    clear hcW hkW hch hqW
    refine WalkN.step (fun K hK=> ?_)
    go_wp2_with (go_at_call 198;refine HF.out.mono ?_;rintro e W1 ⟨rfl,dd,rfl⟩)
    refine WalkN.cond (t:=false) (by first|rfl|(show Value.bool (decide _)=_;rw[hdc])) ?_
    refine WalkN.of_wp (wp_exit ?_)
    simp only[Exit.then,Exit.inBlock,if_true]
    go_end0
    have hLL:=HLL.out
    have hlee:=HLE.out
    have e:(no - ((n:Int) - (L.length:Int))).toNat=k:=by omega
    refine⟨_,rfl,?_,HKW.out.drewN _⟩
    rw[e]
    obtain⟨s',r',h'⟩:=HCW.out
    exact⟨s',r',h'⟩
theorem sendS_ans(s:RunS)(m:MsgS):(sendS s m).answers=s.answers:=by
 unfold sendS wayS
 dsimp only
 split<;>split<;>rfl
theorem cameS_ans(s:RunS)(m:MsgS)(h:s.answers≠ []):(cameS s m).answers≠ []:=by
 unfold cameS notedS
 dsimp only
 repeat' split
 all_goals first|exact h|(rw[sendS_ans];exact h)|simp
theorem cameS_ks(s:RunS)(m:MsgS):(cameS s m).ks=s.ks:=by
 unfold cameS notedS
 dsimp only
 repeat' split
 all_goals first|rfl|exact(sendS_rest _ _).2.2
theorem fold_fine{i j:Nat}:∀(ms:List MsgS) (N:Nat) (s:RunS),Fine N s->i < s.W.length->j < s.W.length->(∀m∈ms,∃n,MsgOK s.ks (s.answers≠ []) N i j n m)->N+ms.length<=90000000->
  Fine (N+ms.length) (ms.foldl cameS s)/\(ms.foldl cameS s).ks=s.ks/\(ms.foldl cameS s).W.length=s.W.length:=by
 intro ms
 induction ms with
 |nil=>exact fun N s h _ _ _ _=>⟨h,rfl,rfl⟩
 |cons m ms ih=>
  intro N s h hi hj hall hN
  obtain⟨n,hm⟩:=hall m (List.mem_cons_self ..)
  simp only[List.length_cons]at hN
  have hF:=h.came (by omega) hi hj hm
  have hks:=cameS_ks s m
  have hW:=(cameS_link h hi hj hm).2
  obtain⟨h1,h2,h3⟩:=ih (N+1) (cameS s m) hF (by rw[hW];exact hi) (by rw[hW];exact hj) (fun m' hm'=>by
   obtain⟨n',hm''⟩:=hall m' (List.mem_cons_of_mem _ hm')
   exact⟨n',by rw[hks];exact hm''.more (Nat.le_succ _) (cameS_ans s m)⟩) (by omega)
  rw[List.foldl_cons]
  refine⟨?_,h2.trans hks,h3.trans hW⟩
  have e:N+(m :: ms).length=N+1+ms.length:=by simp only[List.length_cons];omega
  rw[e]
  exact h1
structure Arrives(N:Nat)(s:RunS)(i j:Nat)(m:MsgS)(l:LinkS)(n:Nat):Prop where
 comes:Comes (keepS l m.no) n
 many:l.came.toNat+n<=l.all.length
 fine:Fine (N+1) (setLink s i j (keepS l m.no))
 fold:comeS (l.all.length+1) (setLink s i j (keepS l m.no)) i j=((l.all.drop l.came.toNat).take n).foldl cameS (setLink s i j ((keepS l m.no).on n))
 each:∀k,k<=n->Fine (N+5) (((l.all.drop l.came.toNat).take k).foldl cameS (setLink s i j ((keepS l m.no).on n)))/\(((l.all.drop l.came.toNat).take k).foldl cameS (setLink s i j ((keepS l m.no).on n))).W.length=s.W.length
theorem arrives{N:Nat}{s:RunS}(h:Fine N s)(hN:N+5<=90000000){i j n:Nat}{m:MsgS}(hi:i < s.W.length)(hj:j < s.W.length)(hij:i≠j)(hno:m.no<=(linkOf s i j).all.length)(hcm:Comes (keepS (linkOf s i j) m.no) n):Arrives N s i j m (linkOf s i j) n:=by
 have hlk:=h.links i j hi hj
 obtain⟨ka,kk,kc⟩:=keepS_all (linkOf s i j) m.no
 have hF1:=h.keep hi hj hno
 have hset:=linkOf_set (keepS (linkOf s i j) m.no) h.llen h.lrow hi hj i j
 rw[if_pos ⟨rfl,rfl⟩]at hset
 have hlk1:=hF1.links i j hi hj
 rw[hset]at hlk1
 have h4:n<=4/\(linkOf s i j).came.toNat+n<=(linkOf s i j).all.length:=by
  cases n with
  |zero=>exact⟨by omega,by have:=hlk.came;omega⟩
  |succ n=>
   have h0:=hcm.each n (by omega)
   have hnx:(linkOf s i j).came+n+1∈(keepS (linkOf s i j) m.no).kept:=by
    unfold nextB at h0
    obtain⟨x,hx,e⟩:=List.any_eq_true.1 h0
    have e1:=beq_iff_eq.1 e
    have e2:((keepS (linkOf s i j) m.no).on n).came=(linkOf s i j).came+n:=by show(keepS (linkOf s i j) m.no).came+n=_;rw[kc]
    rw[e2]at e1
    rw[<-e1];exact hx
   have h5:=hlk1.kept _ hnx
   rw[ka,kc]at h5
   have:=hlk.came
   omega
 have hmsgs:∀k m',(linkOf s i j).all[k]?= some m'->MsgOK s.ks (s.answers≠ []) N i j k m':=fun k m' hm'=>hlk.msgs k m' hm'
 have hF2:Fine (N+1) (setLink s i j ((keepS (linkOf s i j) m.no).on n)):=by
  refine h.relink hi hj (L:=[]) (by show(keepS (linkOf s i j) m.no).all=_;rw[ka];simp) ⟨hlk1.msgs,hlk1.all,hlk1.known,?_,?_,hlk1.klen⟩ (Nat.le_succ _)
  ·show 0<=(keepS (linkOf s i j) m.no).came+n/\(keepS (linkOf s i j) m.no).came+n<=((keepS (linkOf s i j) m.no).all.length:Int)
   rw[kc,ka]
   have:=hlk.came
   omega
  ·intro k hk'
   have:=hlk1.kept k hk'
   show 1<=k/\k<=((keepS (linkOf s i j) m.no).all.length:Int)/\k<=(keepS (linkOf s i j) m.no).came+n+4
   omega
 refine⟨hcm,h4.2,hF1,?_,fun k hk=> ?_⟩
 ·have hd:∀k∈(linkOf (setLink s i j (keepS (linkOf s i j) m.no)) i j).kept,k<=(linkOf (setLink s i j (keepS (linkOf s i j) m.no)) i j).came+4:=fun k hk'=>by
   rw[hset]at hk' ⊢
   exact(hlk1.kept k hk').2.2
  have:=comeS_fold (i:=i) (j:=j) n ((linkOf s i j).all.length+1) (N+1) 4 _ hF1 hi hj (by omega) hd hij (by rw[hset];exact hcm) (by omega) h4.1
  rw[this,hset,ka,kc,setLink_set _ _ _ _ _ (by rw[h.llen];exact hi)]
 ·have hlen:((((linkOf s i j).all.drop (linkOf s i j).came.toNat).take k)).length<=4:=by rw[List.length_take];omega
  have hf:=fold_fine (i:=i) (j:=j) (((linkOf s i j).all.drop (linkOf s i j).came.toNat).take k) (N+1) _ hF2 hi hj (fun m' hm'=>by
   obtain⟨k',hk'⟩:=List.getElem?_of_mem (List.mem_of_mem_drop (List.mem_of_mem_take hm'))
   exact⟨k',(hmsgs k' m' hk').more (Nat.le_succ _) (fun h=>h)⟩) (by omega)
  exact⟨hf.1.more (by omega),hf.2.2⟩
theorem xin{part:Nat->Nat}{i j:Nat}{w:World}{v:Value}{links:List (List LinkS)}{ls:List LinkS}{l:LinkS}(h:XInsAt part j w v links)(hi:links[i]?= some ls)(hj:ls[j]?= some l)(hij:i≠j):∃(qs:List (Option Nat)) (q g c:Nat),RowIn (fun b=>part b=8) 207 1 optEnc w v qs/\qs.length=links.length/\(∀i q ls l,qs[i]?= some q->links[i]?= some ls->ls[j]?= some l->InEndAt part j i w l q)/\qs[i]?= some (some q)/\InAt (fun b=>part b=200+10*j+i) w q l/\v= .slice (some ⟨g,0,none⟩) qs.length c/\w.cell? ⟨g,i,none⟩=some (.pointer (some ⟨q,0,none⟩))/\g < w.heap.size:=by
 obtain⟨qs,h1,h2,h3⟩:=h
 have hil:=(List.getElem?_eq_some_iff.1 hi).1
 obtain⟨oq,hoq⟩:∃q,qs[i]?= some q:=⟨_,List.getElem?_eq_getElem (by omega)⟩
 have he:=h3 i oq ls l hoq hi hj
 cases oq with
 |none=>exact absurd he hij
 |some q=>
  obtain⟨g,c,rfl,-,hgl⟩:=World.ownsRow.form h1.1 (by omega)
  refine⟨qs,q,g,c,h1,h2,h3,hoq,he.2,rfl,?_,hgl⟩
  have:=h1.1.cells (g:=g) rfl (i*1+0) _ (flat_get (sz:=1) (enc:=optEnc) (fun _=>rfl) qs i (some q) 0 _ hoq rfl)
  rw[addr_add]at this
  simpa using this
theorem XAtO.rein0{part:Nat->Nat}{W W':World}{B M:Nat}{s:RunS}{kv wv yv:Value}{xs:List XW}{i j q:Nat}{x:XW}{ls:List LinkS}{l l':LinkS}{qs:List (Option Nat)}(h:XAtO part W B s kv wv yv M xs)(hi:xs[i]?= some x)(hlj:s.links[j]?= some ls)(hli:ls[i]?= some l)(hij:j≠i)(hqs:RowIn (fun b=>part b=8) 207 1 optEnc W x.inv qs)(hql:qs.length=s.links.length)(hqe:∀j q ls l,qs[j]?= some q->s.links[j]?= some ls->ls[i]?= some l->InEndAt part i j W l q)(hq:qs[j]?= some (some q))(hlk:l'.all=l.all/\l'.known=l.known)(k:Kept (fun g=>part g=200+10*i+j) W W')
  (hx:InAt (fun b=>part b=200+10*i+j/\b < W.heap.size) W' q l'):XAtO (ext W part 0) W' B {s with links:=s.links.set j (ls.set i l')} kv wv yv M xs/\Moved part (ext W part 0) W W':=by
 have hpB:=h.pB
 have h5:=h.five
 have hjl:=(List.getElem?_eq_some_iff.1 hlj).1
 have hll:=h.lrow ls (List.mem_of_getElem? hlj)
 have hil:=(List.getElem?_eq_some_iff.1 hli).1
 have R:=h.rest (part':=ext W part 0) (200+10*i+j) k (fun g hg=>ext_old hg) (fun g _ hg=> .inr hg)
 have hllen:=h.llen
 refine⟨⟨h.box.kept k (by omega),(ext_old h.box.lt).trans h.pB,R.kinds (by omega),R.wrow (by omega),h.wlen,fun i' x' y' hx' hy'=>R.wat i' x' y' (by have h':i' < s.W.length:=(List.getElem?_eq_some_iff.1 hy').1;omega) hx' hy',by simpa using h.llen,fun ls' hls'=> ?_,h5,fun i' x' ls' hx' hl'=> ?_,fun i' x' hx'=> ?_,R.yrow (by omega),R.vals (by omega),fun i' x' y' hx' hy'=>R.tat i' x' y' (by have h':i' < s.W.length:=(List.getElem?_eq_some_iff.1 hy').1;omega) hx' hy'⟩,Moved.of _ k (fun g hl hg=>by omega)⟩
 ·rcases List.mem_or_eq_of_mem_set hls' with h'|rfl
  ·exact h.lrow ls' h'
  ·simpa using hll
 ·have hl1:(s.links.set j (ls.set i l'))[i']?= some ls':=hl'
  have hi5:i' < s.W.length:=by have:=(List.getElem?_eq_some_iff.1 hl').1;simp at this;omega
  by_cases e:i'=j
  ·subst e
   rw[List.getElem?_set_self hjl]at hl1
   obtain rfl:=Option.some.inj hl1
   obtain⟨ps,p1,p2,p3⟩:=R.lat i' x' ls (by omega) (.inr (by omega)) hx' hlj
   refine⟨ps,p1,by simpa using p2,fun b p z hp hz=> ?_⟩
   by_cases e:b=i
   ·subst e
    rw[List.getElem?_set_self hil]at hz
    obtain rfl:=Option.some.inj hz
    have:=p3 b p l hp hli
    cases p with
    |none=>exact⟨this.1,by rw[hlk.1];exact this.2⟩
    |some p=>
     refine⟨this.1,?_⟩
     obtain⟨c,cap,o1,o2,o3,o4,o5⟩:=this.2
     have hleft:l'.left=l.left:=by unfold LinkS.left;rw[hlk.1,hlk.2]
     exact⟨c,cap,by rw[hlk.1];exact o1,o2,by rw[hleft];exact o3,o4,by rw[hlk.1,hleft];exact o5⟩
   ·rw[List.getElem?_set_ne (fun e'=>e e'.symm)]at hz
    exact p3 b p z hp hz
  ·rw[List.getElem?_set_ne (fun e'=>e e'.symm)]at hl1
   have:=h.lrow ls' (List.mem_of_getElem? hl1)
   exact R.lat i' x' ls' (by omega) (.inr (by omega)) hx' hl1
 ·by_cases e:i'=i
  ·subst e
   rw[hi]at hx'
   obtain rfl:=Option.some.inj hx'
   refine⟨qs,hqs.kept k (fun g hg e=>⟨by omega,(ext_old hg).trans e⟩),by simpa using hql,fun b p row z hp hr hz=> ?_⟩
   have hb5:b < s.links.length:=by have:=(List.getElem?_eq_some_iff.1 hp).1;omega
   by_cases e:b=j
   ·subst e
    rw[hq]at hp
    obtain rfl:=Option.some.inj hp
    have hr1:(s.links.set b (ls.set i' l'))[b]?= some row:=hr
    rw[List.getElem?_set_self hjl]at hr1
    obtain rfl:=Option.some.inj hr1
    rw[List.getElem?_set_self hil]at hz
    obtain rfl:=Option.some.inj hz
    exact⟨hij,hx.kept (Kept.refl (fun _=>False) W') (fun b _ hb=>⟨fun h=>h,(ext_old hb.2).trans hb.1⟩)⟩
   ·have hr1:(s.links.set j (ls.set i' l'))[b]?= some row:=hr
    rw[List.getElem?_set_ne (fun e'=>e e'.symm)]at hr1
    exact(hqe b p row z hp hr1 hz).kept k (fun g hg e=>⟨by omega,(ext_old hg).trans e⟩)
  ·have hi5:i' < s.W.length:=by have:=(List.getElem?_eq_some_iff.1 hx').1;have:=h.wlen;omega
   have hI:i < s.W.length:=by omega
   exact(R.iat i' x' (by omega) (by omega) hx').relink hlj hli (fun e'=>absurd e'.symm e)
def ackS(l:LinkS)(no:Int):LinkS:=if l.known < no then{l with known:=no}else l
theorem ackS_left{l:LinkS}{no:Int}(hk:0<=l.known/\l.known<=l.all.length):(ackS l no).left=l.left.drop (no - ((l.all.length:Int) - (l.left.length:Int))).toNat:=by
 have hl:l.left.length=l.all.length - l.known.toNat:=by unfold LinkS.left;rw[List.length_drop]
 have e:(l.all.length:Int) - (l.left.length:Int)=l.known:=by omega
 rw[e]
 unfold ackS LinkS.left
 by_cases h:l.known < no
 ·rw[if_pos h,List.drop_drop]
  congr 1
  dsimp only
  omega
 ·rw[if_neg h]
  have e0:(no - l.known).toNat=0:=by omega
  rw[e0]
  rfl
theorem ackS_like(l:LinkS)(no:Int):InLike l (ackS l no):=by
 unfold ackS
 split
 ·exact⟨rfl,rfl,[],by simp⟩
 ·exact InLike.refl l
theorem ackS_all(l:LinkS)(no:Int):(ackS l no).all=l.all:=by
 unfold ackS
 split<;>rfl
theorem ack_x(i j:Nat)(no:Int){part:Nat->Nat}{w:World}{B M q:Nat}{s:RunS}{kv wv yv:Value}{xs:List XW}{x:XW}{ls:List LinkS}{l:LinkS}{qs:List (Option Nat)}(h:XAtO part w B s kv wv yv M xs)(hx:xs[j]?= some x)(hls:s.links[j]?= some ls)(hl:ls[i]?= some l)(hij:i≠j)(hqr:RowIn (fun b=>part b=9) 206 1 optEnc w x.outv qs)(hql:qs.length=ls.length)(hqe:∀i q l,qs[i]?= some q->ls[i]?= some l->EndAt part j i w l q)(hq:qs[i]?= some (some q))(hout:OutAt (fun b=>part b=100+10*j+i) w q l)(hk:0<=l.known/\l.known<=l.all.length)(hn:l.all.length<=100000000) :
  Calls Tryz.prog 185 #[.pointer (some ⟨q,0,none⟩),.int .i64 no] w fun e w'=>∃v,e= .returned v/\∃part',XAtO part' w' B {s with links:=s.links.set j (ls.set i (ackS l no))} kv wv yv M xs/\XMoved part part' w w':=by
 obtain⟨c,cap,o1,o2,o3,o4,o5,o6,o7⟩:=hout
 have hll:l.left.length<=l.all.length:=by unfold LinkS.left;rw[List.length_drop];omega
 have hqc:q≠c:=fun e=>by
  obtain⟨a,b,hch⟩:=o3
  subst e
  have h1:w.heap[q]?= _:=o1
  rw[hch]at h1
  cases h1
 refine(known_calls q c cap l.all.length no l.left w o1 o3 hn hll).mono ?_
 rintro e w' ⟨v,rfl,h1,h2⟩
 rw[<-ackS_left hk]at h1
 have hlen:(ackS l no).left.length<=l.left.length:=by rw[ackS_left hk,List.length_drop];omega
 have hq':=o1.kept h2 hqc
 have hql2:=o1.lt
 have hcl:=o3.lt
 obtain⟨h3,hm3⟩:=h.relink (l':=ackS l no) hx hls hij hqr hql hqe hq hl (ackS_like l no) (h2.mono (fun b _ e=>by subst e;exact o4)) ⟨c,cap,by rw[ackS_all];exact hq',.inl ⟨o2,hql2⟩,h1,.inl ⟨o4,hcl⟩,o5,by rw[ackS_all];exact o6,by omega⟩
 exact⟨v,rfl,_,h3,hm3⟩
structure ArriveAt(N:Nat)(s:RunS)(i j:Nat)(m:MsgS):Prop where
 fine:Fine N s
 le:N+5<=90000000
 calm:Calm s
 src:m.src=i
 dst:m.dst=j
 hi:i < s.W.length
 hj:j < s.W.length
 ne:i≠j
theorem linkOf_get{s:RunS}{a b:Nat}{ls:List LinkS}{l:LinkS}(h1:s.links[a]?= some ls)(h2:ls[b]?= some l):linkOf s a b=l:=by
 unfold linkOf
 rw[h1,Option.getD_some,h2,Option.getD_some]
theorem ArriveAt.link{N:Nat}{s:RunS}{i j:Nat}{m:MsgS}(h:ArriveAt N s i j m){a b:Nat}(ha:a < s.W.length)(hb:b < s.W.length):∃ls l,s.links[a]?= some ls/\ls[b]?= some l/\linkOf s a b=l:=by
 obtain⟨ls,hls⟩:∃ls,s.links[a]?= some ls:=⟨_,List.getElem?_eq_getElem (by rw[h.fine.llen];exact ha)⟩
 obtain⟨l,hl⟩:∃l,ls[b]?= some l:=⟨_,List.getElem?_eq_getElem (by rw[h.fine.lrow ls (List.mem_of_getElem? hls)];exact hb)⟩
 exact⟨ls,l,hls,hl,linkOf_get hls hl⟩
theorem XAtO.wcell{part:Nat->Nat}{W:World}{B M n c gw j:Nat}{s:RunS}{kv yv:Value}{xs:List XW}{x:XW}(h:XAtO part W B s kv (.slice (some ⟨gw,0,none⟩) n c) yv M xs)(hx:xs[j]?= some x)(o:Nat)(u:Value)(hu:(xwEnc x)[o]?= some u):W.cell? ⟨gw,j*8+o,none⟩=some u:=by
 have hl:=h.xlen
 have h1:=h.wrow.1.cells (g:=gw) rfl (j*8+o) _ (flat_get (sz:=8) (enc:=xwEnc) (fun _=>rfl) xs j x o _ hx hu)
 rwa [addr_add]at h1
set_option maxHeartbeats 4000000 in
set_option maxRecDepth 100000 in
theorem arriveAck_x(m:MsgS)(i j:Nat){part:Nat->Nat}{w:World}{B M N:Nat}{s:RunS}{kv wv yv:Value}{xs:List XW}(h:XAtO part w B s kv wv yv M xs)(hA:ArriveAt N s i j m)(hk:m.kind=0) :
  Calls Tryz.prog 157 #[.pointer (some ⟨B,0,none⟩),.agg (msgCells m)] w fun e w'=>∃v,e= .returned v/\(v= .tuple #[]/\∃part' yv' xs',XAtO part' w' B (setLink s j i (ackS (linkOf s j i) m.no)) kv wv yv' M xs'/\Moved part part' w w'):=by
 have hjl:=hA.hj
 have hxl:=h.wlen
 obtain⟨x,hx⟩:∃x,xs[j]?= some x:=⟨_,List.getElem?_eq_getElem (by omega)⟩
 obtain⟨gw,wc,hwf,-,hgw⟩:=World.ownsRow.form h.wrow.1 (by omega)
 subst hwf
 obtain⟨ls,l,hls,hl,hlk⟩:=hA.link hA.hj hA.hi
 have hlo:=hA.fine.links j i hA.hj hA.hi
 rw[hlk]at hlo
 have hle:=hA.le
 have hall:=hlo.all
 obtain⟨Z,hZ⟩:∃Z,w.alloc (Obj.cells (msgCells m) 124)=Z:=⟨_,rfl⟩
 have gZ:Below w.heap.size w Z:=by rw[<-hZ];exact(Below.refl _ _).alloc (Nat.le_refl _) _
 have bZ:BoxAt Z w.heap.size 124 (msgCells m):=by rw[<-hZ];exact BoxAt.new w _ _
 obtain⟨hxZ,hmZ⟩:=h.later gZ
 have b3:Z.cell? ⟨B,4,none⟩=some (.slice (some ⟨gw,0,none⟩) xs.length wc):=hxZ.box.cell (o:=4) rfl
 have d1:Z.cell? ⟨w.heap.size,1,none⟩=some (.int .i64 (j:Int)):=by rw[<-hA.dst];exact bZ.cell (o:=1) rfl
 have j1:(0:Int)<=(j:Int):=by omega
 have j2:(j:Int) < (xs.length:Int):=by omega
 have HXZ:=hid_of hxZ
 have HMZ:=hid_of hmZ
 have HBZ:=hid_of bZ
 have HA:=hid_of hA
 have HLO:=hid_of hlo
 have HS:Hid (setLink s j i (ackS (linkOf s j i) m.no)={s with links:=s.links.set j (ls.set i (ackS l m.no))}):=by
  show _=_
  rw[hlk]
  unfold setLink
  rw[hls]
  rfl
 clear h gZ bZ hxZ hmZ hA hlo
 go_enter Tryz.func157,Tryz.ntmps157
 go_upto_region 1 with fail
 try rw[hZ]
 clear hZ
 go_cut [4] (fun pv wx=>pv= .pointer (some ⟨gw,j*8,none⟩)/\Below Z.heap.size Z wx)
 case first=>
  go_quiet (fail)
  go_wp2_with fail
  go_meet
  case rel=>exact⟨rfl,by first|exact Below.refl _ _|exact(Below.refl _ _).drew|exact below_drewN (Below.refl _ _) _⟩
 case rest=>
  obtain⟨rfl,hbx⟩:=hcut
  rename World=>wx
  have bx:=HBZ.out.below hbx HBZ.out.lt
  obtain⟨h1,hm1⟩:=HXZ.out.later hbx
  obtain⟨qs,q,g,gc,hqr,hql,hqe,hq,hout,hvf,hcq,hgq⟩:=xlink (h1.lat j x ls hx hls) hl HA.out.ne
  have a2:=h1.wcell hx 2 _ rfl
  rw[hvf]at a2
  have e0:wx.cell? ⟨w.heap.size,0,none⟩=some (.int .i64 (i:Int)):=by rw[<-HA.out.src];exact bx.cell (o:=0) rfl
  have e2:=bx.cell (o:=2) rfl
  have e3:wx.cell? ⟨w.heap.size,3,none⟩=some (.int .i64 0):=by rw[<-hk];exact bx.cell (o:=3) rfl
  have hil:=HA.out.hi
  have hll:=HA.out.fine.lrow ls (List.mem_of_getElem? hls)
  have i1:(0:Int)<=(i:Int):=by omega
  have i2:(i:Int) < (qs.length:Int):=by omega
  have HKN:Hid (∀U,Below wx.heap.size wx U->Calls Tryz.prog 185 #[.pointer (some ⟨q,0,none⟩),.int .i64 m.no] U fun e w'=>∃v,e= .returned v/\∃part',XAtO part' w' B (setLink s j i (ackS (linkOf s j i) m.no)) kv (.slice (some ⟨gw,0,none⟩) xs.length wc) yv M xs/\XMoved part part' w w'):=fun U hU=>by
   obtain⟨h2,hm2⟩:=h1.later hU
   have kU:Kept (fun b=>wx.heap.size<=b) wx U:=Kept.of_below hU (fun _ _ h=>h)
   refine(ack_x i j m.no h2 hx hls hl HA.out.ne (hqr.kept kU (fun g hg e=>⟨by omega,(ext_old hg).trans e⟩)) hql (fun i' q' l' a b=>(hqe i' q' l' a b).kept kU (fun g hg e=>⟨by omega,(ext_old hg).trans e⟩)) hq (hout.kept kU (fun g hg e=>⟨by omega,(ext_old hg).trans e⟩)) HLO.out.known (by omega)).mono ?_
   rintro e w' ⟨v,rfl,part',h3,hm3⟩
   exact⟨v,rfl,part',by rw[HS.out];exact h3,((HMZ.out.trans hm1).trans hm2).trans hm3⟩
  clear hbx bx h1 hm1 hqr hqe hout hvf hk b3 d1
  go_upto_region 3 with fail
  go_still_tail 10,(by kernel_rfl)
  go_wp2_with (go_at_call 185;refine(HKN.out _ (by first|exact Below.refl _ _|exact(Below.refl _ _).drew)).mono ?_;rintro e w3 ⟨v3,rfl,part3,h3,hm3⟩;have H3:=hid_of h3;have HM3:=hid_of hm3;clear h3 hm3)
  refine bodyPost_ret (results_none rfl _ _ _) rfl ?_
  exact⟨_,rfl,rfl,part3,yv,xs,H3.out,HM3.out.base⟩
end Go.Proofs.YtfanaanofjhlkaaGreatDoor
