import Derived.Test.YtfanaanofjhlkaaGreatDoorXKnown
import Derived.Test.YtfanaanofjhlkaaGreatDoorXAnswer
import Derived.Test.YtfanaanofjhlkaaGreatDoorStoreM
import Derived.Test.YtfanaanofjhlkaaGreatDoorMarkerV
import Derived.Test.YtfanaanofjhlkaaGreatDoorFine4
import Derived.Test.YtfanaanofjhlkaaGreatDoorCalm
set_option maxHeartbeats 16000000
set_option maxRecDepth 100000
namespace Go.Proofs.YtfanaanofjhlkaaGreatDoor
open Go Go.RowKit Go.Maps Go.WideMaps Tryz
theorem vY(q M:Nat)(c:Int)(w:World)(hq:aD w q 164 #[.int .i64 c,.map (some M)])(hc:0<=c/\c<=1000000000):Calls prog 203 #[.pointer (some ⟨q,0,none⟩)] w fun e w'=>e= .returned (.int .i64 (c+1))/\w'=w:=by
 have y0:=hq.cell (o:=0) rfl;have w1:IntKind.i64.wrap (c+1)=c+1:=IntWalk.i64_in _ (by omega);clear hq;go_enter func203,ntmps203
 go_wp2_with fail
 go_ret;exact⟨rfl,rfl⟩
theorem aFn(q M:Nat)(c:Int)(w:World)(hq:aD w q 164 #[.int .i64 c,.map (some M)]):Calls prog 188 #[.pointer (some ⟨q,0,none⟩)] w fun e w'=>e= .returned (.int .i64 c)/\w'=w:=by
 have y0:=hq.cell (o:=0) rfl;clear hq;go_enter func188,ntmps188
 go_wp2_with fail
 go_ret;exact⟨rfl,rfl⟩
theorem zC{v u:Value}{ps:List MemPlace}{d:DataW Value}(hd:d= .held u)(h:jT v=some (d,ps)):v=u:=by
 subst hd;simp[jT]at h;exact h.1
theorem aIv(l:aO):gM l=decide (l.came+1∈l.kept):=by
 unfold gM;rw[Bool.eq_iff_iff];simp
def yS:Value->Nat
 | .slice _ n _=>n
 |_=>0
theorem aDm(X:Nat->Prop)(q:Nat)(l:aO)(w:World)(h:iQ X w q l)(hX:∀b,X b->b < w.heap.size)(hc:0<=l.came/\l.came<=100000000)(hall:l.all.length<=100000000)(hno:∀(n:Nat) (m:aI),l.all[n]?= some m->m.no=(n:Int)+1) :
  Calls prog 204 #[.pointer (some ⟨q,0,none⟩)] w fun e w'=>∃v,e= .returned v/\∃n,nY l n/\n<=l.all.length/\w'.ownsRow w.heap.size 124 15 v n (((l.all.drop l.came.toNat).take n).flatMap aK)/\iQ X w' q (l.on n)/\aB X w w':=by
 obtain⟨iM,hiM,hzM0,hzM1,hzM2⟩:=info_parts jS;have HH:=aC h;have HNO:=aC hno;clear h hno;go_enter func204,ntmps204
 go_wp2_with fail
 go_loopw [3] (fun v wr=>∃(k:Nat) (a:Option Addr) (c:Nat),v= .slice a k c/\k<=l.all.length/\(∀j,j < k->gM (l.on j)=true)/\wr.ownsRow w.heap.size 124 15 (.slice a k c) k (((l.all.drop l.came.toNat).take k).flatMap aK)/\iQ X wr q (l.on k)/\aB X w wr) (fun v _=>l.all.length+1 - yS v)
 case atStart=>exact⟨0,none,0,rfl,Nat.zero_le _,(fun j h=>by omega),World.ownsRow_nil _ _ _ _,by rw[rO];exact HH.out,aB.refl _ _⟩
 case round=>
  obtain⟨k,a,c,rfl,hk,hpre,hrow,hin,hkw⟩:=hrel
  rename World=>wr
  obtain⟨M,hq,hXq,⟨D,hown,hsz,hhas,hat⟩,hXM⟩:=hin;have hcame:(l.on k).came=l.came+k:=rfl;have hkept:(l.on k).kept=l.kept:=rfl;have hall':(l.on k).all=l.all:=rfl;rw[hcame]at hq hhas hat;rw[hkept]at hhas hat hsz;rw[hall']at hat;have hMl:=World.ownsMap.lt hown;have hql:=hq.lt;have hnx:gM (l.on k)=decide (l.came+k+1∈l.kept):=aIv _;have hh1:=hhas (l.came+k+1);have hmq:M≠q:=fun e=>by
   obtain⟨es,cl,hb,-⟩:=hown;have h1:wr.heap[q]?= _:=hq;rw[e,h1]at hb;cases hb
  have y0:=hq.cell (o:=0) rfl;have y1:=hq.cell (o:=1) rfl;have hwf:(Lit.int .i64 (l.came+k+1)).wf=true:=by simp[Lit.wf,IntKind.min,IntKind.max,IntKind.bits,IntKind.signed];omega
  have hkey:keyOf prog 3 (.int .i64 (l.came+k+1))=some (iR (l.came+k+1)):=keyOf_int_mk underlying3 hwf;obtain⟨ok,u,hok,hu,hnxt,hum⟩:∃(ok:Bool) (u:aI),Maps.has D (iR (l.came+k+1))=ok/\(∀v ps,jT v=some (D.atKey (iR (l.came+k+1)) (.held (.agg (aG aH))),ps)->v= .agg (aG u))/\gM (l.on k)=ok/\(ok=true->l.all[l.came.toNat+k]?= some u/\u.no=l.came+k+1):=by
   by_cases hb:l.came+k+1∈l.kept
   ·obtain⟨m,hm,hz⟩:=hat (l.came+k+1) (by omega) hb
    have e:(l.came+k+1 - 1).toNat=l.came.toNat+k:=by omega
    rw[e]at hm;have:=HNO.out _ m hm;exact⟨true,m,by rw[hh1];exact decide_eq_true ⟨by omega,hb⟩,fun v ps hv=>zC (hz _) hv,by rw[hnx];simp[hb],fun _=>⟨hm,by omega⟩⟩
   ·have hf:Maps.has D (iR (l.came+k+1))=false:=by rw[hh1];simp[hb]
    exact⟨false,aH,hf,fun v ps hv=>zC (atKey_of_not_has hf _) hv,by rw[hnx];simp[hb],fun h=>by cases h⟩
  have HHAS:Hid (Maps.has D (iR (l.came+k+1))=ok):=hok;have HU:=aC hu;have HNXT:Hid (gM (l.on k)=ok):=hnxt;have HUM:=aC hum;have HOWN:Hid (∀U,aB (fun _=>False) wr U->U.ownsMap prog 3 jT M (Maps.size D) D):=fun U hU=>by
   obtain⟨es,cl,hb,hrest⟩:=hown;exact⟨es,cl,hU.heap hb (fun h=>h),hrest⟩
  have HNX:Hid (∀U,aB (fun _=>False) wr U->Calls prog 203 #[.pointer (some ⟨q,0,none⟩)] U fun e w'=>∃v,e= .returned v/\(v= .int .i64 (l.came+k+1)/\w'=U)):=fun U hU=>by
   refine(vY q M (l.came+k) U (hq.kept hU (fun h=>h)) (by omega)).mono ?_;rintro e w' ⟨rfl,rfl⟩;exact⟨_,rfl,rfl,rfl⟩
  have HLK:Hid (∀U,aB (fun _=>False) wr U->(Instr.lookup 162 (.map (some M)) (.int .i64 (l.came+k+1)) true).run prog U= .ok (.tuple #[.agg (aG u),.bool ok]) U):=fun U hU=>by
   obtain⟨v,ps,hrun,hv⟩:=(HOWN.out U hU).look_ok pQ underlying162 (aGv U) (zd:= .held (.agg (aG aH))) (zp:=[]) rfl hkey;rw[hrun,HU.out v ps hv,HHAS.out]
  have HQ:=aC hq;have HROW:=aC hrow;have HKW:=aC hkw;have HPRE:=aC hpre;have HHS:Hid (∀n,Maps.has D (iR n)=decide (l.came+k < n/\n∈l.kept)):=hhas;have HAT:=aC hat;clear hq hrow hkw hpre hown hhas hat hok hu hnxt hum hh1 hnx
  go_upto_region 2 with fail
  go_cut [4,5]from 6 to 33 (fun b okv wx=>b= .pointer (some ⟨wr.heap.size,0,none⟩)/\okv= .bool ok/\aD wx wr.heap.size 124 (aG u)/\aB (fun _=>False) wr wx)
  case first=>
   have lk0:=HLK.out wr.drew (aB.refl _ _).drew;have lk1:∀o,_:=fun o=>HLK.out (wr.drew.alloc o) ((aB.refl _ _).drew.trans (aB.alloc _ _ _))
   have lk2:∀o,_:=fun o=>HLK.out (wr.alloc o).drew ((aB.refl _ _).trans (aB.alloc _ _ _)).drew
   go_region_law (first
    |(refine qW (by rfl) 203 _ _ (by rfl) (.pointer (some ⟨q,0,none⟩)) (by rfl) (enters_of func203 (by kernel_rfl) rfl) (HNX.out _ (by first|exact aB.refl _ _|exact(aB.refl _ _).drew|exact(aB.refl _ _).trans (aB.alloc _ _ _)|exact(aB.refl _ _).drew.trans (aB.alloc _ _ _)|exact((aB.refl _ _).trans (aB.alloc _ _ _)).drew)) ?_;rintro v8 w8 ⟨rfl,rfl⟩))
   all_goals
    go_wp2_with fail
    go_meet
    case rel=>
     refine⟨rfl,rfl,?_,?_⟩
     ·first
       |exact aD.new wr.drew _ _
       |exact lB (aK u) (show aD (wr.alloc (Obj.cells (aG aH) 124)).drew wr.heap.size 124 (aG aH)from aD.new wr _ _) rfl
       |exact lB (aK u) (show aD (wr.drew.alloc (Obj.cells (aG aH) 124)) wr.heap.size 124 (aG aH)from aD.new wr.drew _ _) rfl
     ·first
       |exact(aB.refl _ _).drew.trans (aB.alloc _ _ _)
       |exact jC (X:=fun _=>False) (.inr (a_ _)) (aK u) 0 _ (show aB (fun _=>False) wr (wr.alloc (Obj.cells (aG aH) 124)).drew from((aB.refl _ _).trans (aB.alloc _ _ _)).drew)
       |exact jC (X:=fun _=>False) (.inr (a_ _)) (aK u) 0 _ (show aB (fun _=>False) wr (wr.drew.alloc (Obj.cells (aG aH) 124))from(aB.refl _ _).drew.trans (aB.alloc _ _ _))
  case rest=>
   obtain⟨rfl,rfl,hbx,hkx⟩:=hcut
   rename World=>wx
   have hqx:=HQ.out.kept hkx (fun h=>h);have hownx:=HOWN.out wx hkx;have szx:=hkx.size;have hx0:wr.heap.size < wx.heap.size:=hbx.lt;cases ok with
   |false=>
    have HKX:=aC hkx;clear hbx hqx hownx y0 y1 hkx
    go_wp2_with fail
    go_ret;refine⟨_,rfl,k,⟨HPRE.out,HNXT.out⟩,hk,aP HROW.out HKX.out (fun _ _ h=>h) (a_ _),⟨M,HQ.out.kept HKX.out (fun h=>h),hXq,⟨D,HOWN.out _ HKX.out,hsz,HHS.out,HAT.out⟩,hXM⟩,HKW.out.trans (HKX.out.mono (fun _ _ h=>h.elim))⟩
   |true=>
    obtain⟨hmi,hun⟩:=HUM.out rfl;have HMI:Hid (l.all[l.came.toNat+k]?= some u):=hmi;have HUN:Hid (u.no=l.came+k+1):=hun;have hkey':keyOf prog 3 (.int .i64 u.no)=some (iR (l.came+k+1)):=by rw[hun];exact hkey
    have x1:=hqx.cell (o:=1) rfl;have x2:=hbx.cell (o:=2) rfl;have HBX:=aC hbx;have HKX:=aC hkx;have HQX:=aC hqx;have HOX:=aC hownx;have hqr:q≠wr.heap.size:=by omega
    have hMr:M≠wr.heap.size:=by omega
    clear hbx hqx hownx y0 y1 hkx hmi hun
    go_upto_region 5 with fail
    go_still_tail 6,(by kernel_rfl)
    go_upto_region 6 with(at_delete;refine wpList_delete_own _ rfl _ _ 162 3 rfl 124 pQ underlying162 jT M (Maps.size D) D rfl (by first|exact HOX.out|exact HOX.out.drew) _ _ rfl hkey' ?_;intro w1 hown1 hturn1)
    have k1:aB (·= M) wx w1:=by
     have h9:aB (·= M) wx.drew w1:=aB.grown hturn1.grown (fun r e=>by cases e;rfl);exact(aB.refl _ _).drew.trans h9
    have q1:=HQX.out.kept k1 (fun e=>hmq e.symm);have b1:=HBX.out.kept k1 (fun e=>hMr e.symm);have HIM:Hid (iN w1 M (l.came+k+1) l.kept l.all):=iN.step HOX.out hsz HHS.out HAT.out hown1;have HK1:=aC k1;have HQ1:=aC q1;have HB1:=aC b1;have c0:=q1.cell (o:=0) rfl;have f0:=q1.frozen 0;have n2:=b1.cell (o:=2) rfl;clear x1 x2 q1 b1;obtain⟨w2,hw2⟩:∃w2,w1.setCell ⟨q,0,none⟩ (.int .i64 u.no)=w2:=⟨_,rfl⟩;have k2:aB (·= q) w1 w2:=by rw[<-hw2];exact(aB.refl _ _).setCell (.inl (by rfl)) _
    have q2:aD w2 q 164 #[.int .i64 u.no,.map (some M)]:=by rw[<-hw2];exact HQ1.out.setAt 0 _
    have b2:=HB1.out.kept k2 (fun e=>hqr e.symm);have kx2:aB (fun b=>b=M\/b=q) wr w2:=((HKX.out.mono (fun _ _ h=>h.elim)).trans (HK1.out.mono (fun _ _ h=> .inl h))).trans (k2.mono (fun _ _ h=> .inr h));have r2:w2.ownsRow w.heap.size 124 15 (.slice a k c) k (((l.all.drop l.came.toNat).take k).flatMap aK):=aP HROW.out kx2 (fun g e h=>by have:=(HROW.out.lt g e).1;have:=HKW.out.size;rcases h with rfl|rfl;have:=hX _ hXM;omega;have:=hX _ hXq;omega) (a_ _);have HQ2:=aC q2;have HB2:=aC b2;have HKX2:=aC kx2;have HR2:=aC r2;have HIM2:Hid (iN w2 M (l.came+k+1) l.kept l.all):=HIM.out.kept k2 hmq
    go_upto_region 7 with fail
    try rw[hw2]
    clear hw2 c0 f0 n2 k2 q2 r2;obtain⟨m0,m1,m2,m3,m4,m5,m6,m7,m8,m9,m10,m11,m12,m13,m14⟩:=eF b2;obtain⟨Z,hZ⟩:∃Z,w2.alloc (Obj.cells (aG u) 124)=Z:=⟨_,rfl⟩;have gZ:Below w2.heap.size w2 Z:=by rw[<-hZ];exact(e_ _ _).alloc (a_ _) _
    have hbZ:aD Z w2.heap.size 124 (aG u):=by rw[<-hZ];exact aD.new w2 _ _
    have HGZ:=aC gZ;have HRZ:Hid (Z.ownsRow w.heap.size 124 15 (.slice a k c) k (((l.all.drop l.came.toNat).take k).flatMap aK)):=mK HR2.out gZ;have HNW:Hid (∀j v,(aK u)[j]?= some v->Z.cell? ((⟨w2.heap.size,0,none⟩:Addr).add j)=some v):=fun j v hj=>by
     have e:(⟨w2.heap.size,0,none⟩:Addr).add j=⟨w2.heap.size,j,none⟩:=by unfold Addr.add;split<;>simp_all
     rw[e];exact hbZ.cell (o:=j) (by simpa[aK]using hj)
    have hwsz:w.heap.size<=Z.heap.size:=by have:=HKW.out.size;have:=HKX2.out.size;have:=gZ.size;omega
    clear gZ hbZ b2
    go_wp2_with (at_builtin;refine wpList_append_lies _ rfl _ _ _ rfl w.heap.size 124 iM _ 15 128 underlying68 hiM hzM0 hzM1 hzM2 rfl (by omega) (.slice a k c) k (((l.all.drop l.came.toNat).take k).flatMap aK) rfl (by first|exact HRZ.out|(rw[hZ];exact HRZ.out)) ⟨w2.heap.size,0,none⟩ 1 1 (aK u) rfl rfl (by first|exact HNW.out|(rw[hZ];exact HNW.out)) (mI u) (by omega) (by unfold maxLen;omega) (by omega) (by first|exact hwsz|(rw[hZ];exact hwsz)) Z.heap.size (by first|rfl|rw[hZ]) ?_;intro g3 c3 w3 hown3 hgrow3 hat3 hlt3)
    go_roundw
    case rel=>
     try rw[hZ]at hgrow3
     have hkl':l.came.toNat+k < l.all.length:=(c_.1 HMI.out).1;have kg:aB (fun b=>(Value.slice a k c).ownBlock=some b) Z w3:=aB.grown hgrow3 (fun r e=>e);have kg2:aB (fun b=>(Value.slice a k c).ownBlock=some b) w2 w3:=(aB.of_below HGZ.out (X:=fun b=>(Value.slice a k c).ownBlock=some b) (fun b h1 h2=>by omega)).trans kg;have hnb:∀b,b < w.heap.size->¬(Value.slice a k c).ownBlock=some b:=fun b hb e=>by have:=(HR2.out.lt b e).1;omega
     have hc1:(l.on (k+1)).came=l.came+k+1:=by show l.came+((k+1:Nat):Int)=_;omega
     refine⟨k+1,some ⟨g3,0,none⟩,c3,rfl,by omega,fun j hj=> ?_,?_,⟨M,?_,hXq,?_,hXM⟩,?_⟩
     ·rcases Nat.lt_succ_iff_lt_or_eq.1 hj with h|rfl
      ·exact HPRE.out j h
      ·exact HNXT.out
     ·have e:(l.all.drop l.came.toNat).take (k+1)=(l.all.drop l.came.toNat).take k++ [u]:=by
       rw[List.take_add_one,List.getElem?_drop,HMI.out];rfl
      rw[e,List.flatMap_append];have e1: [u].flatMap aK=aK u:=by simp
      rw[e1];exact hown3
     ·have h9:=HQ2.out.kept kg2 (hnb q (hX q hXq))
      rw[hc1,<-HUN.out];exact h9
     ·rw[hc1]
      exact HIM2.out.kept kg2 (hnb M (hX M hXM))
     ·refine(HKW.out.andThen HKX2.out (fun b _ e=>by rcases e with rfl|rfl;exact hXM;exact hXq)).andThen kg2 (fun b hb e=>absurd e (hnb b hb))
    case measure=>simp[yS];omega
theorem aLl{l:aO}{n:Int}(h:l.came < n/\n<=l.came+4):bI l n={l with kept:=if l.kept.any (·== n)=true then l.kept else l.kept++ [n]}:=by
 unfold bI;by_cases hk:l.kept.any (·== n)=true
 ·rw[if_neg (fun e=>by rw[hk]at e;exact absurd e.2.2 (by simp)),if_pos hk]
 ·rw[if_pos ⟨h.1,h.2,Bool.eq_false_iff.2 hk⟩,if_neg hk]
theorem aJo{l:aO}{n:Int}(h:¬(l.came < n/\n<=l.came+4)):bI l n=l:=by
 unfold bI;rw[if_neg (fun e=>h ⟨e.1,e.2.1⟩)]
theorem aKo(X:Nat->Prop)(q:Nat)(l:aO)(m:aI)(w:World)(h:iQ X w q l)(hX:∀b,X b->b < w.heap.size)(hc:0<=l.came/\l.came<=100000000)(hall:l.all.length<=100000000)(hkl:l.kept.length<=100000000)(hno:∀(n:Nat) (m:aI),l.all[n]?= some m->m.no=(n:Int)+1)(hm:1<=m.no/\l.all[(m.no - 1).toNat]?= some m) :
  Calls prog 187 #[.pointer (some ⟨q,0,none⟩),.agg (aG m)] w fun e w'=>∃v,e= .returned v/\∃n,nY (bI l m.no) n/\n<=l.all.length/\w'.ownsRow w.heap.size 124 15 v n (((l.all.drop l.came.toNat).take n).flatMap aK)/\iQ X w' q ((bI l m.no).on n)/\aB X w w':=by
 have hmn:m.no<=100000000:=by have:=(c_.1 hm.2).1;omega
 obtain⟨M,hq,hXq,⟨D,hown,hsz,hhas,hat⟩,hXM⟩:=h;obtain⟨Z,hZ⟩:∃Z,w.alloc (Obj.cells (aG m) 124)=Z:=⟨_,rfl⟩;have gZ:Below w.heap.size w Z:=by rw[<-hZ];exact(e_ _ _).alloc (a_ _) _
 have sZ:Z.heap.size=w.heap.size+1:=by rw[<-hZ];simp
 have bZ:aD Z w.heap.size 124 (aG m):=by rw[<-hZ];exact aD.new w _ _
 have kZ:aB (fun _=>False) w Z:=aB.of_below gZ (fun b h1 h2=>by omega);have qZ:=hq.kept kZ (fun h=>h);have hMl:=World.ownsMap.lt hown;have hql:=hq.lt;have HOWN:Hid (∀U,aB (fun _=>False) w U->U.ownsMap prog 3 jT M (Maps.size D) D):=fun U hU=>by
  obtain⟨es,cl,hb,hrest⟩:=hown;exact⟨es,cl,hU.heap hb (fun h=>h),hrest⟩
 have hMq:M≠q:=fun e=>by
  obtain⟨es,cl,hb,-⟩:=hown;have h1:w.heap[q]?= _:=hq;rw[e,h1]at hb;cases hb
 have hwf:(Lit.int .i64 m.no).wf=true:=by simp[Lit.wf,IntKind.min,IntKind.max,IntKind.bits,IntKind.signed];omega
 have hkey:keyOf prog 3 (.int .i64 m.no)=some (iR m.no):=keyOf_int_mk underlying3 hwf;have hw1:IntKind.i64.wrap (m.no - (l.came+1))=m.no - (l.came+1):=IntWalk.i64_in _ (by omega);have HNX:Hid (∀U,aB (fun _=>False) w U->Calls prog 203 #[.pointer (some ⟨q,0,none⟩)] U fun e w'=>∃v,e= .returned v/\(v= .int .i64 (l.came+1)/\w'=U)):=fun U hU=>by
  refine(vY q M l.came U (hq.kept hU (fun h=>h)) (by omega)).mono ?_;rintro e w' ⟨rfl,rfl⟩;exact⟨_,rfl,rfl,rfl⟩
 have hka:(bI l m.no).all=l.all/\(bI l m.no).came=l.came:=by
  unfold bI;split<;>exact⟨rfl,rfl⟩
 have HRL:Hid (∀U,iQ X U q (bI l m.no)->aB X w U->Calls prog 204 #[.pointer (some ⟨q,0,none⟩)] U fun e w'=>∃v,e= .returned v/\∃n,nY (bI l m.no) n/\n<=l.all.length/\w'.ownsRow w.heap.size 124 15 v n (((l.all.drop l.came.toNat).take n).flatMap aK)/\iQ X w' q ((bI l m.no).on n)/\aB X w w'):=fun U hI hK=>by
  refine(aDm X q (bI l m.no) U hI (fun b hb=>Nat.lt_of_lt_of_le (hX b hb) hK.size) (by rw[hka.2];exact hc) (by rw[hka.1];exact hall) (by rw[hka.1];exact hno)).mono ?_;rintro e w' ⟨v,rfl,n,h1,h2,h3,h4,h5⟩;rw[hka.1]at h2 h3;rw[hka.2]at h3;exact⟨v,rfl,n,h1,h2,iX h3 hK.size,h4,hK.trans h5⟩
 have HQ:=aC hq;have HO:=aC hown;have HHS:=aC hhas;have HAT:=aC hat;have HKZ:=aC kZ;have HBZ:=aC bZ;have HQZ:=aC qZ;have HM2:Hid (l.all[(m.no - 1).toNat]?= some m):=hm.2;have m2:=bZ.cell (o:=2) rfl;clear hq hown hhas hat gZ kZ bZ qZ hno;go_enter func187,ntmps187
 go_upto_region 1 with fail
 try rw[hZ]
 clear hZ
 go_cut [5] (fun dv wx=>dv= .int .i64 (m.no - (l.came+1))/\aB (fun _=>False) Z wx)
 case first=>
  go_region_law (refine qW (by rfl) 203 _ _ (by rfl) (.pointer (some ⟨q,0,none⟩)) (by rfl) (enters_of func203 (by kernel_rfl) rfl) (HNX.out _ (by first|exact HKZ.out|exact HKZ.out.drew)) ?_;rintro v8 w8 ⟨rfl,rfl⟩)
  all_goals
   go_wp2_with fail
   go_meet
   case rel=>exact⟨rfl,by first|exact aB.refl _ _|exact(aB.refl _ _).drew⟩
 case rest=>
  obtain⟨rfl,hkx⟩:=hcut
  rename World=>wx
  have hKx:aB (fun _=>False) w wx:=HKZ.out.trans hkx;have bx:=HBZ.out.kept hkx (fun h=>h);have qx:=HQZ.out.kept hkx (fun h=>h);have HKX:=aC hKx;have HBX:=aC bx;have HQX:=aC qx;by_cases hwin:l.came < m.no/\m.no<=l.came+4
  ·have d0:decide (0<=m.no - (l.came+1))=true:=by simp;omega
   have d1:decide (m.no - (l.came+1) < 4)=true:=by simp;omega
   have d2:(0:Int)<=m.no - (l.came+1):=by omega
   have d3:m.no - (l.came+1) < 4:=by omega
   have x1:=qx.cell (o:=1) rfl;obtain⟨n0,n1,n2,n3,n4,n5,n6,n7,n8,n9,n10,n11,n12,n13,n14⟩:=eF bx;have HW:Hid (l.came < m.no/\m.no<=l.came+4):=hwin;clear bx qx hkx hKx m2 hwin
   go_upto_region 3 with fail
   go_still_tail 7,(by kernel_rfl)
   go_upto_region 4 with(at_mapUpdate;refine wpList_mapUpdate_own _ rfl _ _ _ 162 rfl 3 124 pQ underlying162 jT M (Maps.size D) D rfl (by first|exact HOWN.out _ HKX.out|exact HOWN.out _ HKX.out.drew) (by unfold maxLen;omega) _ _ _ rfl rfl hkey (.held (.agg (aG m))) [] rfl ?_;intro w1 hown1 hgrow1)
   have k1:aB (·= M) wx w1:=by
    have h9:aB (·= M) wx.drew w1:=aB.grown hgrow1 (fun r e=>by cases e;rfl);exact(aB.refl _ _).drew.trans h9
   have hI1:iQ X w1 q (bI l m.no):=by
    refine⟨M,?_,hXq,?_,hXM⟩
    ·rw[hka.2]
     exact HQX.out.kept k1 (fun e=>hMq e.symm)
    ·rw[hka.2,hka.1,aLl HW.out]
     exact iN.put HO.out hsz HHS.out HAT.out hown1 HW.out.1 HM2.out
   have HR1:=aC (HRL.out w1 hI1 ((HKX.out.mono (fun _ _ h=>h.elim)).trans (k1.mono (fun b _ e=>by subst e;exact hXM))));clear hI1 k1
   go_wp2_with (go_at_call 204;refine HR1.out.mono ?_;rintro e w2 ⟨v2,rfl,hres⟩;have HRES:=aC hres;clear hres)
   go_ret;exact⟨_,rfl,HRES.out⟩
  ·have hI1:iQ X wx q (bI l m.no):=by
    rw[aJo hwin];exact⟨M,HQX.out,hXq,⟨D,HOWN.out wx HKX.out,hsz,HHS.out,HAT.out⟩,hXM⟩
   have HR1:=aC (HRL.out wx hI1 (HKX.out.mono (fun _ _ h=>h.elim)));clear hI1 bx qx hkx hKx m2;by_cases d2:(0:Int)<=m.no - (l.came+1)
   ·have d1:decide (m.no - (l.came+1) < 4)=false:=by simp;omega
    have d0:decide (0<=m.no - (l.came+1))=true:=by simp;omega
    have d3:¬m.no - (l.came+1) < 4:=by omega
    clear hwin
    go_wp2_with (go_at_call 204;refine HR1.out.mono ?_;rintro e w2 ⟨v2,rfl,hres⟩;have HRES:=aC hres;clear hres)
    go_ret;exact⟨_,rfl,HRES.out⟩
   ·have d0:decide (0<=m.no - (l.came+1))=false:=by simp;omega
    clear hwin
    go_wp2_with (go_at_call 204;refine HR1.out.mono ?_;rintro e w2 ⟨v2,rfl,hres⟩;have HRES:=aC hres;clear hres)
    go_ret;exact⟨_,rfl,HRES.out⟩
end Go.Proofs.YtfanaanofjhlkaaGreatDoor
namespace Go.Proofs.YtfanaanofjhlkaaGreatDoor
open Go Go.RowKit Tryz
theorem aKk(s:aE)(m:aI):(aR s m).answers=s.answers:=by
 unfold aR cB;dsimp only;split<;>split<;>rfl
theorem yI(s:aE)(m:aI)(h:s.answers≠ []):(aX s m).answers≠ []:=by
 unfold aX dA;dsimp only
 repeat' split
 all_goals first|exact h|(rw[aKk];exact h)|simp
theorem aLm(s:aE)(m:aI):(aX s m).ks=s.ks:=by
 unfold aX dA;dsimp only
 repeat' split
 all_goals first|rfl|exact(pC _ _).2.2
theorem aJf{i j:Nat}:∀(ms:List aI) (N:Nat) (s:aE),aN N s->i < s.W.length->j < s.W.length->(∀m∈ms,∃n,jQ s.ks (s.answers≠ []) N i j n m)->N+ms.length<=90000000->
  aN (N+ms.length) (ms.foldl aX s)/\(ms.foldl aX s).ks=s.ks/\(ms.foldl aX s).W.length=s.W.length:=by
 intro ms
 induction ms with
 |nil=>exact fun N s h _ _ _ _=>⟨h,rfl,rfl⟩
 |cons m ms ih=>
  intro N s h hi hj hall hN;obtain⟨n,hm⟩:=hall m (List.mem_cons_self ..);simp only[List.length_cons]at hN;have hF:=h.came (by omega) hi hj hm;have hks:=aLm s m;have hW:=(pA h hi hj hm).2;obtain⟨h1,h2,h3⟩:=ih (N+1) (aX s m) hF (by rw[hW];exact hi) (by rw[hW];exact hj) (fun m' hm'=>by
   obtain⟨n',hm''⟩:=hall m' (List.mem_cons_of_mem _ hm');exact⟨n',by rw[hks];exact hm''.more (Nat.le_succ _) (yI s m)⟩) (by omega)
  rw[List.foldl_cons];refine⟨?_,h2.trans hks,h3.trans hW⟩;have e:N+(m :: ms).length=N+1+ms.length:=by simp only[List.length_cons];omega
  rw[e];exact h1
structure Arrives(N:Nat)(s:aE)(i j:Nat)(m:aI)(l:aO)(n:Nat):Prop where
 comes:nY (bI l m.no) n
 many:l.came.toNat+n<=l.all.length
 fine:aN (N+1) (aZ s i j (bI l m.no))
 fold:fQ (l.all.length+1) (aZ s i j (bI l m.no)) i j=((l.all.drop l.came.toNat).take n).foldl aX (aZ s i j ((bI l m.no).on n))
 each:∀k,k<=n->aN (N+5) (((l.all.drop l.came.toNat).take k).foldl aX (aZ s i j ((bI l m.no).on n)))/\(((l.all.drop l.came.toNat).take k).foldl aX (aZ s i j ((bI l m.no).on n))).W.length=s.W.length
theorem aMo{N:Nat}{s:aE}(h:aN N s)(hN:N+5<=90000000){i j n:Nat}{m:aI}(hi:i < s.W.length)(hj:j < s.W.length)(hij:i≠j)(hno:m.no<=(aF s i j).all.length)(hcm:nY (bI (aF s i j) m.no) n):Arrives N s i j m (aF s i j) n:=by
 have hlk:=h.links i j hi hj;obtain⟨ka,kk,kc⟩:=rF (aF s i j) m.no;have hF1:=h.keep hi hj hno;have hset:=mH (bI (aF s i j) m.no) h.llen h.lrow hi hj i j;rw[if_pos ⟨rfl,rfl⟩]at hset;have hlk1:=hF1.links i j hi hj;rw[hset]at hlk1;have h4:n<=4/\(aF s i j).came.toNat+n<=(aF s i j).all.length:=by
  cases n with
  |zero=>exact⟨by omega,by have:=hlk.came;omega⟩
  |succ n=>
   have h0:=hcm.each n (by omega);have hnx:(aF s i j).came+n+1∈(bI (aF s i j) m.no).kept:=by
    unfold gM at h0;obtain⟨x,hx,e⟩:=List.any_eq_true.1 h0;have e1:=beq_iff_eq.1 e;have e2:((bI (aF s i j) m.no).on n).came=(aF s i j).came+n:=by show(bI (aF s i j) m.no).came+n=_;rw[kc]
    rw[e2]at e1;rw[<-e1];exact hx
   have h5:=hlk1.kept _ hnx;rw[ka,kc]at h5;have:=hlk.came;omega
 have hmsgs:∀k m',(aF s i j).all[k]?= some m'->jQ s.ks (s.answers≠ []) N i j k m':=fun k m' hm'=>hlk.msgs k m' hm'
 have hF2:aN (N+1) (aZ s i j ((bI (aF s i j) m.no).on n)):=by
  refine h.relink hi hj (L:=[]) (by show(bI (aF s i j) m.no).all=_;rw[ka];simp) ⟨hlk1.msgs,hlk1.all,hlk1.known,?_,?_,hlk1.klen⟩ (Nat.le_succ _)
  ·show 0<=(bI (aF s i j) m.no).came+n/\(bI (aF s i j) m.no).came+n<=((bI (aF s i j) m.no).all.length:Int)
   rw[kc,ka];have:=hlk.came;omega
  ·intro k hk'
   have:=hlk1.kept k hk';show 1<=k/\k<=((bI (aF s i j) m.no).all.length:Int)/\k<=(bI (aF s i j) m.no).came+n+4;omega
 refine⟨hcm,h4.2,hF1,?_,fun k hk=> ?_⟩
 ·have hd:∀k∈(aF (aZ s i j (bI (aF s i j) m.no)) i j).kept,k<=(aF (aZ s i j (bI (aF s i j) m.no)) i j).came+4:=fun k hk'=>by
   rw[hset]at hk' ⊢;exact(hlk1.kept k hk').2.2
  have:=aHp (i:=i) (j:=j) n ((aF s i j).all.length+1) (N+1) 4 _ hF1 hi hj (by omega) hd hij (by rw[hset];exact hcm) (by omega) h4.1;rw[this,hset,ka,kc,xA _ _ _ _ _ (by rw[h.llen];exact hi)]
 ·have hlen:((((aF s i j).all.drop (aF s i j).came.toNat).take k)).length<=4:=by rw[List.length_take];omega
  have hf:=aJf (i:=i) (j:=j) (((aF s i j).all.drop (aF s i j).came.toNat).take k) (N+1) _ hF2 hi hj (fun m' hm'=>by
   obtain⟨k',hk'⟩:=List.getElem?_of_mem (List.mem_of_mem_drop (List.mem_of_mem_take hm'));exact⟨k',(hmsgs k' m' hk').more (Nat.le_succ _) (fun h=>h)⟩) (by omega)
  exact⟨hf.1.more (by omega),hf.2.2⟩
end Go.Proofs.YtfanaanofjhlkaaGreatDoor
