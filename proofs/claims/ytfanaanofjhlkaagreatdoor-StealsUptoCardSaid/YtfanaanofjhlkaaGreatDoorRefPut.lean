import Derived.Test.YtfanaanofjhlkaaGreatDoorRangeG
import Derived.Sort.Walk0
set_option maxHeartbeats 16000000
set_option maxRecDepth 100000
namespace Go.Proofs.YtfanaanofjhlkaaGreatDoor
open Go Go.RowKit Tryz
def cP:List (ByteArray×Int)->ByteArray×Int->List (ByteArray×Int)
 |[],x=>[x]
 |y :: r,x=>if Op.bytesLess x.1.toList y.1.toList=true then x :: y :: r else y :: cP r x
theorem oX:∀(l:List (ByteArray×Int)) (x:ByteArray×Int),(cP l x).length=l.length+1
 |[],x=>rfl
 |y :: r,x=>by
  unfold cP;split
  ·rfl
  ·simp[oX r x]
theorem aKe(l:List (ByteArray×Int))(x y:ByteArray×Int)(k:Nat)(hy:l[k]?= some y) :
  l.take k++cP (l.drop k) x=if Op.bytesLess x.1.toList y.1.toList=true then(l.take k++ [x])++l.drop k else l.take (k+1)++cP (l.drop (k+1)) x:=by
 have hk:=(c_.1 hy).1;have he:=(c_.1 hy).2;rw[List.drop_eq_getElem_cons hk,he,cP];split
 ·simp
 ·rw[List.take_succ_eq_append_getElem hk,he];simp
theorem oS(l:List (ByteArray×Int))(x:ByteArray×Int):fI (l++ [x])=fI l++ [.string x.1,.int .i64 x.2]:=by simp[fI]
def kJ(l:List (ByteArray×Int))(x:ByteArray×Int)(k:Nat)(D:Bool)(outl:List (ByteArray×Int)):Prop:=
 if D=true then outl++l.drop k=cP l x else outl=l.take k/\l.take k++cP (l.drop k) x=cP l x
theorem kJ.len{l:List (ByteArray×Int)}{x:ByteArray×Int}{k:Nat}{D:Bool}{outl:List (ByteArray×Int)}(h:kJ l x k D outl)(hk:k<=l.length):outl.length<=k+1:=by
 unfold kJ at h;split at h
 ·have:=congrArg List.length h
  rw[oX,f_,List.length_drop]at this;omega
 ·rw[h.1,List.length_take];omega
theorem uF(v:Value)(l:List (ByteArray×Int))(x:ByteArray×Int)(w:World)(hv:zD w v l)(hl:l.length<=100000000) :
  Calls prog 131 #[v,.agg #[.string x.1,.int .i64 x.2]] w fun e w'=>∃v',e= .returned v'/\w'.ownsRow w.heap.size 92 2 v' (cP l x).length (fI (cP l x))/\Below w.heap.size w w':=by
 obtain⟨a,cap,rfl,hc⟩:=hv;obtain⟨i0,hi,hz0,hz1,hz2⟩:=info_parts pI;go_enter func131,ntmps131
 go_wp2_with fail
 go_loopw [5,6,7] (fun ov dv i wr=>∃(k:Nat) (D:Bool) (outl:List (ByteArray×Int)),k<=l.length/\i= .int .i64 k/\dv= .bool D/\kJ l x k D outl/\wr.ownsRow (w.heap.size+1) 92 2 ov outl.length (fI outl)/\Below w.heap.size w wr/\aD wr w.heap.size 92 #[.string x.1,.int .i64 x.2]) (fun _ _ i _=>l.length - (intOf i).toNat)
 case atStart=>exact⟨0,false,[],Nat.zero_le _,rfl,rfl,by simp[kJ],World.ownsRow_nil _ _ _ _,(e_ _ _).alloc (a_ _) _,aD.new _ _ _⟩
 case round=>
  obtain⟨k,D,outl,hk,rfl,rfl,hput,hrow,hb,hbx⟩:=hrel
  rename World=>Wo
  have HPUT:Hid (kJ l x k D outl):=hput;have HROW:Hid (Wo.ownsRow (w.heap.size+1) 92 2 u5 outl.length (fI outl)):=hrow;have HBX:Hid (aD Wo w.heap.size 92 #[.string x.1,.int .i64 x.2]):=hbx;have x0:=hbx.cell (o:=0) rfl;have x1:=hbx.cell (o:=1) rfl;have hol:=hput.len hk;have hsz:=hb.size;have hltx:=hbx.lt;have hrw:∀g,u5.ownBlock=some g->w.heap.size+1<=g:=fun g e=>(hrow.lt g e).1
  have HRW:Hid (∀g,u5.ownBlock=some g->w.heap.size+1<=g):=hrw;clear hput hrow hbx hrw;by_cases hlt:k < l.length
  ·obtain⟨y,hy⟩:∃y,l[k]?= some y:=⟨_,b_ hlt⟩
   obtain⟨g,o,rfl,hgl,c0,c1⟩:=hc k y hy;have d0:=(hb.cell (p:=⟨g,o+k*2,none⟩) hgl).trans c0;have d1:=(hb.cell (p:=⟨g,o+k*2+1,none⟩) hgl).trans c1;have i1:(0:Int)<=(k:Int):=by omega
   have i2:(k:Int) < (l.length:Int):=by omega
   have HST:=aKe l x y k hy;have HST':Hid (l.take k++cP (l.drop k) x=if Op.bytesLess x.1.toList y.1.toList=true then(l.take k++ [x])++l.drop k else l.take (k+1)++cP (l.drop (k+1)) x):=HST;have HTK:Hid (l.take (k+1)=l.take k++ [y]):=by
    show l.take (k+1)=_;rw[List.take_succ_eq_append_getElem hlt,(c_.1 hy).2]
   have HDK:Hid (l.drop k=y :: l.drop (k+1)):=by
    show l.drop k=_;rw[List.drop_eq_getElem_cons hlt,(c_.1 hy).2]
   clear hc HST;have C0:Hid (w.cell? ⟨g,o+k*2,none⟩=some (.string y.1)):=c0;have C1:Hid (w.cell? ⟨g,o+k*2+1,none⟩=some (.int .i64 y.2)):=c1;clear c0 c1;cases D
   case false=>
    obtain⟨hq1,hq2⟩:outl=l.take k/\l.take k++cP (l.drop k) x=cP l x:=by
     have:=HPUT.out;simpa[kJ]using this
    have HQ1:Hid (outl=l.take k):=hq1;have HQ2:Hid (l.take k++cP (l.drop k) x=cP l x):=hq2;clear hq1 hq2;cases hless:Op.bytesLess x.1.toList y.1.toList
    case false=>
     go_wp2_with fail
     go_quiet (fail)
     go_wp2_with (at_builtin;refine wpList_append_lies _ rfl _ _ _ rfl (w.heap.size+1) 92 i0 _ 2 24 underlying42 hi hz0 hz1 hz2 rfl (by omega) u5 outl.length (fI outl) rfl ((aP HROW.out ((aB.refl (fun _=>False) Wo).drewN nq) (fun _ _ h=>h) (a_ _)).alloc _) ⟨Wo.heap.size,0,none⟩ 1 1 [.string y.1,.int .i64 y.2] rfl rfl (World.news_of_block (cs:=#[.string y.1,.int .i64 y.2]) (t:=92) (fr:=(0,0)) (heap_alloc_new (Wo.drewN nq) _)) (by simp[Value.oneCell']) (by omega) (by unfold maxLen;omega) (by omega) (by simp;omega) (Wo.heap.size+1) (by simp) ?_;intro g' cp w1 hown1 hgrow hat hlt1)
     go_roundw
     case rel=>
      have hb1:Below w.heap.size w w1:=((below_drewN hb nq).alloc hb.size _).grown hgrow (by simp;omega) (fun q e=>by have:=HRW.out q e;omega);refine⟨k+1,false,outl++ [y],hlt,by go_num,rfl,?_,by rw[oS,f_];exact hown1,hb1,(hgrow.block w.heap.size (by simp;omega) (fun e=>by have:=HRW.out _ e.symm;omega)).trans ((HBX.out.drewN nq).alloc _)⟩;have h1:=HST'.out;rw[if_neg (by rw[hless];decide)]at h1;unfold kJ;rw[if_neg (by decide)];exact⟨by rw[HTK.out,HQ1.out],by rw[<-h1];exact HQ2.out⟩
     case measure=>simp[intOf];omega
    case true=>
     go_wp2_with fail
     go_quiet (fail)
     go_wp2_with (first|(at_builtin;refine wpList_append_lies _ rfl _ _ _ rfl (w.heap.size+1) 92 i0 _ 2 24 underlying42 hi hz0 hz1 hz2 rfl (by omega) u5 outl.length (fI outl) rfl ((aP HROW.out ((aB.refl (fun _=>False) Wo).drewN nq) (fun _ _ h=>h) (a_ _)).alloc _) ⟨Wo.heap.size,0,none⟩ 1 1 [.string x.1,.int .i64 x.2] rfl rfl (World.news_of_block (cs:=#[.string x.1,.int .i64 x.2]) (t:=92) (fr:=(0,0)) (heap_alloc_new (Wo.drewN nq) _)) (by simp[Value.oneCell']) (by omega) (by unfold maxLen;omega) (by omega) (by simp;omega) (Wo.heap.size+1) (by simp) ?_;intro g' cp w1 hown1 hgrow hat hlt1;have hb1:Below w.heap.size w w1:=((below_drewN hb nq).alloc hb.size _).grown hgrow (by simp;omega) (fun q e=>by have:=HRW.out q e;omega);have e0:=(hb1.cell (p:=⟨g,o+k*2,none⟩) hgl).trans C0.out;have e1:=(hb1.cell (p:=⟨g,o+k*2+1,none⟩) hgl).trans C1.out;have hb1s:=hb1.size;have hg1:=(hown1.lt _ rfl).1)|(at_builtin;refine wpList_append_lies _ rfl _ _ _ rfl (w.heap.size+1) 92 i0 _ 2 24 underlying42 hi hz0 hz1 hz2 rfl (by omega) (.slice (some ⟨g',0,none⟩) (outl.length+1) cp) (outl.length+1) (fI outl++ [.string x.1,.int .i64 x.2]) rfl ((hown1).alloc _) ⟨w1.heap.size,0,none⟩ 1 1 [.string y.1,.int .i64 y.2] rfl rfl (World.news_of_block (cs:=#[.string y.1,.int .i64 y.2]) (t:=92) (fr:=(0,0)) (heap_alloc_new w1 _)) (by simp[Value.oneCell']) (by omega) (by unfold maxLen;omega) (by omega) (by simp;omega) (w1.heap.size+1) (by simp) ?_;intro g2 cp2 w2 hown2 hgrow2 hat2 hlt2))
     go_roundw
     case rel=>
      have hgg:w.heap.size+1<=g':=(hown1.lt g' rfl).1;have hb2:Below w.heap.size w w2:=(hb1.alloc hb1.size _).grown hgrow2 (by have:=hb1.size;simp;omega) (fun q e=>by cases e;omega);have hx1:aD w1 w.heap.size 92 #[.string x.1,.int .i64 x.2]:=(hgrow.block w.heap.size (by simp;omega) (fun e=>by have:=HRW.out _ e.symm;omega)).trans ((HBX.out.drewN nq).alloc _);refine⟨k+1,true,outl++ [x]++ [y],hlt,by go_num,rfl,?_,by rw[oS,oS,f_,f_];exact hown2,hb2,(hgrow2.block w.heap.size (by have:=hx1.lt;simp;omega) (fun e=>by have h9:w.heap.size=g':=Option.some.inj e;omega)).trans (hx1.alloc _)⟩;have h1:=HST'.out;rw[if_pos hless]at h1;unfold kJ;rw[if_pos rfl,<-HQ2.out,h1,HQ1.out,HDK.out];simp
     case measure=>simp[intOf];omega
   case true=>
     have hq:outl++l.drop k=cP l x:=by
      have:=HPUT.out;simpa[kJ]using this
     have HQ:Hid (outl++l.drop k=cP l x):=hq;clear hq
     go_wp2_with fail
     go_quiet (fail)
     go_wp2_with (at_builtin;refine wpList_append_lies _ rfl _ _ _ rfl (w.heap.size+1) 92 i0 _ 2 24 underlying42 hi hz0 hz1 hz2 rfl (by omega) u5 outl.length (fI outl) rfl ((aP HROW.out ((aB.refl (fun _=>False) Wo).drewN nq) (fun _ _ h=>h) (a_ _)).alloc _) ⟨Wo.heap.size,0,none⟩ 1 1 [.string y.1,.int .i64 y.2] rfl rfl (World.news_of_block (cs:=#[.string y.1,.int .i64 y.2]) (t:=92) (fr:=(0,0)) (heap_alloc_new (Wo.drewN nq) _)) (by simp[Value.oneCell']) (by omega) (by unfold maxLen;omega) (by omega) (by simp;omega) (Wo.heap.size+1) (by simp) ?_;intro g' cp w1 hown1 hgrow hat hlt1)
     go_roundw
     case rel=>
      have hb1:Below w.heap.size w w1:=((below_drewN hb nq).alloc hb.size _).grown hgrow (by simp;omega) (fun q e=>by have:=HRW.out q e;omega);refine⟨k+1,true,outl++ [y],hlt,by go_num,rfl,?_,by rw[oS,f_];exact hown1,hb1,(hgrow.block w.heap.size (by simp;omega) (fun e=>by have:=HRW.out _ e.symm;omega)).trans ((HBX.out.drewN nq).alloc _)⟩;unfold kJ;rw[if_pos rfl,<-HQ.out,HDK.out];simp
     case measure=>simp[intOf];omega
  ·obtain rfl:k=l.length:=by omega
   cases D
   case false=>
    have hpe:cP l x=outl++ [x]:=by
     have:=HPUT.out;simp[kJ]at this;rw[this.1,<-this.2];simp[cP]
    have HPE:Hid (cP l x=outl++ [x]):=hpe;clear hpe
    go_wp2_with (at_builtin;refine wpList_append_lies _ rfl _ _ _ rfl (w.heap.size+1) 92 i0 _ 2 24 underlying42 hi hz0 hz1 hz2 rfl (by omega) u5 outl.length (fI outl) rfl ((HROW.out).alloc _) ⟨Wo.heap.size,0,none⟩ 1 1 [.string x.1,.int .i64 x.2] rfl rfl (World.news_of_block (cs:=#[.string x.1,.int .i64 x.2]) (t:=92) (fr:=(0,0)) (heap_alloc_new Wo _)) (by simp[Value.oneCell']) (by omega) (by unfold maxLen;omega) (by omega) (by simp;omega) (Wo.heap.size+1) (by simp) ?_;intro g' cp w1 hown1 hgrow hat hlt1)
    go_ret;refine⟨_,rfl,?_,(hb.alloc hb.size _).grown hgrow (by simp;omega) (fun q e=>by have:=HRW.out q e;omega)⟩;rw[HPE.out,oS,f_];exact aP hown1 (aB.refl (fun _=>False) _) (fun _ _ h=>h) (by omega)
   case true=>
    have hpe:outl=cP l x:=by
     have:=HPUT.out;simpa[kJ]using this
    go_wp2_with fail
    go_ret;rw[<-hpe];exact⟨_,rfl,aP HROW.out (aB.refl (fun _=>False) _) (fun _ _ h=>h) (by omega),hb⟩
end Go.Proofs.YtfanaanofjhlkaaGreatDoor
