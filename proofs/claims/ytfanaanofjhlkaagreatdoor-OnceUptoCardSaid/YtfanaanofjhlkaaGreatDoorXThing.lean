import Derived.Test.YtfanaanofjhlkaaGreatDoorXArrive
namespace Go.Proofs.YtfanaanofjhlkaaGreatDoor
open Go Go.RowKit
def thingS(s:RunS)(i j:Nat)(m:MsgS):RunS:=comeS ((linkOf s i j).all.length+1) (setLink s i j (keepS (linkOf s i j) m.no)) i j
theorem comeAt_of{N:Nat}{s:RunS}{i j n:Nat}{m:MsgS}{ks:List KindS}{ans:Prop}{N':Nat}(h:Fine N s)(hN:N<=90000000)(hi:i < s.W.length)(hj:j < s.W.length)(hm:MsgOK ks ans N' i j n m)(ha:ans->s.answers≠ []):ComeAt N s i j m:=
 ⟨h.shaped,h.small,hN,h.known,Nat.le_trans h.vals hN,fun x hx=>by have:=(h.works x hx).few;omega,hm.src,hm.dst,hm.ne,hi,hj,fun e=>ha (hm.told (.inr e)),fun a h'=>by have h1:=(h.ans a h').many;have h2:=(h.ans a h').sent;have h3:=(h.ans a h').came;omega,by have:=hm.nums;omega⟩
theorem cameS_mode(s:RunS)(m:MsgS):(cameS s m).mode=s.mode:=by
 unfold cameS notedS
 dsimp only
 repeat' split
 all_goals first|rfl|exact sendS_themode _ _
theorem fold_mode(ms:List MsgS)(s:RunS):(ms.foldl cameS s).mode=s.mode:=by
 induction ms generalizing s with
 |nil=>rfl
 |cons m ms ih=>rw[List.foldl_cons,ih,cameS_mode]
theorem fold_ans(ms:List MsgS)(s:RunS)(h:s.answers≠ []):(ms.foldl cameS s).answers≠ []:=by
 induction ms generalizing s with
 |nil=>exact h
 |cons m ms ih=>rw[List.foldl_cons];exact ih _ (cameS_ans s m h)
theorem fold_link{i j:Nat}{s:RunS}{l':LinkS}{ms:List MsgS}{part:Nat->Nat}{W:World}{B M:Nat}{kv wv yv:Value}{xs:List XW}(h:XAtO part W B (ms.foldl cameS (setLink s i j l')) kv wv yv M xs)(hd:∀m∈ms,m.dst.toNat≠i)(hi:i < xs.length)(hj:j < xs.length):linkOf (ms.foldl cameS (setLink s i j l')) i j=l':=by
 rw[foldl_setLink l' ms s hd]at h ⊢
 have h1:=h.llen
 have h2:=h.wlen
 obtain⟨T,hT⟩:∃T,ms.foldl cameS s=T:=⟨_,rfl⟩
 rw[hT]at h h1 h2 ⊢
 have e1:(setLink T i j l').links=T.links.set i ((T.links[i]?.getD []).set j l'):=rfl
 have e2:(setLink T i j l').W=T.W:=rfl
 rw[e1,List.length_set,e2]at h1
 rw[e2]at h2
 have hil:i < T.links.length:=by omega
 have hrow:=h.lrow ((T.links[i]?.getD []).set j l') (by rw[e1];exact List.mem_of_getElem? (List.getElem?_set_self hil))
 rw[List.length_set,e2]at hrow
 unfold linkOf
 rw[e1,List.getElem?_set_self hil,Option.getD_some,List.getElem?_set_self (by omega),Option.getD_some]
set_option maxHeartbeats 8000000 in
set_option maxRecDepth 100000 in
theorem arriveThing_x(m:MsgS)(i j:Nat){part:Nat->Nat}{w:World}{B M N:Nat}{s:RunS}{kv wv yv:Value}{xs:List XW}(h:XAtO part w B s kv wv yv M xs)(hA:ArriveAt N s i j m)(hk:m.kind≠0)(hm:1<=m.no/\(linkOf s i j).all[(m.no - 1).toNat]?= some m) :
  Calls Tryz.prog 157 #[.pointer (some ⟨B,0,none⟩),.agg (msgCells m)] w fun e w'=>∃v,e= .returned v/\(v= .tuple #[]/\∃part' yv' xs',XAtO part' w' B (wayS (thingS s i j m) {msg0 with src:=(j:Int),dst:=(i:Int),kind:=0,no:=(linkOf (thingS s i j m) i j).came}) kv wv yv' M xs'/\Moved part part' w w'):=by
 have hjl:=hA.hj
 have hil:=hA.hi
 have hxl:=h.wlen
 obtain⟨x,hx⟩:∃x,xs[j]?= some x:=⟨_,List.getElem?_eq_getElem (by omega)⟩
 obtain⟨gw,wc,hwf,-,hgw⟩:=World.ownsRow.form h.wrow.1 (by omega)
 subst hwf
 obtain⟨ls,l,hls,hl,hlk⟩:=hA.link hA.hi hA.hj
 have hlo:=hA.fine.links i j hA.hi hA.hj
 rw[hlk]at hlo hm
 have hle:=hA.le
 obtain⟨Z,hZ⟩:∃Z,w.alloc (Obj.cells (msgCells m) 124)=Z:=⟨_,rfl⟩
 have gZ:Below w.heap.size w Z:=by rw[<-hZ];exact(Below.refl _ _).alloc (Nat.le_refl _) _
 have bZ:BoxAt Z w.heap.size 124 (msgCells m):=by rw[<-hZ];exact BoxAt.new w _ _
 obtain⟨hxZ,hmZ⟩:=h.later gZ
 have b3:Z.cell? ⟨B,4,none⟩=some (.slice (some ⟨gw,0,none⟩) xs.length wc):=hxZ.box.cell (o:=4) rfl
 have d1:Z.cell? ⟨w.heap.size,1,none⟩=some (.int .i64 (j:Int)):=by rw[<-hA.dst];exact bZ.cell (o:=1) rfl
 have j1:(0:Int)<=(j:Int):=by omega
 have j2:(j:Int) < (xs.length:Int):=by omega
 have hmno:m.no<=(l.all.length:Int):=by have:=(List.getElem?_eq_some_iff.1 hm.2).1;omega
 have HXZ:=hid_of hxZ
 have HMZ:=hid_of hmZ
 have HBZ:=hid_of bZ
 have HA:=hid_of hA
 have HLO:=hid_of hlo
 have HM:=hid_of hm
 have HLK:Hid (linkOf s i j=l):=hlk
 have HAR:Hid (∀n,Comes (keepS l m.no) n->Arrives N s i j m l n):=fun n hcm=>by
  have:=arrives hA.fine hA.le hA.hi hA.hj hA.ne (m:=m) (n:=n) (by rw[hlk];exact hmno) (by rw[hlk];exact hcm)
  rw[hlk]at this
  exact this
 clear h gZ bZ hxZ hmZ hA hlo hm hlk
 go_enter Tryz.func157,Tryz.ntmps157
 go_upto_region 1 with fail
 try rw[hZ]
 clear hZ
 go_cut [4] (fun pv wx=>pv= .pointer (some ⟨gw,j*8,none⟩)/\Below Z.heap.size Z wx)
 case first=>
  go_quiet (fail)
  go_wp2_with fail
  go_meet
  case rel=>exact⟨rfl,by first|exact Below.refl _ _|exact(Below.refl _ _).drew|exact below_drewN (Below.refl _ _) _⟩
 case rest=>
  obtain⟨rfl,hbx⟩:=hcut
  rename World=>wx
  have bx:=HBZ.out.below hbx HBZ.out.lt
  obtain⟨h1,hm1⟩:=HXZ.out.later hbx
  obtain⟨qs,q,g,gc,hqr,hql,hqe,hq,hin,hvf,hcq,hgq⟩:=xin (h1.iat j x hx) hls hl HA.out.ne
  have a3:=h1.wcell hx 3 _ rfl
  rw[hvf]at a3
  have e0:wx.cell? ⟨w.heap.size,0,none⟩=some (.int .i64 (i:Int)):=by rw[<-HA.out.src];exact bx.cell (o:=0) rfl
  have e3:=bx.cell (o:=3) rfl
  have hk0:(m.kind==0)=false:=by rw[beq_eq_false_iff_ne];exact hk
  have hll:=HA.out.fine.llen
  have i1:(0:Int)<=(i:Int):=by omega
  have i2:(i:Int) < (qs.length:Int):=by omega
  have HBX:=hid_of bx
  have HX1:=hid_of h1
  have HM1:=hid_of hm1
  have HQR:=hid_of hqr
  have HQE:=hid_of hqe
  have HQ:Hid (qs[i]?= some (some q)):=hq
  have HIN:=hid_of hin
  have HQL:Hid (qs.length=s.links.length):=hql
  clear hbx bx h1 hm1 hqr hqe hin hvf hk b3 d1 hq
  go_upto_region 4 with fail
  go_cut [5] (fun pv wy=>pv= .pointer (some ⟨q,0,none⟩)/\Below wx.heap.size wx wy)
  case first=>
   go_quiet (fail)
   go_wp2_with fail
   go_meet
   case rel=>exact⟨rfl,by first|exact Below.refl _ _|exact(Below.refl _ _).drew|exact below_drewN (Below.refl _ _) _⟩
  case rest=>
   obtain⟨rfl,hby⟩:=hcut
   rename World=>wy
   have byx:=HBX.out.below hby HBX.out.lt
   obtain⟨h2,hm2⟩:=HX1.out.later hby
   have hpz:ext wx (ext Z (ext w part 0) 0) 0 w.heap.size=0:=(ext_old HBX.out.lt).trans ((ext_old HBZ.out.lt).trans (ext_new (Nat.le_refl _)))
   obtain⟨P2,hP2⟩:∃P2,ext wx (ext Z (ext w part 0) 0) 0=P2:=⟨_,rfl⟩
   rw[hP2]at h2 hm2 hpz
   have kY:Kept (fun b=>wx.heap.size<=b) wx wy:=Kept.of_below hby (fun _ _ h=>h)
   have hqr2:RowIn (fun b=>P2 b=8) 207 1 optEnc wy x.inv qs:=HQR.out.kept kY (fun g hg e=>⟨by omega,by rw[<-hP2];exact(ext_old hg).trans e⟩)
   have hqe2:∀i q ls l,qs[i]?= some q->s.links[i]?= some ls->ls[j]?= some l->InEndAt P2 j i wy l q:=fun i' q' ls' l' a b c=>(HQE.out i' q' ls' l' a b c).kept kY (fun g hg e=>⟨by omega,by rw[<-hP2];exact(ext_old hg).trans e⟩)
   have hin2:InAt (fun b=>P2 b=200+10*j+i/\b < wy.heap.size) wy q l:=HIN.out.kept kY (fun g hg e=>⟨by omega,by rw[<-hP2];exact(ext_old hg).trans e,Nat.lt_of_lt_of_le hg hby.size⟩)
   have hqP:P2 q=200+10*j+i/\q < wy.heap.size:=by obtain⟨_,_,h9,_⟩:=hin2;exact h9
   have HX2:=hid_of h2
   have HM2:Hid (XMoved part P2 w wy):=(HMZ.out.trans HM1.out).trans hm2
   have HBY:=hid_of byx
   have hlo:=HLO.out
   have hca:=hlo.came
   have hal:=hlo.all
   have hkl:=hlo.klen
   have HARR:Hid (Calls Tryz.prog 187 #[.pointer (some ⟨q,0,none⟩),.agg (msgCells m)] wy fun e w'=>∃v,e= .returned v/\∃a n c,v= .slice a n c/\Arrives N s i j m l n/\w'.ownsRow wy.heap.size 124 15 (.slice a n c) n (((l.all.drop l.came.toNat).take n).flatMap msgEnc)/\XAtO (ext wy P2 0) w' B (setLink s i j ((keepS l m.no).on n)) kv (.slice (some ⟨gw,0,none⟩) xs.length wc) yv M xs/\Moved part (ext wy P2 0) w w'/\BoxAt w' w.heap.size 124 (msgCells m)/\∃MM,BoxAt w' q 164 #[.int .i64 ((keepS l m.no).on n).came,.map (some MM)]):=by
    refine(arrive_in (fun b=>P2 b=200+10*j+i/\b < wy.heap.size) q l m wy hin2 (fun b hb=>hb.2) ⟨hca.1,by omega⟩ (by omega) (by omega) (fun n' m' h'=>(hlo.msgs n' m' h').no) HM.out).mono ?_
    rintro e w' ⟨v,rfl,n,hcm,hn,hrow,hI,hkp⟩
    obtain⟨a,c,hvf⟩:=row_form hrow
    have hlk9:((keepS l m.no).on n).all=l.all/\((keepS l m.no).on n).known=l.known:=⟨(keepS_all l m.no).1,(keepS_all l m.no).2.1⟩
    obtain⟨h5,hm5⟩:=h2.rein0 (l':=(keepS l m.no).on n) hx hls hl HA.out.ne hqr2 HQL.out hqe2 HQ.out hlk9 (hkp.mono (fun b _ e=>e.1)) hI
    have hs9:setLink s i j ((keepS l m.no).on n)={s with links:=s.links.set i (ls.set j ((keepS l m.no).on n))}:=by
     unfold setLink
     rw[hls]
     rfl
    obtain⟨MM,hbq,-,-,-⟩:=hI
    refine⟨v,rfl,a,n,c,hvf,HAR.out n hcm,by rw[<-hvf];exact hrow,by rw[hs9];exact h5,HM2.out.base.trans hm5,byx.kept hkp (fun e=>by have:=e.1;omega),MM,hbq⟩
   clear hby byx h2 hm2 kY hqr2 hqe2 hin2 hlo
   obtain⟨m0,m1,m2,m3,m4,m5,m6,m7,m8,m9,m10,m11,m12,m13,m14⟩:=cells15 HBY.out
   have HP2:Hid (ext wx (ext Z (ext w part 0) 0) 0=P2):=hP2
   clear hP2 a3 e0 e3 hcq
   have HCO:Hid (∀(a:Option Addr) (n c:Nat) (w1:World),Arrives N s i j m l n->w1.ownsRow wy.heap.size 124 15 (.slice a n c) n (((l.all.drop l.came.toNat).take n).flatMap msgEnc)->XAtO (ext wy P2 0) w1 B (setLink s i j ((keepS l m.no).on n)) kv (.slice (some ⟨gw,0,none⟩) xs.length wc) yv M xs->Calls Tryz.prog 186 #[.pointer (some ⟨B,0,none⟩),.slice a n c] w1 fun e w'=>∃u,e= .returned u/\(u= .tuple #[]/\∃part' yv' xs',XAtO part' w' B (thingS s i j m) kv (.slice (some ⟨gw,0,none⟩) xs.length wc) yv' M xs'/\XMoved (ext wy P2 0) part' w1 w'/\linkOf (thingS s i j m) i j=(keepS l m.no).on n)):=fun a n c w1 hAr hrow hx1=>by
    obtain⟨ms,hms⟩:∃ms,(l.all.drop l.came.toNat).take n=ms:=⟨_,rfl⟩
    have hlen:ms.length=n:=by rw[<-hms,List.length_take,List.length_drop];have:=hAr.many;omega
    have hmem:∀m'∈ms,∃k,l.all[k]?= some m':=fun m' h'=>by rw[<-hms]at h';exact List.getElem?_of_mem (List.mem_of_mem_drop (List.mem_of_mem_take h'))
    have hcalm:=HA.out.calm
    have hlo:=HLO.out
    have hth:thingS s i j m=ms.foldl cameS (setLink s i j ((keepS l m.no).on n)):=by
     unfold thingS
     rw[HLK.out,hAr.fold,hms]
    rw[hms]at hrow
    rw[<-hlen]at hrow ⊢
    have hd:∀m'∈ms,m'.dst.toNat≠i:=fun m' h'=>by
     obtain⟨k,hk⟩:=hmem m' h'
     have:=(hlo.msgs k m' hk).dst
     have:=HA.out.ne
     omega
    refine(come_x (N:=N+5) i j ms a c hx1 (ownsRow_base hrow (Nat.zero_le _)) (fun g e=>ext_new (hrow.lt g e).1) (by rw[hlen];have:=hAr.many;omega) (fun k m' hk=> ?_)).mono ?_
    ·obtain⟨k',hk'⟩:=hmem m' (List.mem_of_getElem? hk)
     have hkl:=(List.getElem?_eq_some_iff.1 hk).1
     have hmo:=hlo.msgs k' m' hk'
     have hcl:CalmM s.mode m':=by
      have:=CalmL.link hcalm.links i j
      have e:(s.links[i]?.getD [])[j]?.getD link0=l:=HLK.out
      rw[e]at this
      exact this m' (List.mem_of_getElem? hk')
     have etk:ms.take k=(l.all.drop l.came.toNat).take k:=by rw[<-hms,List.take_take,Nat.min_eq_left (by omega)]
     have hE:=hAr.each k (by omega)
     rw[<-etk]at hE
     have hF:=hE.1
     have hWl:=hE.2
     exact⟨comeAt_of hF hle (by rw[hWl];exact HA.out.hi) (by rw[hWl];exact HA.out.hj) hmo (fun h'=>fold_ans _ _ h'),by rw[fold_mode];exact hcl,hmo.kind.1⟩
    ·rintro e w' ⟨u,rfl,rfl,part',yv',xs',h3,hm3⟩
     have hl3:xs'.length=xs.length:=h3.xlen
     refine⟨_,rfl,rfl,part',yv',xs',by rw[hth];exact h3,hm3,?_⟩
     rw[hth]
     have hi':i < xs'.length:=by have:=HA.out.hi;omega
     have hj':j < xs'.length:=by have:=HA.out.hj;omega
     rw[hlen]
     exact fold_link h3 hd hi' hj'
   go_upto_region 6 with(first
    |(go_at_call 187;refine HARR.out.mono ?_;rintro e w1 ⟨v1,rfl,a1,n1,c1,rfl,hAr,hrow1,hx1,hmv1,hbm1,MM,hbq1⟩;have HAR1:=hid_of hAr;have HROW1:=hid_of hrow1;have HXX1:=hid_of hx1;have HMV1:=hid_of hmv1;have HBM1:=hid_of hbm1;have HBQ1:=hid_of hbq1;clear hAr hrow1 hx1 hmv1 hbm1 hbq1)
    |(go_at_call 186;refine(HCO.out a1 n1 c1 w1 HAR1.out HROW1.out HXX1.out).mono ?_;rintro e w2 ⟨v2,rfl,rfl,part2,yv2,xs2,hx2,hmv2,hlk2⟩;have HX3:=hid_of hx2;have HMV2:=hid_of hmv2;have HLK2:=hid_of hlk2;clear hx2 hmv2 hlk2))
   have hpm:ext wy P2 0 w.heap.size=0:=(ext_old HBY.out.lt).trans hpz
   have hpq:ext wy P2 0 q=200+10*j+i:=(ext_old hqP.2).trans hqP.1
   have hbm2:=HBM1.out.kept HMV2.out.kept (fun h=>h hpm)
   have hbq2:BoxAt w2 q 164 #[.int .i64 ((keepS l m.no).on n1).came,.map (some MM)]:=by
    have h9:=(HMV2.out.ends q HBQ1.out.lt (by omega)).2
    have h8:w1.heap[q]?= _:=HBQ1.out
    exact h9.trans h8
   rw[<-HLK2.out]at hbq2
   obtain⟨cv,hcv⟩:∃cv,(linkOf (thingS s i j m) i j).came=cv:=⟨_,rfl⟩
   rw[hcv]at hbq2
   have HCV:Hid ((linkOf (thingS s i j m) i j).came=cv):=hcv
   have HCM:Hid (∀U,(U=w2\/U=w2.drew)->Calls Tryz.prog 188 #[.pointer (some ⟨q,0,none⟩)] U fun e w'=>∃v,e= .returned v/\(v= .int .i64 cv/\w'=U)):=fun U hU=>by
    have hb:BoxAt U q 164 #[.int .i64 cv,.map (some MM)]:=by rcases hU with rfl|rfl<;>exact hbq2
    refine(inCame_calls q MM cv U hb).mono ?_
    rintro e w' ⟨rfl,rfl⟩
    exact⟨_,rfl,rfl,rfl⟩
   have hs3:=HX3.out
   have u0:w2.cell? ⟨w.heap.size,0,none⟩=some (.int .i64 (i:Int)):=by rw[<-HA.out.src];exact hbm2.cell (o:=0) rfl
   have u1:w2.cell? ⟨w.heap.size,1,none⟩=some (.int .i64 (j:Int)):=by rw[<-HA.out.dst];exact hbm2.cell (o:=1) rfl
   have hway:(thingS s i j m).way.length<=1000:=by
    have h9:=(HAR1.out.each n1 (Nat.le_refl _)).1
    rw[<-HAR1.out.fold]at h9
    have h8:Fine (N+5) (thingS s i j m):=by unfold thingS;rw[HLK.out];exact h9
    have:=h8.w60
    omega
   have HPU:Hid (∀(U:World) (bb:Nat),U=(w2.drew).alloc (Obj.cells (msgCells {msg0 with src:=(j:Int),dst:=(i:Int),kind:=0,no:=cv}) 124)->bb=w2.heap.size->Calls Tryz.prog 153 #[.pointer (some ⟨B,5,none⟩),.slice (some ⟨bb,0,none⟩) 1 1] U fun e w'=>∃v,e= .returned v/\(v= .tuple #[]/\∃part' yv' xs',XAtO part' w' B (wayS (thingS s i j m) {msg0 with src:=(j:Int),dst:=(i:Int),kind:=0,no:=cv}) kv (.slice (some ⟨gw,0,none⟩) xs.length wc) yv' M xs'/\Moved part part' w w')):=fun U bb hU hbb=>by
    subst hU hbb
    obtain⟨h9,hm9⟩:=HX3.out.later (((Below.refl w2.heap.size w2).drew).alloc (by simp) (Obj.cells (msgCells {msg0 with src:=(j:Int),dst:=(i:Int),kind:=0,no:=cv}) 124))
    refine(put_x {msg0 with src:=(j:Int),dst:=(i:Int),kind:=0,no:=cv} w2.heap.size h9 hway (BoxAt.new w2.drew _ _)).mono ?_
    rintro e w' ⟨v,rfl,rfl,part',yv',h10,hm10,-⟩
    exact⟨_,rfl,rfl,part',yv',xs2,h10,HMV1.out.trans ((HMV2.out.trans hm9).trans hm10).base⟩
   simp only[msg0]at HPU
   clear hbm2 hbq2 hs3 m0 m1 m2 m3 m4 m5 m6 m7 m8 m9 m10 m11 m12 m13 m14 hcv
   go_region_law (first
    |(refine step_call1 (by rfl) 188 _ _ (by rfl) (.pointer (some ⟨q,0,none⟩)) (by rfl) (enters_of Tryz.func188 (by kernel_rfl) rfl) (HCM.out _ (by first|exact .inl rfl|exact .inr rfl)) ?_;rintro v8 w8 ⟨rfl,rfl⟩)
    |(refine step_call2 (by rfl) 153 _ _ _ (by rfl) (.pointer (some ⟨B,5,none⟩)) (.slice (some ⟨w2.heap.size,0,none⟩) 1 1) (by rfl) (by rfl) (enters_of Tryz.func153 (by kernel_rfl) rfl) (HPU.out _ _ rfl rfl) ?_;rintro v9 w9 ⟨rfl,hres⟩;have HRES:=hid_of hres;clear hres))
   all_goals
    go_wp2_with fail
    go_end0
    refine⟨_,rfl,rfl,?_⟩
    rw[HCV.out]
    exact HRES.out
end Go.Proofs.YtfanaanofjhlkaaGreatDoor
