import Derived.Test.YtfanaanofjhlkaaGreatDoorRefAck
import Derived.Deep.LoopGhost
set_option maxHeartbeats 16000000
set_option maxRecDepth 100000
namespace Go.Proofs.YtfanaanofjhlkaaGreatDoor
open Go Go.RowKit Tryz
theorem vV(l:List Int)(u:Nat)(y n:Int)(hy:l[u]?= some y):(l.take (u+1)).any (·== n)=((l.take u).any (·== n)||y==n):=by
 rw[List.take_add_one,hy,List.any_append];simp
theorem aMp:(prog.info? 3).map (fun i=>(i.zero,i.size,i.bytes))=some (some (.int .i64 0),1,8):=by kernel_rfl
theorem aKv{s:aE}{i j:Nat}{ls:List aO}{l:aO}(hls:s.links[i]?= some ls)(hl:ls[j]?= some l):{s with links:=s.links.set i (ls.set j l)}=s:=by
 obtain⟨h1,rfl⟩:=c_.1 hls;obtain⟨h2,rfl⟩:=c_.1 hl;simp
theorem yM{X:Nat->Prop}{w:World}{kv:Value}{l:List Int}(h:cO X 3 1 nU w kv l){u:Nat}{y:Int}(hu:l[u]?= some y):∃gk kc,kv= .slice (some ⟨gk,0,none⟩) l.length kc/\gk < w.heap.size/\w.cell? ⟨gk,u,none⟩=some (.int .i64 y):=by
 obtain⟨gk,kc,hf,-,hgl⟩:=World.ownsRow.form h.1 (by have:=(c_.1 hu).1;omega);subst hf;refine⟨gk,kc,rfl,hgl,?_⟩;have h9:=h.1.cells (g:=gk) rfl u (.int .i64 y) (by have:=dZ (sz:=1) (enc:=nU) (fun _=>rfl) l u y 0 _ hu rfl;rw[Nat.mul_one,Nat.add_zero]at this;exact this);rwa [dP]at h9
theorem aAv(F:Nat->Prop)(B N:Nat)(s:aE)(k:Nat)(w:World)(hr:dW F w B s)(hs:cX s)(hN:dS N s)(hN':N<=90000000)(h1:eP s (k:Int)=0)(m:aI)(hm:s.way[k]?= some m)(hk:m.kind≠0)(h0:0<=m.src/\m.src < s.workers)(h2:0<=m.dst/\m.dst < s.workers)
  (hok:∀i j s1,m.src=(i:Nat)->m.dst=(j:Nat)->s1={s with way:=s.way.take k++s.way.drop (k+1)}->nW ((aF s1 i j).all.length+1) (aZ s1 i j (bI (aF s1 i j) m.no)) i j) :
  Calls prog 78 #[.pointer (some ⟨B,0,none⟩),.int .i64 (k:Int)] w (dE F w B (eB s (k:Int))):=by
 have HE:Hid (Calls prog 134 #[.pointer (some ⟨B,0,none⟩),.int .i64 (k:Int)] w fun e w'=>e= .returned (.int .i64 0)/\w=w'):=by have h9:=oQ F B s k w hr;rw[h1]at h9;exact h9
 obtain⟨part,hF,hat⟩:=hr;obtain⟨kv,wv,lv,yv,vv,av,ps,rows,h⟩:=hat.opened;obtain⟨i,xi,hi,hxi,hi5⟩:=hs.worker h0.1 h0.2;obtain⟨j,xj,hj,hxj,hj5⟩:=hs.worker h2.1 h2.2;obtain⟨ls,l,hls,hl⟩:=hs.link (c_.1 hxi).1 (c_.1 hxj).1;obtain⟨s1,hs1⟩:∃s1,{s with way:=s.way.take k++s.way.drop (k+1)}=s1:=⟨_,rfl⟩;have HO:Hid (Calls prog 135 #[.pointer (some ⟨B,0,none⟩),.int .i64 (k:Int)] w _):=uD h (by have:=hs.way;omega) k m hm;rw[hs1]at HO;have hls1:s1.links[i]?= some ls:=by rw[<-hs1];exact hls
 have hlo:=uA hls1 hl;obtain⟨S3,hS3⟩:∃S3,fQ (l.all.length+1) {s1 with links:=s1.links.set i (ls.set j (bI l m.no))} i j=S3:=⟨_,rfl⟩;have HS:Hid (eB s k=(cB S3 {aH with src:=(j:Int),dst:=(i:Int),kind:=0,no:=(aF S3 i j).came},0)):=by
  show _=_;simp only[eB,h1,ne_eq,not_true_eq_false,if_false,Int.toNat_natCast,hm,Option.getD_some,hk,hs1,hi,hj,hlo,oY hls1,hS3]
 have HOK:Hid (nW (l.all.length+1) {s1 with links:=s1.links.set i (ls.set j (bI l m.no))} i j):=by
  have h9:=hok i j s1 hi hj hs1.symm;rw[hlo,oY hls1]at h9;exact h9
 have h9:∀l∈s1.links,l.length<=9:=fun l hl=>by
  rw[<-hs1]at hl;have:=hs.lrow l hl;have:=hs.len;have:=hs.five;omega
 have h89:s1.W.length<=89:=by rw[<-hs1];show s.W.length<=89;have:=hs.len;have:=hs.five;omega
 have hlc:=hN.came ls (d_ hls) l (d_ hl);have hlk:=hN.kept ls (d_ hls) l (d_ hl);have HF:=aC hF;have HLS:=aC hls1;have HI:=aC hi;have HJ:=aC hj;have HS3:=aC hS3;have hkb:(m.kind==0)=false:=by rw[g_];exact hk
 clear h hat hF h1 hs1 hs hls hi hj hk h0 h2 hm hok hN hS3 hlo;go_enter func78,ntmps78
 go_upto_region 5 with(first
  |(go_at_call 134;refine HE.out.mono ?_;rintro e w1 ⟨rfl,rfl⟩)
  |(go_at_call 135;refine HO.out.mono ?_;rintro e w2 ⟨rfl,part2,yv2,h2,hm2⟩))
 obtain⟨Z,hZ⟩:∃Z,w2.alloc (Obj.cells (aG m) 124)=Z:=⟨_,rfl⟩;have hbZ:Below w2.heap.size w2 Z:=by rw[<-hZ];exact(e_ _ _).alloc (a_ _) _
 have bM:aD Z w2.heap.size 124 (aG m):=by rw[<-hZ];exact aD.new w2 _ _
 rw[hZ];obtain⟨h3,hm3⟩:=h2.later hbZ;have HM3:=aC (hm2.trans hm3);have hpm:ext w2 part2 0 w2.heap.size=0:=gF (a_ _);generalize ext w2 part2 0=part3 at h3 hm3 HM3 hpm;obtain⟨bm,hbm⟩:∃bm,w2.heap.size=bm:=⟨_,rfl⟩;rw[hbm]at bM hpm;rw[hbm];obtain⟨r,q,gl,lc,gr,rc,hr,hq,hlv,hr1,hgl,hgr,cl,cr,hir,hjr⟩:=h3.ptrL HLS.out hl;subst hlv;obtain⟨av',kv',hqb,hqp,har,hkr⟩:=(h3.lat i r ls hr HLS.out).2.2 j q l hq hl;obtain⟨ka,kc,hkf⟩:=bG hkr.1;subst hkf;have b7:Z.cell? ⟨B,7,none⟩=some (.slice (some ⟨gl,0,none⟩) rows.length lc):=h3.box.cell (o:=7) rfl;have m0:Z.cell? ⟨bm,0,none⟩=some (.int .i64 (i:Int)):=by rw[<-HI.out];exact bM.cell (o:=0) rfl
 have m1:Z.cell? ⟨bm,1,none⟩=some (.int .i64 (j:Int)):=by rw[<-HJ.out];exact bM.cell (o:=1) rfl
 have m3:Z.cell? ⟨bm,3,none⟩=some (.int .i64 m.kind):=bM.cell (o:=3) rfl;have i1:(0:Int)<=(i:Int):=by omega
 have i2:(i:Int) < (rows.length:Int):=by omega
 have j1:(0:Int)<=(j:Int):=by omega
 have j2:(j:Int) < (r.2.length:Int):=by omega
 have HH3:=aC h3;have HQB:=aC hqb;have HAR:=aC har;have HKR:=aC hkr;have HBM:=aC bM;clear hZ hbZ bM h2 hm2 h3 hm3 hqb har hkr
 go_upto_region 10 with fail
 go_quiet (fail)
 have HZ1:Hid (Below Z.heap.size Z (Z.drewN nq)):=gB (e_ _ Z) nq
 go_wp2_with fail
 go_loopw [9,10] (fun kf iv wr=>∃u:Nat,iv= .int .i64 (u:Int)/\u<=l.kept.length/\kf= .bool ((l.kept.take u).any (·== m.no))/\Below Z.heap.size Z wr) (fun _ iv _=>l.kept.length - (intOf iv).toNat)
 case atStart=>exact⟨0,rfl,Nat.zero_le _,by simp,HZ1.out⟩
 case round=>
  obtain⟨u,rfl,hu,rfl,hbr⟩:=hrel
  rename World=>wr
  have q3:wr.cell? ⟨q,3,none⟩=some (.slice ka l.kept.length kc):=(HQB.out.below hbr HQB.out.lt).cell (o:=3) rfl;have HBR:=aC hbr;by_cases hlt:u < l.kept.length
  ·obtain⟨y,hy⟩:∃y,l.kept[u]?= some y:=⟨_,b_ hlt⟩
   obtain⟨gk,kc',hkf,hgk,cy⟩:=yM HKR.out hy;cases hkf;have cy':=(hbr.cell (p:=⟨gk,u,none⟩) hgk).trans cy;have m2:wr.cell? ⟨bm,2,none⟩=some (.int .i64 m.no):=(HBM.out.below hbr HBM.out.lt).cell (o:=2) rfl;have HAT:=aC (vV l.kept u y m.no hy);have k1:(u:Int) < (l.kept.length:Int):=by omega
   have k2:(0:Int)<=(u:Int):=by omega
   clear hbr cy
   go_upto_region 15 with fail
   go_quiet (fail)
   by_cases hyn:y=m.no
   ·have hyb:(y==m.no)=true:=by rw[beq_iff_eq];exact hyn
    rw[hyb]at HAT;clear hyn
    go_wp2_with fail
    go_roundw
    case rel=>exact⟨u+1,by go_num,by omega,by rw[HAT.out];simp,HBR.out.trans (gB (e_ _ _) _ |>.mono HBR.out.size)⟩
    case measure=>simp[intOf];omega
   ·have hyb:(y==m.no)=false:=by rw[g_];exact hyn
    rw[hyb]at HAT;clear hyn
    go_wp2_with fail
    go_roundw
    case rel=>exact⟨u+1,by go_num,by omega,by rw[HAT.out];simp,HBR.out.trans (gB (e_ _ _) _ |>.mono HBR.out.size)⟩
    case measure=>simp[intOf];omega
  ·obtain⟨kb,hkb'⟩:∃kb,l.kept.any (·== m.no)=kb:=⟨_,rfl⟩
   have hue:(l.kept.take u).any (·== m.no)=kb:=by rw[List.take_of_length_le (by omega)];exact hkb'
   have HKB:=aC hkb';have k1:¬(u:Int) < (l.kept.length:Int):=by omega
   have q2:wr.cell? ⟨q,2,none⟩=some (.int .i64 l.came):=(HQB.out.below hbr HQB.out.lt).cell (o:=2) rfl;have m2:wr.cell? ⟨bm,2,none⟩=some (.int .i64 m.no):=(HBM.out.below hbr HBM.out.lt).cell (o:=2) rfl;have a1:IntKind.i64.wrap (l.came+4)=l.came+4:=IntWalk.i64_in _ (by omega);rw[hue];clear hue hkb' hbr
   go_upto_region 17 with fail
   go_cut [100] (fun b wx=>b= .bool (decide (l.came < m.no/\m.no<=l.came+4/\kb=false))/\Below Z.heap.size Z wx)
   case first=>
    by_cases c1:l.came < m.no
    ·by_cases c2:m.no<=l.came+4
     ·cases kb with
      |false=>
       go_quiet (fail)
       go_wp2_with fail
       go_meet
       case rel=>exact⟨by simp[c1,c2],HBR.out.trans (gB (e_ _ _) _ |>.mono HBR.out.size)⟩
      |true=>
       go_quiet (fail)
       go_wp2_with fail
       go_meet
       case rel=>exact⟨by simp,HBR.out.trans (gB (e_ _ _) _ |>.mono HBR.out.size)⟩
     ·have d2:decide (m.no<=l.came+4)=false:=by simpa using c2
      go_quiet (fail)
      go_wp2_with fail
      go_meet
      case rel=>exact⟨by rw[decide_eq_false (fun h=>by omega)],HBR.out.trans (gB (e_ _ _) _ |>.mono HBR.out.size)⟩
    ·have d1:decide (l.came < m.no)=false:=by simpa using c1
     go_quiet (fail)
     go_wp2_with fail
     go_meet
     case rel=>exact⟨by rw[decide_eq_false (fun h=>by omega)],HBR.out.trans (gB (e_ _ _) _ |>.mono HBR.out.size)⟩
   case rest=>
    obtain⟨rfl,hb4⟩:=hcut
    rename World=>w4
    obtain⟨h4,hm4⟩:=HH3.out.later hb4;have HB4:=aC hb4;have hpm4:ext Z part3 0 bm=0:=(aY HBM.out.lt).trans hpm;have HM4:=aC (HM3.out.trans hm4);have HH4:=aC h4;have HBM4:=aC (HBM.out.below hb4 HBM.out.lt);have HQB4:=aC (HQB.out.below hb4 HQB.out.lt);have hqp4:ext Z part3 0 q=100+10*i+j:=(aY HQB.out.lt).trans hqp;have HKR4:Hid (cO (fun b=>ext Z part3 0 b=100+10*i+j) 3 1 nU w4 (.slice ka l.kept.length kc) l.kept):=⟨mK HKR.out.1 hb4,fun g e=>(aY (HKR.out.1.lt g e).2).trans (HKR.out.2 g e)⟩;have HAR4:Hid (cO (fun b=>ext Z part3 0 b=100+10*i+j) 124 15 aK w4 av' l.all):=⟨mK HAR.out.1 hb4,fun g e=>(aY (HAR.out.1.lt g e).2).trans (HAR.out.2 g e)⟩;generalize ext Z part3 0=part4 at h4 hm4 hpm4 HM4 HH4 hqp4 HKR4 HAR4;clear h4 hm4 hb4 q2 q3 m2 b7 cl cr m0 m1 m3;by_cases hc:l.came < m.no/\m.no<=l.came+4/\kb=false
    case' pos=>
     have HKE:Hid (bI l m.no={l with kept:=l.kept++ [m.no]}):=by show _=_;unfold bI;rw[HKB.out,if_pos hc]
     have hcd:decide (l.came < m.no/\m.no<=l.came+4/\kb=false)=true:=by simpa using hc
     rw[hcd];clear hcd hc;obtain⟨iI,hiI,hzI0,hzI1,hzI2⟩:=info_parts aMp;have p3:=HQB4.out.cell (o:=3) rfl;have e3:=HQB4.out.frozen 3;have n2:=HBM4.out.cell (o:=2) rfl;have hqz:q < w4.heap.size:=HQB4.out.lt;have HNE:Hid ((Value.slice ka l.kept.length kc).ownBlock≠some q):=bF HKR4.out.1 HQB4.out (by decide)
     go_upto_region 18 with fail
     go_cut [109] (fun _ wx=>∃part5,bE part5 wx B {s1 with links:=s1.links.set i (ls.set j (bI l m.no))} kv wv (.slice (some ⟨gl,0,none⟩) rows.length lc) yv2 vv av ps rows/\cI part part5 w wx/\aD wx bm 124 (aG m)/\part5 bm=0)
     case first=>
      go_region_law (refine step_append_lies _ (by rfl) _ _ _ (by rfl) 0 3 iI _ 1 8 underlying25 hiI hzI0 hzI1 hzI2 rfl (by omega) (.slice ka l.kept.length kc) l.kept.length (l.kept.flatMap nU) (by rfl) ((HKR4.out.1.alloc _).drew) ⟨w4.heap.size,0,none⟩ 1 1 (nU m.no) (by rfl) (by rfl) (World.news_of_block (cs:=#[.int .i64 m.no]) (t:=3) (fr:=(0,0)) (heap_alloc_new w4 _)) (by simp[nU,Value.oneCell']) (by omega) (by unfold maxLen;omega) (by omega) (by simp) (w4.heap.size+1) (by simp) ?_;intro g cp w5 hown5 hgrow hat hlt5;have hbx:aD w5 q 184 (pL av' (.slice ka l.kept.length kc) l):=(hgrow.block q (by simp;omega) (fun e=>HNE.out e.symm)).trans (HQB4.out.alloc _);have c0:=hbx.cell (o:=3) rfl;have e0:=hbx.frozen 3)
      all_goals
       go_wp2_with fail
       go_meet
       case rel=>
        have kG:aB (fun g=>(Value.slice ka l.kept.length kc).ownBlock=some g\/g=q) w4 w5:=((aB.alloc _ w4 _).drew).trans (aB.grown hgrow (fun r e=> .inl e));have kS:aB (·= q) w5 (w5.setCell ⟨q,3,none⟩ (.slice (some ⟨g,0,none⟩) (l.kept.length+1) cp)):=(aB.refl _ _).setCell (.inl (by rfl)) _;have kB:=kG.trans (kS.mono (fun g _ h=> .inr h));obtain⟨h5,hm5⟩:=HH4.out.relink (x':={l with kept:=l.kept++ [m.no]}) h9 h89 hr HLS.out hq (kB.mono (fun g _ h=>by
         rcases h with h|h
         ·exact HKR4.out.2 g h
         ·rw[h];exact hqp4)) ⟨av',_,hbx.setAt 3 _,.inl ⟨hqp4,hqz⟩,⟨aP HAR4.out.1 kB (fun g' e h=>by
         rcases h with h|h
         ·exact xP HAR4.out.1 HKR4.out.1 (by decide) e h
         ·subst h;exact bF HAR4.out.1 HQB4.out (by decide) e) (a_ _),fun g' e=> .inl ⟨HAR4.out.2 g' e,(HAR4.out.1.lt g' e).2⟩⟩,⟨by
         show World.ownsRow _ _ _ _ _ (l.kept++ [m.no]).length _;rw[List.flatMap_append,f_,List.length_singleton];simpa using aP hown5 kS (fun g' e h=>by subst h;exact bF hown5 hbx (by decide) e) (a_ _),fun g' e=>by
         obtain rfl:g=g':=by simpa[Value.ownBlock]using e
         rcases hat with h|h
         ·exact .inl ⟨HKR4.out.2 g h,(HKR4.out.1.lt g h).2⟩
         ·exact .inr (by omega)⟩⟩
        rw[HKE.out];exact⟨_,h5,HM4.out.trans hm5,HBM4.out.kept kB (fun h=>by
         rcases h with h|h
         ·exact bF HKR4.out.1 HBM4.out (by decide) h
         ·exact HBM4.out.ne HQB4.out (by decide) h),(aY HBM4.out.lt).trans hpm4⟩
     obtain⟨part5,h5,hm5,bm5,hp5⟩:=hcut
     rename World=>W5
     clear p3 e3 n2 hqz
    case' neg=>
     have HKE:Hid (bI l m.no=l):=by show _=_;unfold bI;rw[HKB.out,if_neg hc]
     have hcd:decide (l.came < m.no/\m.no<=l.came+4/\kb=false)=false:=by simpa using hc
     rw[hcd]
     go_upto_region 19 with fail
     have h5:bE part4 w4 B {s1 with links:=s1.links.set i (ls.set j (bI l m.no))} kv wv (.slice (some ⟨gl,0,none⟩) rows.length lc) yv2 vv av ps rows:=by
      rw[HKE.out,aKv HLS.out hl];exact HH4.out
     have hm5:=HM4.out;have bm5:=HBM4.out;have hp5:=hpm4;obtain⟨part5,hpe⟩:∃part5,part4=part5:=⟨_,rfl⟩;rw[hpe]at h5 hm5 hp5;obtain⟨W5,hwe⟩:∃W5,w4=W5:=⟨_,rfl⟩;rw[hwe]at h5 hm5 bm5;rw[hwe];clear hpe hwe hcd hc
    all_goals
     obtain⟨S2,hS2⟩:∃S2,{s1 with links:=s1.links.set i (ls.set j (bI l m.no))}=S2:=⟨_,rfl⟩;rw[hS2]at h5 HOK HS3;have H5:=aC h5;have HM5:=aC hm5;have HBM5:=aC bm5;clear hS2 h5 hm5 bm5 HH4 HQB4 HKR4 HAR4 HBM4 HM4 HB4 HKE
     go_wp2_with fail
     go_loopg [11] (l.all.length+3) (fun g ag wr=>∃(f:Nat) (b:Bool) (s':aE) (part':Nat->Nat) (yv' vv' av4:Value),ag= .bool b/\(b=true->nW f s' i j/\fQ f s' i j=S3/\f+1<=g)/\(b=false->s'=S3)/\bE part' wr B s' kv wv (.slice (some ⟨gl,0,none⟩) rows.length lc) yv' vv' av4 ps rows/\cI part part' w wr/\aD wr bm 124 (aG m)/\part' bm=0/\rG s' i j)
     case atStart=>exact⟨l.all.length+1,true,S2,part5,yv2,vv,av,rfl,fun _=>⟨HOK.out,HS3.out,by omega⟩,(fun h=>by cases h),H5.out,HM5.out,HBM5.out,hp5,HOK.out.1⟩
     case round=>
      obtain⟨f,b,s',part',yv',vv',av4,rfl,hbt,hbf,h6,hm6,bm6,hp6,hlf⟩:=hrel;have hil:i < s'.links.length:=by have:=h6.llen;omega
      obtain⟨ls',hls'⟩:∃ls',s'.links[i]?= some ls':=⟨_,b_ hil⟩;have hjl:j < ls'.length:=by have:=(h6.lat i r ls' hr hls').2.1;omega
      obtain⟨l',hl'⟩:∃l',ls'[j]?= some l':=⟨_,b_ hjl⟩;have hlo:=uA hls' hl';obtain⟨av5,kv5,hqb',hqp',har',hkr'⟩:=(h6.lat i r ls' hr hls').2.2 j q l' hq hl';obtain⟨ka',kc',hkf'⟩:=bG hkr'.1;subst hkf';have hfew:=hlf.few;have hcam:=hlf.came;rw[hlo]at hfew hcam;have q2:wr.cell? ⟨q,2,none⟩=some (.int .i64 l'.came):=hqb'.cell (o:=2) rfl;have q3:wr.cell? ⟨q,3,none⟩=some (.slice ka' l'.kept.length kc'):=hqb'.cell (o:=3) rfl;have HH6:=aC h6;have HM6:=aC hm6;have HBM6:=aC bm6;have HLF:=aC hlf;have HBT:=aC hbt;have HBF:=aC hbf;have HLO:=aC hlo;have HLS':=aC hls';have HQB6:=aC hqb';have HAR6:=aC har';have HKR6:=aC hkr';clear h6 hm6 bm6 hlf hbt hbf hlo hls' hqb' har' hkr';cases b with
      |true=>
       obtain⟨hcok,hcs,hfg⟩:=HBT.out rfl;have HCOK:=aC hcok;have HCS:=aC hcs;have a1:IntKind.i64.wrap (l'.came+1)=l'.came+1:=IntWalk.i64_in _ (by omega);clear hcok hcs HBT HBF
       go_wp2_with fail
       go_loopw [11,12] (fun ag iv wy=>∃u:Nat,iv= .int .i64 (u:Int)/\u<=l'.kept.length/\ag= .bool ((l'.kept.take u).any (·== l'.came+1))/\Below wr.heap.size wr wy) (fun _ iv _=>l'.kept.length - (intOf iv).toNat)
       case atStart=>exact⟨0,rfl,Nat.zero_le _,by simp,e_ _ _⟩
       case round=>
        obtain⟨u',rfl,hu',rfl,hby⟩:=hrel
        rename World=>wy
        have p3:wy.cell? ⟨q,3,none⟩=some (.slice ka' l'.kept.length kc'):=(HQB6.out.below hby HQB6.out.lt).cell (o:=3) rfl;have p2:wy.cell? ⟨q,2,none⟩=some (.int .i64 l'.came):=(HQB6.out.below hby HQB6.out.lt).cell (o:=2) rfl;have HBY:=aC hby;by_cases hlt':u' < l'.kept.length
        ·obtain⟨y,hy⟩:∃y,l'.kept[u']?= some y:=⟨_,b_ hlt'⟩
         obtain⟨gk,kc9,hkf,hgk,cy⟩:=yM HKR6.out hy;cases hkf;have cy':=(hby.cell (p:=⟨gk,u',none⟩) hgk).trans cy;have HAT:=aC (vV l'.kept u' y (l'.came+1) hy);have k1':(u':Int) < (l'.kept.length:Int):=by omega
         have k2':(0:Int)<=(u':Int):=by omega
         clear hby cy
         go_upto_region 25 with fail
         go_quiet (fail)
         by_cases hyn:y=l'.came+1
         ·have hyb:(y==l'.came+1)=true:=by rw[beq_iff_eq];exact hyn
          rw[hyb]at HAT;clear hyn
          go_wp2_with fail
          go_roundw
          case rel=>exact⟨u'+1,by go_num,by omega,by rw[HAT.out];simp,HBY.out.trans (gB (e_ _ _) _ |>.mono HBY.out.size)⟩
          case measure=>simp[intOf];omega
         ·have hyb:(y==l'.came+1)=false:=by rw[g_];exact hyn
          rw[hyb]at HAT;clear hyn
          go_wp2_with fail
          go_roundw
          case rel=>exact⟨u'+1,by go_num,by omega,by rw[HAT.out];simp,HBY.out.trans (gB (e_ _ _) _ |>.mono HBY.out.size)⟩
          case measure=>simp[intOf];omega
        ·have hnb:(l'.kept.take u').any (·== l'.came+1)=gM l':=by rw[List.take_of_length_le (by omega)];rfl
         have k1':¬(u':Int) < (l'.kept.length:Int):=by omega
         obtain⟨h7,hm7⟩:=HH6.out.later hby;have HH7:=aC h7;have HM7:=aC (HM6.out.trans hm7);have hp7:ext wr part' 0 bm=0:=(aY HBM6.out.lt).trans hp6;have HBM7:=aC (HBM6.out.below hby HBM6.out.lt);rw[hnb];clear hnb hby h7 hm7;cases hn:gM l' with
         |false=>
          have HSE:Hid (s'=S3):=by
           show s'=S3;rw[<-HCS.out];cases f with
           |zero=>rfl
           |succ f=>rw[fQ,HLO.out,hn];rfl
          clear hn
          go_wp2_with fail
          go_roundg 0
          case rel=>exact⟨0,false,s',_,yv',vv',av4,rfl,(fun h=>by cases h),fun _=>HSE.out,HH7.out,HM7.out,HBM7.out,hp7,HLF.out⟩
          all_goals omega
         |true=>
          cases f with
          |zero=>
           exfalso;have h8:=HCOK.out.2;rw[HLO.out,hn]at h8;cases h8
          |succ f=>
           obtain⟨hidx,hrdy,hok'⟩:=HCOK.out.2 (by rw[HLO.out];exact hn);have hcs':fQ f (fU s' i j) i j=S3:=by
            have h8:=HCS.out;rw[fQ,HLO.out,hn]at h8;simpa using h8
           obtain⟨z,hz⟩:=Int.eq_ofNat_of_zero_le hcam.1;rw[HLO.out]at hidx;obtain⟨m9,hm9⟩:∃m9,l'.all[z]?= some m9:=⟨_,b_ (by omega)⟩;have hme:l'.all[l'.came.toNat]?.getD aH=m9:=by rw[hz];simp[hm9]
           rw[HLO.out,oY HLS'.out,hme]at hrdy;have hst:fU s' i j=aX {s' with links:=s'.links.set i (ls'.set j {l' with came:=l'.came+1})} m9:=by unfold fU;rw[HLO.out,oY HLS'.out,hme]
           obtain⟨av9,kv9,hqb9,hqp9,har9,hkr9⟩:=(HH7.out.lat i r ls' hr HLS'.out).2.2 j q l' hq hl';obtain⟨ga,ac9,haf,-,hga⟩:=World.ownsRow.form har9.1 (by omega);subst haf;have hcm:∀o v,(aG m9)[o]?= some v->wy.cell? ⟨ga,z*15+o,none⟩=some v:=fun o v ho=>by
            have h8:=har9.1.cells (g:=ga) rfl _ v (dZ (sz:=15) (enc:=aK) (fun _=>rfl) l'.all z m9 o v hm9 (by simpa[aK]using ho));rwa [dP]at h8
           obtain⟨W8,hW8⟩:∃W8,wy.setCell ⟨q,2,none⟩ (.int .i64 (l'.came+1))=W8:=⟨_,rfl⟩;have kS:aB (·= q) wy W8:=by rw[<-hW8];exact(aB.refl _ _).setCell (.inl (by rfl)) _
           have hqb8:aD W8 q 184 (pL (.slice (some ⟨ga,0,none⟩) l'.all.length ac9) kv9 {l' with came:=l'.came+1}):=by rw[<-hW8];exact hqb9.setAt 2 _
           have h99:∀l∈s'.links,l.length<=9:=fun l hl=>by have:=HLF.out.shape.lrow l hl;have:=HLF.out.shape.len;have:=HLF.out.shape.five;omega
           obtain⟨h8,hm8⟩:=HH7.out.relink (x':={l' with came:=l'.came+1}) h99 (by have:=HLF.out.shape.len;have:=HLF.out.shape.five;omega) hr HLS'.out hq (kS.mono (fun g _ e=>by rw[e];exact hqp9)) ⟨_,kv9,hqb8,.inl ⟨hqp9,hqb9.lt⟩,⟨aP har9.1 kS (fun g e h=>by subst h;exact bF har9.1 hqb9 (by decide) e) (a_ _),fun g e=> .inl ⟨har9.2 g e,(har9.1.lt g e).2⟩⟩,⟨aP hkr9.1 kS (fun g e h=>by subst h;exact bF hkr9.1 hqb9 (by decide) e) (a_ _),fun g e=> .inl ⟨hkr9.2 g e,(hkr9.1.lt g e).2⟩⟩⟩;have hbm8:aD W8 bm 124 (aG m):=HBM7.out.kept kS (HBM7.out.ne hqb9 (by decide));have hp8:ext wy (ext wr part' 0) (100+10*i+j) bm=0:=(aY HBM7.out.lt).trans hp7;have hgq:ga≠q:=fun e=>by
            obtain⟨cs8,hcs8⟩:=eO har9.1 (g:=ga) rfl;rw[e]at hcs8;exact bF har9.1 hqb9 (by decide) (by rw[<-e];rfl)
           replace hcm:∀o v,(aG m9)[o]?= some v->W8.cell? ⟨ga,z*15+o,none⟩=some v:=fun o v ho=>(kS.cell (p:=⟨ga,z*15+o,none⟩) hga (fun h=>hgq h)).trans (hcm o v ho)
           have q0:W8.cell? ⟨q,0,none⟩=some (.slice (some ⟨ga,0,none⟩) l'.all.length ac9):=hqb8.cell (o:=0) rfl;have q8:W8.cell? ⟨q,2,none⟩=some (.int .i64 ((z:Int)+1)):=by rw[<-hz];exact hqb8.cell (o:=2) rfl
           have y0:W8.cell? ⟨ga,z*15,none⟩=some (.int .i64 m9.src):=hcm 0 _ rfl;have y1:=hcm 1 _ rfl;have y2:=hcm 2 _ rfl;have y3:=hcm 3 _ rfl;have y4:=hcm 4 _ rfl;have y5:=hcm 5 _ rfl;have y6:=hcm 6 _ rfl;have y7:=hcm 7 _ rfl;have y8:=hcm 8 _ rfl;have y9:=hcm 9 _ rfl;have y10:=hcm 10 _ rfl;have y11:=hcm 11 _ rfl;have y12:=hcm 12 _ rfl;have y13:=hcm 13 _ rfl;have y14:=hcm 14 _ rfl;have z1:(0:Int)<=(z:Int):=by omega
           have z2:(z:Int) < (l'.all.length:Int):=by omega
           have z3:IntKind.i64.wrap (z:Int)=(z:Int):=IntWalk.i64_in _ (by omega);have z4:IntKind.i64.wrap ((z:Int)+1 - 1)=(z:Int):=by rw[IntWalk.i64_in _ (by omega)];omega
           have f2:=hqb9.frozen 2;have HCM:Hid (Calls prog 137 #[.pointer (some ⟨B,0,none⟩),.agg (aG m9)] W8.drew fun e w'=>e= .returned (.tuple #[])/\∃part9 yv9 vv9 av8,bE part9 w' B (fU s' i j) kv wv (.slice (some ⟨gl,0,none⟩) rows.length lc) yv9 vv9 av8 ps rows/\cI part part9 w w'/\aD w' bm 124 (aG m)/\part9 bm=0):=by
            obtain⟨hA,hmA⟩:=h8.later (Below.drew (e_ _ W8));refine(aEg m9 hA hrdy).mono ?_;rintro e w' ⟨rfl,part9,yv9,vv9,av8,hC,hmC⟩;have hpA:ext W8 (ext wy (ext wr part' 0) (100+10*i+j)) 0 bm=0:=(aY hbm8.lt).trans hp8;refine⟨rfl,part9,yv9,vv9,av8,by rw[hst];exact hC,((HM7.out.trans hm8).trans hmA).trans hmC,aD.kept (W:=W8.drew) hbm8 hmC.kept (by omega),?_⟩;by_cases hz0:part9 bm=0
            ·exact hz0
            ·exact absurd hpA (hmC.old bm hbm8.lt hz0)
           have HOK':=aC hok';have HCS':=aC hcs';have HWE:Hid (wy.setCell ⟨q,2,none⟩ (.int .i64 (l'.came+1))=W8):=hW8;clear hn hrdy hok' hcs' hst hme hz hqb9 har9 hkr9 hW8 kS hqb8 h8 hm8 hbm8 hcm hidx hm9 q2 q3
           go_upto_region 29 with fail
           rw[HWE.out];clear p2 p3 f2
           go_still_tail 12,(by kernel_rfl)
           go_wp2_with (go_at_call 137;refine HCM.out.mono ?_;rintro e w9 ⟨rfl,part9,yv9,vv9,av8,hC,hmC,hbC,hpC⟩)
           go_roundg (f+1)
           case measure=>omega
           case rel=>exact⟨f,true,fU s' i j,part9,yv9,vv9,av8,rfl,fun _=>⟨HOK'.out,HCS'.out,a_ _⟩,(fun h=>by cases h),hC,hmC,hbC,hpC,by
            cases f with
            |zero=>exact HOK'.out.1
            |succ f=>exact HOK'.out.1⟩
      |false=>
       have HSE:Hid (s'=S3):=HBF.out rfl;clear HBF HBT;have m0:wr.cell? ⟨bm,0,none⟩=some (.int .i64 (i:Int)):=by rw[<-HI.out];exact HBM6.out.cell (o:=0) rfl
       have m1:wr.cell? ⟨bm,1,none⟩=some (.int .i64 (j:Int)):=by rw[<-HJ.out];exact HBM6.out.cell (o:=1) rfl
       have HP:Hid (Calls prog 136 #[.pointer (some ⟨B,0,none⟩),.agg (aG {aH with src:=(j:Int),dst:=(i:Int),kind:=0,no:=l'.came})] wr.drew fun e w'=>e= .returned (.tuple #[])/\∃part8 yv8,bE part8 w' B (cB s' {aH with src:=(j:Int),dst:=(i:Int),kind:=0,no:=l'.came}) kv wv (.slice (some ⟨gl,0,none⟩) rows.length lc) yv8 vv' av4 ps rows/\cI part part8 w w'):=by
        obtain⟨h8,hm8⟩:=HH6.out.later (Below.drew (e_ _ wr));refine(pN {aH with src:=(j:Int),dst:=(i:Int),kind:=0,no:=l'.came} h8 (by have:=HLF.out.shape.way;omega)).mono ?_;rintro e w' ⟨rfl,part8,yv8,h9',hm9⟩;exact⟨rfl,part8,yv8,h9',(HM6.out.trans hm8).trans hm9⟩
       go_upto_region 30 with fail
       go_still_tail 10,(by kernel_rfl)
       go_wp2_with (go_at_call 136;refine HP.out.mono ?_;rintro e w8 ⟨rfl,part8,yv8,h8,hm8⟩)
       go_ret;rw[HS.out];refine dE.of ?_ h8 hm8 HF.out;rw[<-HSE.out,HLO.out]
end Go.Proofs.YtfanaanofjhlkaaGreatDoor
