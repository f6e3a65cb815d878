import Derived.Test.YtfanaanofjhlkaaGreatDoorFine4
set_option maxHeartbeats 16000000
set_option maxRecDepth 100000
namespace Go.Proofs.YtfanaanofjhlkaaGreatDoor
open Go Go.RowKit Tryz
theorem aBo(i:Int)(w:World):Calls prog 78 #[.pointer none,.int .i64 i] w fun e w'=>e= .returned (.int .i64 1)/\w'=w:=by
 go_enter func78,ntmps78
 go_wp2_with (go_at_call 134;refine(sM _ _).mono ?_;rintro e w1 ⟨rfl,hq⟩;obtain rfl:=hq.symm)
 go_ret;exact⟨rfl,rfl⟩
theorem aBj(F:Nat->Prop)(B:Nat)(s:aE)(i:Int)(w:World)(hr:dW F w B s)(h1:¬eP s i=0) :
  Calls prog 78 #[.pointer (some ⟨B,0,none⟩),.int .i64 i] w (dE F w B (eB s i)):=by
 have HE:Hid (Calls prog 134 #[.pointer (some ⟨B,0,none⟩),.int .i64 i] w fun e w'=>e= .returned (.int .i64 (eP s i))/\w=w'):=oQ F B s i w hr;have HR:=aC hr;have HS:Hid (eB s i=(s,eP s i)):=by show _=_;simp[eB,h1]
 obtain⟨e1,he1⟩:∃e1,eP s i=e1:=⟨_,rfl⟩;rw[he1]at HE h1 HS;have hb:(e1==0)=false:=by rw[g_];exact h1
 clear he1 h1 hr;go_enter func78,ntmps78
 go_wp2_with (go_at_call 134;refine HE.out.mono ?_;rintro e w1 ⟨rfl,rfl⟩)
 go_ret;rw[HS.out];exact dE.same HR.out _
theorem uA{s:aE}{i j:Nat}{ls:List aO}{l:aO}(hls:s.links[i]?= some ls)(hl:ls[j]?= some l):aF s i j=l:=by simp[aF,hls,hl]
theorem oY{s:aE}{i j:Nat}{ls:List aO}(hls:s.links[i]?= some ls)(l:aO):aZ s i j l={s with links:=s.links.set i (ls.set j l)}:=by simp[aZ,hls]
theorem aBe(F:Nat->Prop)(B:Nat)(s:aE)(k:Nat)(w:World)(hr:dW F w B s)(hs:cX s)(h1:eP s (k:Int)=0)(m:aI)(hm:s.way[k]?= some m)(hk:m.kind=0)(h0:0<=m.src/\m.src < s.workers)(h2:0<=m.dst/\m.dst < s.workers) :
  Calls prog 78 #[.pointer (some ⟨B,0,none⟩),.int .i64 (k:Int)] w (dE F w B (eB s (k:Int))):=by
 have HE:Hid (Calls prog 134 #[.pointer (some ⟨B,0,none⟩),.int .i64 (k:Int)] w fun e w'=>e= .returned (.int .i64 0)/\w=w'):=by have h9:=oQ F B s k w hr;rw[h1]at h9;exact h9
 obtain⟨part,hF,hat⟩:=hr;obtain⟨kv,wv,lv,yv,vv,av,ps,rows,h⟩:=hat.opened;obtain⟨j,xj,hj,hxj,hj5⟩:=hs.worker h0.1 h0.2;obtain⟨i,xi,hi,hxi,hi5⟩:=hs.worker h2.1 h2.2;obtain⟨ls,l,hls,hl⟩:=hs.link (c_.1 hxi).1 (c_.1 hxj).1;obtain⟨s1,hs1⟩:∃s1,{s with way:=s.way.take k++s.way.drop (k+1)}=s1:=⟨_,rfl⟩;have HO:Hid (Calls prog 135 #[.pointer (some ⟨B,0,none⟩),.int .i64 (k:Int)] w _):=uD h (by have:=hs.way;omega) k m hm;rw[hs1]at HO;have hls1:s1.links[i]?= some ls:=by rw[<-hs1];exact hls
 have HS:Hid (eB s k=(if l.known < m.no then{s1 with links:=s1.links.set i (ls.set j {l with known:=m.no})}else s1,0)):=by
  show _=_;simp only[eB,h1,ne_eq,not_true_eq_false,if_false,Int.toNat_natCast,hm,Option.getD_some,hk,if_true,hs1,hi,hj,uA hls1 hl,oY hls1]
 have h9:∀l∈s1.links,l.length<=9:=fun l hl=>by
  rw[<-hs1]at hl;have:=hs.lrow l hl;have:=hs.len;have:=hs.five;omega
 have h89:s1.W.length<=89:=by rw[<-hs1];show s.W.length<=89;have:=hs.len;have:=hs.five;omega
 have HF:=aC hF;have HLS:=aC hls1;have HI:=aC hi;have HJ:=aC hj;have HK:=aC hk;clear h hat hF h1 hs1 hs hls hi hj hk h0 h2 hm;go_enter func78,ntmps78
 go_upto_region 5 with(first
  |(go_at_call 134;refine HE.out.mono ?_;rintro e w1 ⟨rfl,rfl⟩)
  |(go_at_call 135;refine HO.out.mono ?_;rintro e w2 ⟨rfl,part2,yv2,h2,hm2⟩))
 obtain⟨Z,hZ⟩:∃Z,w2.alloc (Obj.cells (aG m) 124)=Z:=⟨_,rfl⟩;have hbZ:Below w2.heap.size w2 Z:=by rw[<-hZ];exact(e_ _ _).alloc (a_ _) _
 have bM:aD Z w2.heap.size 124 (aG m):=by rw[<-hZ];exact aD.new w2 _ _
 rw[hZ];obtain⟨h3,hm3⟩:=h2.later hbZ;have HM3:=aC (hm2.trans hm3);obtain⟨r,q,gl,lc,gr,rc,hr,hq,hlv,hr1,hgl,hgr,cl,cr,hir,hjr⟩:=h3.ptrL HLS.out hl;subst hlv;obtain⟨av',kv',hqb,hqp,har,hkr⟩:=(h3.lat i r ls hr HLS.out).2.2 j q l hq hl;have b7:Z.cell? ⟨B,7,none⟩=some (.slice (some ⟨gl,0,none⟩) rows.length lc):=h3.box.cell (o:=7) rfl;have m0:Z.cell? ⟨w2.heap.size,0,none⟩=some (.int .i64 (j:Int)):=by rw[<-HJ.out];exact bM.cell (o:=0) rfl
 have m1:Z.cell? ⟨w2.heap.size,1,none⟩=some (.int .i64 (i:Int)):=by rw[<-HI.out];exact bM.cell (o:=1) rfl
 have m2:Z.cell? ⟨w2.heap.size,2,none⟩=some (.int .i64 m.no):=bM.cell (o:=2) rfl;have m3:Z.cell? ⟨w2.heap.size,3,none⟩=some (.int .i64 0):=by rw[<-HK.out];exact bM.cell (o:=3) rfl
 have q1:Z.cell? ⟨q,1,none⟩=some (.int .i64 l.known):=hqb.cell (o:=1) rfl;have f1:=hqb.frozen 1;have i1:(0:Int)<=(i:Int):=by omega
 have i2:(i:Int) < (rows.length:Int):=by omega
 have j1:(0:Int)<=(j:Int):=by omega
 have j2:(j:Int) < (r.2.length:Int):=by omega
 have HH3:=aC h3;have HQB:=aC hqb;have HAR:=aC har;have HKR:=aC hkr;clear hZ hbZ bM h2 hm2 h3 hm3 hqb har hkr
 go_upto_region 6 with fail
 go_quiet (fail)
 rename Nat=>n0
 go_upto_region 7 with fail
 by_cases hlt:l.known < m.no
 ·rw[if_pos hlt]at HS
  go_quiet (fail)
  go_wp2_with fail
  go_ret;have kS:aB (·= q) Z ((Z.drewN (n0+nq)).setCell ⟨q,1,none⟩ (.int .i64 m.no)):=((aB.refl (·= q) Z).drewN _).setCell (.inl (by rfl)) _;obtain⟨h5,hm5⟩:=HH3.out.relink (x':={l with known:=m.no}) h9 h89 hr HLS.out hq (kS.mono (fun g _ e=>by rw[e];exact hqp)) ⟨av',kv',(HQB.out.drewN (n0+nq)).setAt 1 _,.inl ⟨hqp,HQB.out.lt⟩,⟨aP HAR.out.1 kS (fun g e h=>by subst h;exact bF HAR.out.1 HQB.out (by decide) e) (a_ _),fun g e=> .inl ⟨HAR.out.2 g e,(HAR.out.1.lt g e).2⟩⟩,⟨aP HKR.out.1 kS (fun g e h=>by subst h;exact bF HKR.out.1 HQB.out (by decide) e) (a_ _),fun g e=> .inl ⟨HKR.out.2 g e,(HKR.out.1.lt g e).2⟩⟩⟩;rw[HS.out];exact dE.of rfl h5 (HM3.out.trans hm5) HF.out
 ·rw[if_neg hlt]at HS
  go_quiet (fail)
  go_wp2_with fail
  go_ret;obtain⟨h5,hm5⟩:=HH3.out.later (gB (e_ _ Z) (n0+nq));rw[HS.out];exact dE.of rfl h5 (HM3.out.trans hm5) HF.out
end Go.Proofs.YtfanaanofjhlkaaGreatDoor
