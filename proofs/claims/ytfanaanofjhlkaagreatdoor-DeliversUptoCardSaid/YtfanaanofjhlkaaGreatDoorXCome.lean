import Derived.Test.YtfanaanofjhlkaaGreatDoorXRound
import Derived.Test.YtfanaanofjhlkaaGreatDoorCalm
set_option maxHeartbeats 16000000
set_option maxRecDepth 100000
namespace Go.Proofs.YtfanaanofjhlkaaGreatDoor
open Go Go.RowKit Go.Maps Go.WideMaps Tryz
theorem aQ.xlen{part:Nat->Nat}{W:World}{B M n c:Nat}{a:Option Addr}{s:aE}{kv yv:Value}{xs:List XW}(h:aQ part W B s kv (.slice a n c) yv M xs):xs.length=n:=by
 obtain⟨a',c',e⟩:=bG h.wrow.1;cases e;rfl
theorem aQ.tcell{part:Nat->Nat}{W:World}{B M n c gw j:Nat}{s:aE}{kv yv:Value}{xs:List XW}{x:XW}(h:aQ part W B s kv (.slice (some ⟨gw,0,none⟩) n c) yv M xs)(hx:xs[j]?= some x):W.cell? ⟨gw,j*8,none⟩=some (.pointer (some ⟨x.T,0,none⟩)):=by
 have hl:=h.xlen;have h1:=h.wrow.1.cells (g:=gw) rfl (j*8+0) _ (dZ (sz:=8) (enc:=dB) (fun _=>rfl) xs j x 0 _ hx rfl);rwa [dP]at h1
theorem aQ.acell{part:Nat->Nat}{W:World}{B M n c gw j:Nat}{s:aE}{kv yv:Value}{xs:List XW}{x:XW}(h:aQ part W B s kv (.slice (some ⟨gw,0,none⟩) n c) yv M xs)(hx:xs[j]?= some x):W.cell? ⟨gw,j*8+1,none⟩=some (.bool x.asked)/\W.frozen? ⟨gw,j*8+1,none⟩=false:=by
 have hl:=h.xlen;have h1:=h.wrow.1.cells (g:=gw) rfl (j*8+1) _ (dZ (sz:=8) (enc:=dB) (fun _=>rfl) xs j x 1 _ hx rfl);obtain⟨cs,hcs⟩:=eO h.wrow.1 (g:=gw) rfl;have hb:aD W gw 119 cs:=hcs;exact⟨by rwa [dP]at h1,hb.frozen _⟩
theorem aKj{s:aE}{ms:List aI}{k:Nat}{m:aI}(h:ms[k]?= some m):(ms.take (k+1)).foldl aX s=aX ((ms.take k).foldl aX s) m:=by
 rw[List.take_add_one,h,List.foldl_append];rfl
theorem aMt{N i j:Nat}{s:aE}{m:aI}{y:cF}(hc:mC N s i j m)(hy:s.W[j]?= some y)(hk:m.kind=2):aX s m={s with W:=s.W.set j {y with came:=y.came+1,black:=true,asked:=false,tasks:=y.tasks++ [m.t]}}:=by
 unfold aX;simp only[hk,hc.dst,Int.toNat_natCast,hy,Option.getD_some];rfl
theorem aMz{N i j:Nat}{s:aE}{m:aI}{y:cF}(hc:mC N s i j m)(hy:s.W[j]?= some y)(hk:m.kind=3):aX s m={s with W:=s.W.set j {y with asked:=false}}:=by
 unfold aX;simp only[hk,hc.dst,Int.toNat_natCast,hy,Option.getD_some];rfl
theorem aMv{N i j:Nat}{s:aE}{m:aI}{y:cF}(hc:mC N s i j m)(hy:s.W[j]?= some y)(hk:m.kind=4):aX s m={s with W:=s.W.set j {y with came:=y.came+1,black:=true},values:=cP s.values m.v}:=by
 unfold aX;simp only[hk,hc.dst,Int.toNat_natCast,hy,Option.getD_some];rfl
theorem aMr{N i j:Nat}{s:aE}{m:aI}{y:cF}(hc:mC N s i j m)(hy:s.W[j]?= some y)(hk:m.kind=5):aX s m={s with W:=s.W.set j {y with has:=true,token:=m},around:=s.around||m.dst==0}:=by
 unfold aX;simp only[hk,hc.dst,Int.toNat_natCast,hy,Option.getD_some];rfl
theorem aMq{N i j:Nat}{s:aE}{m:aI}{y:cF}(hc:mC N s i j m)(hy:s.W[j]?= some y)(hk:m.kind=6):aX s m=aR s {aH with src:=(j:Int),dst:=0,kind:=7,round:=m.round,sent:=y.sent,came:=y.came,idle:=decide (y.tasks.length=0)}:=by
 have e:y.tasks.isEmpty=decide (y.tasks.length=0):=by cases y.tasks<;>simp
 unfold aX;simp only[hk,hc.dst,Int.toNat_natCast,hy,Option.getD_some,e];rfl
theorem aNa{s:aE}{m:aI}(hk:m.kind=7):aX s m=dA s m.sent m.came m.idle:=by
 unfold aX;simp[hk]
theorem aIf{P:Program}{ops:Array Oper}{o:Oper}{a:Act}{w:World}{K:Act->World->Prop}{Q:Exit->Act->World->Prop}{E:Prop}{R:Value->World->Prop}
  (hg:o.guard=none) (f:Nat) (x y z u:Operand) (tys:Array TypeId) (hop:o.op=Op.call {callee:=Callee.value (Operand.func f),args:=#[x,y,z,u],argTypes:=tys}) (v1 v2 v3 v4:Value) (hx:a.eval x=v1) (hy:a.eval y=v2) (hz:a.eval z=v3) (hu:a.eval u=v4)
  (he:∀args w,(callFunc f args).run P w= .ok (.enter f args) w) (hc:Calls P f #[v1,v2,v3,v4] w fun e w'=>∃v,e= .returned v/\R v w') (hK:∀v w',R v w'->K (a.put o.dst v) w') :
  if Region.wanted o (yielded ops a.tmps)=true then Oper.wp P o a w K Q else E:=by
 have hw:Region.wanted o (yielded ops a.tmps)=true:=by simp[Region.wanted,hg]
 rw[if_pos hw];have hf:a.eval (Operand.func f)= .func (.func f) #[] #[]:=rfl;unfold Oper.wp execOp;simp only[hop,resolve,invoke,hf,Sem.run_bind,List.map_toArray,List.map_cons,List.map_nil,hx,hy,hz,hu];simp[Deferred.ofValue,he,go_sem];refine hc.mono ?_;rintro e w' ⟨v,rfl,hR⟩;exact hK v w' hR
theorem aJe(j:Nat)(t:aL)(b:Nat){part:Nat->Nat}{w:World}{B M gw n c:Nat}{s:aE}{kv yv:Value}{xs:List XW}{x:XW}{y:cF}(h:aQ part w B s kv (.slice (some ⟨gw,0,none⟩) n c) yv M xs)(hx:xs[j]?= some x)(hy:s.W[j]?= some y)(hf:y.tasks.length<=100000000)(hb:aD w b 62 #[.string t.id,.int .i64 t.kind,.int .i64 t.arg]) :
  Calls prog 201 #[.pointer (some ⟨x.T,0,none⟩),.slice (some ⟨b,0,none⟩) 1 1] w fun e w'=>∃v,e= .returned v/\(v= .tuple #[]/\∃part',aQ part' w' B {s with W:=s.W.set j {y with tasks:=y.tasks++ [t]}} kv (.slice (some ⟨gw,0,none⟩) n c) yv M xs/\bD part part' w w'):=by
 refine(aCm (fun b=>part b=10+j) x.T s.room y.tasks t b w (h.wat j x y hx hy).2 hf hb).mono ?_;rintro e w' ⟨v,rfl,rfl,h1,h2⟩;obtain⟨h3,hm3⟩:=h.retasks (l:=y.tasks++ [t]) hx hy h2 h1;exact⟨_,rfl,rfl,_,h3,hm3⟩
theorem aJx(v:ByteArray×Int)(b:Nat){part:Nat->Nat}{w:World}{B M:Nat}{s:aE}{kv wv yv:Value}{xs:List XW}(h:aQ part w B s kv wv yv M xs)(hv:s.values.length<=90000000)(hs:v.1.size<=12)(hwf:(Lit.int .i64 v.2).wf=true)(hb:aD w b 92 #[.string v.1,.int .i64 v.2]) :
  Calls prog 84 #[.map (some M),.slice (some ⟨b,0,none⟩) 1 1] w fun e w'=>∃u,e= .returned u/\(∃part',aQ part' w' B {s with values:=cP s.values v} kv wv yv M xs/\bD part part' w w'):=by
 obtain⟨D,hm,hpM,hDk⟩:=h.vals;have hDs:=hDk.size;refine(tX M b 0 D v.1 v.2 w hm (by omega) (by omega) hwf (hb.cell (o:=0) rfl) (hb.cell (o:=1) rfl) hb.lt).mono ?_;rintro e w' ⟨⟨u,rfl⟩,h1,h2⟩;have htidy:Tidy D:=World.ownsMap.tidy hm rJ;obtain⟨h8,hm8⟩:=h.revals (vs:=cP s.values v) h2 ⟨_,h1,hpM,hDk.put htidy v⟩;exact⟨u,rfl,_,h8,hm8⟩
theorem aMw(i j:Nat)(ms:List aI)(a:Option Addr)(c:Nat){part:Nat->Nat}{w:World}{B M N:Nat}{s:aE}{kv wv yv:Value}{xs:List XW}(h:aQ part w B s kv wv yv M xs)(hv:w.ownsRow 0 124 15 (.slice a ms.length c) ms.length (ms.flatMap aK))(hp:∀g,(Value.slice a ms.length c).ownBlock=some g->part g=0)(hlen:ms.length<=100000000)
  (hok:∀k m,ms[k]?= some m->mC N ((ms.take k).foldl aX s) i j m/\jZ ((ms.take k).foldl aX s).mode m/\1<=m.kind) :
  Calls prog 186 #[.pointer (some ⟨B,0,none⟩),.slice a ms.length c] w fun e w'=>∃u,e= .returned u/\(u= .tuple #[]/\∃part' yv' xs',aQ part' w' B (ms.foldl aX s) kv wv yv' M xs'/\bD part part' w w'):=by
 have hWlen:s.W.length≠0->∃gw n wc,wv= .slice (some ⟨gw,0,none⟩) n wc:=fun h0=>by
  obtain⟨gw,wc,hwf,-,-⟩:=World.ownsRow.form h.wrow.1 (by have:=h.wlen;omega);exact⟨gw,_,wc,hwf⟩
 have HH:=aC h;have HV:=aC hv;have HP:=aC hp;have HOK:=aC hok;have HWL:=aC hWlen;clear h hv hp hok hWlen;go_enter func186,ntmps186
 go_wp2_with fail
 go_loopw [9] (fun iv wr=>∃(k:Nat) (part':Nat->Nat) (yv':Value) (xs':List XW),k<=ms.length/\iv= .int .i64 k/\aQ part' wr B ((ms.take k).foldl aX s) kv wv yv' M xs'/\bD part part' w wr) (fun iv _=>ms.length - (intOf iv).toNat)
 case atStart=>exact⟨0,part,yv,xs,Nat.zero_le _,rfl,HH.out,bD.refl _ _⟩
 case round=>
  obtain⟨k,part',yv',xs',hk,rfl,hx',hmv'⟩:=hrel
  rename World=>wr
  by_cases hlt:k < ms.length
  ·obtain⟨m,hm⟩:∃m,ms[k]?= some m:=⟨_,b_ hlt⟩
   obtain⟨hc,hcal,hk1⟩:=HOK.out k m hm;obtain⟨s',hs'⟩:∃s',(ms.take k).foldl aX s=s':=⟨_,rfl⟩;have HNEXT:Hid ((ms.take (k+1)).foldl aX s=aX s' m):=by show _=_;rw[aKj hm,hs']
   rw[hs']at hc hx' hcal;obtain⟨g,gc,hvf,-,hgl⟩:=World.ownsRow.form HV.out (by omega);cases hvf;have hg0:=HP.out g rfl;have hgk:aB (fun b=>part b≠0) w wr:=hmv'.kept;have hcm:∀o u,(aG m)[o]?= some u->wr.cell? ⟨g,k*15+o,none⟩=some u:=fun o u ho=>by
    have:=HV.out.cells (g:=g) rfl _ u (dZ (sz:=15) (enc:=aK) (fun _=>rfl) ms k m o u hm (by simpa[aK]using ho));rw[dP]at this;exact(hgk.cell (p:=⟨g,k*15+o,none⟩) hgl (fun h=>h hg0)).trans this
   have hjl:=hc.hj;obtain⟨y,hy⟩:∃y,s'.W[j]?= some y:=⟨_,b_ hjl⟩;have hxl':=hx'.wlen;obtain⟨x,hx⟩:∃x,xs'[j]?= some x:=⟨_,b_ (by omega)⟩;obtain⟨gw,wc,hwf,-,hgw⟩:=World.ownsRow.form hx'.wrow.1 (by omega);subst hwf;have m0:wr.cell? ⟨g,k*15,none⟩=some (.int .i64 m.src):=hcm 0 _ rfl;have m1:=hcm 1 _ rfl;have m2:=hcm 2 _ rfl;have m3:=hcm 3 _ rfl;have m4:=hcm 4 _ rfl;have m5:=hcm 5 _ rfl;have m6:=hcm 6 _ rfl;have m7:=hcm 7 _ rfl;have m8:=hcm 8 _ rfl;have m9:=hcm 9 _ rfl;have m10:=hcm 10 _ rfl;have m11:=hcm 11 _ rfl;have m12:=hcm 12 _ rfl;have m13:=hcm 13 _ rfl;have m14:=hcm 14 _ rfl;obtain⟨Z,hZ⟩:∃Z,wr.alloc (Obj.cells (aG m) 124)=Z:=⟨_,rfl⟩;have gZ:Below wr.heap.size wr Z:=by rw[<-hZ];exact(e_ _ _).alloc (a_ _) _
   have bZ:aD Z wr.heap.size 124 (aG m):=by rw[<-hZ];exact aD.new wr _ _
   obtain⟨hxZ,hmZ⟩:=hx'.later gZ;have b3:Z.cell? ⟨B,4,none⟩=some (.slice (some ⟨gw,0,none⟩) xs'.length wc):=hxZ.box.cell (o:=4) rfl;have d1:Z.cell? ⟨wr.heap.size,1,none⟩=some (.int .i64 (j:Int)):=by rw[<-hc.dst];exact bZ.cell (o:=1) rfl
   have j1:(0:Int)<=(j:Int):=by omega
   have j2:(j:Int) < (xs'.length:Int):=by omega
   have i1:(0:Int)<=(k:Int):=by omega
   have i2:(k:Int) < (ms.length:Int):=by omega
   have HXZ:=aC hxZ;have HMZ:Hid (bD part (ext wr part' 0) w Z):=hmv'.trans hmZ;have HBZ:=aC bZ;have HC:=aC hc;have HCAL:=aC hcal;have HY:Hid (s'.W[j]?= some y):=hy;have HX0:Hid (xs'[j]?= some x):=hx;have hp0:ext wr part' 0 wr.heap.size=0:=gF (a_ _);have hcame:=hc.small.got y (d_ hy);have hle:=hc.le;have hvals:=hc.vals;have hfew:=hc.few y (d_ hy);have hkk:=hcal.kind;clear hx' hmv' hgk hcm gZ bZ hxZ hmZ hc hcal hy hx hxl' hm hs'
   go_upto_region 3 with fail
   try rw[hZ]
   clear hZ m0 m1 m2 m3 m4 m5 m6 m7 m8 m9 m10 m11 m12 m13 m14
   go_cut [6]from 10 to 86 (fun pv wx=>pv= .pointer (some ⟨gw,j*8,none⟩)/\Below Z.heap.size Z wx)
   case first=>
    go_quiet (fail)
    go_wp2_with fail
    go_meet
    case rel=>exact⟨rfl,by first|exact e_ _ _|exact(e_ _ _).drew|exact below_drewN (e_ _ _) _⟩
   case rest=>
    obtain⟨rfl,hbx⟩:=hcut
    rename World=>wx
    have bx:=HBZ.out.below hbx HBZ.out.lt;obtain⟨h1,hm1⟩:=HXZ.out.later hbx;have HX1:=aC h1;have HM1:=aC hm1;have hpx:ext Z (ext wr part' 0) 0 wr.heap.size=0:=(aY HBZ.out.lt).trans hp0;have HBX:=aC bx;have e0:wx.cell? ⟨wr.heap.size,0,none⟩=some (.int .i64 (i:Int)):=by rw[<-HC.out.src];exact bx.cell (o:=0) rfl
    have e1:wx.cell? ⟨wr.heap.size,1,none⟩=some (.int .i64 (j:Int)):=by rw[<-HC.out.dst];exact bx.cell (o:=1) rfl
    have e3:=bx.cell (o:=3) rfl;have hkind:m.kind=1\/m.kind=2\/m.kind=3\/m.kind=4\/m.kind=5\/m.kind=6\/m.kind=7:=by omega
    clear hbx h1 hm1 bx b3 d1;rcases hkind with hq|hq|hq|hq|hq|hq|hq
    ·
     have e3':wx.cell? ⟨wr.heap.size,3,none⟩=some (.int .i64 1):=by rw[<-hq];exact e3
     have HAN:=aC (aLc m i j HX1.out HC.out hq);clear e3 hq hkk hk1
     go_wp2_with (go_at_call 199;refine HAN.out.mono ?_;rintro e w3 ⟨v3,rfl,rfl,part3,yv3,xs3,h3,hm3⟩;have H3:=aC h3;have HM3:=aC hm3;clear h3 hm3)
     go_roundw
     case rel=>exact⟨k+1,part3,yv3,xs3,by omega,by go_num,by rw[HNEXT.out];exact H3.out,(HMZ.out.trans HM1.out).trans HM3.out⟩
     case measure=>simp[intOf];omega
    ·
     have e3':wx.cell? ⟨wr.heap.size,3,none⟩=some (.int .i64 2):=by rw[<-hq];exact e3
     have HQ:Hid (m.kind=2):=hq;have HCC:=aC (wX j HX1.out HY.out ⟨hcame.1,by omega⟩);clear e3 hq hkk hk1
     go_upto_region 9 with(go_at_call 200;refine HCC.out.mono ?_;rintro e w1 ⟨v1,rfl,rfl,part1,xs1,h1,hm1⟩)
     have hl1:xs1.length=xs'.length:=h1.xlen;have hW1:(s'.W.set j {y with came:=y.came+1,black:=true})[j]?= some {y with came:=y.came+1,black:=true}:=i8 (c_.1 HY.out).1;obtain⟨x1,hx1⟩:∃x1,xs1[j]?= some x1:=⟨_,b_ (by omega)⟩;have hac:=h1.acell hx1;obtain⟨a1,f1⟩:=hac;have h1':=h1;rw[<-hl1]at h1';obtain⟨xs2,h2,hm2,hk2⟩:=zA j h1' hW1;rw[rB]at h2;rw[hl1]at h2;have b1:=HBX.out.kept hm1.kept (fun h=>h hpx);obtain⟨w2,hw2⟩:∃w2,w1.setCell ⟨gw,j*8+1,none⟩ (.bool false)=w2:=⟨_,rfl⟩;have hpg:part1 gw=7:=h1.wrow.2 gw rfl;rw[hw2]at h2 hm2 hk2;have hp1:wr.heap.size≠gw:=by omega
     have b2:=b1.kept hk2 hp1;have hl2:xs2.length=xs'.length:=h2.xlen;obtain⟨x2,hx2⟩:∃x2,xs2[j]?= some x2:=⟨_,b_ (by omega)⟩;have t2:=h2.tcell hx2;have t2':∀o,(w2.alloc o).cell? ⟨gw,j*8,none⟩=some (.pointer (some ⟨x2.T,0,none⟩)):=fun o=>cE o t2
     have t2'':∀o,(w2.drew.alloc o).cell? ⟨gw,j*8,none⟩=some (.pointer (some ⟨x2.T,0,none⟩)):=fun o=>cE (w:=w2.drew) o t2
     have c4:=b2.cell (o:=4) rfl;have c5:=b2.cell (o:=5) rfl;have c6:=b2.cell (o:=6) rfl;have HX2:=aC h2;have HM2:=aC ((HM1.out.trans hm1).trans hm2);have hjW:j < s'.W.length:=(c_.1 HY.out).1;have HPT:Hid (∀(U:World) (bb:Nat),U=(w2.drew).alloc (Obj.cells #[.string m.t.id,.int .i64 m.t.kind,.int .i64 m.t.arg] 62)->bb=w2.heap.size->Calls prog 201 #[.pointer (some ⟨x2.T,0,none⟩),.slice (some ⟨bb,0,none⟩) 1 1] U fun e w'=>∃v,e= .returned v/\(v= .tuple #[]/\∃part9,aQ part9 w' B (aX s' m) kv (.slice (some ⟨gw,0,none⟩) xs'.length wc) yv' M xs2/\bD part part9 w w')):=fun U bb hU hbb=>by
      subst hU hbb;obtain⟨h3,hm3⟩:=HX2.out.later (((e_ w2.heap.size w2).drew).alloc (by simp) (Obj.cells #[.string m.t.id,.int .i64 m.t.kind,.int .i64 m.t.arg] 62));refine(aJe j m.t w2.heap.size h3 hx2 (y:={y with came:=y.came+1,black:=true,asked:=false}) (i8 hjW) hfew (aD.new w2.drew _ _)).mono ?_;rintro e w' ⟨v,rfl,rfl,part9,h9,hm9⟩;refine⟨_,rfl,rfl,part9,?_,((HMZ.out.trans HM2.out).trans hm3).trans hm9⟩;rw[aMt HC.out HY.out HQ.out];dsimp only at h9;rw[rB]at h9;exact h9
     clear h1 hm1 h1' h2 hm2 b1 b2 hk2
     go_upto_region 10 with fail
     try rw[hw2]
     clear hw2 a1 f1
     go_region_law (refine dY (by rfl) 201 _ _ _ (by rfl) (.pointer (some ⟨x2.T,0,none⟩)) (.slice (some ⟨w2.heap.size,0,none⟩) 1 1) (by rfl) (by rfl) (enters_of func201 (by kernel_rfl) rfl) (HPT.out _ _ rfl rfl) ?_;rintro v9 w9 ⟨rfl,part9,h9,hm9⟩;have H9:=aC h9;have HM9:=aC hm9;clear h9 hm9)
     all_goals
      go_wp2_with fail
      go_roundw
      case rel=>exact⟨k+1,part9,yv',xs2,by omega,by go_num,by rw[HNEXT.out];exact H9.out,HM9.out⟩
      case measure=>simp[intOf];omega
    ·
     have e3':wx.cell? ⟨wr.heap.size,3,none⟩=some (.int .i64 3):=by rw[<-hq];exact e3
     obtain⟨a1,f1⟩:=HX1.out.acell HX0.out;obtain⟨xs2,h2,hm2,-⟩:=zA j HX1.out HY.out;rw[<-aMz HC.out HY.out hq]at h2;have H2:=aC h2;have HM2:=aC hm2;clear e3 hq hkk hk1 h2 hm2
     go_wp2_with fail
     go_roundw
     case rel=>exact⟨k+1,_,yv',xs2,by omega,by go_num,by rw[HNEXT.out];exact H2.out,(HMZ.out.trans HM1.out).trans HM2.out⟩
     case measure=>simp[intOf];omega
    ·
     have e3':wx.cell? ⟨wr.heap.size,3,none⟩=some (.int .i64 4):=by rw[<-hq];exact e3
     have HQ:Hid (m.kind=4):=hq;have HCC:=aC (wX j HX1.out HY.out ⟨hcame.1,by omega⟩);clear e3 hq hkk hk1
     go_upto_region 15 with(go_at_call 200;refine HCC.out.mono ?_;rintro e w1 ⟨v1,rfl,rfl,part1,xs1,h1,hm1⟩)
     have b1:=HBX.out.kept hm1.kept (fun h=>h hpx);have c7:=b1.cell (o:=7) rfl;have c8:=b1.cell (o:=8) rfl;have k5:w1.cell? ⟨B,6,none⟩=some (.map (some M)):=h1.box.cell (o:=6) rfl;have k5':∀o,(w1.alloc o).cell? ⟨B,6,none⟩=some (.map (some M)):=fun o=>cE o k5
     have k5'':∀o,(w1.drew.alloc o).cell? ⟨B,6,none⟩=some (.map (some M)):=fun o=>cE (w:=w1.drew) o k5
     have HXK:=aC h1;have HMK:=aC (HM1.out.trans hm1);have HKV:Hid (∀(U:World) (bb:Nat),U=(w1.drew).alloc (Obj.cells #[.string m.v.1,.int .i64 m.v.2] 92)->bb=w1.heap.size->Calls prog 84 #[.map (some M),.slice (some ⟨bb,0,none⟩) 1 1] U fun e w'=>∃v,e= .returned v/\(∃part9,aQ part9 w' B (aX s' m) kv (.slice (some ⟨gw,0,none⟩) xs'.length wc) yv' M xs1/\bD part part9 w w')):=fun U bb hU hbb=>by
      subst hU hbb;obtain⟨h3,hm3⟩:=HXK.out.later (((e_ w1.heap.size w1).drew).alloc (by simp) (Obj.cells #[.string m.v.1,.int .i64 m.v.2] 92));refine(aJx m.v w1.heap.size h3 hvals HCAL.out.size HCAL.out.wf (aD.new w1.drew _ _)).mono ?_;rintro e w' ⟨v,rfl,part9,h9,hm9⟩;refine⟨_,rfl,part9,?_,((HMZ.out.trans HMK.out).trans hm3).trans hm9⟩;rw[aMv HC.out HY.out HQ.out];exact h9
     clear h1 hm1 b1
     go_region_law (refine dY (by rfl) 84 _ _ _ (by rfl) (.map (some M)) (.slice (some ⟨w1.heap.size,0,none⟩) 1 1) (by rfl) (by rfl) (enters_of func84 (by kernel_rfl) rfl) (HKV.out _ _ rfl rfl) ?_;rintro v9 w9 ⟨part9,h9,hm9⟩;have H9:=aC h9;have HM9:=aC hm9;clear h9 hm9)
     all_goals
      go_wp2_with fail
      go_roundw
      case rel=>exact⟨k+1,part9,yv',xs1,by omega,by go_num,by rw[HNEXT.out];exact H9.out,HM9.out⟩
      case measure=>simp[intOf];omega
    ·
     have HTT:=aC (aGm m j HX1.out HC.out.dst HY.out (HCAL.out.tok hq));have HQ:Hid (aX s' m={s' with W:=s'.W.set j {y with has:=true,token:=m},around:=s'.around||m.dst==0}):=aMr HC.out HY.out hq;obtain⟨msrc,mdst,mno,mkind,⟨tid,tkind,targ⟩,⟨vid,vv⟩,mblack,midle,mcount,mround,msent,mcame⟩:=m;dsimp only at hq;subst hq;obtain⟨c0,c1,c2,c3,c4,c5,c6,c7,c8,c9,c10,c11,c12,c13,c14⟩:=eF HBX.out;clear e0 e1 e3 hkk hk1
     go_wp2_with (go_at_call 202;refine HTT.out.mono ?_;rintro e w3 ⟨v3,rfl,rfl,part3,xs3,h3,hm3⟩;have H3:=aC h3;have HM3:=aC hm3;clear h3 hm3)
     go_roundw
     case rel=>exact⟨k+1,part3,yv',xs3,by omega,by go_num,by rw[HNEXT.out,HQ.out];exact H3.out,(HMZ.out.trans HM1.out).trans HM3.out⟩
     case measure=>simp[intOf];omega
    ·
     have HQ:=aC (aMq HC.out HY.out hq);have hi0:(i:Int)=0:=HC.out.src.symm.trans (HCAL.out.wave hq);have hne:=HC.out.ne;have hj0:(0:Nat)≠j:=by omega
     obtain⟨ls,l,hls,hl,hkn,hall⟩:=HC.out.link HC.out.hj (show 0 < s'.W.length by have:=HC.out.hj;omega);have hway:=HC.out.shape.way;have hxw:=HX1.out.wat j x y HX0.out HY.out;have hg1:gw < wx.heap.size:=(HX1.out.wrow.1.lt gw rfl).2;have HRP:Hid (∀U,(U=wx\/U=wx.drew)->Calls prog 164 #[.pointer (some ⟨gw,j*8,none⟩),.int .i64 m.round] U fun e w'=>∃v,e= .returned v/\(v= .agg (aG {aH with kind:=7,round:=m.round,sent:=y.sent,came:=y.came,idle:=decide (y.tasks.length=0)})/\∃part8,aQ part8 w' B s' kv (.slice (some ⟨gw,0,none⟩) xs'.length wc) yv' M xs'/\bD part part8 w w'/\aD w' wr.heap.size 124 (aG m))):=fun U hU=>by
      have gU:Below wx.heap.size wx U:=by
       rcases hU with rfl|rfl
       ·exact e_ _ _
       ·exact(e_ _ _).drew
      obtain⟨h7,hm7⟩:=HX1.out.later gU;have hx7:=h7.wat j x y HX0.out HY.out;refine(vX _ gw j x.T m.round y.sent y.came s'.room y.tasks U (h7.tcell HX0.out) (by rw[<-hx7.1.sent];exact h7.xcell HX0.out 4 _ rfl) (by rw[<-hx7.1.came];exact h7.xcell HX0.out 5 _ rfl) hx7.2 (h7.wrow.1.lt gw rfl).2).mono ?_;rintro e w' ⟨v,rfl,rfl,hb8⟩;obtain⟨h8,hm8⟩:=h7.later hb8;exact⟨_,rfl,rfl,_,h8,((HMZ.out.trans HM1.out).trans hm7).trans hm8,(HBX.out.below gU HBX.out.lt).below hb8 (HBX.out.below gU HBX.out.lt).lt⟩
     have HSD:Hid (∀(U:World) (part8:Nat->Nat) (bb:Nat),bb=U.heap.size->aQ part8 U B s' kv (.slice (some ⟨gw,0,none⟩) xs'.length wc) yv' M xs'->bD part part8 w U->Calls prog 165 #[.pointer (some ⟨B,0,none⟩),.int .i64 (j:Int),.int .i64 0,.slice (some ⟨bb,0,none⟩) 1 1] (U.alloc (Obj.cells (aG {aH with kind:=7,round:=m.round,sent:=y.sent,came:=y.came,idle:=decide (y.tasks.length=0)}) 124)) fun e w'=>∃v,e= .returned v/\(v= .tuple #[]/\∃part9 yv9 xs9,aQ part9 w' B (aX s' m) kv (.slice (some ⟨gw,0,none⟩) xs'.length wc) yv9 M xs9/\bD part part9 w w')):=fun U part8 bb hbb hU hMU=>by
      subst hbb;obtain⟨h9,hm9⟩:=hU.later ((e_ U.heap.size U).alloc (a_ _) (Obj.cells (aG {aH with kind:=7,round:=m.round,sent:=y.sent,came:=y.came,idle:=decide (y.tasks.length=0)}) 124));refine(oO j 0 {aH with kind:=7,round:=m.round,sent:=y.sent,came:=y.came,idle:=decide (y.tasks.length=0)} U.heap.size h9 hls hl hj0 hkn (by omega) (by omega) (aD.new U _ _)).mono ?_;rintro e w' ⟨v,rfl,rfl,part',yv9,h10,hm10⟩;refine⟨_,rfl,rfl,part',yv9,xs',?_,(hMU.trans hm9).trans hm10⟩;rw[HQ.out,pH _ j 0 _ (by simp) rfl rfl];exact h10
     obtain⟨eM,hidl⟩:∃eM,decide (y.tasks.length=0)=eM:=⟨_,rfl⟩;rw[hidl]at HRP HSD;simp only[aH]at HRP HSD;obtain⟨mr,hmr⟩:∃mr,m.round=mr:=⟨_,rfl⟩;rw[hmr]at HRP HSD;have e12:wx.cell? ⟨wr.heap.size,12,none⟩=some (.int .i64 mr):=by rw[<-hmr];exact HBX.out.cell (o:=12) rfl
     have e3':wx.cell? ⟨wr.heap.size,3,none⟩=some (.int .i64 6):=by rw[<-hq];exact e3
     have HDS:Hid (m.dst=j):=HC.out.dst;have HMR:Hid (m.round=mr):=hmr;clear e0 e3 hq hkk hk1 hidl hxw hmr
     go_upto_region 19 with fail
     go_region_law (first
      |(refine dY (by rfl) 164 _ _ _ (by rfl) (.pointer (some ⟨gw,j*8,none⟩)) (.int .i64 mr) (by rfl) (by rfl) (enters_of func164 (by kernel_rfl) rfl) (HRP.out _ (by first|exact .inl rfl|exact .inr rfl)) ?_;rintro v8 w8 ⟨rfl,part8,h8,hm8,hb8⟩;have u1:w8.cell? ⟨wr.heap.size,1,none⟩=some (.int .i64 (j:Int)):=(by rw[<-HDS.out];exact hb8.cell (o:=1) rfl);have u1':∀o,(w8.alloc o).cell? ⟨wr.heap.size,1,none⟩=some (.int .i64 (j:Int)):=(fun o=>cE o u1);have H8:=aC h8;have HM8:=aC hm8;clear h8 hm8 hb8)
      |(refine aIf (by rfl) 165 _ _ _ _ _ (by rfl) (.pointer (some ⟨B,0,none⟩)) (.int .i64 (j:Int)) (.int .i64 0) (.slice (some ⟨w8.heap.size,0,none⟩) 1 1) (by rfl) (by rfl) (by rfl) (by rfl) (enters_of func165 (by kernel_rfl) rfl) (HSD.out w8 part8 _ rfl H8.out HM8.out) ?_;rintro v9 w9 ⟨rfl,part9,yv9,xs9,h9,hm9⟩;have H9:=aC h9;have HM9:=aC hm9;clear h9 hm9))
     all_goals
      go_wp2_with fail
      go_roundw
      case rel=>exact⟨k+1,part9,yv9,xs9,by omega,by go_num,by rw[HNEXT.out];exact H9.out,HM9.out⟩
      case measure=>simp[intOf];omega
    ·
     have HQ:=aC (aNa (s:=s') hq);obtain⟨L,an,hLa⟩:=tH (HC.out.told hq);have hab:=HC.out.ans an (by rw[hLa];simp);have h2w:=HC.out.shape.two;have h5w:=HC.out.shape.five;have hlw:=HC.out.shape.len;have hnm:=HC.out.nums;have HNT:Hid (∀(U:World) (bb:Nat),U=(wx.drew).alloc (Obj.cells (aG m) 124)->bb=wx.heap.size->Calls prog 163 #[.pointer (some ⟨B,7,none⟩),.slice (some ⟨bb,0,none⟩) 1 1] U fun e w'=>∃v,e= .returned v/\(v= .tuple #[]/\∃part9,aQ part9 w' B (aX s' m) kv (.slice (some ⟨gw,0,none⟩) xs'.length wc) yv' M xs'/\bD part part9 w w')):=fun U bb hU hbb=>by
      subst hU hbb;obtain⟨h3,hm3⟩:=HX1.out.later (((e_ wx.heap.size wx).drew).alloc (by simp) (Obj.cells (aG m) 124));refine(zG m wx.heap.size h3 hLa (by omega) (by omega) (by omega) hnm (by omega) (aD.new wx.drew _ _)).mono ?_;rintro e w' ⟨v,rfl,rfl,part9,h9,hm9⟩;refine⟨_,rfl,rfl,part9,?_,((HMZ.out.trans HM1.out).trans hm3).trans hm9⟩;rw[HQ.out];exact h9
     obtain⟨msrc,mdst,mno,mkind,⟨tid,tkind,targ⟩,⟨vid,vv⟩,mblack,midle,mcount,mround,msent,mcame⟩:=m;dsimp only at hq hnm;subst hq;obtain⟨c0,c1,c2,c3,c4,c5,c6,c7,c8,c9,c10,c11,c12,c13,c14⟩:=eF HBX.out;clear e0 e1 e3 hkk hk1
     go_upto_region 21 with fail
     go_region_law (refine dY (by rfl) 163 _ _ _ (by rfl) (.pointer (some ⟨B,7,none⟩)) (.slice (some ⟨wx.heap.size,0,none⟩) 1 1) (by rfl) (by rfl) (enters_of func163 (by kernel_rfl) rfl) (HNT.out _ _ rfl rfl) ?_;rintro v9 w9 ⟨rfl,part9,h9,hm9⟩;have H9:=aC h9;have HM9:=aC hm9;clear h9 hm9)
     all_goals
      go_wp2_with fail
      go_roundw
      case rel=>exact⟨k+1,part9,yv',xs',by omega,by go_num,by rw[HNEXT.out];exact H9.out,HM9.out⟩
      case measure=>simp[intOf];omega
  ·go_wp2_with fail
   go_end0
   obtain rfl:ms.length=k:=by omega
   rw[List.take_length]at hx';exact⟨_,rfl,rfl,part',yv',xs',hx',hmv'⟩
end Go.Proofs.YtfanaanofjhlkaaGreatDoor
