import Derived.Test.YtfanaanofjhlkaaGreatDoorRefWork
import Derived.Test.YtfanaanofjhlkaaGreatDoorMarkerM
import Derived.Test.YtfanaanofjhlkaaGreatDoorMarkerV
set_option maxHeartbeats 16000000
set_option maxRecDepth 100000
namespace Go.Proofs.YtfanaanofjhlkaaGreatDoor
open Go Go.RowKit Tryz
def fW{α:Type}(t:TypeId)(sz:Nat)(enc:α->List Value)(lab:Nat->Nat)(i j:Nat)(W:World)(k w:Value)(l:List α):Prop:=
 W.ownsRow 0 t sz k l.length (l.flatMap enc)/\(∀g,k.ownBlock=some g->lab g=i)/\W.ownsRow 0 t sz w l.length (l.flatMap enc)/\(∀g,w.ownBlock=some g->lab g=j)/\l.length<=1000000
theorem fW.kept{α:Type}{t:TypeId}{sz:Nat}{enc:α->List Value}{lab lab':Nat->Nat}{i j:Nat}{W W':World}{k w:Value}{l:List α}{X:Nat->Prop}(h:fW t sz enc lab i j W k w l)(hk:aB X W W')(hx:∀g,g < W.heap.size->lab g=i\/lab g=j->¬X g/\lab' g=lab g):fW t sz enc lab' i j W' k w l:=by
 obtain⟨h1,h2,h3,h4,h5⟩:=h;exact⟨aP h1 hk (fun g e=>(hx g (h1.lt g e).2 (.inl (h2 g e))).1) (a_ _),fun g e=>((hx g (h1.lt g e).2 (.inl (h2 g e))).2).trans (h2 g e),
  aP h3 hk (fun g e=>(hx g (h3.lt g e).2 (.inr (h4 g e))).1) (a_ _),fun g e=>((hx g (h3.lt g e).2 (.inr (h4 g e))).2).trans (h4 g e),h5⟩
theorem fW.nil{α:Type}(t:TypeId)(sz:Nat)(enc:α->List Value)(lab:Nat->Nat)(i j:Nat)(W:World):fW t sz enc lab i j W (.slice none 0 0) (.slice none 0 0) []:=
 ⟨World.ownsRow_nil _ _ _ _,(fun g e=>by cases e),World.ownsRow_nil _ _ _ _,(fun g e=>by cases e),by simp⟩
def eU(F:Nat->Prop)(W:World)(B N came:Nat):Prop:=
 ∃(lab:Nat->Nat) (kV wV kT wT kM wM:Value) (lV:List (ByteArray×Int)) (lT:List aL) (lM:List aI) (bs:List Bk),
  (∀b,lab b≠0->F b)/\bs.length=4*N/\gC (fun b=>lab b=1) (fun b _=>lab b=1) W B N came kV wV kT wT kM wM bs/\
  fW 92 2 dL lab 2 3 W kV wV lV/\fW 62 3 aJ lab 4 5 W kT wT lT/\fW 124 15 aK lab 6 7 W kM wM lM
theorem eU.kept{F F' X:Nat->Prop}{W W':World}{B N came:Nat}(h:eU F W B N came)(hk:aB X W W')(hx:∀g,g < W.heap.size->F g->¬X g/\F' g):eU F' W' B N came:=by
 obtain⟨lab,kV,wV,kT,wT,kM,wM,lV,lT,lM,bs,h1,h2,h3,h4,h5,h6⟩:=h;have hg:∀g,g < W.heap.size->lab g≠0->¬X g:=fun g hl hn=>(hx g hl (h1 g hn)).1
 refine⟨fun b=>if b < W.heap.size then lab b else 0,kV,wV,kT,wT,kM,wM,lV,lT,lM,bs,fun b hb=> ?_,h2,h3.kept hk (fun g hl hn=>hg g hl (by omega)) (fun g _ hl hn=>hg g hl (by omega)) (fun g hl hn=>by simp[hl,hn]) (fun g _ hl hn=>by simp[hl,hn]),
  h4.kept hk (fun g hl hn=>⟨hg g hl (by omega),by simp[hl]⟩),h5.kept hk (fun g hl hn=>⟨hg g hl (by omega),by simp[hl]⟩),h6.kept hk (fun g hl hn=>⟨hg g hl (by omega),by simp[hl]⟩)⟩
 by_cases hl:b < W.heap.size
 ·exact(hx b hl (h1 b (by simpa[hl]using hb))).2
 ·simp[hl]at hb
theorem eU.later{F:Nat->Prop}{W W':World}{B N came:Nat}(h:eU F W B N came)(hk:Below W.heap.size W W'):eU F W' B N came:=
 h.kept (aB.of_below hk (X:=fun b=>W.heap.size<=b) (fun _ _ h=>h)) (fun g hl hF=>⟨by omega,hF⟩)
theorem eU.mono{F F':Nat->Prop}{W:World}{B N came:Nat}(h:eU F W B N came)(hx:∀g,g < W.heap.size->F g->F' g):eU F' W B N came:=
 h.kept (aB.refl (fun _=>False) W) (fun g hl hF=>⟨fun h=>h,hx g hl hF⟩)
theorem eU.new(W:World):eU (fun b=>b=W.heap.size) (W.alloc (Obj.cells #[.int .i64 0,.int .i64 0,.bool false,.slice none 0 0,.slice none 0 0,.slice none 0 0,.slice none 0 0,.slice none 0 0,.slice none 0 0,.slice none 0 0] 71)) W.heap.size 0 0:=
 ⟨fun b=>if b=W.heap.size then 1 else 0,.slice none 0 0,.slice none 0 0,.slice none 0 0,.slice none 0 0,.slice none 0 0,.slice none 0 0,[],[],[],[],fun b hb=>by simpa using hb,rfl,
  ⟨.slice none 0 0,aD.new W _ _,World.ownsRow_nil _ _ _ _,by simp,(fun g e=>by cases e),(fun x hx=>by cases hx)⟩,fW.nil _ _ _ _ _ _ _,fW.nil _ _ _ _ _ _ _,fW.nil _ _ _ _ _ _ _⟩
theorem zP:prog.stoodInHeld 92=false:=by kernel_rfl
theorem zM:prog.eqGuardType prog.depth 92=false:=by kernel_rfl
theorem qM(va vb:Value)(l:List (ByteArray×Int))(w:World)(ha:eV 2 dL w va l)(hb:eV 2 dL w vb l)(hl:l.length<=9223372036854775806) :
  Calls prog 71 #[va,vb] w fun e w'=>e= .returned (.bool true)/\Below w.heap.size w w':=by
 obtain⟨a,cap,rfl,hca⟩:=ha;obtain⟨b,cap',rfl,hcb⟩:=hb;have hs:=zP;have hg:=zM;go_enter func71,ntmps71
 go_wp2_with fail
 go_loopw [5] (fun i wr=>∃k:Nat,k<=l.length/\i= .int .i64 k/\Below w.heap.size w wr) (fun i _=>l.length - (intOf i).toNat)
 case atStart=>exact⟨0,Nat.zero_le _,rfl,e_ _ _⟩
 case round=>
  obtain⟨k,hk,rfl,hbw⟩:=hrel;by_cases hlt:k < l.length
  ·obtain⟨x,hx⟩:∃x,l[k]?= some x:=⟨_,b_ hlt⟩
   obtain⟨g,o,rfl,hgl,hc⟩:=hca k x hx;obtain⟨g',o',rfl,hgl',hd⟩:=hcb k x hx;have c0:=(hbw.cell (p:=⟨g,o+k*2+0,none⟩) hgl).trans (hc 0 _ rfl);have d0:=(hbw.cell (p:=⟨g',o'+k*2+0,none⟩) hgl').trans (hd 0 _ rfl);have c1:=(hbw.cell (p:=⟨g,o+k*2+1,none⟩) hgl).trans (hc 1 _ rfl);have d1:=(hbw.cell (p:=⟨g',o'+k*2+1,none⟩) hgl').trans (hd 1 _ rfl);rw[Nat.add_zero]at c0 d0;have i1:(0:Int)<=(k:Int):=by omega
   have i2:(k:Int) < (l.length:Int):=by omega
   clear hca hcb hc hd
   go_wp2_with fail
   go_quiet (fail)
   go_wp2_with fail
   go_roundw
   case rel=>exact⟨k+1,by omega,by go_num,below_drewN hbw _⟩
   case measure=>simp[intOf];omega
  ·go_wp2_with fail
   go_ret;exact⟨rfl,hbw⟩
theorem zO:prog.stoodInHeld 124=false:=by kernel_rfl
theorem zL:prog.eqGuardType prog.depth 124=false:=by kernel_rfl
theorem qK(va vb:Value)(l:List aI)(w:World)(ha:eV 15 aK w va l)(hb:eV 15 aK w vb l)(hl:l.length<=9223372036854775806) :
  Calls prog 68 #[va,vb] w fun e w'=>e= .returned (.bool true)/\Below w.heap.size w w':=by
 obtain⟨a,cap,rfl,hca⟩:=ha;obtain⟨b,cap',rfl,hcb⟩:=hb;have hs:=zO;have hg:=zL;go_enter func68,ntmps68
 go_wp2_with fail
 go_loopw [5] (fun i wr=>∃k:Nat,k<=l.length/\i= .int .i64 k/\Below w.heap.size w wr) (fun i _=>l.length - (intOf i).toNat)
 case atStart=>exact⟨0,Nat.zero_le _,rfl,e_ _ _⟩
 case round=>
  obtain⟨k,hk,rfl,hbw⟩:=hrel;by_cases hlt:k < l.length
  ·obtain⟨x,hx⟩:∃x,l[k]?= some x:=⟨_,b_ hlt⟩
   obtain⟨g,o,rfl,hgl,hc⟩:=hca k x hx;obtain⟨g',o',rfl,hgl',hd⟩:=hcb k x hx;have c0:=(hbw.cell (p:=⟨g,o+k*15+0,none⟩) hgl).trans (hc 0 _ rfl);have d0:=(hbw.cell (p:=⟨g',o'+k*15+0,none⟩) hgl').trans (hd 0 _ rfl);have c1:=(hbw.cell (p:=⟨g,o+k*15+1,none⟩) hgl).trans (hc 1 _ rfl);have d1:=(hbw.cell (p:=⟨g',o'+k*15+1,none⟩) hgl').trans (hd 1 _ rfl);have c2:=(hbw.cell (p:=⟨g,o+k*15+2,none⟩) hgl).trans (hc 2 _ rfl);have d2:=(hbw.cell (p:=⟨g',o'+k*15+2,none⟩) hgl').trans (hd 2 _ rfl);have c3:=(hbw.cell (p:=⟨g,o+k*15+3,none⟩) hgl).trans (hc 3 _ rfl);have d3:=(hbw.cell (p:=⟨g',o'+k*15+3,none⟩) hgl').trans (hd 3 _ rfl);have c4:=(hbw.cell (p:=⟨g,o+k*15+4,none⟩) hgl).trans (hc 4 _ rfl);have d4:=(hbw.cell (p:=⟨g',o'+k*15+4,none⟩) hgl').trans (hd 4 _ rfl);have c5:=(hbw.cell (p:=⟨g,o+k*15+5,none⟩) hgl).trans (hc 5 _ rfl);have d5:=(hbw.cell (p:=⟨g',o'+k*15+5,none⟩) hgl').trans (hd 5 _ rfl);have c6:=(hbw.cell (p:=⟨g,o+k*15+6,none⟩) hgl).trans (hc 6 _ rfl);have d6:=(hbw.cell (p:=⟨g',o'+k*15+6,none⟩) hgl').trans (hd 6 _ rfl);have c7:=(hbw.cell (p:=⟨g,o+k*15+7,none⟩) hgl).trans (hc 7 _ rfl);have d7:=(hbw.cell (p:=⟨g',o'+k*15+7,none⟩) hgl').trans (hd 7 _ rfl);have c8:=(hbw.cell (p:=⟨g,o+k*15+8,none⟩) hgl).trans (hc 8 _ rfl);have d8:=(hbw.cell (p:=⟨g',o'+k*15+8,none⟩) hgl').trans (hd 8 _ rfl);have c9:=(hbw.cell (p:=⟨g,o+k*15+9,none⟩) hgl).trans (hc 9 _ rfl);have d9:=(hbw.cell (p:=⟨g',o'+k*15+9,none⟩) hgl').trans (hd 9 _ rfl);have c10:=(hbw.cell (p:=⟨g,o+k*15+10,none⟩) hgl).trans (hc 10 _ rfl);have d10:=(hbw.cell (p:=⟨g',o'+k*15+10,none⟩) hgl').trans (hd 10 _ rfl);have c11:=(hbw.cell (p:=⟨g,o+k*15+11,none⟩) hgl).trans (hc 11 _ rfl);have d11:=(hbw.cell (p:=⟨g',o'+k*15+11,none⟩) hgl').trans (hd 11 _ rfl);have c12:=(hbw.cell (p:=⟨g,o+k*15+12,none⟩) hgl).trans (hc 12 _ rfl);have d12:=(hbw.cell (p:=⟨g',o'+k*15+12,none⟩) hgl').trans (hd 12 _ rfl);have c13:=(hbw.cell (p:=⟨g,o+k*15+13,none⟩) hgl).trans (hc 13 _ rfl);have d13:=(hbw.cell (p:=⟨g',o'+k*15+13,none⟩) hgl').trans (hd 13 _ rfl);have c14:=(hbw.cell (p:=⟨g,o+k*15+14,none⟩) hgl).trans (hc 14 _ rfl);have d14:=(hbw.cell (p:=⟨g',o'+k*15+14,none⟩) hgl').trans (hd 14 _ rfl);rw[Nat.add_zero]at c0 d0;have i1:(0:Int)<=(k:Int):=by omega
   have i2:(k:Int) < (l.length:Int):=by omega
   clear hca hcb hc hd
   go_wp2_with fail
   go_quiet (fail)
   go_wp2_with fail
   go_roundw
   case rel=>exact⟨k+1,by omega,by go_num,below_drewN hbw _⟩
   case measure=>simp[intOf];omega
  ·go_wp2_with fail
   go_ret;exact⟨rfl,hbw⟩
theorem aGo(F:Nat->Prop)(B N came:Nat)(lv:Value)(l:List aI)(w:World)(hI:eU F w B N came)
  (hl:w.ownsRow 0 124 15 lv l.length (l.flatMap aK)) (hlF:∀g,lv.ownBlock=some g->¬F g) (hn:l.length<=1000000) (hN:N<=300000000000) (hcm:came<=300000000000) :
  Calls prog 69 #[.pointer (some ⟨B,0,none⟩),lv] w fun e w'=>e= .returned (.tuple #[])/\∃N',N'<=N+2/\eU (fun b=>F b\/w.heap.size<=b\/lv.ownBlock=some b) w' B N' (came+1)/\aB (fun b=>F b\/lv.ownBlock=some b) w w':=by
 obtain⟨i1,hi1,hy0,hy1,hy2⟩:=info_parts jS;obtain⟨lab,kV,wV,kT,wT,kM,wM,lV,lT,lM,bs,hlab,hbs,hX,hKV,hKT,hKM⟩:=hI;have HLAB:Hid (∀b,lab b≠0->F b):=hlab;have HI:Hid (gC (fun b=>lab b=1) (fun b _=>lab b=1) w B N came kV wV kT wT kM wM bs):=hX;have HOV:Hid (fW 92 2 dL lab 2 3 w kV wV lV):=hKV;have HOT:Hid (fW 62 3 aJ lab 4 5 w kT wT lT):=hKT;have HK:Hid (fW 124 15 aK lab 6 7 w kM wM lM):=hKM;obtain⟨hkr,hkl,hwr,hwl,hn0⟩:=hKM;have HKR:Hid (w.ownsRow 0 124 15 kM lM.length (lM.flatMap aK)):=hkr;have HKL:Hid (∀g,kM.ownBlock=some g->lab g=6):=hkl;have HW:Hid (eV 15 aK w wM lM):=fR (sz:=15) (enc:=aK) (fun _=>rfl) hwr rfl;have HL:Hid (w.ownsRow 0 124 15 lv l.length (l.flatMap aK)):=hl;have HLF:Hid (∀g,lv.ownBlock=some g->lab g=0):=fun g e=>by
  rcases Nat.eq_zero_or_pos (lab g)with h|h
  ·exact h
  ·exact absurd (hlab g (by omega)) (hlF g e)
 have HLF0:Hid (∀g,lv.ownBlock=some g->¬F g):=hlF;have HBS:Hid (bs.length=4*N):=hbs;have hBl:B < w.heap.size:=by obtain⟨_,hb,_⟩:=hX;exact hb.lt
 have hFB0:lab B=1:=by obtain⟨_,_,_,hb,_⟩:=hX;exact hb
 obtain⟨al,cl,rfl⟩:=bG hl;clear hlab hX hl hlF hkr hkl hwr hwl hbs;clear hKV;clear hKT;go_enter func69,ntmps69
 go_upto_region 2 with(at_builtin;refine oB rfl _ _ _ rfl 124 i1 _ 15 128 underlying68 hi1 hy0 hy1 hy2 rfl (by omega) rfl 0 (.slice al l.length cl) l.length (l.flatMap aK) rfl HL.out (iZ mI _) (by unfold maxLen;omega) (by omega) ?_;intro wv w1 hrow1 hk1)
 obtain⟨aw,cw,rfl⟩:=bG hrow1;have HI1:Hid (gC (fun g=>lab g=1/\g < w.heap.size) (fun g _=>lab g=1/\g < w.heap.size) w1 B N came kV wV kT wT kM wM bs):=HI.out.kept hk1 (fun _ _ _ h=>h) (fun _ _ _ _ h=>h) (fun _ h1 h=>⟨h,h1⟩) (fun _ _ h1 h=>⟨h,h1⟩);have HROW1:Hid (w1.ownsRow w.heap.size 124 15 (.slice aw l.length cw) l.length (l.flatMap aK)):=hrow1;have HK1:Hid (aB (fun _=>False) w w1):=hk1;have HKR1:Hid (w1.ownsRow 0 124 15 kM lM.length (lM.flatMap aK)):=aP HKR.out hk1 (fun _ _ h=>h) (a_ _);have HW1:Hid (eV 15 aK w1 wM lM):=HW.out.below (hk1.below (a_ _) (fun _ h=>h.elim)) (a_ _);have hsz1:=hk1.size;obtain⟨vA1,hb1,-⟩:=HI1.out;have b3:=hb1.cell (o:=7) rfl;have b4:=hb1.cell (o:=8) rfl;have HS:Hid (∀W,Below w1.heap.size w1 W->Calls prog 68 #[kM,wM] W fun e w'=>∃v,e= .returned v/\v= .bool true/\Below w1.heap.size w1 w'):=fun W hW=>
  (qK _ _ lM W ((fR (sz:=15) (enc:=aK) (fun _=>rfl) HKR1.out rfl).below hW (a_ _)) (HW1.out.below hW (a_ _)) (by omega)).mono fun e w' h=>⟨_,h.1,rfl,hW.trans (h.2.mono hW.size)⟩
 clear hrow1 hk1 hb1
 go_cut [5] (fun s wx=>s= .bool true/\Below w1.heap.size w1 wx)
 case first=>
  go_region_law (refine dY (by rfl) 68 _ _ _ (by rfl) kM wM (by rfl) (by rfl) (enters_of func68 (by kernel_rfl) rfl) (HS.out _ (by first|exact e_ _ _|exact(e_ _ _).drew)) ?_;rintro v9 w9 ⟨rfl,hb9⟩)
  all_goals
   go_wp2_with fail
   go_meet
   case rel=>exact⟨rfl,by assumption⟩
 case rest=>
  obtain⟨rfl,hb2⟩:=hcut
  rename World=>w2
  have hsz2:=hb2.size;have k2:aB (fun b=>w1.heap.size<=b) w1 w2:=aB.of_below hb2 (fun _ _ h=>h);have HI2:Hid (gC (fun g=>(lab g=1/\g < w.heap.size)\/w2.heap.size<=g) (fun g _=>(lab g=1/\g < w.heap.size)\/w2.heap.size<=g) w2 B (N:Nat) came kV wV kT wT kM wM bs):=HI1.out.kept k2 (fun _ _ h1 h=>by omega) (fun _ _ _ h1 h=>by omega) (fun _ _ h=> .inl h) (fun _ _ _ h=> .inl h);have HROW2:Hid (w2.ownsRow w.heap.size 124 15 (.slice aw l.length cw) l.length (l.flatMap aK)):=aP HROW1.out k2 (fun g e h=>by have:=(HROW1.out.lt g e).2;omega) (a_ _);have HKR2:Hid (w2.ownsRow 0 124 15 kM lM.length (lM.flatMap aK)):=aP HKR1.out k2 (fun g e h=>by have:=(HKR.out.lt g e).2;omega) (a_ _);have HL2:Hid (w2.ownsRow 0 124 15 (.slice al l.length cl) l.length (l.flatMap aK)):=aP (aP HL.out HK1.out (fun _ _ h=>h) (a_ _)) k2 (fun g e h=>by have:=(HL.out.lt g e).2;omega) (a_ _);have HK2:Hid (aB (fun b=>w1.heap.size<=b) w1 w2):=k2;obtain⟨vA2,hbx2,-⟩:=HI2.out;clear b3 b4;have b3:=hbx2.cell (o:=7) rfl;clear hbx2 k2
  go_upto_region 4 with(go_at_call 127;refine(vM (fun g=>(lab g=1/\g < w.heap.size)\/w2.heap.size<=g) B N came kV wV kT wT kM wM kM bs lM.length (lM.flatMap aK) w2 (fun b h=> .inr h) HI2.out HKR2.out (fun g e h=>by have h1:=HKR.out.lt g e;have h2:=HKL.out g e;omega) (by omega) (by rw[HBS.out];omega) (by omega)).mono ?_;rintro e w3 ⟨rfl,bs3,hlen3,hI3,hk3⟩)
  have HK3:Hid (aB (fun g=>((lab g=1/\g < w.heap.size)\/w2.heap.size<=g)\/kM.ownBlock=some g) w2 w3):=hk3;have hsz3:=hk3.size;have HLEN3:Hid (bs3.length=4):=hlen3;have HROW3:Hid (w3.ownsRow w.heap.size 124 15 (.slice aw l.length cw) l.length (l.flatMap aK)):=aP HROW2.out HK3.out (fun g e h=>by have h1:=HROW1.out.lt g e;rcases h with(⟨_,h⟩|h)|h;omega;omega;have:=HKR.out.lt g h;omega) (a_ _);have HL3:Hid (w3.ownsRow 0 124 15 (.slice al l.length cl) l.length (l.flatMap aK)):=aP HL2.out HK3.out (fun g e h=>by have h1:=HL.out.lt g e;have h2:=HLF.out g e;rcases h with(⟨h,_⟩|h)|h;omega;omega;have h3:=HKL.out g h;omega) (a_ _);obtain⟨vA3,hb3,hr3,hFB3,hFA3,hm3⟩:=hI3;have HB3:Hid (aD w3 B 71 (eA (N+1:Nat) came kV wV kT wT kM wM vA3)):=hb3;have HR3:Hid (w3.ownsRow 0 143 4 vA3 (bs++bs3).length (eD (bs++bs3))):=hr3;have HFA3:Hid (∀g,vA3.ownBlock=some g->((lab g=1/\g < w.heap.size)\/w2.heap.size<=g)\/kM.ownBlock=some g):=hFA3;have HM3:Hid (∀x∈bs++bs3,eT w3 (fun g _=>((lab g=1/\g < w.heap.size)\/w2.heap.size<=g)\/kM.ownBlock=some g) x):=hm3;have HFB3:Hid ((fun g=>((lab g=1/\g < w.heap.size)\/w2.heap.size<=g)\/kM.ownBlock=some g) B):=hFB3;clear hb3 hr3 hFB3 hFA3 hm3 hk3 hlen3 b3
  go_upto_region 5 with(go_at_call 68;refine(qK _ _ l w3 (fR (sz:=15) (enc:=aK) (fun _=>rfl) HL3.out rfl) (fR (sz:=15) (enc:=aK) (fun _=>rfl) HROW3.out rfl) (by omega)).mono ?_;rintro e w4 ⟨rfl,hb4⟩)
  have hsz4:=hb4.size;have k4:aB (fun b=>w3.heap.size<=b) w3 w4:=aB.of_below hb4 (fun _ _ h=>h);have HB4:Hid (aD w4 B 71 (eA (N+1:Nat) came kV wV kT wT kM wM vA3)):=HB3.out.kept k4 (by omega);have bx4:=HB4.out;have c1:=bx4.cell (o:=1) rfl;have c2:=bx4.cell (o:=2) rfl;have c3:=bx4.cell (o:=7) rfl;have c4:=bx4.cell (o:=8) rfl;have f1:=bx4.frozen 1;have f2:=bx4.frozen 2;have f3:=bx4.frozen 7;have f4:=bx4.frozen 8;have HK4:Hid (aB (fun b=>w3.heap.size<=b) w3 w4):=k4;clear bx4 k4 hb4;have cw1:IntKind.i64.wrap ((came:Int)+1)=(came:Int)+1:=IntWalk.i64_in _ (by omega);have HNF:Hid (∀g,g < w.heap.size->((((lab g=1/\g < w.heap.size)\/w2.heap.size<=g)\/kM.ownBlock=some g)->lab g=1\/lab g=6)):=fun g hg h=>by
   rcases h with(h|h)|h
   ·exact .inl h.1
   ·omega
   ·exact .inr (HKL.out g h)
  have hc1:((N+1:Nat):Int)=(N:Int)+1:=by omega
  go_upto_region 9 with fail
  obtain⟨W5,hW5⟩:∃W5,(((w4.setCell ⟨B,2,none⟩ (.bool false)).setCell ⟨B,7,none⟩ (.slice none 0 0)).setCell ⟨B,8,none⟩ (.slice none 0 0)).setCell ⟨B,1,none⟩ (.int .i64 ((came:Int)+1))=W5:=⟨_,rfl⟩;have k5:aB (·= B) w4 W5:=by rw[<-hW5];exact((((aB.refl _ _).setCell (.inl (by rfl)) _).setCell (.inl (by rfl)) _).setCell (.inl (by rfl)) _).setCell (.inl (by rfl)) _
  have bx5:aD W5 B 71 (eA (N+1:Nat) ((came:Int)+1) kV wV kT wT (.slice none 0 0) (.slice none 0 0) vA3):=by rw[<-hW5];exact(((HB4.out.setAt 2 _).setAt 7 _).setAt 8 _).setAt 1 _
  rw[hW5];clear hW5;have k35:aB (fun b=>b=B\/w3.heap.size<=b) w3 W5:=(HK4.out.mono (fun _ _ h=> .inr h)).trans (k5.mono (fun _ _ h=> .inl h));have HK35:Hid (aB (fun b=>b=B\/w3.heap.size<=b) w3 W5):=k35;have hsz5:=k35.size;have HR5:Hid (W5.ownsRow 0 143 4 vA3 (bs++bs3).length (eD (bs++bs3))):=by
   refine aP HR3.out k35 (fun g e h=> ?_) (a_ _);rcases h with rfl|h
   ·exact bF HR3.out HB3.out (by decide) e
   ·have:=(HR3.out.lt g e).2
    omega
  have HM5:Hid (∀x∈bs++bs3,eT W5 (fun g _=>((lab g=1/\g < w.heap.size)\/w2.heap.size<=g)\/kM.ownBlock=some g) x):=fun x hx=>by
   refine(HM3.out x hx).kept k35 (fun g n t cs ht hb _ h=> ?_) (fun g n t cs ht hb h=>h);rcases h with rfl|h
   ·exact ht.ne.1 (jD hb HB3.out)
   ·have:=hb.lt
    omega
  have HI5:Hid (gC (fun g=>((lab g=1/\g < w.heap.size)\/w2.heap.size<=g)\/kM.ownBlock=some g) (fun g _=>((lab g=1/\g < w.heap.size)\/w2.heap.size<=g)\/kM.ownBlock=some g) W5 B (N+1:Nat) ((came:Int)+1) kV wV kT wT (.slice none 0 0) (.slice none 0 0) (bs++bs3)):=⟨vA3,bx5,HR5.out,HFB3.out,HFA3.out,HM5.out⟩;have HL5:Hid (W5.ownsRow 0 124 15 (.slice al l.length cl) l.length (l.flatMap aK)):=aP HL3.out k35 (fun g e h=>by
   rcases h with rfl|h
   ·exact bF HL3.out HB3.out (by decide) e
   ·have:=(HL3.out.lt g e).2
    omega) (a_ _)
  have HROW5:Hid (W5.ownsRow w.heap.size 124 15 (.slice aw l.length cw) l.length (l.flatMap aK)):=aP HROW3.out k35 (fun g e h=>by
   rcases h with rfl|h
   ·exact bF HROW3.out HB3.out (by decide) e
   ·have:=(HROW3.out.lt g e).2
    omega) (a_ _)
  have k12:aB (fun b=>lab b=1\/lab b=6) w w2:=(HK1.out.mono (fun _ _ h=>h.elim)).andThen HK2.out (fun b h1 h2=>by omega);have k15:aB (fun b=>lab b=1\/lab b=6) w W5:=(k12.andThen HK3.out (fun b h1 h2=>HNF.out b h1 h2)).andThen k35 (fun b h1 h2=>by
   rcases h2 with rfl|h2
   ·exact .inl hFB0
   ·omega)
  have HK15:Hid (aB (fun b=>lab b=1\/lab b=6) w W5):=k15;have HLT1:Hid (∀g,(Value.slice aw l.length cw).ownBlock=some g->w.heap.size<=g/\g < w1.heap.size):=HROW1.out.lt;have e1:=bx5.cell (o:=1) rfl;clear k15 k12 k35 k5 c1 c2 c3 c4 f1 f2 f3 f4;have hz:∀g,lab g≠0->(Value.slice al l.length cl).ownBlock≠some g:=fun g h e=>h (HLF.out g e)
  by_cases hpar:(came+1) % 2=0
  ·have hp1:((came:Int)+1) % 2=0:=by omega
   have hp2:((came:Int)+1).tmod 2=0:=by rw[Int.tmod_eq_emod_of_nonneg (by omega)];exact hp1
   clear bx5
   go_wp2_with (go_at_call 127;refine(vM (fun g=>((lab g=1/\g < w.heap.size)\/w2.heap.size<=g)\/kM.ownBlock=some g) B (N+1) ((came:Int)+1) kV wV kT wT (.slice none 0 0) (.slice none 0 0) (.slice al l.length cl) (bs++bs3) l.length (l.flatMap aK) W5 (fun b h=> .inl (.inr (by omega))) HI5.out HL5.out (fun g e h=>by have h1:=HL.out.lt g e;have h2:=HLF.out g e;have h3:=HNF.out g h1.2 h;omega) (by omega) (by rw[f_,HBS.out,HLEN3.out];omega) (by omega)).mono ?_;rintro e w6 ⟨rfl,bs6,hlen6,hI6,hk6⟩)
   go_end0
   have hk:aB (fun b=>(lab b=1\/lab b=6)\/(Value.slice al l.length cl).ownBlock=some b) w w6:=(HK15.out.mono (fun _ _ h=> .inl h)).andThen hk6 (fun b h1 h2=>by
    rcases h2 with h2|h2
    ·exact .inl (HNF.out b h1 h2)
    ·exact .inr h2)
   have hlab':∀g,(((lab g=1/\g < w.heap.size)\/w2.heap.size<=g)\/kM.ownBlock=some g)\/(Value.slice al l.length cl).ownBlock=some g->(fun b=>if b < w.heap.size then(if lab b=6\/(Value.slice al l.length cl).ownBlock=some b then 1 else lab b)else 1) g=1:=fun g h=>by
    dsimp only;by_cases hg:g < w.heap.size
    ·rw[if_pos hg]
     rcases h with h|h
     ·rcases HNF.out g hg h with h|h
      ·split<;>simp[h]
      ·rw[if_pos (.inl h)]
     ·rw[if_pos (.inr h)]
    ·rw[if_neg hg]
   refine⟨rfl,N+2,by omega,⟨fun b=>if b < w.heap.size then(if lab b=6\/(Value.slice al l.length cl).ownBlock=some b then 1 else lab b)else 1,kV,wV,kT,wT,.slice none 0 0,.slice none 0 0,lV,lT,[],(bs++bs3)++bs6,fun b hb=> ?_,by rw[f_,f_,HBS.out,HLEN3.out,hlen6];omega,hI6.kept (aB.refl (fun _=>False) _) (fun _ _ _ h=>h) (fun _ _ _ _ h=>h) (fun g _ h=>hlab' g h) (fun g _ _ h=>hlab' g h),?_,?_,?_⟩,?_⟩
   ·dsimp only at hb
    by_cases hg:b < w.heap.size
    ·rw[if_pos hg]at hb
     by_cases h:lab b=6\/(Value.slice al l.length cl).ownBlock=some b
     ·rcases h with h|h
      ·exact .inl (HLAB.out b (by omega))
      ·exact .inr (.inr h)
     ·rw[if_neg h]at hb
      exact .inl (HLAB.out b hb)
    ·exact .inr (.inl (by omega))
   all_goals first
    |exact fW.nil _ _ _ _ _ _ _
    |exact hk.mono (fun b _ h=>h.elim (fun h=> .inl (HLAB.out b (by omega))) .inr)
    |exact HOV.out.kept hk (fun g hg h=>⟨fun h'=>h'.elim (fun h'=>by omega) (hz g (by omega)),(if_pos hg).trans (if_neg (fun h'=>h'.elim (fun h'=>by omega) (hz g (by omega))))⟩)
    |exact HOT.out.kept hk (fun g hg h=>⟨fun h'=>h'.elim (fun h'=>by omega) (hz g (by omega)),(if_pos hg).trans (if_neg (fun h'=>h'.elim (fun h'=>by omega) (hz g (by omega))))⟩)
  ·have hp1:((came:Int)+1) % 2=1:=by omega
   have hp2:((came:Int)+1).tmod 2=1:=by rw[Int.tmod_eq_emod_of_nonneg (by omega)];exact hp1
   have f3:=bx5.frozen 7;have f4:=bx5.frozen 8;have c3:=bx5.cell (o:=7) rfl;have c4:=bx5.cell (o:=8) rfl;have HBX5:Hid (aD W5 B 71 (eA (N+1:Nat) ((came:Int)+1) kV wV kT wT (.slice none 0 0) (.slice none 0 0) vA3)):=bx5;clear bx5
   go_wp2_with fail
   go_end0
   obtain⟨W6,hW6⟩:∃W6,(W5.setCell ⟨B,7,none⟩ (.slice al l.length cl)).setCell ⟨B,8,none⟩ (.slice aw l.length cw)=W6:=⟨_,rfl⟩;have k6:aB (·= B) W5 W6:=by rw[<-hW6];exact((aB.refl _ _).setCell (.inl (by rfl)) _).setCell (.inl (by rfl)) _
   have bx6:aD W6 B 71 (eA (N+1:Nat) ((came:Int)+1) kV wV kT wT (.slice al l.length cl) (.slice aw l.length cw) vA3):=by rw[<-hW6];exact(HBX5.out.setAt 7 _).setAt 8 _
   rw[hW6];have hk:aB (fun b=>lab b=1\/lab b=6) w W6:=HK15.out.andThen k6 (fun b _ h=>by subst h;exact .inl hFB0);have hlab':∀g,((lab g=1/\g < w.heap.size)\/w2.heap.size<=g)\/kM.ownBlock=some g->(fun b=>if b < w.heap.size then(if lab b=6 then 1 else if(Value.slice al l.length cl).ownBlock=some b then 6 else lab b)else if b < w1.heap.size then 7 else 1) g=1:=fun g h=>by
    dsimp only;by_cases hg:g < w.heap.size
    ·rw[if_pos hg]
     rcases HNF.out g hg h with h'|h'
     ·rw[if_neg (by omega),if_neg (fun e=>by have:=HLF.out g e;omega)];exact h'
     ·rw[if_pos h']
    ·rw[if_neg hg,if_neg]
     rcases h with(h|h)|h
     ·omega
     ·omega
     ·have:=(HKR.out.lt g h).2
      omega
   have hnew:fW 124 15 aK (fun b=>if b < w.heap.size then(if lab b=6 then 1 else if(Value.slice al l.length cl).ownBlock=some b then 6 else lab b)else if b < w1.heap.size then 7 else 1) 6 7 W6 (.slice al l.length cl) (.slice aw l.length cw) l:=by
    refine⟨aP HL5.out k6 (fun g e h=> ?_) (a_ _),fun g e=> ?_,iX (aP HROW5.out k6 (fun g e h=> ?_) (a_ _)) (Nat.zero_le _),fun g e=> ?_,hn⟩
    ·subst h
     exact bF HL5.out HBX5.out (by decide) e
    ·have h1:=(HL.out.lt g e).2
     have h2:=HLF.out g e;dsimp only;rw[if_pos h1,if_neg (by omega),if_pos e]
    ·subst h
     exact bF HROW5.out HBX5.out (by decide) e
    ·have h1:=HLT1.out g e
     dsimp only;rw[if_neg (by omega),if_pos h1.2]
   refine⟨rfl,N+1,by omega,⟨fun b=>if b < w.heap.size then(if lab b=6 then 1 else if(Value.slice al l.length cl).ownBlock=some b then 6 else lab b)else if b < w1.heap.size then 7 else 1,kV,wV,kT,wT,.slice al l.length cl,.slice aw l.length cw,lV,lT,l,bs++bs3,fun b hb=> ?_,by rw[f_,HBS.out,HLEN3.out];omega,⟨vA3,bx6,aP HR5.out k6 (fun g e h=> ?_) (a_ _),hlab' B HFB3.out,fun g e=>hlab' g (HFA3.out g e),fun x hx=>(HM5.out x hx).kept k6 (fun g n t cs ht hb _ h=> ?_) (fun g _ _ _ _ _ h=>hlab' g h)⟩,?_,?_,?_⟩,hk.mono (fun b _ h=> .inl (HLAB.out b (by omega)))⟩
   ·dsimp only at hb
    by_cases hg:b < w.heap.size
    ·rw[if_pos hg]at hb
     by_cases h:lab b=6
     ·exact .inl (HLAB.out b (by omega))
     ·rw[if_neg h]at hb
      by_cases h':(Value.slice al l.length cl).ownBlock=some b
      ·exact .inr (.inr h')
      ·rw[if_neg h']at hb
       exact .inl (HLAB.out b hb)
    ·exact .inr (.inl (by omega))
   ·subst h
    exact bF HR5.out HBX5.out (by decide) e
   ·subst h
    exact ht.ne.1 (jD hb HBX5.out)
   all_goals first
    |exact hnew
    |exact HOV.out.kept hk (fun g hg h=>⟨fun h'=>by omega,(if_pos hg).trans ((if_neg (by omega)).trans (if_neg (hz g (by omega))))⟩)
    |exact HOT.out.kept hk (fun g hg h=>⟨fun h'=>by omega,(if_pos hg).trans ((if_neg (by omega)).trans (if_neg (hz g (by omega))))⟩)
theorem aFs(F:Nat->Prop)(B N came:Nat)(lv:Value)(l:List (ByteArray×Int))(w:World)(hI:eU F w B N came)
  (hl:w.ownsRow 0 92 2 lv l.length (l.flatMap dL)) (hlF:∀g,lv.ownBlock=some g->¬F g) (hn:l.length<=1000000) (hN:N<=300000000000) (hcm:came<=300000000000) :
  Calls prog 72 #[.pointer (some ⟨B,0,none⟩),lv] w fun e w'=>e= .returned (.tuple #[])/\∃N',N'<=N+2/\eU (fun b=>F b\/w.heap.size<=b\/lv.ownBlock=some b) w' B N' (came+1)/\aB (fun b=>F b\/lv.ownBlock=some b) w w':=by
 obtain⟨i1,hi1,hy0,hy1,hy2⟩:=info_parts pI;obtain⟨lab,kV,wV,kT,wT,kM,wM,lV,lT,lM,bs,hlab,hbs,hX,hKV,hKT,hKM⟩:=hI;have HLAB:Hid (∀b,lab b≠0->F b):=hlab;have HI:Hid (gC (fun b=>lab b=1) (fun b _=>lab b=1) w B N came kV wV kT wT kM wM bs):=hX;have HOT:Hid (fW 62 3 aJ lab 4 5 w kT wT lT):=hKT;have HOM:Hid (fW 124 15 aK lab 6 7 w kM wM lM):=hKM;have HK:Hid (fW 92 2 dL lab 2 3 w kV wV lV):=hKV;obtain⟨hkr,hkl,hwr,hwl,hn0⟩:=hKV;have HKR:Hid (w.ownsRow 0 92 2 kV lV.length (lV.flatMap dL)):=hkr;have HKL:Hid (∀g,kV.ownBlock=some g->lab g=2):=hkl;have HW:Hid (eV 2 dL w wV lV):=fR (sz:=2) (enc:=dL) (fun _=>rfl) hwr rfl;have HL:Hid (w.ownsRow 0 92 2 lv l.length (l.flatMap dL)):=hl;have HLF:Hid (∀g,lv.ownBlock=some g->lab g=0):=fun g e=>by
  rcases Nat.eq_zero_or_pos (lab g)with h|h
  ·exact h
  ·exact absurd (hlab g (by omega)) (hlF g e)
 have HLF0:Hid (∀g,lv.ownBlock=some g->¬F g):=hlF;have HBS:Hid (bs.length=4*N):=hbs;have hBl:B < w.heap.size:=by obtain⟨_,hb,_⟩:=hX;exact hb.lt
 have hFB0:lab B=1:=by obtain⟨_,_,_,hb,_⟩:=hX;exact hb
 obtain⟨al,cl,rfl⟩:=bG hl;clear hlab hX hl hlF hkr hkl hwr hwl hbs;clear hKT;clear hKM;go_enter func72,ntmps72
 go_upto_region 2 with(at_builtin;refine oB rfl _ _ _ rfl 92 i1 _ 2 24 underlying42 hi1 hy0 hy1 hy2 rfl (by omega) rfl 0 (.slice al l.length cl) l.length (l.flatMap dL) rfl HL.out (iZ xX _) (by unfold maxLen;omega) (by omega) ?_;intro wv w1 hrow1 hk1)
 obtain⟨aw,cw,rfl⟩:=bG hrow1;have HI1:Hid (gC (fun g=>lab g=1/\g < w.heap.size) (fun g _=>lab g=1/\g < w.heap.size) w1 B N came kV wV kT wT kM wM bs):=HI.out.kept hk1 (fun _ _ _ h=>h) (fun _ _ _ _ h=>h) (fun _ h1 h=>⟨h,h1⟩) (fun _ _ h1 h=>⟨h,h1⟩);have HROW1:Hid (w1.ownsRow w.heap.size 92 2 (.slice aw l.length cw) l.length (l.flatMap dL)):=hrow1;have HK1:Hid (aB (fun _=>False) w w1):=hk1;have HKR1:Hid (w1.ownsRow 0 92 2 kV lV.length (lV.flatMap dL)):=aP HKR.out hk1 (fun _ _ h=>h) (a_ _);have HW1:Hid (eV 2 dL w1 wV lV):=HW.out.below (hk1.below (a_ _) (fun _ h=>h.elim)) (a_ _);have hsz1:=hk1.size;obtain⟨vA1,hb1,-⟩:=HI1.out;have b3:=hb1.cell (o:=3) rfl;have b4:=hb1.cell (o:=4) rfl;have HS:Hid (∀W,Below w1.heap.size w1 W->Calls prog 71 #[kV,wV] W fun e w'=>∃v,e= .returned v/\v= .bool true/\Below w1.heap.size w1 w'):=fun W hW=>
  (qM _ _ lV W ((fR (sz:=2) (enc:=dL) (fun _=>rfl) HKR1.out rfl).below hW (a_ _)) (HW1.out.below hW (a_ _)) (by omega)).mono fun e w' h=>⟨_,h.1,rfl,hW.trans (h.2.mono hW.size)⟩
 clear hrow1 hk1 hb1
 go_cut [5] (fun s wx=>s= .bool true/\Below w1.heap.size w1 wx)
 case first=>
  go_region_law (refine dY (by rfl) 71 _ _ _ (by rfl) kV wV (by rfl) (by rfl) (enters_of func71 (by kernel_rfl) rfl) (HS.out _ (by first|exact e_ _ _|exact(e_ _ _).drew)) ?_;rintro v9 w9 ⟨rfl,hb9⟩)
  all_goals
   go_wp2_with fail
   go_meet
   case rel=>exact⟨rfl,by assumption⟩
 case rest=>
  obtain⟨rfl,hb2⟩:=hcut
  rename World=>w2
  have hsz2:=hb2.size;have k2:aB (fun b=>w1.heap.size<=b) w1 w2:=aB.of_below hb2 (fun _ _ h=>h);have HI2:Hid (gC (fun g=>(lab g=1/\g < w.heap.size)\/w2.heap.size<=g) (fun g _=>(lab g=1/\g < w.heap.size)\/w2.heap.size<=g) w2 B (N:Nat) came kV wV kT wT kM wM bs):=HI1.out.kept k2 (fun _ _ h1 h=>by omega) (fun _ _ _ h1 h=>by omega) (fun _ _ h=> .inl h) (fun _ _ _ h=> .inl h);have HROW2:Hid (w2.ownsRow w.heap.size 92 2 (.slice aw l.length cw) l.length (l.flatMap dL)):=aP HROW1.out k2 (fun g e h=>by have:=(HROW1.out.lt g e).2;omega) (a_ _);have HKR2:Hid (w2.ownsRow 0 92 2 kV lV.length (lV.flatMap dL)):=aP HKR1.out k2 (fun g e h=>by have:=(HKR.out.lt g e).2;omega) (a_ _);have HL2:Hid (w2.ownsRow 0 92 2 (.slice al l.length cl) l.length (l.flatMap dL)):=aP (aP HL.out HK1.out (fun _ _ h=>h) (a_ _)) k2 (fun g e h=>by have:=(HL.out.lt g e).2;omega) (a_ _);have HK2:Hid (aB (fun b=>w1.heap.size<=b) w1 w2):=k2;obtain⟨vA2,hbx2,-⟩:=HI2.out;clear b3 b4;have b3:=hbx2.cell (o:=3) rfl;clear hbx2 k2
  go_upto_region 4 with(go_at_call 128;refine(vT (fun g=>(lab g=1/\g < w.heap.size)\/w2.heap.size<=g) B N came kV wV kT wT kM wM kV bs lV.length (lV.flatMap dL) w2 (fun b h=> .inr h) HI2.out HKR2.out (fun g e h=>by have h1:=HKR.out.lt g e;have h2:=HKL.out g e;omega) (by omega) (by rw[HBS.out];omega) (by omega)).mono ?_;rintro e w3 ⟨rfl,bs3,hlen3,hI3,hk3⟩)
  have HK3:Hid (aB (fun g=>((lab g=1/\g < w.heap.size)\/w2.heap.size<=g)\/kV.ownBlock=some g) w2 w3):=hk3;have hsz3:=hk3.size;have HLEN3:Hid (bs3.length=4):=hlen3;have HROW3:Hid (w3.ownsRow w.heap.size 92 2 (.slice aw l.length cw) l.length (l.flatMap dL)):=aP HROW2.out HK3.out (fun g e h=>by have h1:=HROW1.out.lt g e;rcases h with(⟨_,h⟩|h)|h;omega;omega;have:=HKR.out.lt g h;omega) (a_ _);have HL3:Hid (w3.ownsRow 0 92 2 (.slice al l.length cl) l.length (l.flatMap dL)):=aP HL2.out HK3.out (fun g e h=>by have h1:=HL.out.lt g e;have h2:=HLF.out g e;rcases h with(⟨h,_⟩|h)|h;omega;omega;have h3:=HKL.out g h;omega) (a_ _);obtain⟨vA3,hb3,hr3,hFB3,hFA3,hm3⟩:=hI3;have HB3:Hid (aD w3 B 71 (eA (N+1:Nat) came kV wV kT wT kM wM vA3)):=hb3;have HR3:Hid (w3.ownsRow 0 143 4 vA3 (bs++bs3).length (eD (bs++bs3))):=hr3;have HFA3:Hid (∀g,vA3.ownBlock=some g->((lab g=1/\g < w.heap.size)\/w2.heap.size<=g)\/kV.ownBlock=some g):=hFA3;have HM3:Hid (∀x∈bs++bs3,eT w3 (fun g _=>((lab g=1/\g < w.heap.size)\/w2.heap.size<=g)\/kV.ownBlock=some g) x):=hm3;have HFB3:Hid ((fun g=>((lab g=1/\g < w.heap.size)\/w2.heap.size<=g)\/kV.ownBlock=some g) B):=hFB3;clear hb3 hr3 hFB3 hFA3 hm3 hk3 hlen3 b3
  go_upto_region 5 with(go_at_call 71;refine(qM _ _ l w3 (fR (sz:=2) (enc:=dL) (fun _=>rfl) HL3.out rfl) (fR (sz:=2) (enc:=dL) (fun _=>rfl) HROW3.out rfl) (by omega)).mono ?_;rintro e w4 ⟨rfl,hb4⟩)
  have hsz4:=hb4.size;have k4:aB (fun b=>w3.heap.size<=b) w3 w4:=aB.of_below hb4 (fun _ _ h=>h);have HB4:Hid (aD w4 B 71 (eA (N+1:Nat) came kV wV kT wT kM wM vA3)):=HB3.out.kept k4 (by omega);have bx4:=HB4.out;have c1:=bx4.cell (o:=1) rfl;have c2:=bx4.cell (o:=2) rfl;have c3:=bx4.cell (o:=3) rfl;have c4:=bx4.cell (o:=4) rfl;have f1:=bx4.frozen 1;have f2:=bx4.frozen 2;have f3:=bx4.frozen 3;have f4:=bx4.frozen 4;have HK4:Hid (aB (fun b=>w3.heap.size<=b) w3 w4):=k4;clear bx4 k4 hb4;have cw1:IntKind.i64.wrap ((came:Int)+1)=(came:Int)+1:=IntWalk.i64_in _ (by omega);have HNF:Hid (∀g,g < w.heap.size->((((lab g=1/\g < w.heap.size)\/w2.heap.size<=g)\/kV.ownBlock=some g)->lab g=1\/lab g=2)):=fun g hg h=>by
   rcases h with(h|h)|h
   ·exact .inl h.1
   ·omega
   ·exact .inr (HKL.out g h)
  have hc1:((N+1:Nat):Int)=(N:Int)+1:=by omega
  go_upto_region 9 with fail
  obtain⟨W5,hW5⟩:∃W5,(((w4.setCell ⟨B,2,none⟩ (.bool false)).setCell ⟨B,3,none⟩ (.slice none 0 0)).setCell ⟨B,4,none⟩ (.slice none 0 0)).setCell ⟨B,1,none⟩ (.int .i64 ((came:Int)+1))=W5:=⟨_,rfl⟩;have k5:aB (·= B) w4 W5:=by rw[<-hW5];exact((((aB.refl _ _).setCell (.inl (by rfl)) _).setCell (.inl (by rfl)) _).setCell (.inl (by rfl)) _).setCell (.inl (by rfl)) _
  have bx5:aD W5 B 71 (eA (N+1:Nat) ((came:Int)+1) (.slice none 0 0) (.slice none 0 0) kT wT kM wM vA3):=by rw[<-hW5];exact(((HB4.out.setAt 2 _).setAt 3 _).setAt 4 _).setAt 1 _
  rw[hW5];clear hW5;have k35:aB (fun b=>b=B\/w3.heap.size<=b) w3 W5:=(HK4.out.mono (fun _ _ h=> .inr h)).trans (k5.mono (fun _ _ h=> .inl h));have HK35:Hid (aB (fun b=>b=B\/w3.heap.size<=b) w3 W5):=k35;have hsz5:=k35.size;have HR5:Hid (W5.ownsRow 0 143 4 vA3 (bs++bs3).length (eD (bs++bs3))):=by
   refine aP HR3.out k35 (fun g e h=> ?_) (a_ _);rcases h with rfl|h
   ·exact bF HR3.out HB3.out (by decide) e
   ·have:=(HR3.out.lt g e).2
    omega
  have HM5:Hid (∀x∈bs++bs3,eT W5 (fun g _=>((lab g=1/\g < w.heap.size)\/w2.heap.size<=g)\/kV.ownBlock=some g) x):=fun x hx=>by
   refine(HM3.out x hx).kept k35 (fun g n t cs ht hb _ h=> ?_) (fun g n t cs ht hb h=>h);rcases h with rfl|h
   ·exact ht.ne.1 (jD hb HB3.out)
   ·have:=hb.lt
    omega
  have HI5:Hid (gC (fun g=>((lab g=1/\g < w.heap.size)\/w2.heap.size<=g)\/kV.ownBlock=some g) (fun g _=>((lab g=1/\g < w.heap.size)\/w2.heap.size<=g)\/kV.ownBlock=some g) W5 B (N+1:Nat) ((came:Int)+1) (.slice none 0 0) (.slice none 0 0) kT wT kM wM (bs++bs3)):=⟨vA3,bx5,HR5.out,HFB3.out,HFA3.out,HM5.out⟩;have HL5:Hid (W5.ownsRow 0 92 2 (.slice al l.length cl) l.length (l.flatMap dL)):=aP HL3.out k35 (fun g e h=>by
   rcases h with rfl|h
   ·exact bF HL3.out HB3.out (by decide) e
   ·have:=(HL3.out.lt g e).2
    omega) (a_ _)
  have HROW5:Hid (W5.ownsRow w.heap.size 92 2 (.slice aw l.length cw) l.length (l.flatMap dL)):=aP HROW3.out k35 (fun g e h=>by
   rcases h with rfl|h
   ·exact bF HROW3.out HB3.out (by decide) e
   ·have:=(HROW3.out.lt g e).2
    omega) (a_ _)
  have k12:aB (fun b=>lab b=1\/lab b=2) w w2:=(HK1.out.mono (fun _ _ h=>h.elim)).andThen HK2.out (fun b h1 h2=>by omega);have k15:aB (fun b=>lab b=1\/lab b=2) w W5:=(k12.andThen HK3.out (fun b h1 h2=>HNF.out b h1 h2)).andThen k35 (fun b h1 h2=>by
   rcases h2 with rfl|h2
   ·exact .inl hFB0
   ·omega)
  have HK15:Hid (aB (fun b=>lab b=1\/lab b=2) w W5):=k15;have HLT1:Hid (∀g,(Value.slice aw l.length cw).ownBlock=some g->w.heap.size<=g/\g < w1.heap.size):=HROW1.out.lt;have e1:=bx5.cell (o:=1) rfl;clear k15 k12 k35 k5 c1 c2 c3 c4 f1 f2 f3 f4;have hz:∀g,lab g≠0->(Value.slice al l.length cl).ownBlock≠some g:=fun g h e=>h (HLF.out g e)
  by_cases hpar:(came+1) % 2=0
  ·have hp1:((came:Int)+1) % 2=0:=by omega
   have hp2:((came:Int)+1).tmod 2=0:=by rw[Int.tmod_eq_emod_of_nonneg (by omega)];exact hp1
   clear bx5
   go_wp2_with (go_at_call 128;refine(vT (fun g=>((lab g=1/\g < w.heap.size)\/w2.heap.size<=g)\/kV.ownBlock=some g) B (N+1) ((came:Int)+1) (.slice none 0 0) (.slice none 0 0) kT wT kM wM (.slice al l.length cl) (bs++bs3) l.length (l.flatMap dL) W5 (fun b h=> .inl (.inr (by omega))) HI5.out HL5.out (fun g e h=>by have h1:=HL.out.lt g e;have h2:=HLF.out g e;have h3:=HNF.out g h1.2 h;omega) (by omega) (by rw[f_,HBS.out,HLEN3.out];omega) (by omega)).mono ?_;rintro e w6 ⟨rfl,bs6,hlen6,hI6,hk6⟩)
   go_end0
   have hk:aB (fun b=>(lab b=1\/lab b=2)\/(Value.slice al l.length cl).ownBlock=some b) w w6:=(HK15.out.mono (fun _ _ h=> .inl h)).andThen hk6 (fun b h1 h2=>by
    rcases h2 with h2|h2
    ·exact .inl (HNF.out b h1 h2)
    ·exact .inr h2)
   have hlab':∀g,(((lab g=1/\g < w.heap.size)\/w2.heap.size<=g)\/kV.ownBlock=some g)\/(Value.slice al l.length cl).ownBlock=some g->(fun b=>if b < w.heap.size then(if lab b=2\/(Value.slice al l.length cl).ownBlock=some b then 1 else lab b)else 1) g=1:=fun g h=>by
    dsimp only;by_cases hg:g < w.heap.size
    ·rw[if_pos hg]
     rcases h with h|h
     ·rcases HNF.out g hg h with h|h
      ·split<;>simp[h]
      ·rw[if_pos (.inl h)]
     ·rw[if_pos (.inr h)]
    ·rw[if_neg hg]
   refine⟨rfl,N+2,by omega,⟨fun b=>if b < w.heap.size then(if lab b=2\/(Value.slice al l.length cl).ownBlock=some b then 1 else lab b)else 1,.slice none 0 0,.slice none 0 0,kT,wT,kM,wM,[],lT,lM,(bs++bs3)++bs6,fun b hb=> ?_,by rw[f_,f_,HBS.out,HLEN3.out,hlen6];omega,hI6.kept (aB.refl (fun _=>False) _) (fun _ _ _ h=>h) (fun _ _ _ _ h=>h) (fun g _ h=>hlab' g h) (fun g _ _ h=>hlab' g h),?_,?_,?_⟩,?_⟩
   ·dsimp only at hb
    by_cases hg:b < w.heap.size
    ·rw[if_pos hg]at hb
     by_cases h:lab b=2\/(Value.slice al l.length cl).ownBlock=some b
     ·rcases h with h|h
      ·exact .inl (HLAB.out b (by omega))
      ·exact .inr (.inr h)
     ·rw[if_neg h]at hb
      exact .inl (HLAB.out b hb)
    ·exact .inr (.inl (by omega))
   all_goals first
    |exact fW.nil _ _ _ _ _ _ _
    |exact hk.mono (fun b _ h=>h.elim (fun h=> .inl (HLAB.out b (by omega))) .inr)
    |exact HOT.out.kept hk (fun g hg h=>⟨fun h'=>h'.elim (fun h'=>by omega) (hz g (by omega)),(if_pos hg).trans (if_neg (fun h'=>h'.elim (fun h'=>by omega) (hz g (by omega))))⟩)
    |exact HOM.out.kept hk (fun g hg h=>⟨fun h'=>h'.elim (fun h'=>by omega) (hz g (by omega)),(if_pos hg).trans (if_neg (fun h'=>h'.elim (fun h'=>by omega) (hz g (by omega))))⟩)
  ·have hp1:((came:Int)+1) % 2=1:=by omega
   have hp2:((came:Int)+1).tmod 2=1:=by rw[Int.tmod_eq_emod_of_nonneg (by omega)];exact hp1
   have f3:=bx5.frozen 3;have f4:=bx5.frozen 4;have c3:=bx5.cell (o:=3) rfl;have c4:=bx5.cell (o:=4) rfl;have HBX5:Hid (aD W5 B 71 (eA (N+1:Nat) ((came:Int)+1) (.slice none 0 0) (.slice none 0 0) kT wT kM wM vA3)):=bx5;clear bx5
   go_wp2_with fail
   go_end0
   obtain⟨W6,hW6⟩:∃W6,(W5.setCell ⟨B,3,none⟩ (.slice al l.length cl)).setCell ⟨B,4,none⟩ (.slice aw l.length cw)=W6:=⟨_,rfl⟩;have k6:aB (·= B) W5 W6:=by rw[<-hW6];exact((aB.refl _ _).setCell (.inl (by rfl)) _).setCell (.inl (by rfl)) _
   have bx6:aD W6 B 71 (eA (N+1:Nat) ((came:Int)+1) (.slice al l.length cl) (.slice aw l.length cw) kT wT kM wM vA3):=by rw[<-hW6];exact(HBX5.out.setAt 3 _).setAt 4 _
   rw[hW6];have hk:aB (fun b=>lab b=1\/lab b=2) w W6:=HK15.out.andThen k6 (fun b _ h=>by subst h;exact .inl hFB0);have hlab':∀g,((lab g=1/\g < w.heap.size)\/w2.heap.size<=g)\/kV.ownBlock=some g->(fun b=>if b < w.heap.size then(if lab b=2 then 1 else if(Value.slice al l.length cl).ownBlock=some b then 2 else lab b)else if b < w1.heap.size then 3 else 1) g=1:=fun g h=>by
    dsimp only;by_cases hg:g < w.heap.size
    ·rw[if_pos hg]
     rcases HNF.out g hg h with h'|h'
     ·rw[if_neg (by omega),if_neg (fun e=>by have:=HLF.out g e;omega)];exact h'
     ·rw[if_pos h']
    ·rw[if_neg hg,if_neg]
     rcases h with(h|h)|h
     ·omega
     ·omega
     ·have:=(HKR.out.lt g h).2
      omega
   have hnew:fW 92 2 dL (fun b=>if b < w.heap.size then(if lab b=2 then 1 else if(Value.slice al l.length cl).ownBlock=some b then 2 else lab b)else if b < w1.heap.size then 3 else 1) 2 3 W6 (.slice al l.length cl) (.slice aw l.length cw) l:=by
    refine⟨aP HL5.out k6 (fun g e h=> ?_) (a_ _),fun g e=> ?_,iX (aP HROW5.out k6 (fun g e h=> ?_) (a_ _)) (Nat.zero_le _),fun g e=> ?_,hn⟩
    ·subst h
     exact bF HL5.out HBX5.out (by decide) e
    ·have h1:=(HL.out.lt g e).2
     have h2:=HLF.out g e;dsimp only;rw[if_pos h1,if_neg (by omega),if_pos e]
    ·subst h
     exact bF HROW5.out HBX5.out (by decide) e
    ·have h1:=HLT1.out g e
     dsimp only;rw[if_neg (by omega),if_pos h1.2]
   refine⟨rfl,N+1,by omega,⟨fun b=>if b < w.heap.size then(if lab b=2 then 1 else if(Value.slice al l.length cl).ownBlock=some b then 2 else lab b)else if b < w1.heap.size then 3 else 1,.slice al l.length cl,.slice aw l.length cw,kT,wT,kM,wM,l,lT,lM,bs++bs3,fun b hb=> ?_,by rw[f_,HBS.out,HLEN3.out];omega,⟨vA3,bx6,aP HR5.out k6 (fun g e h=> ?_) (a_ _),hlab' B HFB3.out,fun g e=>hlab' g (HFA3.out g e),fun x hx=>(HM5.out x hx).kept k6 (fun g n t cs ht hb _ h=> ?_) (fun g _ _ _ _ _ h=>hlab' g h)⟩,?_,?_,?_⟩,hk.mono (fun b _ h=> .inl (HLAB.out b (by omega)))⟩
   ·dsimp only at hb
    by_cases hg:b < w.heap.size
    ·rw[if_pos hg]at hb
     by_cases h:lab b=2
     ·exact .inl (HLAB.out b (by omega))
     ·rw[if_neg h]at hb
      by_cases h':(Value.slice al l.length cl).ownBlock=some b
      ·exact .inr (.inr h')
      ·rw[if_neg h']at hb
       exact .inl (HLAB.out b hb)
    ·exact .inr (.inl (by omega))
   ·subst h
    exact bF HR5.out HBX5.out (by decide) e
   ·subst h
    exact ht.ne.1 (jD hb HBX5.out)
   all_goals first
    |exact hnew
    |exact HOT.out.kept hk (fun g hg h=>⟨fun h'=>by omega,(if_pos hg).trans ((if_neg (by omega)).trans (if_neg (hz g (by omega))))⟩)
    |exact HOM.out.kept hk (fun g hg h=>⟨fun h'=>by omega,(if_pos hg).trans ((if_neg (by omega)).trans (if_neg (hz g (by omega))))⟩)
end Go.Proofs.YtfanaanofjhlkaaGreatDoor
