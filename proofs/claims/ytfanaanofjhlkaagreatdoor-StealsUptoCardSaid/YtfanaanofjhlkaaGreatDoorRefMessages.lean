import Derived.Test.YtfanaanofjhlkaaGreatDoorRefSend
import Derived.Test.YtfanaanofjhlkaaGreatDoorStoreM
set_option maxHeartbeats 16000000
set_option maxRecDepth 100000
namespace Go.Proofs.YtfanaanofjhlkaaGreatDoor
open Go Go.RowKit Tryz
structure cX(s:aE):Prop where
 len:(s.W.length:Int)=s.workers
 two:2<=s.workers
 five:s.workers<=5
 llen:s.links.length=s.W.length
 lrow:∀ls∈s.links,ls.length=s.W.length
 way:s.way.length<=60
structure dS(N:Nat)(s:aE):Prop where
 all:∀ls∈s.links,∀l∈ls,l.all.length<=N
 known:∀ls∈s.links,∀l∈ls,0<=l.known
 came:∀ls∈s.links,∀l∈ls,0<=l.came/\l.came<=(N:Int)
 kept:∀ls∈s.links,∀l∈ls,l.kept.length<=N
 sent:∀x∈s.W,0<=x.sent/\x.sent<=(N:Int)
 got:∀x∈s.W,0<=x.came/\x.came<=(N:Int)
def dE(F:Nat->Prop)(w:World)(B:Nat)(r:aE×Int)(e:Ending)(w':World):Prop:=e= .returned (.int .i64 r.2)/\dW (fun b=>F b\/w.heap.size<=b) w' B r.1/\aB F w w'
theorem dE.same{F:Nat->Prop}{w:World}{B:Nat}{s:aE}(h:dW F w B s)(e:Int):dE F w B (s,e) (.returned (.int .i64 e)) w:=
 ⟨rfl,h.kept (aB.refl (fun _=>False) w) (fun _ _ h=>⟨fun h=>h,.inl h⟩),aB.refl _ _⟩
theorem dE.of{F:Nat->Prop}{part part':Nat->Nat}{w w':World}{B:Nat}{s':aE}{kv wv lv yv vv av:Value}{ps:List Nat}{rows:List (Value×List Nat)}{r:aE×Int}(hr:r.1=s')(h:bE part' w' B s' kv wv lv yv vv av ps rows)(hm:cI part part' w w')(hF:∀b,part b≠0->F b):dE F w B r (.returned (.int .i64 r.2)) w':=by
 obtain⟨h1,h2⟩:=hm.ok h hF;exact⟨rfl,by rw[hr];exact h1,h2⟩
theorem cX.worker{s:aE}(h:cX s){i:Int}(h0:0<=i)(h1:i < s.workers):∃(k:Nat) (x:cF),i=(k:Int)/\s.W[k]?= some x/\k < 5:=by
 obtain⟨k,rfl⟩:=Int.eq_ofNat_of_zero_le h0;have:=h.len;have:=h.five;exact⟨k,_,rfl,b_ (by omega),by omega⟩
theorem cX.link{s:aE}(h:cX s){i j:Nat}(hi:i < s.W.length)(hj:j < s.W.length):∃ls l,s.links[i]?= some ls/\ls[j]?= some l:=by
 have h1:=h.llen;have h2:s.links[i]?= some s.links[i]:=b_ (by omega);have h3:=h.lrow _ (d_ h2);exact⟨_,_,h2,b_ (by omega)⟩
theorem nA(m:aI){N:Nat}{part:Nat->Nat}{w:World}{B:Nat}{s:aE}{kv wv lv yv vv av:Value}{ps:List Nat}{rows:List (Value×List Nat)}(h:bE part w B s kv wv lv yv vv av ps rows)(hs:cX s)(hN:dS N s)(hN':N<=100000000)(h0:0<=m.src/\m.src < s.workers)(h1:0<=m.dst/\m.dst < s.workers) :
  Calls prog 133 #[.pointer (some ⟨B,0,none⟩),.agg (aG m)] w fun e w'=>e= .returned (.tuple #[])/\∃part' yv',bE part' w' B (aR s m) kv wv lv yv' vv av ps rows/\cI part part' w w':=by
 obtain⟨i,x,hi,hx,-⟩:=hs.worker h0.1 h0.2;obtain⟨j,y,hj,hy,-⟩:=hs.worker h1.1 h1.2;obtain⟨ls,l,hls,hl⟩:=hs.link (c_.1 hx).1 (c_.1 hy).1;have h5:=hs.five;have hlen:=hs.len;have hxs:=hN.sent x (d_ hx);exact aIo m h (by have:=hs.way;omega) i j hi hj ls l x hls hl hx (fun l hl=>by have:=hs.lrow l hl;omega) (by omega) (by have:=hN.all ls (d_ hls) l (d_ hl);omega) (by omega)
theorem oJ{s:aE}{i:Int}(h:dG s i=0):0<=i/\i < s.workers:=by
 unfold dG at h;split at h
 ·omega
 ·rename_i h'
  rw[h]at h';omega
def eE(s:aE)(i v:Int):aE×Int:=
 if dG s i≠0 then(s,dG s i)else if dG s v≠0 then(s,dG s v)else if i=v then(s,7)else
  match s.W[i.toNat]? with
  |none=>(s,9)
  |some x=>if x.tasks≠ []\/x.asked=true then(s,9)else(aR {s with W:=s.W.set i.toNat {x with asked:=true}} {aH with src:=i,dst:=v,kind:=1},0)
theorem aDa(i v:Int)(w:World):Calls prog 74 #[.pointer none,.int .i64 i,.int .i64 v] w fun e w'=>e= .returned (.int .i64 1)/\w'=w:=by
 go_enter func74,ntmps74
 go_wp2_with (go_at_call 129;refine(qD _ _).mono ?_;rintro e w1 ⟨rfl,hq⟩;obtain rfl:=hq.symm)
 go_ret;exact⟨rfl,rfl⟩
theorem aBh(F:Nat->Prop)(B N:Nat)(s:aE)(i v:Int)(w:World)(hr:dW F w B s)(hs:cX s)(hN:dS N s)(hN':N<=90000000) :
  Calls prog 74 #[.pointer (some ⟨B,0,none⟩),.int .i64 i,.int .i64 v] w (dE F w B (eE s i v)):=by
 have HE:Hid (∀t,Calls prog 129 #[.pointer (some ⟨B,0,none⟩),.int .i64 t] w fun e w'=>e= .returned (.int .i64 (dG s t))/\w=w'):=fun t=>(oC F B s t w hr).mono fun e w' h=>⟨h.1,h.2.symm⟩
 have HR:=aC hr;obtain⟨e1,he1⟩:∃e1,dG s i=e1:=⟨_,rfl⟩;obtain⟨e2,he2⟩:∃e2,dG s v=e2:=⟨_,rfl⟩;by_cases h1:e1=0
 case neg=>
  have HS:Hid (eE s i v=(s,e1)):=by show _=_;simp[eE,he1,h1]
  have hb:(e1==0)=false:=by rw[g_];exact h1
  clear h1 hr;go_enter func74,ntmps74
  go_wp2_with (first
   |(go_at_call 129;refine(HE.out _).mono ?_;rintro e w1 ⟨rfl,rfl⟩))
  go_ret;rw[HS.out];exact dE.same HR.out _
 by_cases h2:e2=0
 case neg=>
  have HS:Hid (eE s i v=(s,e2)):=by show _=_;simp[eE,he1,he2,h1,h2]
  have hb:(e2==0)=false:=by rw[g_];exact h2
  subst h1;clear h2 hr;go_enter func74,ntmps74
  go_wp2_with (first
   |(go_at_call 129;refine(HE.out _).mono ?_;rintro e w1 ⟨rfl,rfl⟩))
  go_ret;rw[HS.out];exact dE.same HR.out _
 subst h1 h2;obtain⟨hi0,hi1⟩:=oJ he1;obtain⟨hv0,hv1⟩:=oJ he2;obtain⟨k,x,rfl,hx,hk5⟩:=hs.worker hi0 hi1;obtain⟨part,hF,hat⟩:=hr;obtain⟨kv,wv,lv,yv,vv,av,ps,rows,h⟩:=hat.opened;by_cases h3:(k:Int)=v
 ·have HS:Hid (eE s k v=(s,7)):=by show _=_;simp[eE,h3,he2]
  have hb:((k:Int)==v)=true:=by rw[beq_iff_eq];exact h3
  clear h3 h hat;go_enter func74,ntmps74
  go_wp2_with (first
   |(go_at_call 129;refine(HE.out _).mono ?_;rintro e w1 ⟨rfl,rfl⟩))
  go_ret;rw[HS.out];exact dE.same HR.out _
 have hb:((k:Int)==v)=false:=by rw[g_];exact h3
 obtain⟨p,gw,wc,hp,hwv,hgw,cw,hip,-⟩:=h.ptrW (i:=k) (x:=x) hx;subst hwv;obtain⟨tv,hpb,hpp,htr⟩:=h.wat k p x hp hx;obtain⟨ta,tc,htf⟩:=bG htr.1;subst htf;have b6:w.cell? ⟨B,6,none⟩=some (.slice (some ⟨gw,0,none⟩) ps.length wc):=h.box.cell (o:=6) rfl;have p0:w.cell? ⟨p,0,none⟩=some (.slice ta x.tasks.length tc):=hpb.cell (o:=0) rfl;have p1:w.cell? ⟨p,1,none⟩=some (.bool x.asked):=hpb.cell (o:=1) rfl;have g1:=hpb.frozen 1;have i0:(0:Int)<=(k:Int):=by omega
 have i3:(k:Int) < (ps.length:Int):=by omega
 have HH:=aC h;have HPB:=aC hpb;clear h hpb hat;by_cases h4:x.tasks=[]
 case neg=>
  have HS:Hid (eE s k v=(s,9)):=by show _=_;simp[eE,he1,he2,h3,hx,h4]
  obtain⟨L,hL⟩:∃L,x.tasks.length=L+1:=⟨x.tasks.length - 1,by have:=List.length_pos_iff.2 h4;omega⟩;rw[hL]at p0;have hl:(0:Int) < ((L+1:Nat):Int):=by omega
  clear hL htr HPB;clear h3 h4;go_enter func74,ntmps74
  go_wp2_with (first
   |(go_at_call 129;refine(HE.out _).mono ?_;rintro e w1 ⟨rfl,rfl⟩))
  go_ret;rw[HS.out];exact dE.same HR.out _
 have hl0:x.tasks.length=0:=by rw[h4];rfl
 rw[hl0]at p0;by_cases h5:x.asked=true
 ·have HS:Hid (eE s k v=(s,9)):=by show _=_;simp[eE,he1,he2,h3,hx,h5]
  rw[h5]at p1;clear h3 h4 h5 hl0;go_enter func74,ntmps74
  go_wp2_with (first
   |(go_at_call 129;refine(HE.out _).mono ?_;rintro e w1 ⟨rfl,rfl⟩))
  go_ret;rw[HS.out];exact dE.same HR.out _
 have h5':x.asked=false:=by simpa using h5
 have HS:Hid (eE s k v=(aR {s with W:=s.W.set k {x with asked:=true}} {aH with src:=k,dst:=v,kind:=1},0)):=by show _=_;simp[eE,he1,he2,h3,hx,h4,h5']
 rw[h5']at p1;obtain⟨W5,hW5⟩:∃W5,w.setCell ⟨p,1,none⟩ (.bool true)=W5:=⟨_,rfl⟩;have k5:aB (·= p) w W5:=by rw[<-hW5];exact(aB.refl _ _).setCell (.inl (by rfl)) _
 have bp5:aD W5 p 180 (fB (.slice ta x.tasks.length tc) {x with asked:=true}):=by rw[<-hW5];exact HPB.out.setAt 1 _
 obtain⟨h6,hm6⟩:=HH.out.reworker (x':={x with asked:=true}) (by omega) hp (k5.mono (fun g _ e=>by rw[e];exact hpp)) ⟨_,bp5,.inl ⟨hpp,HPB.out.lt⟩,aP htr.1 k5 (fun g e h=>by subst h;exact bF htr.1 HPB.out (by decide) e) (a_ _),fun g e=> .inl ⟨htr.2 g e,(htr.1.lt g e).2⟩⟩;have hs6:cX {s with W:=s.W.set k {x with asked:=true}}:=⟨by simpa using hs.len,hs.two,hs.five,by simpa using hs.llen,fun ls hl=>by simpa using hs.lrow ls hl,hs.way⟩;have hN6:dS N {s with W:=s.W.set k {x with asked:=true}}:=⟨hN.all,hN.known,hN.came,hN.kept,fun y hy=>by
  rcases List.mem_or_eq_of_mem_set hy with h'|rfl
  ·exact hN.sent y h'
  ·exact hN.sent x (d_ hx),fun y hy=>by
  rcases List.mem_or_eq_of_mem_set hy with h'|rfl
  ·exact hN.got y h'
  ·exact hN.got x (d_ hx)⟩
 have HP:Hid (Calls prog 133 #[.pointer (some ⟨B,0,none⟩),.agg (aG {aH with src:=k,dst:=v,kind:=1})] W5 _):=nA {aH with src:=k,dst:=v,kind:=1} h6 hs6 hN6 (by omega) ⟨i0,hi1⟩ ⟨hv0,hv1⟩;have HM6:=aC hm6;have HF:=aC hF;clear h3 h4 h5 h5' hl0 k5 bp5 h6 hm6 htr HH HPB hF;go_enter func74,ntmps74
 go_wp2_with (first
  |(go_at_call 129;refine(HE.out _).mono ?_;rintro e w1 ⟨rfl,rfl⟩)
  |(go_at_call 133;refine HP.out.mono ?_;rintro e w6 ⟨rfl,part6,yv6,h6,hm6⟩))
 go_ret;rw[HS.out];exact dE.of rfl h6 (HM6.out.trans hm6) HF.out
def eP(s:aE)(i:Int):Int:=if dI s=0/\(i < 0\/(s.way.length:Int)<=i)then 10 else dI s
def fX(s:aE)(i:Int):aE×Int:=if eP s i≠0 then(s,eP s i)else({s with way:=s.way.take i.toNat++s.way.drop (i.toNat+1)},0)
def fS(s:aE)(i:Int):aE×Int:=if eP s i≠0 then(s,eP s i)else(cB s (s.way[i.toNat]?.getD aH),0)
theorem oG{s:aE}{i:Int}(h:eP s i=0):0<=i/\i < (s.way.length:Int):=by
 unfold eP at h;split at h
 ·omega
 ·rename_i h'
  rw[h]at h';omega
theorem aAp(w:World):Calls prog 67 #[.pointer none] w fun e w'=>e= .returned (.tuple #[.slice none 0 0,.int .i64 1])/\w'=w:=by
 go_enter func67,ntmps67
 go_wp2_with fail
 go_ret2
 exact⟨rfl,rfl⟩
theorem aAc(F:Nat->Prop)(B:Nat)(s:aE)(w:World)(hr:dW F w B s)(hs:cX s) :
  Calls prog 67 #[.pointer (some ⟨B,0,none⟩)] w fun e w'=>∃v,e= .returned (.tuple #[v,.int .i64 0])/\w'.ownsRow w.heap.size 124 15 v s.way.length (s.way.flatMap aK)/\Below w.heap.size w w':=by
 obtain⟨iM,hiM,hzM0,hzM1,hzM2⟩:=info_parts jS;obtain⟨part,hF,hat⟩:=hr;obtain⟨kv,wv,lv,yv,vv,av,ps,rows,h⟩:=hat.opened;obtain⟨ya,yc,hyf⟩:=bG h.yrow.1;subst hyf;have b8:w.cell? ⟨B,8,none⟩=some (.slice ya s.way.length yc):=h.box.cell (o:=8) rfl;have HROW:=aC h.yrow.1;have h60:=hs.way;clear h hat hF hs;go_enter func67,ntmps67
 go_wp2_with (at_builtin;refine oB rfl _ _ _ rfl 124 iM _ 15 128 underlying68 hiM hzM0 hzM1 hzM2 rfl (by omega) rfl 0 (.slice ya s.way.length yc) s.way.length (s.way.flatMap aK) rfl HROW.out (iZ mI _) (by unfold maxLen;omega) (by omega) ?_;intro wv' w1 hrow1 hk1)
 go_ret2
 exact⟨_,rfl,hrow1,hk1.below (a_ _) (fun _ h=>h.elim)⟩
theorem sM(i:Int)(w:World):Calls prog 134 #[.pointer none,.int .i64 i] w fun e w'=>e= .returned (.int .i64 1)/\w'=w:=by
 go_enter func134,ntmps134
 go_wp2_with (go_at_call 138;refine(sQ w).mono ?_;rintro e w1 ⟨rfl,rfl⟩)
 go_ret;exact⟨rfl,rfl⟩
theorem oQ(F:Nat->Prop)(B:Nat)(s:aE)(i:Int)(w:World)(hr:dW F w B s):Calls prog 134 #[.pointer (some ⟨B,0,none⟩),.int .i64 i] w fun e w'=>e= .returned (.int .i64 (eP s i))/\w=w':=by
 have HB:Hid (Calls prog 138 #[.pointer (some ⟨B,0,none⟩)] w fun e w'=>e= .returned (.int .i64 (dI s))/\w=w'):=(sH F B s w hr).mono fun e w' h=>⟨h.1,h.2.symm⟩
 obtain⟨part,hF,hat⟩:=hr;obtain⟨kv,wv,lv,yv,vv,av,ps,rows,h⟩:=hat.opened;obtain⟨ya,yc,hyf⟩:=bG h.yrow.1;subst hyf;have b8:w.cell? ⟨B,8,none⟩=some (.slice ya s.way.length yc):=h.box.cell (o:=8) rfl;clear h hat hF;obtain⟨e,he⟩:∃e,dI s=e:=⟨_,rfl⟩;obtain⟨n,hn⟩:∃n,s.way.length=n:=⟨_,rfl⟩;have hw:eP s i=if e=0/\(i < 0\/(n:Int)<=i)then 10 else e:=by simp[eP,he,hn]
 rw[hw];rw[he]at HB;rw[hn]at b8;clear hw he hn;go_enter func134,ntmps134;by_cases h0:e=0
 ·subst h0
  by_cases h1:i < 0
  ·rw[if_pos ⟨rfl,.inl h1⟩]
   go_wp2_with (go_at_call 138;refine HB.out.mono ?_;rintro e w1 ⟨rfl,rfl⟩)
   go_ret;exact⟨rfl,rfl⟩
  ·by_cases h2:(n:Int)<=i
   ·rw[if_pos ⟨rfl,.inr h2⟩]
    go_wp2_with (go_at_call 138;refine HB.out.mono ?_;rintro e w1 ⟨rfl,rfl⟩)
    go_ret;exact⟨rfl,rfl⟩
   ·rw[if_neg (by omega)]
    go_wp2_with (go_at_call 138;refine HB.out.mono ?_;rintro e w1 ⟨rfl,rfl⟩)
    go_ret;exact⟨rfl,rfl⟩
 ·rw[if_neg (by omega)]
  have hb:(e==0)=false:=by rw[g_];exact h0
  go_wp2_with (go_at_call 138;refine HB.out.mono ?_;rintro e w1 ⟨rfl,rfl⟩)
  go_ret;exact⟨rfl,rfl⟩
theorem bE.msg{part:Nat->Nat}{w:World}{B:Nat}{s:aE}{kv wv lv yv vv av:Value}{ps:List Nat}{rows:List (Value×List Nat)}(h:bE part w B s kv wv lv yv vv av ps rows){k:Nat}{m:aI}(hk:s.way[k]?= some m) :
  ∃gy yc,yv= .slice (some ⟨gy,0,none⟩) s.way.length yc/\gy < w.heap.size/\part gy=2/\(∀o u,(aG m)[o]?= some u->w.cell? ⟨gy,k*15+o,none⟩=some u)/\(∀j u,(s.way.flatMap aK)[j]?= some u->w.cell? ⟨gy,j,none⟩=some u)/\s.way.length<=yc:=by
 obtain⟨gy,yc,hyf,-,hgl⟩:=World.ownsRow.form h.yrow.1 (by have:=(c_.1 hk).1;omega);subst hyf;have hc:∀j u,(s.way.flatMap aK)[j]?= some u->w.cell? ⟨gy,j,none⟩=some u:=fun j u hj=>by
  have:=h.yrow.1.cells (g:=gy) rfl j u hj;rwa [dP]at this
 refine⟨gy,yc,rfl,hgl,h.yrow.2 gy rfl,fun o u ho=>hc _ _ (dZ (sz:=15) (enc:=aK) (fun _=>rfl) s.way k m o u hk (by simpa[aK]using ho)),hc,?_⟩;rcases h.yrow.1.2 with⟨h0,_⟩|⟨g',cap',cur,h0,_,_,h1,_⟩
 ·cases h0
 ·cases h0;omega
theorem uD{part:Nat->Nat}{w:World}{B:Nat}{s:aE}{kv wv lv yv vv av:Value}{ps:List Nat}{rows:List (Value×List Nat)}(h:bE part w B s kv wv lv yv vv av ps rows)(hn:s.way.length<=1000)(k:Nat)(m:aI)(hk:s.way[k]?= some m) :
  Calls prog 135 #[.pointer (some ⟨B,0,none⟩),.int .i64 (k:Int)] w fun e w'=>e= .returned (.agg (aG m))/\∃part' yv',bE part' w' B {s with way:=s.way.take k++s.way.drop (k+1)} kv wv lv yv' vv av ps rows/\cI part part' w w':=by
 obtain⟨iM,hiM,hzM0,hzM1,hzM2⟩:=info_parts jS;obtain⟨gy,yc,hyf,hgy,hpy,hcm,hcy,hcap⟩:=h.msg hk;subst hyf;have hkl:=(c_.1 hk).1;have b8:w.cell? ⟨B,8,none⟩=some (.slice (some ⟨gy,0,none⟩) s.way.length yc):=h.box.cell (o:=8) rfl;have m0:w.cell? ⟨gy,k*15,none⟩=some (.int .i64 m.src):=hcm 0 _ rfl;have m1:=hcm 1 _ rfl;have m2:=hcm 2 _ rfl;have m3:=hcm 3 _ rfl;have m4:=hcm 4 _ rfl;have m5:=hcm 5 _ rfl;have m6:=hcm 6 _ rfl;have m7:=hcm 7 _ rfl;have m8:=hcm 8 _ rfl;have m9:=hcm 9 _ rfl;have m10:=hcm 10 _ rfl;have m11:=hcm 11 _ rfl;have m12:=hcm 12 _ rfl;have m13:=hcm 13 _ rfl;have m14:=hcm 14 _ rfl;have i0:(0:Int)<=(k:Int):=by omega
 have i1:(k:Int) < (s.way.length:Int):=by omega
 have hbl:=h.box.lt;have HH:=aC h;clear h hcm;go_enter func135,ntmps135
 go_upto_region 3 with fail
 obtain⟨Z,hZ⟩:∃Z,(w.alloc (Obj.cells (aG aH) 124)).alloc (Obj.cells (aG m) 124)=Z:=⟨_,rfl⟩;have hbZ:Below w.heap.size w Z:=by rw[<-hZ];exact((e_ _ _).alloc (a_ _) _).alloc (by simp) _
 have HB0:Hid (aD Z w.heap.size 124 (aG aH)):=by rw[<-hZ];exact(aD.new w _ _).alloc _
 have HBM:Hid (aD Z (w.heap.size+1) 124 (aG m)):=by rw[<-hZ];exact fM _ _ _ _ (by simp)
 have SZ:Hid (Z.heap.size=w.heap.size+2):=by show _=_;rw[<-hZ];simp
 have b8':=(hbZ.cell (p:=⟨B,8,none⟩) hbl).trans b8;have HBZ:=aC hbZ;have HCY:Hid (∀j u,(s.way.flatMap aK)[j]?= some u->Z.cell? ⟨gy,j,none⟩=some u):=fun j u hj=>(hbZ.cell (p:=⟨gy,j,none⟩) hgy).trans (hcy j u hj)
 have e0:(w.alloc (Obj.cells (aG aH) 124)).alloc (Obj.cells (aG m) 124)=Z:=hZ;simp only[aH]at e0;rw[e0];clear e0 hZ hbZ b8 m0 m1 m2 m3 m4 m5 m6 m7 m8 m9 m10 m11 m12 m13 m14 hcy;have j1:(k:Int)<=(yc:Int):=by omega
 have j2:k<=yc:=by omega
 have HT1:Hid (((s.way.take k).flatMap aK).length=k*15):=by show _=_;rw[fL (sz:=15) (enc:=aK) (fun _=>rfl),List.length_take,Nat.min_eq_left (by omega)]
 have HT2:Hid (((s.way.drop (k+1)).flatMap aK).length=(s.way.length - (k+1))*15):=by show _=_;rw[fL (sz:=15) (enc:=aK) (fun _=>rfl),List.length_drop]
 have HSP:Hid (s.way.flatMap aK=(s.way.take k).flatMap aK++(aK m++(s.way.drop (k+1)).flatMap aK)):=by
  show _=_;rw[<-List.flatMap_cons,<-List.flatMap_append]
  congr 1
  rw[c_]at hk;obtain⟨h1,rfl⟩:=hk;rw[<-List.drop_eq_getElem_cons h1,List.take_append_drop]
 have HN1:Hid (∀j u,((s.way.take k).flatMap aK)[j]?= some u->∃b,(some ⟨gy,0,none⟩:Option Addr)=some b/\Z.cell? (b.add j)=some u):=fun j u hj=>by
  refine⟨_,rfl,?_⟩;rw[dP];refine HCY.out j u ?_;rw[HSP.out,List.getElem?_append_left (c_.1 hj).1];exact hj
 have a1:IntKind.i64.wrap ((k:Int)+1)=(k:Int)+1:=IntWalk.i64_in _ (by omega);have j3:(0:Int)<=(k:Int)+1:=by omega
 have j4:(k:Int)+1<=(s.way.length:Int):=by omega
 go_upto_region 4 with(at_builtin;refine kE rfl _ _ _ rfl Z.heap.size 124 iM _ 15 128 underlying68 hiM hzM0 hzM1 hzM2 rfl (by omega) (.slice none 0 0) 0 [] rfl (World.ownsRow_nil _ _ _ _) (some ⟨gy,0,none⟩) k yc ((s.way.take k).flatMap aK) rfl HT1.out HN1.out (iZ mI _) (by unfold maxLen;omega) (by omega) (a_ _) ?_;intro v1 w1 hown1 hgrow1;rw[Nat.zero_add,List.nil_append]at hown1;obtain⟨a1',c1',rfl⟩:=bG hown1;have b8'':=(hgrow1.cell_far ⟨B,8,none⟩ (by simp;have:=SZ.out;omega) (fun e=>by cases e)).trans b8')
 have k1:aB (fun _=>False) Z w1:=aB.grown hgrow1 (fun r e=>by cases e);have HOWN1:=aC hown1;have HK1:=aC k1;have hbl1:B < w1.heap.size:=by have:=k1.size;have:=SZ.out;omega
 have SZ1:=k1.size;have hk1:k+(s.way.length - (k+1))<=1000:=by omega
 have hgy1:gy < Z.heap.size:=by have:=SZ.out;omega
 have HN2:Hid (∀j u,((s.way.drop (k+1)).flatMap aK)[j]?= some u->w1.cell? ⟨gy,(k+1)*15+j,none⟩=some u):=fun j u hj=>by
  have h1:=HCY.out ((k+1)*15+j) u (by
   rw[HSP.out,i7 (by rw[HT1.out];omega),HT1.out,i7 (by show 15<=_;omega)];have e:(k+1)*15+j - k*15 - (aK m).length=j:=by show _ - 15=_;omega
   rw[e];exact hj)
  exact(HK1.out.cell (p:=⟨gy,(k+1)*15+j,none⟩) hgy1 (fun h=>h)).trans h1
 clear k1 hown1 hgrow1 b8'
 go_cut [6] (fun v2 w2=>w2.ownsRow Z.heap.size 124 15 v2 (k+(s.way.length - (k+1))) ((s.way.take k).flatMap aK++(s.way.drop (k+1)).flatMap aK)/\aB (fun b=>Z.heap.size<=b) w1 w2)
 case first=>
  by_cases hyc:yc=k+1
  ·subst hyc
   have HD:Hid ((s.way.drop (k+1)).flatMap aK=[]):=by show _=_;rw[List.drop_eq_nil_of_le (by omega)];rfl
   go_wp2_with (at_builtin;(refine kE rfl _ _ _ rfl Z.heap.size 124 iM _ 15 128 underlying68 hiM hzM0 hzM1 hzM2 rfl (by omega) (.slice a1' k c1') k ((s.way.take k).flatMap aK) rfl HOWN1.out (some ⟨gy,0,none⟩) 0 0 [] rfl rfl (fun j u hj=>by simp at hj) (fun u hu=>by simp at hu) (by unfold maxLen;omega) (by omega) SZ1 ?_);(intro v2 w2 hown2 hgrow2))
   go_meet
   case rel=>
    refine⟨?_,aB.grown hgrow2 (fun r e=>(HOWN1.out.lt r e).1)⟩;rw[HD.out,show s.way.length - (k+1)=0 by omega];exact hown2
  ·have hy1:¬yc - (k+1)=0:=by omega
   have hy2:k+1 < yc:=by omega
   have hy3:(k:Int)+1 < (yc:Int):=by omega
   have HN3:Hid (∀j u,((s.way.drop (k+1)).flatMap aK)[j]?= some u->∃b,(some ⟨gy,(k+1)*15,none⟩:Option Addr)=some b/\w1.cell? (b.add j)=some u):=fun j u hj=>⟨_,rfl,by
    have e:(⟨gy,(k+1)*15,none⟩:Addr).add j=⟨gy,(k+1)*15+j,none⟩:=by unfold Addr.add;split<;>simp_all
    rw[e];exact HN2.out j u hj⟩
   go_wp2_with (at_builtin;(refine kE rfl _ _ _ rfl Z.heap.size 124 iM _ 15 128 underlying68 hiM hzM0 hzM1 hzM2 rfl (by omega) (.slice a1' k c1') k ((s.way.take k).flatMap aK) rfl HOWN1.out (some ⟨gy,(k+1)*15,none⟩) (s.way.length - (k+1)) (yc - (k+1)) ((s.way.drop (k+1)).flatMap aK) rfl HT2.out HN3.out (iZ mI _) (by unfold maxLen;omega) (by omega) SZ1 ?_);(intro v2 w2 hown2 hgrow2))
   go_meet
   case rel=>exact⟨hown2,aB.grown hgrow2 (fun r e=>(HOWN1.out.lt r e).1)⟩
 case rest=>
 obtain⟨hown2,k2⟩:=hcut
 rename World=>w2
 obtain⟨a2',c2',h2f⟩:=bG hown2;subst h2f;have k02:aB (fun b=>Z.heap.size<=b) Z w2:=(HK1.out.mono (fun _ _ h=>h.elim)).trans k2;have HB02:Hid (aD w2 w.heap.size 124 (aG aH)):=HB0.out.kept k02 (by have:=SZ.out;omega);have HBM2:Hid (aD w2 (w.heap.size+1) 124 (aG m)):=HBM.out.kept k02 (by have:=SZ.out;omega);have bR2:aD w2 B 141 _:=(HH.out.box.below HBZ.out hbl).kept k02 (by have:=SZ.out;omega);have b8:=bR2.cell (o:=8) rfl;have f8:=bR2.frozen 8;have HBR2:=aC bR2;have HOWN2:=aC hown2;have HK02:=aC k02;clear k2 k02 bR2 hown2;obtain⟨n2,hn2⟩:∃n2,k+(s.way.length - (k+1))=n2:=⟨_,rfl⟩;have HN8:=aC hn2;rw[hn2]at HOWN2;rw[hn2];clear hn2;have fr:=HB02.out.frozen;obtain⟨nm0,nm1,nm2,nm3,nm4,nm5,nm6,nm7,nm8,nm9,nm10,nm11,nm12,nm13,nm14⟩:=eF HBM2.out;obtain⟨z0,z1,z2,z3,z4,z5,z6,z7,z8,z9,z10,z11,z12,z13,z14⟩:=eF HB02.out
 go_wp2_with fail
 change bodyPost prog Tryz.f135 _ Exit.ret _ (dR (w2.setCell ⟨B,8,none⟩ (.slice a2' n2 c2')) w.heap.size 0 (aK m));have kS:aB (·= B) w2 (w2.setCell ⟨B,8,none⟩ (.slice a2' n2 c2')):=(aB.refl _ _).setCell (.inl (by rfl)) _;have kA:aB (fun g=>g=B\/part g=2) w (dR (w2.setCell ⟨B,8,none⟩ (.slice a2' n2 c2')) w.heap.size 0 (aK m)):=jC (.inr (a_ _)) _ _ _ (((aB.of_below HBZ.out (fun k h1 h2=>absurd h1 (by omega))).andThen HK02.out (fun b h1 h2=>by have:=SZ.out;omega)).trans (kS.mono (fun _ _ h=> .inl h)));have kP:aB (·= w.heap.size) (w2.setCell ⟨B,8,none⟩ (.slice a2' n2 c2')) (dR (w2.setCell ⟨B,8,none⟩ (.slice a2' n2 c2')) w.heap.size 0 (aK m)):=jC (X:=fun x=>x=w.heap.size) (.inl rfl) _ _ _ (aB.refl _ _);have hbz:=lB (aK m) (HB02.out.far ⟨B,8,none⟩ (.slice a2' n2 c2') (by show w.heap.size≠B;omega)) rfl;generalize dR (w2.setCell ⟨B,8,none⟩ (.slice a2' n2 c2')) w.heap.size 0 (aK m)=V at kA kP hbz ⊢;have hbv:aD V w.heap.size 124 (aG m):=hbz;obtain⟨q0,q1,q2,q3,q4,q5,q6,q7,q8,q9,q10,q11,q12,q13,q14⟩:=eF hbv;refine bodyPost_ret (v:= .agg (aG m)) ?_ rfl ⟨rfl,?_⟩
 ·simp[results,results135,go_sem,q0,q1,q2,q3,q4,q5,q6,q7,q8,q9,q10,q11,q12,q13,q14]
 ·obtain⟨h1,h2⟩:=HH.out.reway (way':=s.way.take k++s.way.drop (k+1)) kA ((HBR2.out.setAt 8 _).kept kP (by omega)) (by
   rw[List.flatMap_append,f_,List.length_take,List.length_drop,Nat.min_eq_left (by omega),HN8.out];exact iX (aP (aP HOWN2.out kS (fun g' e h=>by subst h;exact bF HOWN2.out HBR2.out (by decide) e) (a_ _)) kP (fun g' e h=>by have:=(HOWN2.out.lt g' e).1;have:=SZ.out;omega) (a_ _)) (Nat.zero_le _)) (fun g' e=> .inr (by have:=(HOWN2.out.lt g' e).1;have:=SZ.out;omega))
  exact⟨_,_,h1,h2⟩
end Go.Proofs.YtfanaanofjhlkaaGreatDoor
