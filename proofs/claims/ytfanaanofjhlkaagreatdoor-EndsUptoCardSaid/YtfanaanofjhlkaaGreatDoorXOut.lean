import Derived.Test.YtfanaanofjhlkaaGreatDoorStoreM
import Derived.Test.YtfanaanofjhlkaaGreatDoorAt
import Derived.Test.YtfanaanofjhlkaaGreatDoorRaw
import Derived.OwnWalkIn
namespace Go.Proofs.YtfanaanofjhlkaaGreatDoor
open Go Go.RowKit
theorem Kept.setChan{X:Nat->Prop}{A W:World}(h:Kept X A W){c:Nat}(hc:X c\/A.heap.size<=c)(cap:Nat)(buf:Array Value)(cl:Bool)(s r:Nat)(tm:Bool):Kept X A (W.setChan c cap buf cl s r tm):=
 ⟨h.os,h.tape,h.output,by simpa[World.setChan]using h.size,fun k hk hx=>by
  simp only[World.setChan]
  rw[Array.getElem?_setIfInBounds_ne (fun e=>by subst e;rcases hc with h'|h';exact hx h';omega)]
  exact h.block k hk hx⟩
theorem chan_set{W:World}{c:Nat}(h:c < W.heap.size)(cap:Nat)(buf:Array Value)(cl:Bool)(s r:Nat)(tm:Bool):(W.setChan c cap buf cl s r tm).heap[c]?= some (.chan cap buf cl s r tm):=by
 simp[World.setChan,h]
theorem mkChanN(n:Nat)(hn:n<=1000000000)(w:World):(Instr.makeChan 157 (.int .i64 (n:Int))).run Tryz.prog w= .ok (.chan (some w.heap.size)) (w.alloc (.chan n #[] false 0 0 false)):=by
 have hi:=infoMessage
 cases h:Tryz.prog.info? 124 with
 |none=>rw[h]at hi;cases hi
 |some i=>
  rw[h]at hi
  simp at hi
  exact Conc.run_makeChan Tryz.underlying157 h .i64 n (by omega) (by rw[hi.2.2];omega)
abbrev frT(y:Value)(Br Bo N c:Nat)(wanted:Bool)(x:Nat->Value):Act:=⟨#[y,.pointer (some ⟨Br,0,none⟩),.pointer (some ⟨Bo,0,none⟩),x 3,.chan (some N),.bool wanted,x 6,x 7,x 8,x 9,x 10,x 11,x 12,x 13,x 14,x 15,.chan (some c),x 17,x 18,x 19,x 20,x 21,x 22,x 23,x 24,x 25,x 26,x 27,x 28,x 29,x 30,x 31],[]⟩
abbrev msgV(m:MsgS):Value:= .agg (msgCells m)
theorem frT_eq(y:Value)(Br Bo N c:Nat)(wanted:Bool)(a3 a6 a7 a8 a9 a10 a11 a12 a13 a14 a15 a17 a18 a19 a20 a21 a22 a23 a24 a25 a26 a27 a28 a29 a30 a31:Value):(⟨#[y,.pointer (some ⟨Br,0,none⟩),.pointer (some ⟨Bo,0,none⟩),a3,.chan (some N),.bool wanted,a6,a7,a8,a9,a10,a11,a12,a13,a14,a15,.chan (some c),a17,a18,a19,a20,a21,a22,a23,a24,a25,a26,a27,a28,a29,a30,a31],[]⟩:Act)=frT y Br Bo N c wanted (fun i=>(#[undef,undef,undef,a3,undef,undef,a6,a7,a8,a9,a10,a11,a12,a13,a14,a15,undef,a17,a18,a19,a20,a21,a22,a23,a24,a25,a26,a27,a28,a29,a30,a31]:Array Value).getD i undef):=rfl
theorem through_calls(q:Nat)(room:Int)(w:World):Calls Tryz.prog 197 #[.pointer (some ⟨q,0,none⟩),.int .i64 room] w fun e w'=>e= .returned (.func (.func 218) #[] #[.pointer (some ⟨w.heap.size+1,0,none⟩),.pointer (some ⟨w.heap.size,0,none⟩)])/\w'=(w.alloc (Obj.cells #[.pointer (some ⟨q,0,none⟩)] 206)).alloc (Obj.cells #[.int .i64 room] 3):=by
 go_enter Tryz.func197,Tryz.ntmps197
 go_wp2_with fail
 go_ret
 exact⟨rfl,rfl⟩
set_option maxHeartbeats 4000000 in
set_option maxRecDepth 100000 in
theorem through1_calls(n l q c cap s r room Br Bo:Nat)(v0:Value)(L:List MsgS)(w:World)(X:Nat->Prop)(J:List MsgS->World->Prop)(Jx:World->Prop)
  (hq:BoxAt w q 159 #[v0,.chan (some c)]) (hc:w.heap[c]?= some (.chan cap (L.map msgV).toArray false s r false)) (hBr:BoxAt w Br 3 #[.int .i64 (room:Int)]) (hBo:BoxAt w Bo 206 #[.pointer (some ⟨q,0,none⟩)]) (hroom:L.length<=room) (hr9:room<=1000000000)
  (hX:∀k,X k->k < w.heap.size/\k≠c/\k≠q/\k≠Br/\k≠Bo)
  (hJ:∀p A B,J p A->Kept (fun k=>k=c\/k=w.heap.size\/k=q) A B->J p B) (hJx:∀A B,Jx A->Kept (fun k=>k=c\/k=w.heap.size\/k=q) A B->Jx B) (h0:J [] w)
  (hY:∀p m W1,p++ [m] <+: L->J p W1->YieldAt Fence.wide (n - 1) Tryz.prog l #[msgV m] W1 fun e W'=>((e= .returned (.bool true)/\J (p++ [m]) W')\/(e= .returned (.bool false)/\Jx W'))/\Kept X W1 W') :
  CallsIn Fence.wide n Tryz.prog 218 (#[.func (.yield l) #[] #[]]++ #[.pointer (some ⟨Br,0,none⟩),.pointer (some ⟨Bo,0,none⟩)]) w fun e W'=>(∃v,e= .returned v)/\(J L W'\/Jx W')/\BoxAt W' q 159 #[v0,.chan (some w.heap.size)]/\ChanAt W' w.heap.size room L/\Kept (fun k=>X k\/k=c\/k=q) w W':=by
 refine callsIn_wide.2 ?_
 refine calls_of_walkN Tryz.func218 rfl ?_ (by rintro w' ⟨⟨v,h⟩,-⟩;cases h)
 simp only[Tryz.ntmps218,List.size_toArray,List.length_cons,List.length_nil,Nat.reduceAdd,Nat.reduceSub,Array.replicate_succ,Array.replicate_zero,List.push_toArray,List.append_toArray,List.nil_append,List.cons_append]
 have hmk:=mkChanN room hr9
 have b1:=hBr.cell (o:=0) rfl
 refine WalkN.step (fun K hK=> ?_)
 go_wp2_with fail
 obtain⟨N,hN⟩:∃N,w.heap.size=N:=⟨_,rfl⟩
 obtain⟨W1,hW1⟩:∃W1,w.alloc (.chan room #[] false 0 0 false)=W1:=⟨_,rfl⟩
 have k1:Kept (fun _=>False) w W1:=by rw[<-hW1];exact Kept.alloc _ _ _
 have n1:W1.heap[N]?= some (.chan room #[] false 0 0 false):=by rw[<-hW1,<-hN];exact World.alloc_heap_new w _
 have s1:W1.heap.size=N+1:=by rw[<-hW1,<-hN];simp
 obtain⟨W2,hW2⟩:∃W2,W1.setChan c cap (L.map msgV).toArray true s r false=W2:=⟨_,rfl⟩
 have hcl:∀ats ty,(Builtin.close_ ats ty #[.chan (some c)]).run Tryz.prog W1= .ok (.tuple #[]) W2:=fun ats ty=>by rw[<-hW2];exact run_close_open ats ty (k1.heap hc (fun h=>h))
 have hcw:c < w.heap.size:=(Array.getElem?_eq_some_iff.1 hc).1
 have k2:Kept (·= c) W1 W2:=by rw[<-hW2];exact(Kept.refl _ _).setChan (.inl (by rfl)) _ _ _ _ _ _
 have c2:W2.heap[c]?= some (.chan cap (L.map msgV).toArray true s r false):=by rw[<-hW2];exact chan_set (by omega) _ _ _ _ _ _
 have n2:W2.heap[N]?= some (.chan room #[] false 0 0 false):=k2.heap n1 (by omega)
 have hqc:q≠c:=fun e=>by subst e;have h1:w.heap[q]?= _:=hq;rw[hc]at h1;cases h1
 have hoc:Bo≠c:=fun e=>by subst e;have h1:w.heap[Bo]?= _:=hBo;rw[hc]at h1;cases h1
 have q2:=(hq.kept k1 (fun h=>h)).kept k2 hqc
 have o2:=(hBo.kept k1 (fun h=>h)).kept k2 hoc
 have y1:=(hq.kept k1 (fun h=>h)).cell (o:=1) rfl
 have z1:=(hBo.kept k1 (fun h=>h)).cell (o:=0) rfl
 rw[hW1,hN]
 have H2:Hid (Kept (·= c) w W2):=(k1.mono (fun _ _ h=>h.elim)).trans k2
 have HQ2:=hid_of q2
 have HO2:=hid_of o2
 clear hmk b1 k1 k2 hW1
 refine WalkN.step (fun K hK=> ?_)
 go_wp2_with fail
 clear hcl y1 z1 hW2
 refine WalkN.step (fun K hK=> ?_)
 go_wp2_with fail
 have y1:=HQ2.out.cell (o:=1) rfl
 have z1:=HO2.out.cell (o:=0) rfl
 refine WalkN.seq ?_
 refine WalkN.step (fun K hK=> ?_)
 go_wp2_with fail
 refine WalkN.block ?_
 refine WalkN.loop (fun m a W=>∃(pre rest:List MsgS) (wanted:Bool) (x:Nat->Value) (r1 s2 r2:Nat),rest.length=m/\L=pre++rest/\a=frT (.func (.yield l) #[] #[]) Br Bo N c wanted x/\W.heap[c]?= some (.chan cap (rest.map msgV).toArray true s r1 false)/\W.heap[N]?= some (.chan room (pre.map msgV).toArray false s2 r2 false)/\Kept (fun k=>X k\/k=c) w W/\(if wanted then J pre W else Jx W)) L.length ?start ?round
 case start=>
  refine⟨[],L,true,fun i=>(#[.func (.yield l) #[] #[],undef,undef,undef,undef,undef,undef,.int .i64 (room:Int),.chan (some N),.pointer (some ⟨q,0,none⟩),.pointer (some ⟨q,0,none⟩),.pointer (some ⟨q,1,none⟩),.chan (some c),.pointer (some ⟨q,0,none⟩),.pointer (some ⟨q,0,none⟩),.pointer (some ⟨q,1,none⟩)]:Array Value).getD i undef,r,0,0,rfl,rfl,?_,c2,n2,H2.out.mono (fun _ _ h=> .inr h),hJ _ _ _ h0 (H2.out.mono (fun _ _ h=> .inl h))⟩
  rfl
 case round=>
  rintro m a W ⟨pre,rest,wanted,x,r1,s2,r2,hm,hL,rfl,hcW,hnW,hkW,hJW⟩
  refine WalkN.seq (WalkN.region ?_)
  change WalkO _ _ [0,1] _ _ _
  have hcN:c≠N:=by omega
  cases rest with
  |nil=>
   obtain⟨z,hr⟩:∃z,(execOp (frT (.func (.yield l) #[] #[]) Br Bo N c wanted x).eval {dst:=some 17,op:=Op.recv 157 (Operand.tmp 16) true,type:=0,pos:= "link.go:56",after:=#[],guard:=none}).run Tryz.prog W= .ok (.comm #[Conc.rcase c z] true (.recv true)) W:=by
    simp[go_sem,Conc.rcase]
   refine WalkO.shut (ok:=true) rfl rfl hr (by simpa using hcW) ?_
   simp only[Conc.got,if_true]
   refine WalkO.oper rfl rfl (fun K hK=> ?_)
   go_simp
   rw[uponV_value]
   refine hK _ _ (WalkO.nil ?_)
   clear hK K
   refine WalkN.seq (WalkN.cond (t:=false) rfl ?_)
   refine WalkN.of_wp (wp_exit ?_)
   simp only[Exit.then,Exit.inBlock,if_true]
   have hqX:¬(X q\/q=c):=fun h=>by rcases h with h|h;exact(hX q h).2.2.1 rfl;exact hqc h
   have hoX:¬(X Bo\/Bo=c):=fun h=>by rcases h with h|h;exact(hX Bo h).2.2.2.2 rfl;exact hoc h
   have hqW:=hq.kept hkW hqX
   have u0:=(hBo.kept hkW hoX).cell (o:=0) rfl
   have u1:=hqW.cell (o:=1) rfl
   have f1:=hqW.frozen 1
   have HQW:=hid_of hqW
   have HNW:=hid_of hnW
   have HKW:=hid_of hkW
   have HJW:=hid_of hJW
   have HLP:Hid (L=pre):=by show _=_;simpa using hL
   clear hqW hnW hkW hJW hL hcW hr n2 c2 n1 y1 z1 q2 o2 hm
   refine WalkN.of_wp ?_
   go_wp2_with fail
   go_end0
   have k9:Kept (·= q) W (W.setCell ⟨q,1,none⟩ (.chan (some N))):=(Kept.refl _ _).setCell (.inl (by rfl)) _
   refine⟨⟨_,rfl⟩,?_,HQW.out.setAt 1 _,⟨s2,r2,?_⟩,(HKW.out.mono (fun k _ h=>by rcases h with h|h;exact .inl h;exact .inr (.inl h))).trans (k9.mono (fun k _ h=> .inr (.inr h)))⟩
   ·have h9:=HJW.out
    cases wanted with
    |true=>exact .inl (by rw[HLP.out];exact hJ _ _ _ h9 (k9.mono (fun _ _ h=> .inr (.inr h))))
    |false=>exact .inr (hJx _ _ h9 (k9.mono (fun _ _ h=> .inr (.inr h))))
   ·rw[HLP.out];exact k9.heap HNW.out (fun e=>by have:=hq.lt;omega)
  |cons m' rest=>
   obtain⟨z,hr⟩:∃z,(execOp (frT (.func (.yield l) #[] #[]) Br Bo N c wanted x).eval {dst:=some 17,op:=Op.recv 157 (Operand.tmp 16) true,type:=0,pos:= "link.go:56",after:=#[],guard:=none}).run Tryz.prog W= .ok (.comm #[Conc.rcase c z] true (.recv true)) W:=by
    simp[go_sem,Conc.rcase]
   refine WalkO.recv (ok:=true) rfl rfl hr hcW (by simp) ?_
   have hg0:((((m' :: rest).map msgV).toArray).getD 0 undef)=msgV m':=by simp
   have hg1:(((m' :: rest).map msgV).toArray).extract 1 (((m' :: rest).map msgV).toArray).size=(rest.map msgV).toArray:=by simp;exact List.take_of_length_le (by simp)
   rw[hg0,hg1]
   simp only[Conc.got,if_true]
   obtain⟨W3,hW3⟩:∃W3,W.setChan c cap (rest.map msgV).toArray true s (r1+1) false=W3:=⟨_,rfl⟩
   rw[hW3]
   refine WalkO.oper rfl rfl (fun K hK=> ?_)
   go_simp
   rw[uponV_value]
   refine hK _ _ (WalkO.nil ?_)
   clear hK K
   refine WalkN.seq (WalkN.cond (t:=true) rfl ?_)
   refine WalkN.of_wp (wp_skip ?_)
   simp only[Exit.then]
   refine WalkN.block ?_
   refine WalkN.step (fun K hK=> ?_)
   go_wp2_with fail
   obtain⟨W4,hW4⟩:∃W4,W3.alloc (Obj.cells (msgCells m') 124)=W4:=⟨_,rfl⟩
   have bM:BoxAt W4 W3.heap.size 124 (msgCells m'):=by rw[<-hW4];exact BoxAt.new W3 _ _
   have k3:Kept (·= c) W W3:=by rw[<-hW3];exact(Kept.refl _ _).setChan (.inl (by rfl)) _ _ _ _ _ _
   have k4:Kept (fun _=>False) W3 W4:=by rw[<-hW4];exact Kept.alloc _ _ _
   have hcl:c < W.heap.size:=(Array.getElem?_eq_some_iff.1 hcW).1
   have c3:W3.heap[c]?= some (.chan cap (rest.map msgV).toArray true s (r1+1) false):=by rw[<-hW3];exact chan_set hcl _ _ _ _ _ _
   have c4:=k4.heap c3 (fun h=>h)
   have n4:=k4.heap (k3.heap hnW (fun e=>hcN e.symm)) (fun h=>h)
   have hNl:N < W4.heap.size:=(Array.getElem?_eq_some_iff.1 n4).1
   have s34:W3.heap.size < W4.heap.size:=bM.lt
   rw[hW4]
   clear hW4 hW3
   obtain⟨m0,m1,m2,m3,m4,m5,m6,m7,m8,m9,m10,m11,m12,m13,m14⟩:=cells15 bM
   refine WalkN.seq (WalkN.region ?_)
   change WalkO _ _ [0,1,2] _ _ _
   refine WalkO.oper rfl rfl (fun K hK=> ?_)
   go_simp
   rw[uponV_value]
   refine hK _ _ ?_
   clear hK K
   refine WalkO.oper rfl rfl (fun K hK=> ?_)
   go_simp
   rw[uponV_value]
   refine hK _ _ ?_
   clear hK K
   have hlen:pre.length < room:=by have:=congrArg List.length hL;simp at this;omega
   refine WalkO.send (c:=N) (v:=msgV m') (z:= .tuple #[]) rfl rfl (by simp[go_sem,Conc.scase]) n4 (by simpa using hlen) ?_
   refine WalkO.nil ?_
   simp only[Exit.then]
   have hp1:(pre.map msgV).toArray.push (msgV m')=((pre++ [m']).map msgV).toArray:=by simp
   rw[hp1]
   obtain⟨W5,hW5⟩:∃W5,W4.setChan N room ((pre++ [m']).map msgV).toArray false (s2+1) r2 false=W5:=⟨_,rfl⟩
   have k5:Kept (·= N) W4 W5:=by rw[<-hW5];exact(Kept.refl _ _).setChan (.inl (by rfl)) _ _ _ _ _ _
   have n5:W5.heap[N]?= some (.chan room ((pre++ [m']).map msgV).toArray false (s2+1) r2 false):=by rw[<-hW5];exact chan_set hNl _ _ _ _ _ _
   have c5:=k5.heap c4 hcN
   have bM5:=bM.kept k5 (fun e=>by have:=k3.size;have:=(Array.getElem?_eq_some_iff.1 hnW).1;omega)
   have kW5:Kept (fun k=>k=c\/k=N\/k=q) W W5:=((k3.mono (fun _ _ h=> .inl h)).trans (k4.mono (fun _ _ h=>h.elim))).trans (k5.mono (fun _ _ h=> .inr (.inl h)))
   rw[hW5]
   have HK5:Hid (Kept (fun k=>X k\/k=c) w W5):=by
    refine((hkW.trans (k3.mono (fun _ _ h=> .inr h))).trans (k4.mono (fun _ _ h=>h.elim))).andThen k5 (fun b hb h=> ?_)
    omega
   have HJW:=hid_of hJW
   have HL:Hid (L=(pre++ [m'])++rest):=by show _=_;rw[hL];simp
   have HN5:=hid_of n5
   have HC5:=hid_of c5
   have HKW5:=hid_of kW5
   have HM:Hid (rest.length < m):=by show _ < _;rw[<-hm];simp
   clear hW5 bM hr hp1 hg0 hg1 c4 n4 c3 hL hm hJW hkW kW5 k5 k4 k3 n5 c5 hnW hcW m0 m1 m2 m3 m4 m5 m6 m7 m8 m9 m10 m11 m12 m13 m14 c2 n2 n1 y1 z1 q2 o2
   cases wanted with
   |false=>
    refine WalkN.of_wp ?_
    go_wp2_with fail
    exact⟨_,HM.out,pre++ [m'],rest,false,_,_,_,_,rfl,HL.out,frT_eq _ _ _ _ _ _ _ _ _ _ _ _ _ _ _ _ _ _ _ _ _ _ _ _ _ _ _ _ _ _ _ _,HC5.out,HN5.out,HK5.out,hJx _ _ HJW.out (by rw[hN];exact HKW5.out)⟩
   |true=>
    obtain⟨m0,m1,m2,m3,m4,m5,m6,m7,m8,m9,m10,m11,m12,m13,m14⟩:=cells15 bM5
    obtain⟨fn,tmps,assign,body,hy,hR⟩:=hY pre m' W5 ⟨rest,HL.out.symm⟩ (hJ _ _ _ HJW.out (by rw[hN];exact HKW5.out))
    have HR:=hid_of hR
    clear hR
    refine WalkN.of_wpIn (n:=n) ?_
    gi_wp2
    refine⟨fun h=>(by cases h),?_⟩
    refine HR.out.mono ?_
    rintro e W6 ⟨hans,hk6⟩
    have HK6:=hid_of hk6
    clear hk6
    have hcX:¬X c:=fun h=>(hX c h).2.1 rfl
    have hNX:¬X N:=fun h=>by have:=(hX N h).1;omega
    have HC6:=hid_of (HK6.out.heap HC5.out hcX)
    have HN6:=hid_of (HK6.out.heap HN5.out hNX)
    have HK06:Hid (Kept (fun k=>X k\/k=c) w W6):=HK5.out.trans (HK6.out.mono (fun _ _ h=> .inl h))
    rcases hans with⟨rfl,hJ6⟩|⟨rfl,hJ6⟩
    ·gi_wp2
     exact⟨_,HM.out,pre++ [m'],rest,true,_,_,_,_,rfl,HL.out,frT_eq _ _ _ _ _ _ _ _ _ _ _ _ _ _ _ _ _ _ _ _ _ _ _ _ _ _ _ _ _ _ _ _,HC6.out,HN6.out,HK06.out,hJ6⟩
    ·gi_wp2
     exact⟨_,HM.out,pre++ [m'],rest,false,_,_,_,_,rfl,HL.out,frT_eq _ _ _ _ _ _ _ _ _ _ _ _ _ _ _ _ _ _ _ _ _ _ _ _ _ _ _ _ _ _ _ _,HC6.out,HN6.out,HK06.out,hJ6⟩
theorem run_len_ch{P:Program}{w:World}{c cap s r:Nat}{buf:Array Value}{cl:Bool}{dir:ChanDir}{e:TypeId}(t ty:TypeId)(ht:P.underlying t=some (.chan dir e))(hc:w.heap[c]?= some (.chan cap buf cl s r false)):(Builtin.len_ #[t] ty #[.chan (some c)]).run P w= .ok (goInt buf.size) w:=by
 simp[Builtin.len_,run_underlying ht,run_getObj_chan _ _ hc]
theorem run_cap_ch{P:Program}{w:World}{c cap s r:Nat}{buf:Array Value}{cl:Bool}{dir:ChanDir}{e:TypeId}(t ty:TypeId)(ht:P.underlying t=some (.chan dir e))(hc:w.heap[c]?= some (.chan cap buf cl s r false)):(Builtin.cap_ #[t] ty #[.chan (some c)]).run P w= .ok (goInt cap) w:=by
 simp[Builtin.cap_,run_underlying ht,run_getObj_chan _ _ hc]
attribute [local go_sem] Oper.semAt_some
set_option maxHeartbeats 4000000 in
set_option maxRecDepth 100000 in
theorem widen_calls(q c cap:Nat)(v0:Value)(L:List MsgS)(w:World)(hq:BoxAt w q 159 #[v0,.chan (some c)])(hc:ChanAt w c cap L)(hl:L.length<=cap)(h9:cap<=400000000) :
  Calls Tryz.prog 220 #[.pointer (some ⟨q,0,none⟩)] w fun e w'=>∃v,e= .returned v/\∃N,w.heap.size<=N/\BoxAt w' q 159 #[v0,.chan (some N)]/\ChanAt w' N (2*cap) L/\Kept (fun k=>k=c\/k=q) w w':=by
 obtain⟨s,r,hch⟩:=hc
 have hcw:c < w.heap.size:=(Array.getElem?_eq_some_iff.1 hch).1
 have hqw:=hq.lt
 refine(callsIn_wide (n:=5)).1 ?_
 refine callsIn_of_wp_marks Tryz.func220 rfl trivial ?_ rfl
 simp only[Tryz.ntmps220,List.size_toArray,List.length_cons,List.length_nil,Nat.reduceAdd,Nat.reduceSub,Array.replicate_succ,Array.replicate_zero,List.push_toArray,List.append_toArray,List.nil_append,List.cons_append]
 have y1:=hq.cell (o:=1) rfl
 have hcp:∀ty,(Builtin.cap_ #[157] ty #[.chan (some c)]).run Tryz.prog w= .ok (.int .i64 (cap:Int)) w:=fun ty=>run_cap_ch _ _ Tryz.underlying157 hch
 have hw2:IntKind.i64.wrap (2*(cap:Int))=((2*cap:Nat):Int):=by rw[IntWalk.i64_in _ (by omega)];omega
 gi_wp2_with fail
 refine⟨trivial,?_⟩
 refine callsIn_wide.2 ?_
 refine(through_calls q _ w).mono ?_
 rintro e w1 ⟨rfl,hw1⟩
 have b1:BoxAt w1 w.heap.size 206 #[.pointer (some ⟨q,0,none⟩)]:=by rw[hw1];exact(BoxAt.new w _ _).alloc _
 have b2:BoxAt w1 (w.heap.size+1) 3 #[.int .i64 ((2*cap:Nat):Int)]:=by
  rw[hw1,show((2*cap:Nat):Int)=2*(cap:Int) by omega];exact boxAt_at _ _ _ _ (by simp)
 have g1:Below w.heap.size w w1:=by rw[hw1];exact((Below.refl _ _).alloc (Nat.le_refl _) _).alloc (by simp) _
 have s1:w1.heap.size=w.heap.size+2:=by rw[hw1];simp
 have q1:=hq.below g1 hqw
 have c1:w1.heap[c]?= _:=(g1.block c hcw).trans hch
 clear hw1 y1 hcp hw2
 gi_wp2
 refine range_lawG (n:=5) rfl (enters_of Tryz.func218 (by kernel_rfl) rfl) (fun rec hyield=> ?_)
 obtain⟨V,hV⟩:∃V,(w1.alloc (.deferred (some []))).alloc (.loop (rec .ready none))=V:=⟨_,rfl⟩
 have gV:Below w1.heap.size w1 V:=by rw[<-hV];exact((Below.refl _ _).alloc (Nat.le_refl _) _).alloc (by simp) _
 have sV:V.heap.size=w1.heap.size+2:=by rw[<-hV];simp
 have lV:V.heap[w1.heap.size+1]?= some (.loop (rec .ready none)):=by
  have h:=World.alloc_heap_new (w1.alloc (.deferred (some []))) (.loop (rec .ready none))
  rw[World.size_alloc]at h;rw[<-hV];exact h
 have dV:V.heap[w1.heap.size]?= some (.deferred (some [])):=by
  rw[<-hV];exact(Below.heap_alloc _ _ _ (by simp)).trans (World.alloc_heap_new w1 _)
 rw[hV]
 refine(through1_calls (5 - 1) (w1.heap.size+1) q c cap s r (2*cap) (w.heap.size+1) w.heap.size v0 L V (fun k=>k=w1.heap.size+1)
  (fun _ A=>A.heap[w1.heap.size+1]?= some (.loop (rec .ready none))/\A.heap[w1.heap.size]?= some (.deferred (some []))) (fun _=>False)
  (q1.below gV q1.lt) ((gV.block c (by omega)).trans c1) (b2.below gV b2.lt) (b1.below gV b1.lt) (by omega) (by omega) (fun k hk=>by omega)
  (fun p A B h hk=>⟨hk.heap h.1 (by omega),hk.heap h.2 (by omega)⟩) (fun _ _ h _=>h) ⟨lV,dV⟩ (fun p m W1 _ h=> ?_)).mono ?_
 ·refine hyield _ _ W1 _ h.1 rfl (fun K hK=> ?_)
  refine wpIn_skip (hK _ _ h.1 ?_)
  refine wpIn_block (wpIn_skip ?_)
  have k1:Kept (·= w1.heap.size+1) W1 (W1.putObj (w1.heap.size+1) (.loop (rec .busy none))):=Kept.putObj _ _ _ rfl
  have hlt:=(Array.getElem?_eq_some_iff.1 h.1).1
  refine⟨World.putObj_heap_same hlt,.inl ⟨rfl,World.putObj_heap_same (Nat.lt_of_lt_of_le hlt k1.size),?_⟩,k1.trans (Kept.putObj _ _ _ rfl)⟩
  exact(World.putObj_heap_other (by omega)).trans (k1.heap h.2 (by omega))
 ·rintro e W' ⟨⟨v,rfl⟩,hj,hq',hc',hk'⟩
  have hj:W'.heap[w1.heap.size+1]?= some (.loop (rec .ready none))/\W'.heap[w1.heap.size]?= some (.deferred (some [])):=by
   rcases hj with h|h
   ·exact h
   ·exact h.elim
  refine⟨⟨_,rfl⟩,.inl ⟨hj.1,?_⟩⟩
  have k9:Kept (·= w1.heap.size+1) W' (W'.putObj (w1.heap.size+1) (.loop (rec .exhausted none))):=Kept.putObj _ _ _ rfl
  have hd9:=k9.heap hj.2 (by omega)
  refine⟨by simp,.inl ⟨_,_,rfl,run_takeDeferred hd9,?_⟩⟩
  have k10:Kept (·= w1.heap.size) (W'.putObj (w1.heap.size+1) (.loop (rec .exhausted none))) ((W'.putObj (w1.heap.size+1) (.loop (rec .exhausted none))).putObj w1.heap.size (.deferred none)):=Kept.putObj _ _ _ rfl
  have kk:Kept (fun k=>k=w1.heap.size\/k=w1.heap.size+1) W' ((W'.putObj (w1.heap.size+1) (.loop (rec .exhausted none))).putObj w1.heap.size (.deferred none)):=(k9.mono (fun _ _ h=> .inr h)).trans (k10.mono (fun _ _ h=> .inl h))
  refine⟨.tuple #[],by simp[results,Tryz.f220],_,rfl,V.heap.size,by omega,hq'.kept kk (by omega),hc'.kept kk (by omega),?_⟩
  have kV:Kept (fun k=>k=c\/k=q) w V:=Kept.of_below (g1.trans (gV.mono g1.size)) (fun b h1 h2=>by omega)
  exact(kV.andThen hk' (fun b hb h=>by omega)).andThen kk (fun b hb h=>by omega)
abbrev frK(q b:Nat)(m:MsgS)(x:Nat->Value):Act:=⟨#[.pointer (some ⟨q,0,none⟩),msgV m,undef,.pointer (some ⟨b,0,none⟩),x 4,x 5,x 6,x 7,x 8,x 9,x 10,x 11,x 12,x 13,x 14,x 15,x 16,undef,undef,undef,undef,undef],[]⟩
theorem frK_eq(q b:Nat)(m:MsgS)(a4 a5 a6 a7 a8 a9 a10 a11 a12 a13 a14 a15 a16:Value):(⟨#[.pointer (some ⟨q,0,none⟩),msgV m,undef,.pointer (some ⟨b,0,none⟩),a4,a5,a6,a7,a8,a9,a10,a11,a12,a13,a14,a15,a16,undef,undef,undef,undef,undef],[]⟩:Act)=frK q b m (fun i=>(#[undef,undef,undef,undef,a4,a5,a6,a7,a8,a9,a10,a11,a12,a13,a14,a15,a16]:Array Value).getD i undef):=rfl
set_option maxHeartbeats 4000000 in
set_option maxRecDepth 100000 in
theorem keep_out(q c cap:Nat)(v0:Value)(L:List MsgS)(m:MsgS)(w:World)(hq:BoxAt w q 159 #[v0,.chan (some c)])(hc:ChanAt w c cap L)(hl:L.length<=cap)(h4:4<=cap)(h9:cap<=400000000) :
  Calls Tryz.prog 205 #[.pointer (some ⟨q,0,none⟩),msgV m] w fun e w'=>(∃v,e= .returned v)/\∃N cap',(N=c\/w.heap.size<=N)/\BoxAt w' q 159 #[v0,.chan (some N)]/\ChanAt w' N cap' (L++ [m])/\(cap'=cap\/(cap'=2*cap/\L.length=cap))/\L.length+1<=cap'/\Kept (fun k=>k=c\/k=q) w w':=by
 refine calls_of_walkN Tryz.func205 rfl ?_ (by rintro w' ⟨⟨v,h⟩,-⟩;cases h)
 simp only[Tryz.ntmps205,List.size_toArray,List.length_cons,List.length_nil,Nat.reduceAdd,Nat.reduceSub,Array.replicate_succ,Array.replicate_zero,List.push_toArray,List.append_toArray,List.nil_append,List.cons_append]
 refine WalkN.step (fun K hK=> ?_)
 go_wp2_with fail
 obtain⟨W1,hW1⟩:∃W1,w.alloc (Obj.cells (msgCells m) 124)=W1:=⟨_,rfl⟩
 have bM:BoxAt W1 w.heap.size 124 (msgCells m):=by rw[<-hW1];exact BoxAt.new w _ _
 have g1:Below w.heap.size w W1:=by rw[<-hW1];exact(Below.refl _ _).alloc (Nat.le_refl _) _
 rw[hW1]
 clear hW1
 obtain⟨s,r,hch⟩:=hc
 have hcw:c < w.heap.size:=(Array.getElem?_eq_some_iff.1 hch).1
 have q1:=hq.below g1 hq.lt
 have c1:W1.heap[c]?= some (.chan cap (L.map msgV).toArray false s r false):=(g1.block c hcw).trans hch
 have hsz:((L.map msgV).toArray).size=L.length:=by simp
 have hln:∀ty (U:World),U.heap[c]?= W1.heap[c]?->(Builtin.len_ #[157] ty #[.chan (some c)]).run Tryz.prog U= .ok (.int .i64 (L.length:Int)) U:=fun ty U hU=>by
  have:=run_len_ch (P:=Tryz.prog) (w:=U) 157 ty Tryz.underlying157 (hU.trans c1)
  rw[hsz]at this
  exact this
 have hcp:∀ty (U:World),U.heap[c]?= W1.heap[c]?->(Builtin.cap_ #[157] ty #[.chan (some c)]).run Tryz.prog U= .ok (.int .i64 (cap:Int)) U:=fun ty U hU=>run_cap_ch _ _ Tryz.underlying157 (hU.trans c1)
 have l0:=fun ty k=>hln ty (W1.drewN k) rfl
 have p0:=fun ty k=>hcp ty (W1.drewN k) rfl
 have y1:=q1.cell (o:=1) rfl
 have HQ1:=hid_of q1
 have HC1:=hid_of c1
 have HBM:=hid_of bM
 have HG1:=hid_of g1
 clear hln hcp q1 c1 bM g1 hch hq
 have HW:Hid (∀U,Below W1.heap.size W1 U->L.length=cap->Calls Tryz.prog 220 #[.pointer (some ⟨q,0,none⟩)] U fun e w'=>∃v,e= .returned v/\∃N,w.heap.size<=N/\BoxAt w' q 159 #[v0,.chan (some N)]/\ChanAt w' N (2*cap) L/\Kept (fun k=>k=c\/k=q) W1 w'):=fun U hU hf=>by
  refine(widen_calls q c cap v0 L U (HQ1.out.below hU HQ1.out.lt) ⟨s,r,(hU.block c (Nat.lt_of_lt_of_le hcw HG1.out.size)).trans HC1.out⟩ hl h9).mono ?_
  rintro e w' ⟨v,rfl,N,h1,h2,h3,h5⟩
  exact⟨v,rfl,N,Nat.le_trans (Nat.le_trans HG1.out.size hU.size) h1,h2,h3,(Kept.of_below hU (X:=fun k=>k=c\/k=q) (fun b h1 h2=>absurd h1 (Nat.not_lt_of_le h2))).trans h5⟩
 refine WalkN.seq (WalkN.mono (Q:=Exit.then (fun a' W=>∃(x:Nat->Value) (N cap':Nat),a'=frK q w.heap.size m x/\(N=c\/w.heap.size<=N)/\BoxAt W q 159 #[v0,.chan (some N)]/\ChanAt W N cap' L/\(cap'=cap\/(cap'=2*cap/\L.length=cap))/\L.length+1<=cap'/\Kept (fun k=>k=c\/k=q) W1 W) (fun _ _ _=>False)) ?_ ?_)
 ·refine WalkN.of_wp ?_
  by_cases hfull:L.length=cap
  ·have he:((L.length:Int)==(cap:Int))=true:=by simp[hfull]
   have HF:Hid (L.length=cap):=hfull
   clear hfull
   go_upto_region 1 with fail
   go_quiet (fail)
   go_wp2_with (go_at_call 220;refine(HW.out _ (below_drewN (Below.refl _ _) _) HF.out).mono ?_;rintro e w2 ⟨v2,rfl,N,hN,h1,h2,h3⟩)
   exact⟨_,N,2*cap,frK_eq _ _ _ _ _ _ _ _ _ _ _ _ _ _ _ _,.inr hN,h1,h2,.inr ⟨rfl,HF.out⟩,by have:=HF.out;omega,h3⟩
  ·have he:((L.length:Int)==(cap:Int))=false:=by rw[beq_eq_false_iff_ne];omega
   go_upto_region 1 with fail
   go_quiet (fail)
   go_wp2_with fail
   have hb:=below_drewN (Below.refl W1.heap.size W1) nq
   exact⟨_,c,cap,frK_eq _ _ _ _ _ _ _ _ _ _ _ _ _ _ _ _,.inl rfl,HQ1.out.below hb HQ1.out.lt,⟨s,r,HC1.out⟩,.inl rfl,by omega,Kept.of_below hb (fun b h1 h2=>by omega)⟩
 ·rintro e a' W hp
  cases e with
  |normal=>
   obtain⟨x,N,cap',rfl,hN,hqW,hcW,hcap,hlen,hkW⟩:=hp
   simp only[Exit.then]
   obtain⟨s',r',hcW⟩:=hcW
   have bW:BoxAt W w.heap.size 124 (msgCells m):=HBM.out.kept hkW (fun h=>by rcases h with h|h;omega;have:=HQ1.out;subst h;have h1:W1.heap[w.heap.size]?= _:=HBM.out;have h2:W1.heap[w.heap.size]?= _:=HQ1.out;rw[h1]at h2;cases h2)
   refine WalkN.region_any (L:=[[0,1,2,3,4,5],[0,1,2,4,3,5],[0,1,4,2,3,5],[0,4,1,2,3,5],[4,0,1,2,3,5]]) (by kernel_rfl) (by kernel_rfl) ?_
   obtain⟨U,hU⟩:∃U,({W with drawn:=W.drawn+1}:World)=U:=⟨_,rfl⟩
   have kU:Kept (fun k=>k=c\/k=q) W1 U:=by rw[<-hU];exact hkW.drew
   have qU:BoxAt U q 159 #[v0,.chan (some N)]:=by rw[<-hU];exact hqW
   have cU:U.heap[N]?= some (.chan cap' (L.map msgV).toArray false s' r' false):=by rw[<-hU];exact hcW
   have bU:BoxAt U w.heap.size 124 (msgCells m):=by rw[<-hU];exact bW
   rw[hU]
   have y9:=qU.cell (o:=1) rfl
   obtain⟨m0,m1,m2,m3,m4,m5,m6,m7,m8,m9,m10,m11,m12,m13,m14⟩:=cells15 bU
   have HQU:=hid_of qU
   have HKU:=hid_of kU
   have hNU:N < U.heap.size:=(Array.getElem?_eq_some_iff.1 cU).1
   have hqN:q≠N:=fun e=>by subst e;have h1:U.heap[q]?= _:=qU;rw[cU]at h1;cases h1
   clear hU bW hqW hcW hkW l0 p0 y1 bU qU kU HBM HC1 HQ1 HW
   intro l hl'
   simp only[List.mem_cons,List.not_mem_nil,or_false]at hl'
   rcases hl' with rfl|rfl|rfl|rfl|rfl
   all_goals
    iterate 5 (refine WalkO.oper rfl rfl (fun K hK=> ?_);go_simp;rw[uponV_value];refine hK _ _ ?_;clear hK K)
    refine WalkO.send (c:=N) (v:=msgV m) (z:= .tuple #[]) rfl rfl (by simp[go_sem,Conc.scase]) cU (by simp;omega) ?_
    refine WalkO.nil ?_
    have hp1:(L.map msgV).toArray.push (msgV m)=((L++ [m]).map msgV).toArray:=by simp
    rw[hp1]
    have k9:Kept (·= N) U (U.setChan N cap' ((L++ [m]).map msgV).toArray false (s'+1) r' false):=(Kept.refl _ _).setChan (.inl (by rfl)) _ _ _ _ _ _
    refine⟨rfl,_,results_none rfl _ _ _,⟨_,rfl⟩,N,cap',hN,HQU.out.kept k9 hqN,⟨_,_,chan_set hNU _ _ _ _ _ _⟩,hcap,hlen,?_⟩
    refine((Kept.of_below HG1.out (X:=fun k=>k=c\/k=q) (fun b h1 h2=>by omega)).trans HKU.out).andThen k9 (fun b hb h=> ?_)
    rcases hN with h'|h'
    ·exact .inl (h.trans h')
    ·omega
  |exit i=>exact hp.elim
  |goto t=>exact hp.elim
  |ret=>exact hp.elim
  |panic ch=>exact hp.elim
  |outgrown=>exact hp.elim
def LinkS.sent(l:LinkS)(m:MsgS):LinkS:={l with all:=l.all++ [{m with no:=(l.all.length:Int)+1}]}
set_option maxHeartbeats 4000000 in
set_option maxRecDepth 100000 in
theorem send_out(X:Nat->Prop)(q:Nat)(l:LinkS)(m:MsgS)(w:World)(h:OutAt X w q l)(hk:l.known.toNat<=l.all.length)(hn:l.all.length<=100000000) :
  Calls Tryz.prog 192 #[.pointer (some ⟨q,0,none⟩),msgV m] w fun e w'=>∃v,e= .returned v/\(v=msgV {m with no:=(l.all.length:Int)+1}/\OutAt (fun b=>X b\/w.heap.size<=b) w' q (l.sent m)/\Kept X w w'):=by
 obtain⟨c,cap,hq,hXq,hc,hXc,h4,hcap,hlen⟩:=h
 obtain⟨n,hnn⟩:∃n,l.all.length=n:=⟨_,rfl⟩
 rw[hnn]at hq hk hn hcap
 have hwr:IntKind.i64.wrap ((n:Int)+1)=(n:Int)+1:=IntWalk.i64_in _ (by omega)
 obtain⟨Z,hZ⟩:∃Z,(w.alloc (Obj.cells (msgCells m) 124)).alloc (Obj.cells (msgCells msg0) 124)=Z:=⟨_,rfl⟩
 have gZ:Below w.heap.size w Z:=by rw[<-hZ];exact((Below.refl _ _).alloc (Nat.le_refl _) _).alloc (by simp) _
 have sZ:Z.heap.size=w.heap.size+2:=by rw[<-hZ];simp
 have bM:BoxAt Z w.heap.size 124 (msgCells m):=by rw[<-hZ];exact(BoxAt.new w _ _).alloc _
 have bR:BoxAt Z (w.heap.size+1) 124 (msgCells msg0):=by rw[<-hZ];exact boxAt_at _ _ _ _ (by simp)
 have qZ:=hq.below gZ hq.lt
 have hqw:=hq.lt
 have hcw:=hc.lt
 have cZ:ChanAt Z c cap l.left:=hc.below gZ
 have y0:=qZ.cell (o:=0) rfl
 have f0:=qZ.frozen 0
 have f2:=bM.frozen 2
 have e2:=bM.cell (o:=2) rfl
 obtain⟨Y,hY⟩:∃Y,(Z.setCell ⟨q,0,none⟩ (.int .i64 ((n:Int)+1))).setCell ⟨w.heap.size,2,none⟩ (.int .i64 ((n:Int)+1))=Y:=⟨_,rfl⟩
 have qY:BoxAt Y q 159 #[.int .i64 ((n:Int)+1),.chan (some c)]:=by rw[<-hY];exact(qZ.setAt 0 _).far _ _ (by show q≠w.heap.size;omega)
 have bY:BoxAt Y w.heap.size 124 (msgCells {m with no:=(n:Int)+1}):=by rw[<-hY];exact(bM.far ⟨q,0,none⟩ _ (by show w.heap.size≠q;omega)).setAt 2 _
 have rY:BoxAt Y (w.heap.size+1) 124 (msgCells msg0):=by rw[<-hY];exact(bR.far ⟨q,0,none⟩ _ (by show w.heap.size+1≠q;omega)).far ⟨w.heap.size,2,none⟩ _ (by show w.heap.size+1≠w.heap.size;omega)
 have kY:Kept (fun k=>k=q\/k=w.heap.size) Z Y:=by rw[<-hY];exact((Kept.refl _ _).setCell (.inl (by exact .inl rfl)) _).setCell (.inl (by exact .inr rfl)) _
 have cY:ChanAt Y c cap l.left:=cZ.kept kY (fun e=>by
  rcases e with e|e
  ·obtain⟨s,r,h'⟩:=hc;subst e;have h1:w.heap[c]?= _:=hq;rw[h']at h1;cases h1
  ·omega)
 have HK:=hid_of (keep_out q c cap (.int .i64 ((n:Int)+1)) l.left {m with no:=(n:Int)+1} Y qY cY hlen h4 (by omega))
 have HBY:=hid_of bY
 have HRY:=hid_of rY
 have HKY:=hid_of kY
 have HGZ:=hid_of gZ
 have HBM:=hid_of bM
 obtain⟨m0,m1,m2,m3,m4,m5,m6,m7,m8,m9,m10,m11,m12,m13,m14⟩:=cells15 bM
 obtain⟨n0,n1,n2,n3,n4,n5,n6,n7,n8,n9,n10,n11,n12,n13,n14⟩:=cells15 bY
 have sY:=kY.size
 clear bM bR qZ cZ bY rY kY cY qY gZ hq hc
 go_enter Tryz.func192,Tryz.ntmps192
 go_upto_region 1 with fail
 have e0:(w.alloc (Obj.cells (msgCells m) 124)).alloc (Obj.cells (msgCells msg0) 124)=Z:=hZ
 simp only[msg0]at e0
 rw[e0]
 clear e0 hZ
 go_upto_region 3 with fail
 clear hY y0 f0 f2 e2 m0 m1 m2 m3 m4 m5 m6 m7 m8 m9 m10 m11 m12 m13 m14
 go_upto_region 4 with(go_at_call 205;refine HK.out.mono ?_;rintro e w2 ⟨⟨v2,rfl⟩,N,cap',hN,hq2,hc2,hcap2,hlen2,hk2⟩)
 have b2:=HBY.out.kept hk2 (fun e=>by omega)
 have r2:=HRY.out.kept hk2 (fun e=>by omega)
 have HQ2:=hid_of hq2
 have HC2:=hid_of hc2
 have HK2:=hid_of hk2
 have HB2:=hid_of b2
 have HR2:=hid_of r2
 have HCAP:=hid_of hcap2
 have HLEN:Hid (l.left.length+1<=cap'):=hlen2
 have hNN:Hid (N=c\/Y.heap.size<=N):=hN
 clear n0 n1 n2 n3 n4 n5 n6 n7 n8 n9 n10 n11 n12 n13 n14 hq2 hc2 hk2 hcap2 hlen2 hN
 have fr:=r2.frozen
 obtain⟨n0,n1,n2,n3,n4,n5,n6,n7,n8,n9,n10,n11,n12,n13,n14⟩:=cells15 b2
 obtain⟨z0,z1,z2,z3,z4,z5,z6,z7,z8,z9,z10,z11,z12,z13,z14⟩:=cells15 r2
 clear b2 r2
 go_wp2_with fail
 change bodyPost Tryz.prog Tryz.f192 _ Exit.ret _ (putAll w2 (w.heap.size+1) 0 (msgEnc {m with no:=(n:Int)+1}))
 have kP:Kept (·= w.heap.size+1) w2 (putAll w2 (w.heap.size+1) 0 (msgEnc {m with no:=(n:Int)+1})):=kept_putAll (X:=fun x=>x=w.heap.size+1) (.inl rfl) _ _ _ (Kept.refl _ _)
 have hbz:=box_putAll (msgEnc {m with no:=(n:Int)+1}) HR2.out rfl
 generalize putAll w2 (w.heap.size+1) 0 (msgEnc {m with no:=(n:Int)+1})=V at kP hbz ⊢
 have hbv:BoxAt V (w.heap.size+1) 124 (msgCells {m with no:=(n:Int)+1}):=hbz
 obtain⟨q0,q1,q2,q3,q4,q5,q6,q7,q8,q9,q10,q11,q12,q13,q14⟩:=cells15 hbv
 refine bodyPost_ret (v:=msgV {m with no:=(n:Int)+1}) ?_ rfl ⟨_,rfl,?_⟩
 ·simp[results,Tryz.results192,go_sem,q0,q1,q2,q3,q4,q5,q6,q7,q8,q9,q10,q11,q12,q13,q14]
 ·have hqw2:=HQ2.out.lt
  have kall:Kept (fun k=>k=c\/k=q) w V:=(((Kept.of_below HGZ.out (X:=fun k=>k=c\/k=q) (fun b h1 h2=>by omega)).andThen HKY.out (fun b hb h=>by omega)).andThen HK2.out (fun b hb h=>h)).andThen kP (fun b hb h=>by omega)
  refine⟨by first|rfl|rw[hnn],⟨N,cap',?_,.inl hXq,?_,?_,?_,?_,?_⟩,kall.mono (fun b _ h=>by rcases h with h|h;subst h;exact hXc;subst h;exact hXq)⟩
  ·have:(((l.sent m).all.length:Nat):Int)=(n:Int)+1:=by simp[LinkS.sent,hnn]
   rw[this]
   exact HQ2.out.kept kP (by omega)
  ·have:(l.sent m).left=l.left++ [{m with no:=(n:Int)+1}]:=by
    simp only[LinkS.left,LinkS.sent,hnn]
    rw[List.drop_append_of_le_length (by omega)]
   rw[this]
   exact HC2.out.kept kP (fun e=>by
    rcases hNN.out with h|h
    ·omega
    ·omega)
  ·rcases hNN.out with h|h
   ·exact .inl (by rw[h];exact hXc)
   ·exact .inr (by omega)
  ·rcases HCAP.out with h|h<;>omega
  ·have:(l.sent m).all.length=n+1:=by simp[LinkS.sent,hnn]
   rw[this]
   have hll:l.left.length<=n:=by simp only[LinkS.left,List.length_drop,hnn];omega
   rcases HCAP.out with h|h<;>omega
  ·have:(l.sent m).left.length=l.left.length+1:=by
    simp only[LinkS.left,LinkS.sent,List.length_drop,List.length_append,List.length_singleton,hnn];omega
   rw[this]
   exact HLEN.out
end Go.Proofs.YtfanaanofjhlkaaGreatDoor
