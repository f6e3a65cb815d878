import Derived.Test.YtfanaanofjhlkaaGreatDoorStoreM
import Derived.Test.YtfanaanofjhlkaaGreatDoorRaw
import Derived.OwnWalkIn
namespace Go.Proofs.YtfanaanofjhlkaaGreatDoor
open Go Go.RowKit
theorem Kept.setChan{X:Nat->Prop}{A W:World}(h:Kept X A W){c:Nat}(hc:X c\/A.heap.size<=c)(cap:Nat)(buf:Array Value)(cl:Bool)(s r:Nat)(tm:Bool):Kept X A (W.setChan c cap buf cl s r tm):=
 ⟨h.os,h.tape,h.output,by simpa[World.setChan]using h.size,fun k hk hx=>by
  simp only[World.setChan]
  rw[Array.getElem?_setIfInBounds_ne (fun e=>by subst e;rcases hc with h'|h';exact hx h';omega)]
  exact h.block k hk hx⟩
theorem chan_set{W:World}{c:Nat}(h:c < W.heap.size)(cap:Nat)(buf:Array Value)(cl:Bool)(s r:Nat)(tm:Bool):(W.setChan c cap buf cl s r tm).heap[c]?= some (.chan cap buf cl s r tm):=by
 simp[World.setChan,h]
theorem mkChanN(n:Nat)(hn:n<=1000000000)(w:World):(Instr.makeChan 157 (.int .i64 (n:Int))).run Tryz.prog w= .ok (.chan (some w.heap.size)) (w.alloc (.chan n #[] false 0 0 false)):=by
 have hi:=infoMessage
 cases h:Tryz.prog.info? 124 with
 |none=>rw[h]at hi;cases hi
 |some i=>
  rw[h]at hi
  simp at hi
  exact Conc.run_makeChan Tryz.underlying157 h .i64 n (by omega) (by rw[hi.2.2];omega)
abbrev frT(y:Value)(Br Bo N c:Nat)(wanted:Bool)(x:Nat->Value):Act:=⟨#[y,.pointer (some ⟨Br,0,none⟩),.pointer (some ⟨Bo,0,none⟩),x 3,.chan (some N),.bool wanted,x 6,x 7,x 8,x 9,x 10,x 11,x 12,x 13,x 14,x 15,.chan (some c),x 17,x 18,x 19,x 20,x 21,x 22,x 23,x 24,x 25,x 26,x 27,x 28,x 29,x 30,x 31],[]⟩
abbrev msgV(m:MsgS):Value:= .agg (msgCells m)
theorem frT_eq(y:Value)(Br Bo N c:Nat)(wanted:Bool)(a3 a6 a7 a8 a9 a10 a11 a12 a13 a14 a15 a17 a18 a19 a20 a21 a22 a23 a24 a25 a26 a27 a28 a29 a30 a31:Value):(⟨#[y,.pointer (some ⟨Br,0,none⟩),.pointer (some ⟨Bo,0,none⟩),a3,.chan (some N),.bool wanted,a6,a7,a8,a9,a10,a11,a12,a13,a14,a15,.chan (some c),a17,a18,a19,a20,a21,a22,a23,a24,a25,a26,a27,a28,a29,a30,a31],[]⟩:Act)=frT y Br Bo N c wanted (fun i=>(#[undef,undef,undef,a3,undef,undef,a6,a7,a8,a9,a10,a11,a12,a13,a14,a15,undef,a17,a18,a19,a20,a21,a22,a23,a24,a25,a26,a27,a28,a29,a30,a31]:Array Value).getD i undef):=rfl
theorem through_calls(q:Nat)(room:Int)(w:World):Calls Tryz.prog 197 #[.pointer (some ⟨q,0,none⟩),.int .i64 room] w fun e w'=>e= .returned (.func (.func 218) #[] #[.pointer (some ⟨w.heap.size+1,0,none⟩),.pointer (some ⟨w.heap.size,0,none⟩)])/\w'=(w.alloc (Obj.cells #[.pointer (some ⟨q,0,none⟩)] 206)).alloc (Obj.cells #[.int .i64 room] 3):=by
 go_enter Tryz.func197,Tryz.ntmps197
 go_wp2_with fail
 go_ret
 exact⟨rfl,rfl⟩
set_option maxHeartbeats 4000000 in
set_option maxRecDepth 100000 in
theorem through1_calls(n l q c cap s r room Br Bo:Nat)(v0:Value)(L:List MsgS)(w:World)(X:Nat->Prop)(J:List MsgS->World->Prop)(Jx:World->Prop)
  (hq:BoxAt w q 159 #[v0,.chan (some c)]) (hc:w.heap[c]?= some (.chan cap (L.map msgV).toArray false s r false)) (hBr:BoxAt w Br 3 #[.int .i64 (room:Int)]) (hBo:BoxAt w Bo 206 #[.pointer (some ⟨q,0,none⟩)]) (hroom:L.length<=room) (hr9:room<=1000000000)
  (hX:∀k,X k->k < w.heap.size/\k≠c/\k≠q/\k≠Br/\k≠Bo)
  (hJ:∀p A B,J p A->Kept (fun k=>k=c\/k=w.heap.size\/k=q) A B->J p B) (hJx:∀A B,Jx A->Kept (fun k=>k=c\/k=w.heap.size\/k=q) A B->Jx B) (h0:J [] w)
  (hY:∀p m W1,p++ [m] <+: L->J p W1->YieldAt Fence.wide (n - 1) Tryz.prog l #[msgV m] W1 fun e W'=>((e= .returned (.bool true)/\J (p++ [m]) W')\/(e= .returned (.bool false)/\Jx W'))/\Kept X W1 W') :
  CallsIn Fence.wide n Tryz.prog 218 (#[.func (.yield l) #[] #[]]++ #[.pointer (some ⟨Br,0,none⟩),.pointer (some ⟨Bo,0,none⟩)]) w fun e W'=>(∃v,e= .returned v)/\(J L W'\/Jx W')/\BoxAt W' q 159 #[v0,.chan (some w.heap.size)]/\ChanAt W' w.heap.size room L/\Kept (fun k=>X k\/k=c\/k=q) w W':=by
 refine callsIn_wide.2 ?_
 refine calls_of_walkN Tryz.func218 rfl ?_ (by rintro w' ⟨⟨v,h⟩,-⟩;cases h)
 simp only[Tryz.ntmps218,List.size_toArray,List.length_cons,List.length_nil,Nat.reduceAdd,Nat.reduceSub,Array.replicate_succ,Array.replicate_zero,List.push_toArray,List.append_toArray,List.nil_append,List.cons_append]
 have hmk:=mkChanN room hr9
 have b1:=hBr.cell (o:=0) rfl
 refine WalkN.step (fun K hK=> ?_)
 go_wp2_with fail
 obtain⟨N,hN⟩:∃N,w.heap.size=N:=⟨_,rfl⟩
 obtain⟨W1,hW1⟩:∃W1,w.alloc (.chan room #[] false 0 0 false)=W1:=⟨_,rfl⟩
 have k1:Kept (fun _=>False) w W1:=by rw[<-hW1];exact Kept.alloc _ _ _
 have n1:W1.heap[N]?= some (.chan room #[] false 0 0 false):=by rw[<-hW1,<-hN];exact World.alloc_heap_new w _
 have s1:W1.heap.size=N+1:=by rw[<-hW1,<-hN];simp
 obtain⟨W2,hW2⟩:∃W2,W1.setChan c cap (L.map msgV).toArray true s r false=W2:=⟨_,rfl⟩
 have hcl:∀ats ty,(Builtin.close_ ats ty #[.chan (some c)]).run Tryz.prog W1= .ok (.tuple #[]) W2:=fun ats ty=>by rw[<-hW2];exact run_close_open ats ty (k1.heap hc (fun h=>h))
 have hcw:c < w.heap.size:=(Array.getElem?_eq_some_iff.1 hc).1
 have k2:Kept (·= c) W1 W2:=by rw[<-hW2];exact(Kept.refl _ _).setChan (.inl (by rfl)) _ _ _ _ _ _
 have c2:W2.heap[c]?= some (.chan cap (L.map msgV).toArray true s r false):=by rw[<-hW2];exact chan_set (by omega) _ _ _ _ _ _
 have n2:W2.heap[N]?= some (.chan room #[] false 0 0 false):=k2.heap n1 (by omega)
 have hqc:q≠c:=fun e=>by subst e;have h1:w.heap[q]?= _:=hq;rw[hc]at h1;cases h1
 have hoc:Bo≠c:=fun e=>by subst e;have h1:w.heap[Bo]?= _:=hBo;rw[hc]at h1;cases h1
 have q2:=(hq.kept k1 (fun h=>h)).kept k2 hqc
 have o2:=(hBo.kept k1 (fun h=>h)).kept k2 hoc
 have y1:=(hq.kept k1 (fun h=>h)).cell (o:=1) rfl
 have z1:=(hBo.kept k1 (fun h=>h)).cell (o:=0) rfl
 rw[hW1,hN]
 have H2:Hid (Kept (·= c) w W2):=(k1.mono (fun _ _ h=>h.elim)).trans k2
 have HQ2:=hid_of q2
 have HO2:=hid_of o2
 clear hmk b1 k1 k2 hW1
 refine WalkN.step (fun K hK=> ?_)
 go_wp2_with fail
 clear hcl y1 z1 hW2
 refine WalkN.step (fun K hK=> ?_)
 go_wp2_with fail
 have y1:=HQ2.out.cell (o:=1) rfl
 have z1:=HO2.out.cell (o:=0) rfl
 refine WalkN.seq ?_
 refine WalkN.step (fun K hK=> ?_)
 go_wp2_with fail
 refine WalkN.block ?_
 refine WalkN.loop (fun m a W=>∃(pre rest:List MsgS) (wanted:Bool) (x:Nat->Value) (r1 s2 r2:Nat),rest.length=m/\L=pre++rest/\a=frT (.func (.yield l) #[] #[]) Br Bo N c wanted x/\W.heap[c]?= some (.chan cap (rest.map msgV).toArray true s r1 false)/\W.heap[N]?= some (.chan room (pre.map msgV).toArray false s2 r2 false)/\Kept (fun k=>X k\/k=c) w W/\(if wanted then J pre W else Jx W)) L.length ?start ?round
 case start=>
  refine⟨[],L,true,fun i=>(#[.func (.yield l) #[] #[],undef,undef,undef,undef,undef,undef,.int .i64 (room:Int),.chan (some N),.pointer (some ⟨q,0,none⟩),.pointer (some ⟨q,0,none⟩),.pointer (some ⟨q,1,none⟩),.chan (some c),.pointer (some ⟨q,0,none⟩),.pointer (some ⟨q,0,none⟩),.pointer (some ⟨q,1,none⟩)]:Array Value).getD i undef,r,0,0,rfl,rfl,?_,c2,n2,H2.out.mono (fun _ _ h=> .inr h),hJ _ _ _ h0 (H2.out.mono (fun _ _ h=> .inl h))⟩
  rfl
 case round=>
  rintro m a W ⟨pre,rest,wanted,x,r1,s2,r2,hm,hL,rfl,hcW,hnW,hkW,hJW⟩
  refine WalkN.seq (WalkN.region ?_)
  change WalkO _ _ [0,1] _ _ _
  have hcN:c≠N:=by omega
  cases rest with
  |nil=>
   obtain⟨z,hr⟩:∃z,(execOp (frT (.func (.yield l) #[] #[]) Br Bo N c wanted x).eval {dst:=some 17,op:=Op.recv 157 (Operand.tmp 16) true,type:=0,pos:= "link.go:56",after:=#[],guard:=none}).run Tryz.prog W= .ok (.comm #[Conc.rcase c z] true (.recv true)) W:=by
    simp[go_sem,Conc.rcase]
   refine WalkO.shut (ok:=true) rfl rfl hr (by simpa using hcW) ?_
   simp only[Conc.got,if_true]
   refine WalkO.oper rfl rfl (fun K hK=> ?_)
   go_simp
   rw[uponV_value]
   refine hK _ _ (WalkO.nil ?_)
   clear hK K
   refine WalkN.seq (WalkN.cond (t:=false) rfl ?_)
   refine WalkN.of_wp (wp_exit ?_)
   simp only[Exit.then,Exit.inBlock,if_true]
   have hqX:¬(X q\/q=c):=fun h=>by rcases h with h|h;exact(hX q h).2.2.1 rfl;exact hqc h
   have hoX:¬(X Bo\/Bo=c):=fun h=>by rcases h with h|h;exact(hX Bo h).2.2.2.2 rfl;exact hoc h
   have hqW:=hq.kept hkW hqX
   have u0:=(hBo.kept hkW hoX).cell (o:=0) rfl
   have u1:=hqW.cell (o:=1) rfl
   have f1:=hqW.frozen 1
   have HQW:=hid_of hqW
   have HNW:=hid_of hnW
   have HKW:=hid_of hkW
   have HJW:=hid_of hJW
   have HLP:Hid (L=pre):=by show _=_;simpa using hL
   clear hqW hnW hkW hJW hL hcW hr n2 c2 n1 y1 z1 q2 o2 hm
   refine WalkN.of_wp ?_
   go_wp2_with fail
   go_end0
   have k9:Kept (·= q) W (W.setCell ⟨q,1,none⟩ (.chan (some N))):=(Kept.refl _ _).setCell (.inl (by rfl)) _
   refine⟨⟨_,rfl⟩,?_,HQW.out.setAt 1 _,⟨s2,r2,?_⟩,(HKW.out.mono (fun k _ h=>by rcases h with h|h;exact .inl h;exact .inr (.inl h))).trans (k9.mono (fun k _ h=> .inr (.inr h)))⟩
   ·have h9:=HJW.out
    cases wanted with
    |true=>exact .inl (by rw[HLP.out];exact hJ _ _ _ h9 (k9.mono (fun _ _ h=> .inr (.inr h))))
    |false=>exact .inr (hJx _ _ h9 (k9.mono (fun _ _ h=> .inr (.inr h))))
   ·rw[HLP.out];exact k9.heap HNW.out (fun e=>by have:=hq.lt;omega)
  |cons m' rest=>
   obtain⟨z,hr⟩:∃z,(execOp (frT (.func (.yield l) #[] #[]) Br Bo N c wanted x).eval {dst:=some 17,op:=Op.recv 157 (Operand.tmp 16) true,type:=0,pos:= "link.go:56",after:=#[],guard:=none}).run Tryz.prog W= .ok (.comm #[Conc.rcase c z] true (.recv true)) W:=by
    simp[go_sem,Conc.rcase]
   refine WalkO.recv (ok:=true) rfl rfl hr hcW (by simp) ?_
   have hg0:((((m' :: rest).map msgV).toArray).getD 0 undef)=msgV m':=by simp
   have hg1:(((m' :: rest).map msgV).toArray).extract 1 (((m' :: rest).map msgV).toArray).size=(rest.map msgV).toArray:=by simp;exact List.take_of_length_le (by simp)
   rw[hg0,hg1]
   simp only[Conc.got,if_true]
   obtain⟨W3,hW3⟩:∃W3,W.setChan c cap (rest.map msgV).toArray true s (r1+1) false=W3:=⟨_,rfl⟩
   rw[hW3]
   refine WalkO.oper rfl rfl (fun K hK=> ?_)
   go_simp
   rw[uponV_value]
   refine hK _ _ (WalkO.nil ?_)
   clear hK K
   refine WalkN.seq (WalkN.cond (t:=true) rfl ?_)
   refine WalkN.of_wp (wp_skip ?_)
   simp only[Exit.then]
   refine WalkN.block ?_
   refine WalkN.step (fun K hK=> ?_)
   go_wp2_with fail
   obtain⟨W4,hW4⟩:∃W4,W3.alloc (Obj.cells (msgCells m') 124)=W4:=⟨_,rfl⟩
   have bM:BoxAt W4 W3.heap.size 124 (msgCells m'):=by rw[<-hW4];exact BoxAt.new W3 _ _
   have k3:Kept (·= c) W W3:=by rw[<-hW3];exact(Kept.refl _ _).setChan (.inl (by rfl)) _ _ _ _ _ _
   have k4:Kept (fun _=>False) W3 W4:=by rw[<-hW4];exact Kept.alloc _ _ _
   have hcl:c < W.heap.size:=(Array.getElem?_eq_some_iff.1 hcW).1
   have c3:W3.heap[c]?= some (.chan cap (rest.map msgV).toArray true s (r1+1) false):=by rw[<-hW3];exact chan_set hcl _ _ _ _ _ _
   have c4:=k4.heap c3 (fun h=>h)
   have n4:=k4.heap (k3.heap hnW (fun e=>hcN e.symm)) (fun h=>h)
   have hNl:N < W4.heap.size:=(Array.getElem?_eq_some_iff.1 n4).1
   have s34:W3.heap.size < W4.heap.size:=bM.lt
   rw[hW4]
   clear hW4 hW3
   obtain⟨m0,m1,m2,m3,m4,m5,m6,m7,m8,m9,m10,m11,m12,m13,m14⟩:=cells15 bM
   refine WalkN.seq (WalkN.region ?_)
   change WalkO _ _ [0,1,2] _ _ _
   refine WalkO.oper rfl rfl (fun K hK=> ?_)
   go_simp
   rw[uponV_value]
   refine hK _ _ ?_
   clear hK K
   refine WalkO.oper rfl rfl (fun K hK=> ?_)
   go_simp
   rw[uponV_value]
   refine hK _ _ ?_
   clear hK K
   have hlen:pre.length < room:=by have:=congrArg List.length hL;simp at this;omega
   refine WalkO.send (c:=N) (v:=msgV m') (z:= .tuple #[]) rfl rfl (by simp[go_sem,Conc.scase]) n4 (by simpa using hlen) ?_
   refine WalkO.nil ?_
   simp only[Exit.then]
   have hp1:(pre.map msgV).toArray.push (msgV m')=((pre++ [m']).map msgV).toArray:=by simp
   rw[hp1]
   obtain⟨W5,hW5⟩:∃W5,W4.setChan N room ((pre++ [m']).map msgV).toArray false (s2+1) r2 false=W5:=⟨_,rfl⟩
   have k5:Kept (·= N) W4 W5:=by rw[<-hW5];exact(Kept.refl _ _).setChan (.inl (by rfl)) _ _ _ _ _ _
   have n5:W5.heap[N]?= some (.chan room ((pre++ [m']).map msgV).toArray false (s2+1) r2 false):=by rw[<-hW5];exact chan_set hNl _ _ _ _ _ _
   have c5:=k5.heap c4 hcN
   have bM5:=bM.kept k5 (fun e=>by have:=k3.size;have:=(Array.getElem?_eq_some_iff.1 hnW).1;omega)
   have kW5:Kept (fun k=>k=c\/k=N\/k=q) W W5:=((k3.mono (fun _ _ h=> .inl h)).trans (k4.mono (fun _ _ h=>h.elim))).trans (k5.mono (fun _ _ h=> .inr (.inl h)))
   rw[hW5]
   have HK5:Hid (Kept (fun k=>X k\/k=c) w W5):=by
    refine((hkW.trans (k3.mono (fun _ _ h=> .inr h))).trans (k4.mono (fun _ _ h=>h.elim))).andThen k5 (fun b hb h=> ?_)
    omega
   have HJW:=hid_of hJW
   have HL:Hid (L=(pre++ [m'])++rest):=by show _=_;rw[hL];simp
   have HN5:=hid_of n5
   have HC5:=hid_of c5
   have HKW5:=hid_of kW5
   have HM:Hid (rest.length < m):=by show _ < _;rw[<-hm];simp
   clear hW5 bM hr hp1 hg0 hg1 c4 n4 c3 hL hm hJW hkW kW5 k5 k4 k3 n5 c5 hnW hcW m0 m1 m2 m3 m4 m5 m6 m7 m8 m9 m10 m11 m12 m13 m14 c2 n2 n1 y1 z1 q2 o2
   cases wanted with
   |false=>
    refine WalkN.of_wp ?_
    go_wp2_with fail
    exact⟨_,HM.out,pre++ [m'],rest,false,_,_,_,_,rfl,HL.out,frT_eq _ _ _ _ _ _ _ _ _ _ _ _ _ _ _ _ _ _ _ _ _ _ _ _ _ _ _ _ _ _ _ _,HC5.out,HN5.out,HK5.out,hJx _ _ HJW.out (by rw[hN];exact HKW5.out)⟩
   |true=>
    obtain⟨m0,m1,m2,m3,m4,m5,m6,m7,m8,m9,m10,m11,m12,m13,m14⟩:=cells15 bM5
    obtain⟨fn,tmps,assign,body,hy,hR⟩:=hY pre m' W5 ⟨rest,HL.out.symm⟩ (hJ _ _ _ HJW.out (by rw[hN];exact HKW5.out))
    have HR:=hid_of hR
    clear hR
    refine WalkN.of_wpIn (n:=n) ?_
    gi_wp2
    refine⟨fun h=>(by cases h),?_⟩
    refine HR.out.mono ?_
    rintro e W6 ⟨hans,hk6⟩
    have HK6:=hid_of hk6
    clear hk6
    have hcX:¬X c:=fun h=>(hX c h).2.1 rfl
    have hNX:¬X N:=fun h=>by have:=(hX N h).1;omega
    have HC6:=hid_of (HK6.out.heap HC5.out hcX)
    have HN6:=hid_of (HK6.out.heap HN5.out hNX)
    have HK06:Hid (Kept (fun k=>X k\/k=c) w W6):=HK5.out.trans (HK6.out.mono (fun _ _ h=> .inl h))
    rcases hans with⟨rfl,hJ6⟩|⟨rfl,hJ6⟩
    ·gi_wp2
     exact⟨_,HM.out,pre++ [m'],rest,true,_,_,_,_,rfl,HL.out,frT_eq _ _ _ _ _ _ _ _ _ _ _ _ _ _ _ _ _ _ _ _ _ _ _ _ _ _ _ _ _ _ _ _,HC6.out,HN6.out,HK06.out,hJ6⟩
    ·gi_wp2
     exact⟨_,HM.out,pre++ [m'],rest,false,_,_,_,_,rfl,HL.out,frT_eq _ _ _ _ _ _ _ _ _ _ _ _ _ _ _ _ _ _ _ _ _ _ _ _ _ _ _ _ _ _ _ _,HC6.out,HN6.out,HK06.out,hJ6⟩
end Go.Proofs.YtfanaanofjhlkaaGreatDoor
