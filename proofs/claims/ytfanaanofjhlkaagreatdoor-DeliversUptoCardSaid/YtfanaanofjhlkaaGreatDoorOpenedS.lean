import Derived.Test.YtfanaanofjhlkaaGreatDoorRangeG
import Derived.Test.YtfanaanofjhlkaaGreatDoorHolds
namespace Go.Proofs.YtfanaanofjhlkaaGreatDoor
open Go Go.RowKit Go.Deep Go.ChangeShapes Go.WideShapes Tryz
theorem aGb:prog.cellsOf 38=3:=by kernel_rfl
theorem aMc:prog.cellsOf 73=13:=by kernel_rfl
theorem aNb{l:List Value}(h:l.length=13):∃v0 v1 v2 v3 v4 v5 v6 v7 v8 v9 v10 v11 v12,l=[v0,v1,v2,v3,v4,v5,v6,v7,v8,v9,v10,v11,v12]:=by
 match l,h with
 |[v0,v1,v2,v3,v4,v5,v6,v7,v8,v9,v10,v11,v12],_=>exact⟨v0,v1,v2,v3,v4,v5,v6,v7,v8,v9,v10,v11,v12,rfl⟩
theorem aNf{α:Type}{l:List α}(h:l.length=9):∃v0 v1 v2 v3 v4 v5 v6 v7 v8,l=[v0,v1,v2,v3,v4,v5,v6,v7,v8]:=by
 match l,h with
 |[v0,v1,v2,v3,v4,v5,v6,v7,v8],_=>exact⟨v0,v1,v2,v3,v4,v5,v6,v7,v8,rfl⟩
theorem oF{z:Int}(h:(Lit.int .i64 z).wf=true):jR z:=by
 have:=h;simp[Lit.wf,IntKind.min,IntKind.max,IntKind.signed,IntKind.bits]at this;exact⟨this.1,by omega⟩
def sB{H:Type}(d:DataW H):Prop:=∃n0 n1 n2 n3 n4 n5 n6 q,d= .agg (.lit (.int .i64 n0) :: .lit (.int .i64 n1) :: .lit (.int .i64 n2) :: .lit (.int .i64 n3) :: .lit (.int .i64 n4) :: .lit (.int .i64 n5) :: .lit (.int .i64 n6) :: q)
section
variable {H:Type} {enc:TypeId×Value->H} {W:World} {spare:Nat->Bool} {held:Bool}
theorem aFm{P:Program}{base:Nat}{t:TypeId}{f0 f1 f2 f3 f4 f5 f6 f7 f8:Field}{fuel:Nat}{cs:List Value}{x:DataW H×List MemPlace}(ht:P.underlying t=some (.struct #[f0,f1,f2,f3,f4,f5,f6,f7,f8]))(h:DataW.trod enc P W base spare held fuel t cs=some x) :
  ∃y0 y1 y2 y3 y4 y5 y6 y7 y8 n,x.1= .agg [y0.1,y1.1,y2.1,y3.1,y4.1,y5.1,y6.1,y7.1,y8.1]/\DataW.trod enc P W base spare held n f0.type ((cs.drop f0.offset).take (P.cellsOf f0.type))=some y0/\DataW.trod enc P W base spare held n f1.type ((cs.drop f1.offset).take (P.cellsOf f1.type))=some y1/\DataW.trod enc P W base spare held n f2.type ((cs.drop f2.offset).take (P.cellsOf f2.type))=some y2/\DataW.trod enc P W base spare held n f3.type ((cs.drop f3.offset).take (P.cellsOf f3.type))=some y3/\DataW.trod enc P W base spare held n f4.type ((cs.drop f4.offset).take (P.cellsOf f4.type))=some y4/\DataW.trod enc P W base spare held n f5.type ((cs.drop f5.offset).take (P.cellsOf f5.type))=some y5/\DataW.trod enc P W base spare held n f6.type ((cs.drop f6.offset).take (P.cellsOf f6.type))=some y6/\DataW.trod enc P W base spare held n f7.type ((cs.drop f7.offset).take (P.cellsOf f7.type))=some y7/\DataW.trod enc P W base spare held n f8.type ((cs.drop f8.offset).take (P.cellsOf f8.type))=some y8:=by
 obtain⟨xs,n,_,rfl,_,hlen,hf⟩:=DataW.trod_struct ht h;obtain⟨y0,y1,y2,y3,y4,y5,y6,y7,y8,rfl⟩:=aNf (show xs.length=9 from hlen);exact⟨y0,y1,y2,y3,y4,y5,y6,y7,y8,n,by simp,by simpa using hf 0 f0 rfl,by simpa using hf 1 f1 rfl,by simpa using hf 2 f2 rfl,by simpa using hf 3 f3 rfl,by simpa using hf 4 f4 rfl,by simpa using hf 5 f5 rfl,by simpa using hf 6 f6 rfl,by simpa using hf 7 f7 rfl,by simpa using hf 8 f8 rfl⟩
theorem aKp{fuel:Nat}{cs:List Value}{x:DataW H×List MemPlace}(h:DataW.trod enc prog W 0 spare held fuel 73 cs=some x)(hl:cs.length=13)(hw:∀n∈x.1.weights prog 73,n<=reachBytes) :
  sB x.1/\∃s:kN,uR s/\∃ka kc,cs=(cW s.k s.r s.W s.V s.i s.b s.c s.wk s.rm s.md (.slice ka s.ks.length kc) s.pk s.pa).toList/\bH (fun _=>True) W (.slice ka s.ks.length kc) s.ks:=by
 obtain⟨y0,y1,y2,y3,y4,y5,y6,y7,y8,n,hX,g0,g1,g2,g3,g4,g5,g6,g7,g8⟩:=aFm underlying73 h;obtain⟨v0,v1,v2,v3,v4,v5,v6,v7,v8,v9,v10,v11,v12,rfl⟩:=aNb hl;simp only[pS,aGb,aFd,List.drop_zero,List.drop_succ_cons,List.take_succ_cons,List.take_zero]at g0 g1 g2 g3 g4 g5 g6 g7 g8;obtain⟨z0,e0,d0,w0⟩:=DataW.trod_int underlying3 g0;obtain⟨z1,e1,d1,w1⟩:=DataW.trod_int underlying3 g1;obtain⟨z2,e2,d2,w2⟩:=DataW.trod_int underlying3 g2;obtain⟨z3,e3,d3,w3⟩:=DataW.trod_int underlying3 g3;obtain⟨z4,e4,d4,w4⟩:=DataW.trod_int underlying3 g4;obtain⟨z5,e5,d5,w5⟩:=DataW.trod_int underlying3 g5;obtain⟨z6,e6,d6,w6⟩:=DataW.trod_int underlying3 g6;obtain⟨c0,c1,c2,nc,_,_,k0,k1,k2⟩:=trod_struct3 underlying38 g7;obtain⟨p0,p1,p2,np,hp,_,q0,q1,q2⟩:=trod_struct3 underlying41 g8;simp only[pS,aIb,List.drop_zero,List.drop_succ_cons,List.take_succ_cons,List.take_zero]at k0 k1 k2 q0 q1 q2;obtain⟨z7,e7,_,_⟩:=DataW.trod_int underlying3 k0;obtain⟨z8,e8,_,_⟩:=DataW.trod_int underlying3 k1;obtain⟨z9,e9,_,_⟩:=DataW.trod_int underlying3 k2;obtain⟨z11,e11,_,_⟩:=DataW.trod_int underlying3 q1;obtain⟨z12,e12,_,_⟩:=DataW.trod_int underlying3 q2;have hwk:∀m∈p0.1.weights prog 39,m<=reachBytes:=fun m hm=>by
  refine hw m ?_;rw[hX];simp only[DataW.weights,underlying73];refine DataW.weights_mem_each (j:=8) (t:=41) (d:=y8.1) rfl rfl m ?_;rw[hp];simp only[DataW.weights,underlying41];exact List.mem_append_left _ hm
 obtain⟨ks,hks,hkl,hkl2⟩:=aEl q0 hwk;simp only[List.cons.injEq,and_true]at e0 e1 e2 e3 e4 e5 e6 e7 e8 e9 e11 e12;subst e0 e1 e2 e3 e4 e5 e6 e7 e8 e9 e11 e12;obtain⟨ka,kc,hk0,_⟩:=id hks;subst hk0;refine⟨⟨z0,z1,z2,z3,z4,z5,z6,_,by rw[hX,d0,d1,d2,d3,d4,d5,d6]⟩,⟨z0,z1,z2,z3,z4,z5,z6,z7,z8,z9,ks,z11,z12⟩,⟨oF w1,oF w2,oF w3,oF w4,oF w5,oF w6,hkl,hkl2⟩,ka,kc,rfl,hks⟩
theorem aDs{fuel:Nat}{v:Value}{x:DataW H×List MemPlace}(h:DataW.trod enc prog W 0 spare held fuel 22 [v]=some x)(hw:∀n∈x.1.weights prog 22,n<=reachBytes) :
  ∃a cap,∃l:List kN,v= .slice a l.length cap/\lZ W a l/\(l.length=0\/∃el sp,x.1= .slice el sp/\el.length=l.length/\∀d∈el,sB d):=by
 rcases open_slice underlying22 h with⟨h0,-⟩|⟨a,len,cap,m,n,D,Pl,h0,-,hlc,hcm,hm,rfl,hx⟩
 ·simp only[List.cons.injEq,and_true]at h0
  exact⟨none,0,[],h0,fun j c hj=>by simp at hj,.inl rfl⟩
 ·simp only[List.cons.injEq,and_true]at h0
  have hlm:len<=m:=by rw[hm];split<;>omega
  have each:∀i,i < len->∃s:kN,sB (D i)/\uR s/\∃ka kc,(∀t u,(cW s.k s.r s.W s.V s.i s.b s.c s.wk s.rm s.md (.slice ka s.ks.length kc) s.pk s.pa)[t]?= some u->W.cell? (a.add (i*13+t))=some u)/\bH (fun _=>True) W (.slice ka s.ks.length kc) s.ks:=by
   intro i hi;obtain⟨cs',h1,h2⟩:=hx i (by omega);rw[aMc]at h1;obtain⟨_,hl,hcell⟩:=World.cells?_some h1;have hDi:D i∈(List.range len).map D:=List.mem_map.2 ⟨i,List.mem_range.2 hi,rfl⟩;obtain⟨hag,s,hs,ka,kc,hcs,hks⟩:=aKp h2 hl (fun m hm=>hw m (by
    simp only[DataW.weights,underlying22];exact List.mem_cons_of_mem _ (List.mem_append_left _ (wZ hDi _ hm))))
   refine⟨s,hag,hs,ka,kc,fun t u ht=> ?_,hks⟩;have htl:t < 13:=by
    have:=(h_.1 ht).1;simpa using this
   have e:=hcell t (by omega);rw[add_add]at e;rw[e,hcs,Array.getElem?_toList];exact ht
  have hin:Inhabited kN:=⟨⟨0,0,0,0,0,0,0,0,0,0,[],0,0⟩⟩;obtain⟨K,hK⟩:=choose_lt each;refine⟨some a,cap,(List.range len).map K,by rw[h0];simp,fun j c hj=> ?_,.inr ⟨_,_,rfl,by simp,fun d hd=> ?_⟩⟩
  ·have hjl:j < len:=by simpa using (c_.1 hj).1
   simp[hjl]at hj;subst hj;obtain⟨_,hfit,ka,kc,hc,hks⟩:=hK j hjl;obtain⟨_,_,ka0,kc0,hc0,_⟩:=hK 0 (by omega);have a0:=hc0 0 _ rfl;rw[Nat.zero_mul,Nat.add_zero]at a0;obtain⟨b,o,ha,hb,_⟩:=oK a0 a0;subst ha;refine⟨hfit,b,o,rfl,hb,ka,kc,fun t u ht=> ?_,hks⟩;have:=hc t u ht;rw[Addr.add_lit]at this;rw[Nat.add_assoc];exact this
  ·obtain⟨i,hi,rfl⟩:=List.mem_map.1 hd
   exact(hK i (List.mem_range.1 hi)).1
end
theorem works_calls(a:Option Addr)(cap:Nat)(l:List kN)(w:World)(hs:lZ w a l)(hl:l.length<=170000) :
  Calls prog 3 #[.slice a l.length cap] w fun e w'=>e= .returned (.bool true)/\Below w.heap.size w w':=by
 have HH:=aC (qP 3 (.inl rfl) a cap l w hs hl);clear hs;go_enter func3,ntmps3
 go_wp2_with (go_at_call 12;refine HH.out.mono ?_;rintro e w1 ⟨rfl,hb1⟩)
 go_ret;exact⟨rfl,hb1⟩
theorem steals_calls(a:Option Addr)(cap:Nat)(l:List kN)(w:World)(hs:lZ w a l)(hl:l.length<=170000) :
  Calls prog 4 #[.slice a l.length cap] w fun e w'=>e= .returned (.bool true)/\Below w.heap.size w w':=by
 have HH:=aC (qP 8 (.inr (.inl rfl)) a cap l w hs hl);clear hs;go_enter func4,ntmps4
 go_wp2_with (go_at_call 12;refine HH.out.mono ?_;rintro e w1 ⟨rfl,hb1⟩)
 go_ret;exact⟨rfl,hb1⟩
theorem delivers_calls(a:Option Addr)(cap:Nat)(l:List kN)(w:World)(hs:lZ w a l)(hl:l.length<=170000) :
  Calls prog 5 #[.slice a l.length cap] w fun e w'=>e= .returned (.bool true)/\Below w.heap.size w w':=by
 have HH:=aC (qP 9 (.inr (.inr (.inl rfl))) a cap l w hs hl);clear hs;go_enter func5,ntmps5
 go_wp2_with (go_at_call 12;refine HH.out.mono ?_;rintro e w1 ⟨rfl,hb1⟩)
 go_ret;exact⟨rfl,hb1⟩
theorem allLaw_calls(a:Option Addr)(cap:Nat)(l:List kN)(w:World)(hs:lZ w a l)(hl:l.length<=170000) :
  Calls prog 6 #[.slice a l.length cap] w fun e w'=>e= .returned (.bool true)/\Below w.heap.size w w':=by
 have HH:=aC (qP 12 (.inr (.inr (.inr rfl))) a cap l w hs hl);clear hs;go_enter func6,ntmps6
 go_wp2_with (go_at_call 12;refine HH.out.mono ?_;rintro e w1 ⟨rfl,hb1⟩)
 go_ret;exact⟨rfl,hb1⟩
end Go.Proofs.YtfanaanofjhlkaaGreatDoor
