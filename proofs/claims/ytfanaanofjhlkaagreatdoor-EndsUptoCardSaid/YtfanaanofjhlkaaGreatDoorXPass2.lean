import Derived.Test.YtfanaanofjhlkaaGreatDoorProg
import Derived.Test.YtfanaanofjhlkaaGreatDoorTasks
import Derived.Deep.Slices
import Derived.Deep.SlicePairs
import Derived.Deep.Strs
import Derived.Lib.SmallJoins
import Derived.SizedLaws
import Derived.Test.YtfanaanofjhlkaaGreatDoorRows
import Derived.Test.YtfanaanofjhlkaaGreatDoorKeepSafe
import Derived.Test.YtfanaanofjhlkaaGreatDoorXMsgs
import Derived.Test.YtfanaanofjhlkaaGreatDoorXTwice
import Derived.Test.YtfanaanofjhlkaaGreatDoorXThing
import Derived.Test.YtfanaanofjhlkaaGreatDoorXToken
import Derived.Test.YtfanaanofjhlkaaGreatDoorXCome
import Derived.Test.YtfanaanofjhlkaaGreatDoorRefPass
namespace Go.Proofs.YtfanaanofjhlkaaGreatDoor
open Go Go.RowKit Go.Deep Go.ChangeShapes Go.WideShapes
theorem cellsI:Tryz.prog.cellsOf 3=1:=by kernel_rfl
theorem addr_plain{W:World}{a:Addr}{i:Nat}{u v:Value}(h0:W.cell? (a.add 0)=some u)(h:W.cell? (a.add i)=some v):∃b o,a=⟨b,o,none⟩/\b < W.heap.size/\W.cell? ⟨b,o+i,none⟩=some v:=by
 obtain⟨b,o,spot⟩:=a
 have h1:spot=none:=by simpa[Addr.add]using World.cell?_spot h0
 subst h1
 have h2:=World.block_lt_of_cell? W _ h0
 rw[Addr.add_lit]at h h2
 exact⟨b,o,rfl,h2,h⟩
section
variable {H:Type} {enc:TypeId×Value->H} {W:World} {spare:Nat->Bool} {held:Bool}
end
theorem cellsMove:Tryz.prog.cellsOf 33=4:=by kernel_rfl
theorem cellsCase:Tryz.prog.cellsOf 27=6:=by kernel_rfl
theorem cellsInts:Tryz.prog.cellsOf 25=1:=by kernel_rfl
theorem i64_wf{z:Int}(h:(Lit.int .i64 z).wf=true): -9223372036854775808<=z/\z<=9223372036854775807:=by
 have:=h
 simp[Lit.wf,IntKind.min,IntKind.max,IntKind.signed,IntKind.bits]at this
 exact⟨this.1,by omega⟩
theorem list4{l:List Value}(h:l.length=4):∃v0 v1 v2 v3,l=[v0,v1,v2,v3]:=by
 match l,h with
 |[v0,v1,v2,v3],_=>exact⟨v0,v1,v2,v3,rfl⟩
theorem list6{α:Type}{l:List α}(h:l.length=6):∃v0 v1 v2 v3 v4 v5,l=[v0,v1,v2,v3,v4,v5]:=by
 match l,h with
 |[v0,v1,v2,v3,v4,v5],_=>exact⟨v0,v1,v2,v3,v4,v5,rfl⟩
def MoveAgg{H:Type}(d:DataW H):Prop:=∃n0 n1 n2 n3,d= .agg [.lit (.int .i64 n0),.lit (.int .i64 n1),.lit (.int .i64 n2),.lit (.int .i64 n3)]
section
variable {H:Type} {enc:TypeId×Value->H} {W:World}
theorem trod_struct6{P:Program}{base:Nat}{spare:Nat->Bool}{held:Bool}{t:TypeId}{f0 f1 f2 f3 f4 f5:Field}{fuel:Nat}{cs:List Value}{x:DataW H×List MemPlace}(ht:P.underlying t=some (.struct #[f0,f1,f2,f3,f4,f5]))(h:DataW.trod enc P W base spare held fuel t cs=some x) :
  ∃y0 y1 y2 y3 y4 y5 n,x=(.agg [y0.1,y1.1,y2.1,y3.1,y4.1,y5.1],y0.2++(y1.2++(y2.2++(y3.2++(y4.2++y5.2)))))/\DataW.trod enc P W base spare held n f0.type ((cs.drop f0.offset).take (P.cellsOf f0.type))=some y0/\DataW.trod enc P W base spare held n f1.type ((cs.drop f1.offset).take (P.cellsOf f1.type))=some y1/\DataW.trod enc P W base spare held n f2.type ((cs.drop f2.offset).take (P.cellsOf f2.type))=some y2/\DataW.trod enc P W base spare held n f3.type ((cs.drop f3.offset).take (P.cellsOf f3.type))=some y3/\DataW.trod enc P W base spare held n f4.type ((cs.drop f4.offset).take (P.cellsOf f4.type))=some y4/\DataW.trod enc P W base spare held n f5.type ((cs.drop f5.offset).take (P.cellsOf f5.type))=some y5:=by
 obtain⟨xs,n,_,rfl,_,hlen,hf⟩:=DataW.trod_struct ht h
 obtain⟨y0,y1,y2,y3,y4,y5,rfl⟩:=list6 (show xs.length=6 from hlen)
 exact⟨y0,y1,y2,y3,y4,y5,n,by simp,by simpa using hf 0 f0 rfl,by simpa using hf 1 f1 rfl,by simpa using hf 2 f2 rfl,by simpa using hf 3 f3 rfl,by simpa using hf 4 f4 rfl,by simpa using hf 5 f5 rfl⟩
theorem move_opened{spare:Nat->Bool}{held:Bool}{fuel:Nat}{cs:List Value}{x:DataW H×List MemPlace}(h:DataW.trod enc Tryz.prog W 0 spare held fuel 33 cs=some x)(hl:cs.length=4) :
  MoveAgg x.1/\∃m:MoveS,MoveFits m/\cs=(moveV m).toList:=by
 obtain⟨y0,y1,y2,y3,n,hX,_,g0,g1,g2,g3⟩:=Go.Joins.trod_struct4 Tryz.underlying33 h
 obtain⟨v0,v1,v2,v3,rfl⟩:=list4 hl
 simp only[cellsI,List.drop_zero,List.drop_succ_cons,List.take_succ_cons,List.take_zero]at g0 g1 g2 g3
 obtain⟨z0,e0,d0,w0⟩:=DataW.trod_int Tryz.underlying3 g0
 obtain⟨z1,e1,d1,w1⟩:=DataW.trod_int Tryz.underlying3 g1
 obtain⟨z2,e2,d2,w2⟩:=DataW.trod_int Tryz.underlying3 g2
 obtain⟨z3,e3,d3,w3⟩:=DataW.trod_int Tryz.underlying3 g3
 simp only[List.cons.injEq,and_true]at e0 e1 e2 e3
 subst e0 e1 e2 e3
 exact⟨⟨z0,z1,z2,z3,by rw[hX,d0,d1,d2,d3]⟩,⟨z0,z1,z2,z3⟩,⟨i64_wf w0,i64_wf w1,i64_wf w2,i64_wf w3⟩,rfl⟩
theorem moves_opened{spare:Nat->Bool}{held:Bool}{fuel:Nat}{v:Value}{x:DataW H×List MemPlace}(h:DataW.trod enc Tryz.prog W 0 spare held fuel 28 [v]=some x) :
  ∃a cap,∃l:List MoveS,v= .slice a l.length cap/\MovesAt W a l/\(l.length=0\/∃el sp,x.1= .slice el sp/\el.length=l.length/\∀d∈el,MoveAgg d):=by
 rcases open_slice Tryz.underlying28 h with⟨h0,-⟩|⟨a,len,cap,m,n,D,Pl,h0,-,hlc,hcm,hm,rfl,hx⟩
 ·simp only[List.cons.injEq,and_true]at h0
  exact⟨none,0,[],h0,fun j c hj=>by simp at hj,.inl rfl⟩
 ·simp only[List.cons.injEq,and_true]at h0
  have hlm:len<=m:=by rw[hm];split<;>omega
  have each:∀i,i < len->∃s:MoveS,MoveAgg (D i)/\MoveFits s/\∀t u,(moveV s)[t]?= some u->W.cell? (a.add (i*4+t))=some u:=by
   intro i hi
   obtain⟨cs',h1,h2⟩:=hx i (by omega)
   rw[cellsMove]at h1
   obtain⟨_,hl,hcell⟩:=World.cells?_some h1
   obtain⟨hag,s,hs,hcs⟩:=move_opened h2 hl
   refine⟨s,hag,hs,fun t u ht=> ?_⟩
   have htl:t < 4:=by
    have:=(Array.getElem?_eq_some_iff.1 ht).1
    simpa[moveV]using this
   have e:=hcell t (by omega)
   rw[add_add]at e
   rw[e,hcs,Array.getElem?_toList]
   exact ht
  have hin:Inhabited MoveS:=⟨⟨0,0,0,0⟩⟩
  obtain⟨K,hK⟩:=choose_lt each
  refine⟨some a,cap,(List.range len).map K,by rw[h0];simp,fun j c hj=> ?_,.inr ⟨_,_,rfl,by simp,fun d hd=> ?_⟩⟩
  ·have hjl:j < len:=by simpa using (List.getElem?_eq_some_iff.1 hj).1
   simp[hjl]at hj
   subst hj
   obtain⟨_,hfit,hc⟩:=hK j hjl
   obtain⟨_,_,hc0⟩:=hK 0 (by omega)
   have a0:=hc0 0 _ rfl
   rw[Nat.zero_mul,Nat.add_zero]at a0
   obtain⟨b,o,ha,hb,_⟩:=addr_plain a0 a0
   subst ha
   refine⟨hfit,b,o,rfl,hb,fun t u ht=> ?_⟩
   have:=hc t u ht
   rw[Addr.add_lit]at this
   rw[Nat.add_assoc]
   exact this
  ·obtain⟨i,hi,rfl⟩:=List.mem_map.1 hd
   exact(hK i (List.mem_range.1 hi)).1
theorem raw_opened{fuel:Nat}{v:Value}{x:DataW H×List MemPlace}(h:DataW.trod enc Tryz.prog W 0 (fun _=>true) true fuel 25 [v]=some x)(hlt:∀y∈x.2,y.block < W.heap.size) :
  ∃a len cap,v= .slice a len cap/\RawAt W a len/\(len=0\/∃el sp,x.1= .slice el sp/\el.length=len/\∀d∈el,∃z,d= .lit (.int .i64 z)):=by
 rcases open_ints Tryz.underlying25 Tryz.underlying3 cellsI h with⟨hcs,hx⟩|⟨a,len',cap',zs,hcs,_,hl,hm,hz,hx,hcell,hwz⟩
 ·simp only[List.cons.injEq,and_true]at hcs
  exact⟨none,0,0,hcs,fun j hj=>absurd hj (Nat.not_lt_zero _),.inl rfl⟩
 ·simp only[List.cons.injEq,and_true]at hcs
  simp only[if_true]at hz
  refine⟨some a,len',cap',hcs,fun j hj=> ?_,.inr ⟨_,_,by rw[hx],?_,?_⟩⟩
  ·obtain⟨b,off,spot⟩:=a
   have hspot:spot=none:=by simpa[Addr.add]using World.cell?_spot (hcell 0 (by omega))
   subst hspot
   have hc:=hcell j (by omega)
   have hb:b < W.heap.size:=hlt (.cell b off) (by rw[hx];exact MemPlace.mem_row.2 ⟨0,by omega,by simp⟩)
   have hw:=hwz _ (List.getElem_mem (l:=zs) (n:=j) (by omega))
   refine⟨b,off,zs.getD j 0,rfl,hb,?_,?_⟩
   ·rw[<-hc]
    congr 1
    unfold Addr.add
    split<;>simp_all
   ·rw[List.getD_eq_getElem?_getD,List.getElem?_eq_getElem (by omega)]
    exact i64_wf hw
  ·simp[lits]
   omega
  ·intro d hd
   simp only[lits,List.mem_map]at hd
   obtain⟨z,_,e⟩:=hd
   exact⟨z,e.symm⟩
set_option maxRecDepth 100000 in
theorem case_opened{r:Reach}{b0:Nat}{v:Value}{d:DataW H}{p:List MemPlace}(hv:Value.okWide Tryz.prog W r b0 27 v)(h:DataW.Trod enc Tryz.prog W 0 (fun _=>true) true 27 v d p)(hlt:∀y∈p,y.block < W.heap.size) :
  ∃wk rm md kind arg a len cap,v= .agg (caseV wk rm md a len cap kind arg)/\isI64 wk/\isI64 rm/\isI64 md/\isI64 kind/\isI64 arg/\RawAt W a len/\(len=0\/∃e0 e1 e2 e4 e5 el sp,d= .agg [e0,e1,e2,.slice el sp,e4,e5]/\el.length=len/\∀d∈el,∃z,d= .lit (.int .i64 z)):=by
 obtain⟨cs,rfl,hsz⟩:=okWide_struct Tryz.underlying27 hv
 obtain⟨fuel,hf⟩:=h
 obtain⟨y0,y1,y2,y3,y4,y5,n,hX,g0,g1,g2,g3,g4,g5⟩:=trod_struct6 Tryz.underlying27 hf
 rw[cellsCase]at hsz
 obtain⟨v0,v1,v2,v3,v4,v5,hl⟩:=list6 (show cs.toList.length=6 by simpa using hsz)
 have hcs:(Value.agg cs).cells.toList=[v0,v1,v2,v3,v4,v5]:=by rw[<-hl];rfl
 simp only[hcs,cellsI,cellsInts,List.drop_zero,List.drop_succ_cons,List.take_succ_cons,List.take_zero]at g0 g1 g2 g3 g4 g5
 obtain⟨z0,e0,d0,w0⟩:=DataW.trod_int Tryz.underlying3 g0
 obtain⟨z1,e1,d1,w1⟩:=DataW.trod_int Tryz.underlying3 g1
 obtain⟨z2,e2,d2,w2⟩:=DataW.trod_int Tryz.underlying3 g2
 obtain⟨z4,e4,d4,w4⟩:=DataW.trod_int Tryz.underlying3 g4
 obtain⟨z5,e5,d5,w5⟩:=DataW.trod_int Tryz.underlying3 g5
 simp only[Prod.mk.injEq]at hX
 obtain⟨hd,hp⟩:=hX
 obtain⟨a,len,cap,e3,hraw,hel⟩:=raw_opened g3 (fun y hy=>hlt y (by rw[hp];simp[hy]))
 simp only[List.cons.injEq,and_true]at e0 e1 e2 e4 e5
 subst e0 e1 e2 e3 e4 e5
 refine⟨z0,z1,z2,z4,z5,a,len,cap,?_,i64_wf w0,i64_wf w1,i64_wf w2,i64_wf w4,i64_wf w5,hraw,?_⟩
 ·have:cs=(caseV z0 z1 z2 a len cap z4 z5):=by
   apply Array.ext'
   rw[hl]
   rfl
  rw[this]
 ·rcases hel with h0|⟨el,sp,h1,h2,h3⟩
  ·exact .inl h0
  ·exact .inr ⟨_,_,_,_,_,el,sp,by rw[hd,h1],h2,h3⟩
end
theorem bulk_moves{H:Type}:∀(l:List (DataW H)),(∀d∈l,MoveAgg d)->5*l.length<=Rows.uptoBulkAll l
 |[],_=>by simp
 |d :: r,h=>by
  have ih:=bulk_moves r (fun x hx=>h x (List.mem_cons_of_mem _ hx))
  obtain⟨n0,n1,n2,n3,rfl⟩:=h d (List.mem_cons_self ..)
  simp only[Rows.uptoBulkAll,Rows.uptoBulk,List.length_cons]
  omega
theorem bulk_ints{H:Type}:∀(l:List (DataW H)),(∀d∈l,∃z,d= .lit (.int .i64 z))->l.length<=Rows.uptoBulkAll l
 |[],_=>by simp
 |d :: r,h=>by
  have ih:=bulk_ints r (fun x hx=>h x (List.mem_cons_of_mem _ hx))
  obtain⟨z,rfl⟩:=h d (List.mem_cons_self ..)
  simp only[Rows.uptoBulkAll,Rows.uptoBulk,List.length_cons]
  omega
end Go.Proofs.YtfanaanofjhlkaaGreatDoor
namespace Go.Proofs.YtfanaanofjhlkaaGreatDoor
open Go Go.RowKit
theorem isMessage_calls(rp:Option Addr)(i:Int)(w:World):Calls Tryz.prog 90 #[.pointer rp,.int .i64 i] w fun e w'=>e= .returned (.func (.func 154) #[] #[.pointer (some ⟨w.heap.size,0,none⟩),.pointer (some ⟨w.heap.size+1,0,none⟩)])/\w'=held2 w rp i:=by
 go_enter Tryz.func90,Tryz.ntmps90
 go_wp2_with fail
 go_ret
 exact⟨rfl,rfl⟩
theorem dropMk_calls(rp:Option Addr)(i:Int)(w:World):Calls Tryz.prog 123 #[.pointer rp,.int .i64 i] w fun e w'=>e= .returned (.func (.func 178) #[] #[.pointer (some ⟨w.heap.size,0,none⟩),.pointer (some ⟨w.heap.size+1,0,none⟩)])/\w'=held2 w rp i:=by
 go_enter Tryz.func123,Tryz.ntmps123
 go_wp2_with fail
 go_ret
 exact⟨rfl,rfl⟩
theorem double_calls(rp:Option Addr)(i:Int)(w:World):Calls Tryz.prog 124 #[.pointer rp,.int .i64 i] w fun e w'=>e= .returned (.func (.func 179) #[] #[.pointer (some ⟨w.heap.size,0,none⟩),.pointer (some ⟨w.heap.size+1,0,none⟩)])/\w'=held2 w rp i:=by
 go_enter Tryz.func124,Tryz.ntmps124
 go_wp2_with fail
 go_ret
 exact⟨rfl,rfl⟩
theorem sendAgain_calls(rp:Option Addr)(i:Int)(w:World):Calls Tryz.prog 89 #[.pointer rp,.int .i64 i] w fun e w'=>e= .returned (.func (.func 151) #[] #[.pointer (some ⟨w.heap.size,0,none⟩),.pointer (some ⟨w.heap.size+1,0,none⟩)])/\w'=held2 w rp i:=by
 go_enter Tryz.func89,Tryz.ntmps89
 go_wp2_with fail
 go_ret
 exact⟨rfl,rfl⟩
abbrev stepH(f:Nat)(W:World):StepV:=(f,#[],#[.pointer (some ⟨W.heap.size,0,none⟩),.pointer (some ⟨W.heap.size+1,0,none⟩)])
abbrev stepW(f:Nat)(W:World):StepV:=(f,#[],#[.pointer (some ⟨W.heap.size+1,0,none⟩),.pointer (some ⟨W.heap.size,0,none⟩)])
set_option maxHeartbeats 2000000 in
set_option maxRecDepth 100000 in
theorem drop_opens(rp:Option Addr)(i:Int)(w:World)(R:Ending->World->Prop)
  (h:∀W1 W2 W3,held2 w rp i=W1->held2 W1 rp i=W2->W2.alloc (Obj.cells (([stepH 154 w]++ [stepH 178 W1]).map stepVal).toArray 94)=W3->Calls Tryz.prog 42 #[.pointer rp,.slice (some ⟨W2.heap.size,0,none⟩) 2 2] W3 fun e w'=>(∃r,e= .returned (.int .i64 r))/\R e w') :
  Calls Tryz.prog 58 #[.pointer rp,.int .i64 i] w R:=by
 obtain⟨W1,h1⟩:∃W1,held2 w rp i=W1:=⟨_,rfl⟩
 obtain⟨W2,h2⟩:∃W2,held2 W1 rp i=W2:=⟨_,rfl⟩
 obtain⟨W3,h3⟩:∃W3,W2.alloc (Obj.cells (([stepH 154 w]++ [stepH 178 W1]).map stepVal).toArray 94)=W3:=⟨_,rfl⟩
 have HC:=hid_of (h W1 W2 W3 h1 h2 h3)
 have H1:=hid_of h1
 have H2:=hid_of h2
 have H3:=hid_of h3
 clear h h1 h2 h3
 go_enter Tryz.func58,Tryz.ntmps58
 go_wp2_with (first
  |(go_at_call 90;refine(isMessage_calls rp i w).mono ?_;rintro e a1 ⟨rfl,hq⟩;obtain rfl:W1=a1:=H1.out.symm.trans hq.symm;clear hq)
  |(go_at_call 123;refine(dropMk_calls rp i W1).mono ?_;rintro e a1 ⟨rfl,hq⟩;obtain rfl:W2=a1:=H2.out.symm.trans hq.symm;clear hq)
  |(go_at_call 42;refine Calls.at_world H3.out ?_;refine HC.out.mono ?_;rintro e a7 ⟨⟨r,rfl⟩,hr⟩))
 exact hr
set_option maxHeartbeats 2000000 in
set_option maxRecDepth 100000 in
theorem twice_opens(rp:Option Addr)(i:Int)(w:World)(R:Ending->World->Prop)
  (h:∀W1 W2 W3,held2 w rp i=W1->held2 W1 rp i=W2->W2.alloc (Obj.cells (([stepH 154 w]++ [stepH 179 W1]).map stepVal).toArray 94)=W3->Calls Tryz.prog 42 #[.pointer rp,.slice (some ⟨W2.heap.size,0,none⟩) 2 2] W3 fun e w'=>(∃r,e= .returned (.int .i64 r))/\R e w') :
  Calls Tryz.prog 59 #[.pointer rp,.int .i64 i] w R:=by
 obtain⟨W1,h1⟩:∃W1,held2 w rp i=W1:=⟨_,rfl⟩
 obtain⟨W2,h2⟩:∃W2,held2 W1 rp i=W2:=⟨_,rfl⟩
 obtain⟨W3,h3⟩:∃W3,W2.alloc (Obj.cells (([stepH 154 w]++ [stepH 179 W1]).map stepVal).toArray 94)=W3:=⟨_,rfl⟩
 have HC:=hid_of (h W1 W2 W3 h1 h2 h3)
 have H1:=hid_of h1
 have H2:=hid_of h2
 have H3:=hid_of h3
 clear h h1 h2 h3
 go_enter Tryz.func59,Tryz.ntmps59
 go_wp2_with (first
  |(go_at_call 90;refine(isMessage_calls rp i w).mono ?_;rintro e a1 ⟨rfl,hq⟩;obtain rfl:W1=a1:=H1.out.symm.trans hq.symm;clear hq)
  |(go_at_call 124;refine(double_calls rp i W1).mono ?_;rintro e a1 ⟨rfl,hq⟩;obtain rfl:W2=a1:=H2.out.symm.trans hq.symm;clear hq)
  |(go_at_call 42;refine Calls.at_world H3.out ?_;refine HC.out.mono ?_;rintro e a7 ⟨⟨r,rfl⟩,hr⟩))
 exact hr
set_option maxHeartbeats 2000000 in
set_option maxRecDepth 100000 in
theorem tick_opens(rp:Option Addr)(i:Int)(w:World)(R:Ending->World->Prop)
  (h:∀W1 W2 W3,held2 w rp i=W1->held2 W1 rp i=W2->W2.alloc (Obj.cells (([stepW 110 w]++ [stepH 151 W1]).map stepVal).toArray 94)=W3->Calls Tryz.prog 42 #[.pointer rp,.slice (some ⟨W2.heap.size,0,none⟩) 2 2] W3 fun e w'=>(∃r,e= .returned (.int .i64 r))/\R e w') :
  Calls Tryz.prog 40 #[.pointer rp,.int .i64 i] w R:=by
 obtain⟨W1,h1⟩:∃W1,held2 w rp i=W1:=⟨_,rfl⟩
 obtain⟨W2,h2⟩:∃W2,held2 W1 rp i=W2:=⟨_,rfl⟩
 obtain⟨W3,h3⟩:∃W3,W2.alloc (Obj.cells (([stepW 110 w]++ [stepH 151 W1]).map stepVal).toArray 94)=W3:=⟨_,rfl⟩
 have HC:=hid_of (h W1 W2 W3 h1 h2 h3)
 have H1:=hid_of h1
 have H2:=hid_of h2
 have H3:=hid_of h3
 clear h h1 h2 h3
 go_enter Tryz.func40,Tryz.ntmps40
 go_wp2_with (first
  |(go_at_call 51;refine(isWorker_calls rp i w).mono ?_;rintro e a1 ⟨rfl,hq⟩;obtain rfl:W1=a1:=H1.out.symm.trans hq.symm;clear hq)
  |(go_at_call 89;refine(sendAgain_calls rp i W1).mono ?_;rintro e a1 ⟨rfl,hq⟩;obtain rfl:W2=a1:=H2.out.symm.trans hq.symm;clear hq)
  |(go_at_call 42;refine Calls.at_world H3.out ?_;refine HC.out.mono ?_;rintro e a7 ⟨⟨r,rfl⟩,hr⟩))
 exact hr
theorem messageE_run{s:RunS}(hd:s.done=false)(ho:s.over=false)(t:Int):messageE s t=if t < 0\/(s.way.length:Int)<=t then 10 else 0:=by
 have:startE s=0:=by simp[startE,hd,ho]
 unfold messageE
 rw[this]
 by_cases h:t < 0\/(s.way.length:Int)<=t
 ·rw[if_pos ⟨rfl,h⟩,if_pos h]
 ·rw[if_neg (fun h'=>h h'.2),if_neg h]
theorem messageE_halt{s:RunS}(h:startE s≠0)(t:Int):messageE s t=startE s:=if_neg (fun h'=>h h'.1)
theorem x_drop_calls(F:Nat->Prop)(B:Nat)(s:RunS)(i:Int)(w:World)(hx:XOK F w B s)(hs:Shaped s) :
  Calls Tryz.prog 58 #[.pointer (some ⟨B,0,none⟩),.int .i64 i] w (XGives F w B (dropS s i)):=by
 refine drop_opens (some ⟨B,0,none⟩) i w _ (fun W1 W2 W3 h1 h2 h3=> ?_)
 have g1:=held2_below w (some ⟨B,0,none⟩) i
 have g2:=held2_below W1 (some ⟨B,0,none⟩) i
 have a1:=held2_at w B i
 have a2:=held2_at W1 B i
 rw[h1]at g1 a1
 rw[h2]at g2 a2
 have g3:Below W2.heap.size W2 W3:=by rw[<-h3];exact(Below.refl _ _).alloc (Nat.le_refl _) _
 have bL:BoxAt W3 W2.heap.size 94 (([stepH 154 w]++ [stepH 178 W1]).map stepVal).toArray:=by rw[<-h3];exact BoxAt.new W2 _ _
 have z1:=g1.size
 have z2:=g2.size
 have k2:Below W1.heap.size W1 W3:=g2.trans (g3.mono z2)
 have hb:Below w.heap.size w W3:=g1.trans (k2.mono z1)
 have c1:=a1.below k2
 have c2:=a2.below g3
 clear a1 a2 h1 h2 h3 g1 g2 k2
 have hlow:=hx.low
 refine(change_tests F B W2.heap.size s W3 (hx.later hb) [stepH 154 w] [if i < 0\/(s.way.length:Int)<=i then 10 else 0] (stepH 178 W1) (dropS s i) w hb hx (by simp) (by simp) 94 bL ?over ?enter ?test ?bad ?last).mono (fun e w' h=>⟨⟨_,h.1⟩,h⟩)
 case over=>
  intro ho
  simp[dropS,messageE_halt ho,ho]
 case enter=>
  intro f hf' args W
  simp at hf'
  rcases hf' with rfl|rfl
  ·exact enters_of Tryz.func154 (by kernel_rfl) rfl args W
  ·exact enters_of Tryz.func178 (by kernel_rfl) rfl args W
 case test=>
  intro hd ho j f e hj he hp W hW
  match j,hj,he with
  |0,hj,he=>cases hj;cases he;exact isMessage1_calls F B _ _ s i W ((hx.later hb).later hW) (c1.below hW)
  |(n+1),hj,he=>simp at hj
 case bad=>
  intro hd ho j e he hne hp
  have wi:=messageE_run hd ho i
  match j,he with
  |0,he=>cases he;simp only[dropS,wi,if_pos hne]
  |(n+1),he=>simp at he
 case last=>
  intro hd ho hp W hW
  have p0:=hp 0 _ (by simp) rfl
  have wi:=messageE_run hd ho i
  rw[p0]at wi
  obtain⟨q0,q1⟩:=messageE_in wi
  obtain⟨k,rfl⟩:=Int.eq_ofNat_of_zero_le q0
  obtain⟨m,hm⟩:∃m,s.way[k]?= some m:=⟨_,List.getElem?_eq_getElem (by omega)⟩
  have hres:dropS s (k:Int)=({s with way:=s.way.take k++s.way.drop (k+1)},0):=by simp[dropS,wi]
  rw[hres]
  have hbW:Below w.heap.size w W:=hb.trans (hW.mono hb.size)
  exact drop1_calls _ B _ _ k m s W (hlow.later hbW) hm (by have:=hs.way;omega) (c2.below hW)
theorem x_twice_calls(F:Nat->Prop)(B:Nat)(s:RunS)(i:Int)(w:World)(hx:XOK F w B s)(hs:Shaped s) :
  Calls Tryz.prog 59 #[.pointer (some ⟨B,0,none⟩),.int .i64 i] w (XGives F w B (twiceS s i)):=by
 refine twice_opens (some ⟨B,0,none⟩) i w _ (fun W1 W2 W3 h1 h2 h3=> ?_)
 have g1:=held2_below w (some ⟨B,0,none⟩) i
 have g2:=held2_below W1 (some ⟨B,0,none⟩) i
 have a1:=held2_at w B i
 have a2:=held2_at W1 B i
 rw[h1]at g1 a1
 rw[h2]at g2 a2
 have g3:Below W2.heap.size W2 W3:=by rw[<-h3];exact(Below.refl _ _).alloc (Nat.le_refl _) _
 have bL:BoxAt W3 W2.heap.size 94 (([stepH 154 w]++ [stepH 179 W1]).map stepVal).toArray:=by rw[<-h3];exact BoxAt.new W2 _ _
 have z1:=g1.size
 have z2:=g2.size
 have k2:Below W1.heap.size W1 W3:=g2.trans (g3.mono z2)
 have hb:Below w.heap.size w W3:=g1.trans (k2.mono z1)
 have c1:=a1.below k2
 have c2:=a2.below g3
 clear a1 a2 h1 h2 h3 g1 g2 k2
 have hlow:=hx.low
 refine(change_tests F B W2.heap.size s W3 (hx.later hb) [stepH 154 w] [if i < 0\/(s.way.length:Int)<=i then 10 else 0] (stepH 179 W1) (twiceS s i) w hb hx (by simp) (by simp) 94 bL ?over ?enter ?test ?bad ?last).mono (fun e w' h=>⟨⟨_,h.1⟩,h⟩)
 case over=>
  intro ho
  simp[twiceS,messageE_halt ho,ho]
 case enter=>
  intro f hf' args W
  simp at hf'
  rcases hf' with rfl|rfl
  ·exact enters_of Tryz.func154 (by kernel_rfl) rfl args W
  ·exact enters_of Tryz.func179 (by kernel_rfl) rfl args W
 case test=>
  intro hd ho j f e hj he hp W hW
  match j,hj,he with
  |0,hj,he=>cases hj;cases he;exact isMessage1_calls F B _ _ s i W ((hx.later hb).later hW) (c1.below hW)
  |(n+1),hj,he=>simp at hj
 case bad=>
  intro hd ho j e he hne hp
  have wi:=messageE_run hd ho i
  match j,he with
  |0,he=>cases he;simp only[twiceS,wi,if_pos hne]
  |(n+1),he=>simp at he
 case last=>
  intro hd ho hp W hW
  have p0:=hp 0 _ (by simp) rfl
  have wi:=messageE_run hd ho i
  rw[p0]at wi
  obtain⟨q0,q1⟩:=messageE_in wi
  obtain⟨k,rfl⟩:=Int.eq_ofNat_of_zero_le q0
  obtain⟨m,hm⟩:∃m,s.way[k]?= some m:=⟨_,List.getElem?_eq_getElem (by omega)⟩
  have hres:twiceS s (k:Int)=(wayS s m,0):=by simp[twiceS,wi,hm]
  rw[hres]
  have hbW:Below w.heap.size w W:=hb.trans (hW.mono hb.size)
  exact double1_calls _ B _ _ k m s W (hlow.later hbW) hm (by have:=hs.way;omega) (c2.below hW)
theorem deliverS_ack{s:RunS}{k i j:Nat}{m:MsgS}(he:messageE s (k:Int)=0)(hm:s.way[k]?= some m)(hk:m.kind=0)(hs:m.src=i)(hd:m.dst=j):deliverS s (k:Int)=(setLink {s with way:=s.way.take k++s.way.drop (k+1)} j i (ackS (linkOf {s with way:=s.way.take k++s.way.drop (k+1)} j i) m.no),0)\/deliverS s (k:Int)=({s with way:=s.way.take k++s.way.drop (k+1)},0)/\ackS (linkOf {s with way:=s.way.take k++s.way.drop (k+1)} j i) m.no=linkOf {s with way:=s.way.take k++s.way.drop (k+1)} j i:=by
 unfold deliverS ackS
 rw[if_neg (by rw[he];simp)]
 dsimp only
 rw[Int.toNat_natCast,hm,Option.getD_some,if_pos hk,hs,hd,Int.toNat_natCast,Int.toNat_natCast]
 by_cases h:(linkOf {s with way:=s.way.take k++s.way.drop (k+1)} j i).known < m.no
 ·rw[if_pos h,if_pos h];exact .inl rfl
 ·rw[if_neg h,if_neg h];exact .inr ⟨rfl,rfl⟩
theorem deliverS_thing{s:RunS}{k i j:Nat}{m:MsgS}(he:messageE s (k:Int)=0)(hm:s.way[k]?= some m)(hk:m.kind≠0)(hs:m.src=i)(hd:m.dst=j):deliverS s (k:Int)=(wayS (thingS {s with way:=s.way.take k++s.way.drop (k+1)} i j m) {msg0 with src:=(j:Int),dst:=(i:Int),kind:=0,no:=(linkOf (thingS {s with way:=s.way.take k++s.way.drop (k+1)} i j m) i j).came},0):=by
 unfold deliverS thingS
 rw[if_neg (by rw[he];simp)]
 dsimp only
 rw[Int.toNat_natCast,hm,Option.getD_some,if_neg hk,hs,hd,Int.toNat_natCast,Int.toNat_natCast]
theorem setLink_same{s:RunS}{i j:Nat}(hl:s.links.length=s.W.length)(hr:∀ls∈s.links,ls.length=s.W.length)(hi:i < s.W.length)(hj:j < s.W.length):setLink s i j (linkOf s i j)=s:=by
 unfold setLink linkOf
 have hl':i < s.links.length:=by rw[hl];exact hi
 have hr':=hr _ (List.getElem_mem hl')
 rw[List.getElem?_eq_getElem hl']
 have hj':j < s.links[i].length:=by omega
 simp[List.getElem?_eq_getElem hj']
set_option maxHeartbeats 2000000 in
set_option maxRecDepth 100000 in
theorem deliver1_calls(F:Nat->Prop)(B Br Bw k:Nat)(m:MsgS)(N:Nat)(s:RunS)(w:World)(hx:XOK F w B s)(hf:Fine N s)(hN:N+5<=90000000)(hc:Calm s)(he:messageE s (k:Int)=0)(hm:s.way[k]?= some m)(hh:HeldAt w Br Bw B k)(hF:¬F Br/\¬F Bw) :
  Calls Tryz.prog 156 #[.pointer (some ⟨Br,0,none⟩),.pointer (some ⟨Bw,0,none⟩)] w (XGives F w B (deliverS s (k:Int))):=by
 obtain⟨part,hpF,kv,wv,yv,M,xs,h⟩:=hx
 have hw:=hf.ways m (List.mem_of_getElem? hm)
 have h60:=hf.w60
 obtain⟨i,hi⟩:∃i:Nat,m.src=(i:Int):=⟨m.src.toNat,by have:=hw.src;omega⟩
 obtain⟨j,hj⟩:∃j:Nat,m.dst=(j:Int):=⟨m.dst.toNat,by have:=hw.dst;omega⟩
 have hil:i < s.W.length:=by have:=hw.src;have:=hf.len;omega
 have hjl:j < s.W.length:=by have:=hw.dst;have:=hf.len;omega
 have hne:i≠j:=fun e=>hc.way m (List.mem_of_getElem? hm) (by rw[hi,hj,e])
 have hA:ArriveAt N {s with way:=s.way.take k++s.way.drop (k+1)} i j m:=⟨hf.unway k,hN,hc.unway k,hi,hj,hil,hjl,hne⟩
 have r0:=hh.1.cell (o:=0) rfl
 have i0:=hh.2.cell (o:=0) rfl
 have hpr:part Br=0:=by
  rcases Nat.eq_zero_or_pos (part Br)with h|h
  ·exact h
  ·exact absurd (hpF Br (by omega)) hF.1
 have HTK:Hid (∀U,Below w.heap.size w U->Calls Tryz.prog 158 #[.pointer (some ⟨B,5,none⟩),.int .i64 (k:Int)] U fun e w'=>∃v,e= .returned v/\(v= .agg (msgCells m)/\∃part' yv',XAtO part' w' B {s with way:=s.way.take k++s.way.drop (k+1)} kv wv yv' M xs/\XMoved part part' w w'/\w'.cell? ⟨Br,0,none⟩=some (.pointer (some ⟨B,0,none⟩)))):=fun U hU=>by
  obtain⟨h2,hm2⟩:=h.later hU
  refine(take_x k m h2 hm (by omega)).mono ?_
  rintro e w' ⟨v,rfl,rfl,part',yv',h3,hm3⟩
  have hmv:=hm2.trans hm3
  exact⟨_,rfl,rfl,part',yv',h3,hmv,(hmv.kept.cell (p:=⟨Br,0,none⟩) hh.1.lt (fun h=>h hpr)).trans r0⟩
 have HAR:Hid (∀(U:World) (part1:Nat->Nat) (yv1:Value),XAtO part1 U B {s with way:=s.way.take k++s.way.drop (k+1)} kv wv yv1 M xs->XMoved part part1 w U->Calls Tryz.prog 157 #[.pointer (some ⟨B,0,none⟩),.agg (msgCells m)] U fun e w'=>∃v,e= .returned v/\(v= .tuple #[]/\XGives F w B (deliverS s (k:Int)) (.returned (.int .i64 0)) w')):=fun U part1 yv1 h1 hm1=>by
  have fin:∀(r:RunS) (w':World) (part':Nat->Nat) (yv':Value) (xs':List XW),deliverS s (k:Int)=(r,0)->XAtO part' w' B r kv wv yv' M xs'->Moved part part' w w'->XGives F w B (deliverS s (k:Int)) (.returned (.int .i64 0)) w':=fun r w' part' yv' xs' e h2 hm2=>by
   obtain⟨h5,h6⟩:=hm2.okX h2 hpF
   rw[e]
   exact⟨rfl,h5,h6⟩
  by_cases hk:m.kind=0
  ·refine(arriveAck_x m i j h1 hA hk).mono ?_
   rintro e w' ⟨v,rfl,rfl,part',yv',xs',h2,hm2⟩
   refine⟨_,rfl,rfl,?_⟩
   rcases deliverS_ack he hm hk hi hj with e|⟨e,e2⟩
   ·exact fin _ w' part' yv' xs' e h2 (hm1.base.trans hm2)
   ·rw[e2,setLink_same hA.fine.llen hA.fine.lrow hA.hj hA.hi]at h2
    exact fin _ w' part' yv' xs' e h2 (hm1.base.trans hm2)
  ·obtain⟨n,hn,hn2⟩:=hw.sent hk
   rw[hi,hj,Int.toNat_natCast,Int.toNat_natCast]at hn2
   refine(arriveThing_x m i j h1 hA hk ⟨by omega,by
    have e:(m.no - 1).toNat=n:=by omega
    rw[e]
    exact hn2⟩).mono ?_
   rintro e w' ⟨v,rfl,rfl,part',yv',xs',h2,hm2⟩
   exact⟨_,rfl,rfl,fin _ w' part' yv' xs' (deliverS_thing he hm hk hi hj) h2 (hm1.base.trans hm2)⟩
 clear h hh hA
 go_enter Tryz.func156,Tryz.ntmps156
 go_upto_region 1 with fail
 go_region_law (first
  |(refine step_call2 (by rfl) 158 _ _ _ (by rfl) (.pointer (some ⟨B,5,none⟩)) (.int .i64 (k:Int)) (by rfl) (by rfl) (enters_of Tryz.func158 (by kernel_rfl) rfl) (HTK.out _ (by first|exact Below.refl _ _|exact(Below.refl _ _).drew)) ?_;rintro v8 w8 ⟨rfl,part8,yv8,h8,hm8,r8⟩;have H8:=hid_of h8;have HM8:=hid_of hm8;clear h8 hm8)
  |(refine step_call2 (by rfl) 157 _ _ _ (by rfl) (.pointer (some ⟨B,0,none⟩)) (.agg (msgCells m)) (by rfl) (by rfl) (enters_of Tryz.func157 (by kernel_rfl) rfl) (HAR.out _ part8 yv8 H8.out HM8.out) ?_;rintro v9 w9 ⟨rfl,hres⟩;have HRES:=hid_of hres;clear hres))
 all_goals
  go_wp2_with fail
  go_ret
  exact HRES.out
theorem deliverMk_calls(rp:Option Addr)(i:Int)(w:World):Calls Tryz.prog 91 #[.pointer rp,.int .i64 i] w fun e w'=>e= .returned (.func (.func 156) #[] #[.pointer (some ⟨w.heap.size,0,none⟩),.pointer (some ⟨w.heap.size+1,0,none⟩)])/\w'=held2 w rp i:=by
 go_enter Tryz.func91,Tryz.ntmps91
 go_wp2_with fail
 go_ret
 exact⟨rfl,rfl⟩
set_option maxHeartbeats 2000000 in
set_option maxRecDepth 100000 in
theorem deliver_opens(rp:Option Addr)(i:Int)(w:World)(R:Ending->World->Prop)
  (h:∀W1 W2 W3,held2 w rp i=W1->held2 W1 rp i=W2->W2.alloc (Obj.cells (([stepH 154 w]++ [stepH 156 W1]).map stepVal).toArray 94)=W3->Calls Tryz.prog 42 #[.pointer rp,.slice (some ⟨W2.heap.size,0,none⟩) 2 2] W3 fun e w'=>(∃r,e= .returned (.int .i64 r))/\R e w') :
  Calls Tryz.prog 41 #[.pointer rp,.int .i64 i] w R:=by
 obtain⟨W1,h1⟩:∃W1,held2 w rp i=W1:=⟨_,rfl⟩
 obtain⟨W2,h2⟩:∃W2,held2 W1 rp i=W2:=⟨_,rfl⟩
 obtain⟨W3,h3⟩:∃W3,W2.alloc (Obj.cells (([stepH 154 w]++ [stepH 156 W1]).map stepVal).toArray 94)=W3:=⟨_,rfl⟩
 have HC:=hid_of (h W1 W2 W3 h1 h2 h3)
 have H1:=hid_of h1
 have H2:=hid_of h2
 have H3:=hid_of h3
 clear h h1 h2 h3
 go_enter Tryz.func41,Tryz.ntmps41
 go_wp2_with (first
  |(go_at_call 90;refine(isMessage_calls rp i w).mono ?_;rintro e a1 ⟨rfl,hq⟩;obtain rfl:W1=a1:=H1.out.symm.trans hq.symm;clear hq)
  |(go_at_call 91;refine(deliverMk_calls rp i W1).mono ?_;rintro e a1 ⟨rfl,hq⟩;obtain rfl:W2=a1:=H2.out.symm.trans hq.symm;clear hq)
  |(go_at_call 42;refine Calls.at_world H3.out ?_;refine HC.out.mono ?_;rintro e a7 ⟨⟨r,rfl⟩,hr⟩))
 exact hr
theorem x_deliver_calls(F:Nat->Prop)(B N:Nat)(s:RunS)(i:Int)(w:World)(hx:XOK F w B s)(hf:Fine N s)(hN:N+5<=90000000)(hc:Calm s) :
  Calls Tryz.prog 41 #[.pointer (some ⟨B,0,none⟩),.int .i64 i] w (XGives F w B (deliverS s i)):=by
 refine deliver_opens (some ⟨B,0,none⟩) i w _ (fun W1 W2 W3 h1 h2 h3=> ?_)
 have g1:=held2_below w (some ⟨B,0,none⟩) i
 have g2:=held2_below W1 (some ⟨B,0,none⟩) i
 have a1:=held2_at w B i
 have a2:=held2_at W1 B i
 rw[h1]at g1 a1
 rw[h2]at g2 a2
 have g3:Below W2.heap.size W2 W3:=by rw[<-h3];exact(Below.refl _ _).alloc (Nat.le_refl _) _
 have bL:BoxAt W3 W2.heap.size 94 (([stepH 154 w]++ [stepH 156 W1]).map stepVal).toArray:=by rw[<-h3];exact BoxAt.new W2 _ _
 have z1:=g1.size
 have z2:=g2.size
 have k2:Below W1.heap.size W1 W3:=g2.trans (g3.mono z2)
 have hb:Below w.heap.size w W3:=g1.trans (k2.mono z1)
 have c1:=a1.below k2
 have c2:=a2.below g3
 clear a1 a2 h1 h2 h3 g1 g2 k2
 have hlow:=hx.low
 refine(change_tests F B W2.heap.size s W3 (hx.later hb) [stepH 154 w] [if i < 0\/(s.way.length:Int)<=i then 10 else 0] (stepH 156 W1) (deliverS s i) w hb hx (by simp) (by simp) 94 bL ?over ?enter ?test ?bad ?last).mono (fun e w' h=>⟨⟨_,h.1⟩,h⟩)
 case over=>
  intro ho
  simp[deliverS,messageE_halt ho,ho]
 case enter=>
  intro f hf' args W
  simp at hf'
  rcases hf' with rfl|rfl
  ·exact enters_of Tryz.func154 (by kernel_rfl) rfl args W
  ·exact enters_of Tryz.func156 (by kernel_rfl) rfl args W
 case test=>
  intro hd ho j f e hj he hp W hW
  match j,hj,he with
  |0,hj,he=>cases hj;cases he;exact isMessage1_calls F B _ _ s i W ((hx.later hb).later hW) (c1.below hW)
  |(n+1),hj,he=>simp at hj
 case bad=>
  intro hd ho j e he hne hp
  have wi:=messageE_run hd ho i
  match j,he with
  |0,he=>cases he;simp only[deliverS,wi,if_pos hne]
  |(n+1),he=>simp at he
 case last=>
  intro hd ho hp W hW
  have p0:=hp 0 _ (by simp) rfl
  have wi:=messageE_run hd ho i
  rw[p0]at wi
  obtain⟨q0,q1⟩:=messageE_in wi
  obtain⟨k,rfl⟩:=Int.eq_ofNat_of_zero_le q0
  obtain⟨m,hm⟩:∃m,s.way[k]?= some m:=⟨_,List.getElem?_eq_getElem (by omega)⟩
  have hbW:Below w.heap.size w W:=hb.trans (hW.mono hb.size)
  have h9:=deliver1_calls (fun b=>F b/\b < w.heap.size) B _ _ k m N s W (hlow.later hbW) hf hN hc wi hm (c2.below hW) ⟨fun h=>by omega,fun h=>by omega⟩
  exact h9
set_option maxHeartbeats 4000000 in
set_option maxRecDepth 100000 in
theorem told_calls(gw k q:Nat)(cnt st cm:Int)(tb rd wb:Bool)(w:World)(h4:w.cell? ⟨gw,k*8+4,none⟩=some (.int .i64 st))(h5:w.cell? ⟨gw,k*8+5,none⟩=some (.int .i64 cm))(h6:w.cell? ⟨gw,k*8+6,none⟩=some (.bool wb))(h7:w.cell? ⟨gw,k*8+7,none⟩=some (.pointer (some ⟨q,0,none⟩)))(hq:BoxAt w q 167 #[.int .i64 cnt,.bool tb,.bool rd])
  (hgw:gw < w.heap.size) (hs:0<=st/\st<=1000000000) (hc:0<=cm/\cm<=1000000000) (hn: -100000000000000000<=cnt/\cnt<=100000000000000000) :
  Calls Tryz.prog 150 #[.pointer (some ⟨gw,k*8,none⟩)] w fun e w'=>∃v,e= .returned v/\(v= .agg #[.int .i64 (cnt+(st - cm)),.bool (tb||wb),.bool rd]/\Below w.heap.size w w'):=by
 have q0:=hq.cell (o:=0) rfl
 have q1:=hq.cell (o:=1) rfl
 have q2:=hq.cell (o:=2) rfl
 have hql:=hq.lt
 obtain⟨Z0,hZ0⟩:∃Z0,w.alloc (Obj.cells #[.int .i64 0,.bool false,.bool false] 167)=Z0:=⟨_,rfl⟩
 obtain⟨V,hV⟩:∃V,Z0.alloc (Obj.cells #[.int .i64 cnt,.bool tb,.bool rd] 167)=V:=⟨_,rfl⟩
 have s0:Z0.heap.size=w.heap.size+1:=by rw[<-hZ0];simp
 have g0:Below w.heap.size w Z0:=by rw[<-hZ0];exact(Below.refl _ _).alloc (Nat.le_refl _) _
 have gV0:Below Z0.heap.size Z0 V:=by rw[<-hV];exact(Below.refl _ _).alloc (Nat.le_refl _) _
 have gV:Below w.heap.size w V:=g0.trans (gV0.mono g0.size)
 have bR:BoxAt V w.heap.size 167 #[.int .i64 0,.bool false,.bool false]:=by rw[<-hV,<-hZ0];exact(BoxAt.new w _ _).alloc _
 have bT:BoxAt V (w.heap.size+1) 167 #[.int .i64 cnt,.bool tb,.bool rd]:=by rw[<-hV,<-s0];exact BoxAt.new Z0 _ _
 have u0:=(hq.below g0 hql).cell (o:=0) rfl
 have u1:=(hq.below g0 hql).cell (o:=1) rfl
 have u2:=(hq.below g0 hql).cell (o:=2) rfl
 have u7:Z0.cell? ⟨gw,k*8+7,none⟩=some (.pointer (some ⟨q,0,none⟩)):=(g0.cell (p:=⟨gw,k*8+7,none⟩) hgw).trans h7
 have v4:V.cell? ⟨gw,k*8+4,none⟩=some (.int .i64 st):=(gV.cell (p:=⟨gw,k*8+4,none⟩) hgw).trans h4
 have v5:V.cell? ⟨gw,k*8+5,none⟩=some (.int .i64 cm):=(gV.cell (p:=⟨gw,k*8+5,none⟩) hgw).trans h5
 have v6:V.cell? ⟨gw,k*8+6,none⟩=some (.bool wb):=(gV.cell (p:=⟨gw,k*8+6,none⟩) hgw).trans h6
 have t0:=bT.cell (o:=0) rfl
 have f0:=bT.frozen 0
 have a1:IntKind.i64.wrap (st - cm)=st - cm:=IntWalk.i64_in _ (by omega)
 have a2:IntKind.i64.wrap (cnt+(st - cm))=cnt+(st - cm):=IntWalk.i64_in _ (by omega)
 have HGV:=hid_of gV
 have HBT:=hid_of bT
 have HBR:=hid_of bR
 have HV6:Hid (V.cell? ⟨gw,k*8+6,none⟩=some (.bool wb)):=v6
 have sV:V.heap.size=w.heap.size+2:=by rw[<-hV];simp[s0]
 clear gV g0 gV0 bT bR hq q0 q1 q2 h4 h5 h6 h7 v6
 go_enter Tryz.func150,Tryz.ntmps150
 go_upto_region 1 with fail
 try rw[hZ0]
 go_upto_region 2 with fail
 try rw[s0]
 try rw[hV]
 clear hV hZ0 u0 u1 u2 u7
 go_region
 all_goals
  obtain⟨Y,hY⟩:∃Y,(V.setCell ⟨w.heap.size+1,0,none⟩ (.int .i64 (cnt+(st - cm)))).drew=Y:=⟨_,rfl⟩
  have bY:BoxAt Y (w.heap.size+1) 167 #[.int .i64 (cnt+(st - cm)),.bool tb,.bool rd]:=by rw[<-hY];exact HBT.out.setAt 0 _
  have bRY:BoxAt Y w.heap.size 167 #[.int .i64 0,.bool false,.bool false]:=by rw[<-hY];exact HBR.out.far ⟨w.heap.size+1,0,none⟩ _ (by show w.heap.size≠w.heap.size+1;omega)
  have y6:Y.cell? ⟨gw,k*8+6,none⟩=some (.bool wb):=by rw[<-hY];exact(World.cell?_setCell_far V ⟨w.heap.size+1,0,none⟩ ⟨gw,k*8+6,none⟩ _ (by show w.heap.size+1≠gw;omega)).trans HV6.out
  have HGY:Hid (Below w.heap.size w Y):=by show Below _ _ _;rw[<-hY];exact(HGV.out.setCell (p:=⟨w.heap.size+1,0,none⟩) (by show w.heap.size<=w.heap.size+1;omega) _).drew
  rw[hY]
  clear hY t0 f0 v4 v5
  have t0:=bY.cell (o:=0) rfl
  have t1:=bY.cell (o:=1) rfl
  have t2:=bY.cell (o:=2) rfl
  have f1:=bY.frozen 1
  have r0:=bRY.cell (o:=0) rfl
  have r1:=bRY.cell (o:=1) rfl
  have r2:=bRY.cell (o:=2) rfl
  have e0:=bRY.frozen 0
  have e1:=bRY.frozen 1
  have e2:=bRY.frozen 2
  have HBRY:=hid_of bRY
  have hne1:w.heap.size≠w.heap.size+1:=by omega
  have hend:∀bb:Bool,BoxAt ((((Y.setCell ⟨w.heap.size+1,1,none⟩ (.bool bb)).setCell ⟨w.heap.size,0,none⟩ (.int .i64 (cnt+(st - cm)))).setCell ⟨w.heap.size,1,none⟩ (.bool bb)).setCell ⟨w.heap.size,2,none⟩ (.bool rd)) w.heap.size 167 #[.int .i64 (cnt+(st - cm)),.bool bb,.bool rd]/\Below w.heap.size w ((((Y.setCell ⟨w.heap.size+1,1,none⟩ (.bool bb)).setCell ⟨w.heap.size,0,none⟩ (.int .i64 (cnt+(st - cm)))).setCell ⟨w.heap.size,1,none⟩ (.bool bb)).setCell ⟨w.heap.size,2,none⟩ (.bool rd)):=fun bb=>
   ⟨(((HBRY.out.far ⟨w.heap.size+1,1,none⟩ _ hne1).setAt 0 _).setAt 1 _).setAt 2 _,(((HGY.out.setCell (p:=⟨w.heap.size+1,1,none⟩) (by show w.heap.size<=w.heap.size+1;omega) _).setCell (p:=⟨w.heap.size,0,none⟩) (Nat.le_refl _) _).setCell (p:=⟨w.heap.size,1,none⟩) (Nat.le_refl _) _).setCell (p:=⟨w.heap.size,2,none⟩) (Nat.le_refl _) _⟩
  have HEND:=hid_of hend
  clear hend bRY
  cases tb
  ·go_wp2_with fail
   have q0:=(HEND.out wb).1.cell (o:=0) rfl
   have q1:=(HEND.out wb).1.cell (o:=1) rfl
   have q2:=(HEND.out wb).1.cell (o:=2) rfl
   refine bodyPost_ret (v:= .agg #[.int .i64 (cnt+(st - cm)),.bool wb,.bool rd]) (by simp[results,Tryz.results150,go_sem,q0,q1,q2]) rfl ⟨_,rfl,rfl,(HEND.out wb).2⟩
  ·go_wp2_with fail
   have q0:=(HEND.out true).1.cell (o:=0) rfl
   have q1:=(HEND.out true).1.cell (o:=1) rfl
   have q2:=(HEND.out true).1.cell (o:=2) rfl
   refine bodyPost_ret (v:= .agg #[.int .i64 (cnt+(st - cm)),.bool true,.bool rd]) (by simp[results,Tryz.results150,go_sem,q0,q1,q2]) rfl ⟨_,rfl,rfl,(HEND.out true).2⟩
set_option maxHeartbeats 4000000 in
set_option maxRecDepth 100000 in
theorem sendToken_x(i j:Nat)(cnt:Int)(bl rd:Bool){part:Nat->Nat}{w:World}{B M:Nat}{s:RunS}{kv wv yv:Value}{xs:List XW}{ls:List LinkS}{l:LinkS}{y:WorkerS}(h:XAtO part w B s kv wv yv M xs)(hy:s.W[i]?= some y)(hls:s.links[i]?= some ls)(hl:ls[j]?= some l)(hij:j≠i)(hk:l.known.toNat<=l.all.length)(hn:l.all.length<=100000000)(hw:s.way.length<=1000) :
  Calls Tryz.prog 149 #[.pointer (some ⟨B,0,none⟩),.int .i64 (i:Int),.int .i64 (j:Int),.agg #[.int .i64 cnt,.bool bl,.bool rd]] w fun e w'=>∃v,e= .returned v/\(v= .tuple #[]/\∃part' yv' xs',XAtO part' w' B (sendS {s with W:=s.W.set i {y with black:=false,has:=false}} {msg0 with src:=(i:Int),dst:=(j:Int),kind:=5,count:=cnt,black:=bl}) kv wv yv' M xs'/\XMoved part part' w w'):=by
 have hil:=(List.getElem?_eq_some_iff.1 hy).1
 have hxl:=h.wlen
 obtain⟨x,hx⟩:∃x,xs[i]?= some x:=⟨_,List.getElem?_eq_getElem (by omega)⟩
 obtain⟨gw,wc,hwf,-,hgw⟩:=World.ownsRow.form h.wrow.1 (by omega)
 subst hwf
 obtain⟨Z,hZ⟩:∃Z,w.alloc (Obj.cells #[.int .i64 cnt,.bool bl,.bool rd] 167)=Z:=⟨_,rfl⟩
 have gZ:Below w.heap.size w Z:=by rw[<-hZ];exact(Below.refl _ _).alloc (Nat.le_refl _) _
 have bZ:BoxAt Z w.heap.size 167 #[.int .i64 cnt,.bool bl,.bool rd]:=by rw[<-hZ];exact BoxAt.new w _ _
 obtain⟨hxZ,hmZ⟩:=h.later gZ
 have hxw:=hxZ.wat i x y hx hy
 have b3:Z.cell? ⟨B,4,none⟩=some (.slice (some ⟨gw,0,none⟩) xs.length wc):=hxZ.box.cell (o:=4) rfl
 have a7:=hxZ.xcell hx 7 _ rfl
 have a6:=hxZ.xcell hx 6 _ rfl
 obtain⟨cur,hcur⟩:∃cur,BoxAt Z gw 119 cur:=by
  obtain⟨cs,hcs⟩:=row_obj hxZ.wrow.1 (g:=gw) rfl
  exact⟨cs,hcs⟩
 have f7:=hcur.frozen (i*8+7)
 have f6:=hcur.frozen (i*8+6)
 have hpg:ext w part 0 gw=7:=hxZ.wrow.2 gw rfl
 have hgl:gw < w.heap.size:=(h.wrow.1.lt gw rfl).2
 obtain⟨Y,hY⟩:∃Y,(Z.setCell ⟨gw,i*8+7,none⟩ (.pointer none)).setCell ⟨gw,i*8+6,none⟩ (.bool false)=Y:=⟨_,rfl⟩
 have kY:Kept (·= gw) Z Y:=by rw[<-hY];exact((Kept.refl (·= gw) Z).setCell (.inl (by rfl)) _).setCell (.inl (by rfl)) _
 have r1:=row_note (x':={x with tok:=none}) (u:= .pointer none) (o:=7) hxZ.wrow.1 hx (by omega) rfl
 have hl1:(xs.set i {x with tok:=none}).length=xs.length:=List.length_set ..
 have r1':(Z.setCell ⟨gw,i*8+7,none⟩ (.pointer none)).ownsRow 0 119 8 (.slice (some ⟨gw,0,none⟩) (xs.set i {x with tok:=none}).length wc) (xs.set i {x with tok:=none}).length ((xs.set i {x with tok:=none}).flatMap xwEnc):=by
  rw[hl1]at r1 ⊢
  exact r1
 have r2:=row_note (x':={x with tok:=none,black:=false}) (u:= .bool false) (o:=6) r1' (List.getElem?_set_self (by omega)) (by omega) rfl
 rw[set_twice,hl1,hY]at r2
 obtain⟨h2,hm2⟩:=hxZ.retok (n:=0) (ar:=s.around) (x':={x with tok:=none,black:=false}) (y':={y with black:=false,has:=false}) hx hy rfl ⟨hxw.1.asked,hxw.1.sent,hxw.1.came,rfl⟩ ⟨rfl,rfl,rfl⟩ (kY.mono (fun b _ e=>by subst e;exact hpg)) (.inl rfl) (fun _=>rfl) (fun _=>rfl) r2
 have bY:BoxAt Y w.heap.size 167 #[.int .i64 cnt,.bool bl,.bool rd]:=bZ.kept kY (by omega)
 have t0:=bY.cell (o:=0) rfl
 have t1:=bY.cell (o:=1) rfl
 have i0:(0:Int)<=(i:Int):=by omega
 have i1:(i:Int) < (xs.length:Int):=by omega
 have HSD:Hid (∀(U:World) (bb:Nat),U=Y.alloc (Obj.cells (msgCells {msg0 with kind:=5,count:=cnt,black:=bl}) 124)->bb=Y.heap.size->Calls Tryz.prog 165 #[.pointer (some ⟨B,0,none⟩),.int .i64 (i:Int),.int .i64 (j:Int),.slice (some ⟨bb,0,none⟩) 1 1] U fun e w'=>∃v,e= .returned v/\(v= .tuple #[]/\∃part' yv' xs',XAtO part' w' B (sendS {s with W:=s.W.set i {y with black:=false,has:=false}} {msg0 with src:=(i:Int),dst:=(j:Int),kind:=5,count:=cnt,black:=bl}) kv (.slice (some ⟨gw,0,none⟩) xs.length wc) yv' M xs'/\XMoved part part' w w')):=fun U bb hU hbb=>by
  subst hU hbb
  obtain⟨h3,hm3⟩:=h2.later ((Below.refl Y.heap.size Y).alloc (Nat.le_refl _) (Obj.cells (msgCells {msg0 with kind:=5,count:=cnt,black:=bl}) 124))
  refine(send_x i j {msg0 with kind:=5,count:=cnt,black:=bl} Y.heap.size h3 hls hl hij hk hn hw (BoxAt.new Y _ _)).mono ?_
  rintro e w' ⟨v,rfl,rfl,part',yv',h4,hm4⟩
  refine⟨_,rfl,rfl,part',yv',xs.set i {x with tok:=none,black:=false},?_,((hmZ.trans hm2).trans hm3).trans hm4⟩
  rw[sendS_post _ i j _ (by simp) rfl rfl]
  exact h4
 clear h h2 hm2 hxw hcur r1 r1' r2 kY bZ bY hxZ hmZ
 simp only[msg0]at HSD
 go_enter Tryz.func149,Tryz.ntmps149
 go_upto_region 1 with fail
 try rw[hZ]
 clear hZ
 go_upto_region 3 with fail
 try rw[hY]
 clear hY a6 a7 f6 f7 b3
 go_wp2_with (go_at_call 165;refine(HSD.out _ _ rfl rfl).mono ?_;rintro e w3 ⟨v3,rfl,rfl,hres⟩;have HRES:=hid_of hres;clear hres)
 go_end0
 exact⟨_,rfl,rfl,HRES.out⟩
abbrev one1(W:World)(i:Int):World:=W.alloc (Obj.cells #[.int .i64 i] 3)
theorem one1_below(W:World)(i:Int):Below W.heap.size W (one1 W i):=(Below.refl _ _).alloc (Nat.le_refl _) _
theorem isPasser_calls(i:Int)(w:World):Calls Tryz.prog 86 #[.int .i64 i] w fun e w'=>e= .returned (.func (.func 146) #[] #[.pointer (some ⟨w.heap.size,0,none⟩)])/\w'=one1 w i:=by
 go_enter Tryz.func86,Tryz.ntmps86
 go_wp2_with fail
 go_ret
 exact⟨rfl,rfl⟩
theorem hasToken_calls(rp:Option Addr)(i:Int)(w:World):Calls Tryz.prog 87 #[.pointer rp,.int .i64 i] w fun e w'=>e= .returned (.func (.func 147) #[] #[.pointer (some ⟨w.heap.size,0,none⟩),.pointer (some ⟨w.heap.size+1,0,none⟩)])/\w'=held2 w rp i:=by
 go_enter Tryz.func87,Tryz.ntmps87
 go_wp2_with fail
 go_ret
 exact⟨rfl,rfl⟩
theorem passToken_calls(rp:Option Addr)(i:Int)(w:World):Calls Tryz.prog 88 #[.pointer rp,.int .i64 i] w fun e w'=>e= .returned (.func (.func 148) #[] #[.pointer (some ⟨w.heap.size,0,none⟩),.pointer (some ⟨w.heap.size+1,0,none⟩)])/\w'=held2 w rp i:=by
 go_enter Tryz.func88,Tryz.ntmps88
 go_wp2_with fail
 go_ret
 exact⟨rfl,rfl⟩
theorem isPasser1_calls(Bw:Nat)(i:Int)(w:World)(h:BoxAt w Bw 3 #[.int .i64 i]):Calls Tryz.prog 146 #[.pointer (some ⟨Bw,0,none⟩)] w fun e w'=>e= .returned (.int .i64 (if i=0 then 9 else 0))/\Below w.heap.size w w':=by
 have a0:=h.cell (o:=0) rfl
 clear h
 obtain⟨res,hres⟩:∃res:Int,(if i=0 then(9:Int)else 0)=res:=⟨_,rfl⟩
 rw[hres]
 by_cases hi:i=0
 ·obtain rfl:(9:Int)=res:=by rw[<-hres,if_pos hi]
  have he:(i==0)=true:=by simp[hi]
  clear hi hres
  go_enter Tryz.func146,Tryz.ntmps146
  go_wp2_with fail
  go_ret
  exact⟨rfl,Below.refl _ _⟩
 ·obtain rfl:(0:Int)=res:=by rw[<-hres,if_neg hi]
  have he:(i==0)=false:=by rw[beq_eq_false_iff_ne];exact hi
  clear hi hres
  go_enter Tryz.func146,Tryz.ntmps146
  go_wp2_with fail
  go_ret
  exact⟨rfl,Below.refl _ _⟩
set_option maxHeartbeats 1000000 in
set_option maxRecDepth 100000 in
theorem hasToken1_calls(F:Nat->Prop)(B Br Bw k:Nat)(s:RunS)(x:WorkerS)(w:World)(hx:XOK F w B s)(hk:s.W[k]?= some x)(hh:HeldAt w Br Bw B k) :
  Calls Tryz.prog 147 #[.pointer (some ⟨Br,0,none⟩),.pointer (some ⟨Bw,0,none⟩)] w fun e w'=>e= .returned (.int .i64 (if s.mode=1/\x.has=true then 0 else 9))/\Below w.heap.size w w':=by
 obtain⟨part,kv,yv,g,c,M,T,xs,y,-,h,hy,-,ht,hc,hkl⟩:=x_worker hx hk
 have b3:w.cell? ⟨B,4,none⟩=some (.slice (some ⟨g,0,none⟩) xs.length c):=h.box.cell (o:=4) rfl
 have htk:=h.tat k y x hy hk
 have a7:=h.xcell hy 7 _ rfl
 have r0:=hh.1.cell (o:=0) rfl
 have i0:=hh.2.cell (o:=0) rfl
 have j1:(0:Int)<=(k:Int):=by omega
 have j2:(k:Int) < (xs.length:Int):=by omega
 obtain⟨res,hres⟩:∃res:Int,(if s.mode=1/\x.has=true then(0:Int)else 9)=res:=⟨_,rfl⟩
 rw[hres]
 cases hq:y.tok with
 |none=>
  rw[hq]at htk a7
  obtain rfl:(9:Int)=res:=by rw[<-hres,if_neg];intro q;have:=htk q.1;rw[q.2]at this;cases this
  have a7':w.cell? ⟨g,k*8+7,none⟩=some (.pointer none):=a7
  clear hh ht h hc htk a7 hres hq
  go_enter Tryz.func147,Tryz.ntmps147
  go_upto_region 1 with fail
  go_quiet (fail)
  go_wp2_with fail
  go_ret
  exact⟨rfl,below_drewN (Below.refl _ _) _⟩
 |some q=>
  rw[hq]at htk a7
  obtain rfl:(0:Int)=res:=by rw[<-hres,if_pos ⟨htk.1.2,htk.1.1⟩]
  have a7':w.cell? ⟨g,k*8+7,none⟩=some (.pointer (some ⟨q,0,none⟩)):=a7
  clear hh ht h hc htk a7 hres hq
  go_enter Tryz.func147,Tryz.ntmps147
  go_upto_region 1 with fail
  go_quiet (fail)
  go_wp2_with fail
  go_ret
  exact⟨rfl,below_drewN (Below.refl _ _) _⟩
theorem sendS_reW(s:RunS)(k:Nat)(x:WorkerS)(m:MsgS)(h:¬(m.kind=2\/m.kind=4)):sendS {s with W:=s.W.set k x} m={sendS s m with W:=(sendS s m).W.set k x}:=by
 unfold sendS wayS
 simp only[if_neg h]
 split<;>rfl
theorem told_x{part:Nat->Nat}{w:World}{B M k gw wc n:Nat}{s:RunS}{kv yv:Value}{xs:List XW}{x:XW}{y:WorkerS}(h:XAtO part w B s kv (.slice (some ⟨gw,0,none⟩) n wc) yv M xs)(hx:xs[k]?= some x)(hy:s.W[k]?= some y)(hm:s.mode=1)(hh:y.has=true)(hs:0<=y.sent/\y.sent<=1000000000)(hc:0<=y.came/\y.came<=1000000000)(hn: -100000000000000000<=y.token.count/\y.token.count<=100000000000000000) :
  Calls Tryz.prog 150 #[.pointer (some ⟨gw,k*8,none⟩)] w fun e w'=>∃v,e= .returned v/\(v= .agg #[.int .i64 (y.token.count+(y.sent - y.came)),.bool (y.token.black||y.black),.bool (k==0&&s.around)]/\Below w.heap.size w w'):=by
 have hxw:=h.wat k x y hx hy
 have htk:=h.tat k x y hx hy
 cases hq:x.tok with
 |none=>rw[hq]at htk;have:=htk hm;rw[hh]at this;cases this
 |some q=>
  rw[hq]at htk
  have a7:w.cell? ⟨gw,k*8+7,none⟩=some (.pointer (some ⟨q,0,none⟩)):=by
   have:=h.xcell hx 7 _ rfl
   rwa [hq]at this
  exact told_calls gw k q y.token.count y.sent y.came y.token.black (k==0&&s.around) y.black w (by rw[<-hxw.1.sent];exact h.xcell hx 4 _ rfl) (by rw[<-hxw.1.came];exact h.xcell hx 5 _ rfl) (by rw[<-hxw.1.black];exact h.xcell hx 6 _ rfl) a7 htk.2.1 (h.wrow.1.lt gw rfl).2 hs hc hn
set_option maxHeartbeats 4000000 in
set_option maxRecDepth 100000 in
theorem passToken1_calls(F:Nat->Prop)(B Br Bw k N:Nat)(s:RunS)(x:WorkerS)(w:World)(hx:XOK F w B s)(hk:s.W[k]?= some x)(hk0:k≠0)(hm:s.mode=1)(hhas:x.has=true)(hs:Shaped s)(hN:Small N s)(hN':N<=90000000)(hkn:Known s)(hcn: -100000000000000000<=x.token.count/\x.token.count<=100000000000000000)
  (hh:HeldAt w Br Bw B k) (hF:¬F Br/\¬F Bw) :
  Calls Tryz.prog 148 #[.pointer (some ⟨Br,0,none⟩),.pointer (some ⟨Bw,0,none⟩)] w (XGives F w B (sendS {s with W:=s.W.set k {x with black:=false,has:=false}} {msg0 with src:=(k:Int),dst:=(k:Int) - 1,kind:=5,count:=x.token.count+x.sent - x.came,black:=x.token.black||x.black},0)):=by
 obtain⟨part,kv,yv,g,c,M,T,xs,y,hpF,h,hy,-,-,hc,hkl⟩:=x_worker hx hk
 have hkW:=(List.getElem?_eq_some_iff.1 hk).1
 have b3:w.cell? ⟨B,4,none⟩=some (.slice (some ⟨g,0,none⟩) xs.length c):=h.box.cell (o:=4) rfl
 have r0:=hh.1.cell (o:=0) rfl
 have i0:=hh.2.cell (o:=0) rfl
 have j1:(0:Int)<=(k:Int):=by omega
 have j2:(k:Int) < (xs.length:Int):=by omega
 have hxm:=List.mem_of_getElem? hk
 have hsent:=hN.sent x hxm
 have hgot:=hN.got x hxm
 obtain⟨ls,hls⟩:∃ls,s.links[k]?= some ls:=⟨_,List.getElem?_eq_getElem (by rw[hs.llen];exact hkW)⟩
 have hlm:=List.mem_of_getElem? hls
 obtain⟨l,hl⟩:∃l,ls[k - 1]?= some l:=⟨_,List.getElem?_eq_getElem (by rw[hs.lrow ls hlm];omega)⟩
 have hlmm:=List.mem_of_getElem? hl
 have hall:=hN.all ls hlm l hlmm
 have hknl:=hkn ls hlm l hlmm
 have hway:=hs.way
 have h5:=h.five
 have hwl:=h.wlen
 have kw:IntKind.i64.wrap ((k:Int) - 1)=(k:Int) - 1:=IntWalk.i64_in _ (by omega)
 have hBrl:=hh.1.lt
 have hBwl:=hh.2.lt
 have hBl:=h.box.lt
 have hgl:=(h.wrow.1.lt g rfl).2
 have HTD:Hid (∀U,(U=w\/U=w.drew)->Calls Tryz.prog 150 #[.pointer (some ⟨g,k*8,none⟩)] U fun e w'=>∃v,e= .returned v/\(v= .agg #[.int .i64 (x.token.count+(x.sent - x.came)),.bool (x.token.black||x.black),.bool (k==0&&s.around)]/\Below w.heap.size w w')):=fun U hU=>by
  have gU:Below w.heap.size w U:=by
   rcases hU with rfl|rfl
   ·exact Below.refl _ _
   ·exact(Below.refl _ _).drew
  obtain⟨h7,-⟩:=h.later gU
  refine(told_x h7 hy hk hm hhas (by omega) (by omega) hcn).mono ?_
  rintro e w' ⟨v,rfl,rfl,hb⟩
  exact⟨_,rfl,rfl,gU.trans (hb.mono gU.size)⟩
 have HSD:Hid (∀U,Below w.heap.size w U->Calls Tryz.prog 149 #[.pointer (some ⟨B,0,none⟩),.int .i64 (k:Int),.int .i64 ((k:Int) - 1),.agg #[.int .i64 (x.token.count+(x.sent - x.came)),.bool (x.token.black||x.black),.bool (k==0&&s.around)]] U fun e w'=>∃v,e= .returned v/\(v= .tuple #[]/\XGives F w B (sendS {s with W:=s.W.set k {x with black:=false,has:=false}} {msg0 with src:=(k:Int),dst:=(k:Int) - 1,kind:=5,count:=x.token.count+x.sent - x.came,black:=x.token.black||x.black},0) (.returned (.int .i64 0)) w'/\w'.cell? ⟨B,4,none⟩=some (.slice (some ⟨g,0,none⟩) xs.length c)/\w'.cell? ⟨Br,0,none⟩=some (.pointer (some ⟨B,0,none⟩))/\w'.cell? ⟨Bw,0,none⟩=some (.int .i64 k))):=fun U hU=>by
  obtain⟨h7,hm7⟩:=h.later hU
  have hd:(k:Int) - 1=((k - 1:Nat):Int):=by omega
  rw[hd]
  refine(sendToken_x k (k - 1) (x.token.count+(x.sent - x.came)) (x.token.black||x.black) (k==0&&s.around) h7 hk hls hl (by omega) hknl (by omega) (by omega)).mono ?_
  rintro e w' ⟨v,rfl,rfl,part',yv',xs',h8,hm8⟩
  obtain⟨h9,h10⟩:=(hm7.trans hm8).okX h8 hpF
  refine⟨_,rfl,rfl,⟨rfl,?_,h10⟩,h8.box.cell (o:=4) rfl,(h10.cell (p:=⟨Br,0,none⟩) hBrl hF.1).trans r0,(h10.cell (p:=⟨Bw,0,none⟩) hBwl hF.2).trans i0⟩
  have e1:x.token.count+x.sent - x.came=x.token.count+(x.sent - x.came):=by omega
  rw[e1]
  exact h9
 have HST:Hid (∀U,Below w.heap.size w U->U.cell? ⟨B,4,none⟩=some (.slice (some ⟨g,0,none⟩) xs.length c)/\U.cell? ⟨Br,0,none⟩=some (.pointer (some ⟨B,0,none⟩))/\U.cell? ⟨Bw,0,none⟩=some (.int .i64 k)):=fun U hU=>⟨(hU.cell (p:=⟨B,4,none⟩) hBl).trans b3,(hU.cell (p:=⟨Br,0,none⟩) hBrl).trans r0,(hU.cell (p:=⟨Bw,0,none⟩) hBwl).trans i0⟩
 obtain⟨tc,htc⟩:∃tc,x.token.count+(x.sent - x.came)=tc:=⟨_,rfl⟩
 obtain⟨tb,htb⟩:∃tb,(x.token.black||x.black)=tb:=⟨_,rfl⟩
 obtain⟨tr,htr⟩:∃tr,(k==0&&s.around)=tr:=⟨_,rfl⟩
 rw[htc,htb,htr]at HTD
 rw[htc,htb,htr]at HSD
 rw[htb]
 clear h hh hc hcn hsent hgot hls hl
 go_enter Tryz.func148,Tryz.ntmps148
 go_upto_region 1 with fail
 go_region_held3 (fun U=>U.cell? ⟨B,4,none⟩=some (.slice (some ⟨g,0,none⟩) xs.length c)/\U.cell? ⟨Br,0,none⟩=some (.pointer (some ⟨B,0,none⟩))/\U.cell? ⟨Bw,0,none⟩=some (.int .i64 k))
  (first|assumption|(exact HST.out _ (by assumption))|(exact HST.out _ (Below.refl _ _))|(exact HST.out _ (Below.refl _ _).drew))
  (first
  |(go_at_call 150;refine(HTD.out _ (by first|exact .inl rfl|exact .inr rfl)).mono ?_;rintro e w8 ⟨v8,rfl,rfl,hb8⟩)
  |(go_at_call 149;refine(HSD.out _ (by first|assumption)).mono ?_;rintro e w9 ⟨v9,rfl,rfl,hres,hst9⟩))
 all_goals
  go_wp2_with fail
  go_ret
  exact hres
abbrev passFs(W W1 W2 W3:World):List StepV:=[stepW 110 W,(146,#[],#[.pointer (some ⟨W1.heap.size,0,none⟩)]),stepH 147 W2,stepH 96 W3]
set_option maxHeartbeats 2000000 in
set_option maxRecDepth 100000 in
theorem pass_opens(rp:Option Addr)(i:Int)(w:World)(R:Ending->World->Prop)
  (h:∀W1 W2 W3 W4 W5 W6,held2 w rp i=W1->one1 W1 i=W2->held2 W2 rp i=W3->held2 W3 rp i=W4->held2 W4 rp i=W5->W5.alloc (Obj.cells ((passFs w W1 W2 W3++ [stepH 148 W4]).map stepVal).toArray 94)=W6->Calls Tryz.prog 42 #[.pointer rp,.slice (some ⟨W5.heap.size,0,none⟩) 5 5] W6 fun e w'=>(∃r,e= .returned (.int .i64 r))/\R e w') :
  Calls Tryz.prog 39 #[.pointer rp,.int .i64 i] w R:=by
 obtain⟨W1,h1⟩:∃W1,held2 w rp i=W1:=⟨_,rfl⟩
 obtain⟨W2,h2⟩:∃W2,one1 W1 i=W2:=⟨_,rfl⟩
 obtain⟨W3,h3⟩:∃W3,held2 W2 rp i=W3:=⟨_,rfl⟩
 obtain⟨W4,h4⟩:∃W4,held2 W3 rp i=W4:=⟨_,rfl⟩
 obtain⟨W5,h5⟩:∃W5,held2 W4 rp i=W5:=⟨_,rfl⟩
 obtain⟨W6,h6⟩:∃W6,W5.alloc (Obj.cells ((passFs w W1 W2 W3++ [stepH 148 W4]).map stepVal).toArray 94)=W6:=⟨_,rfl⟩
 have HC:=hid_of (h W1 W2 W3 W4 W5 W6 h1 h2 h3 h4 h5 h6)
 have H1:Hid ((w.alloc (Obj.cells #[.pointer rp] 36)).alloc (Obj.cells #[.int .i64 i] 3)=W1):=h1
 have H2:=hid_of h2
 have H3:=hid_of h3
 have H4:=hid_of h4
 have H5:=hid_of h5
 have H6:=hid_of h6
 clear h h1 h2 h3 h4 h5 h6
 go_enter Tryz.func39,Tryz.ntmps39
 go_wp2_with (first
  |(go_at_call 51;refine(isWorker_calls rp i w).mono ?_;rintro e a1 ⟨rfl,hq⟩;obtain rfl:W1=a1:=H1.out.symm.trans hq.symm;clear hq)
  |(go_at_call 86;refine(isPasser_calls i W1).mono ?_;rintro e a1 ⟨rfl,hq⟩;obtain rfl:W2=a1:=H2.out.symm.trans hq.symm;clear hq)
  |(go_at_call 87;refine(hasToken_calls rp i W2).mono ?_;rintro e a1 ⟨rfl,hq⟩;obtain rfl:W3=a1:=H3.out.symm.trans hq.symm;clear hq)
  |(go_at_call 43;refine(isIdle_calls rp i W3).mono ?_;rintro e a1 ⟨rfl,hq⟩;obtain rfl:W4=a1:=H4.out.symm.trans hq.symm;clear hq)
  |(go_at_call 88;refine(passToken_calls rp i W4).mono ?_;rintro e a1 ⟨rfl,hq⟩;obtain rfl:W5=a1:=H5.out.symm.trans hq.symm;clear hq)
  |(go_at_call 42;refine Calls.at_world H6.out ?_;refine HC.out.mono ?_;rintro e a7 ⟨⟨r,rfl⟩,hr⟩))
 exact hr
set_option maxHeartbeats 2000000 in
theorem x_pass_calls(F:Nat->Prop)(B N:Nat)(s:RunS)(i:Int)(w:World)(hx:XOK F w B s)(hf:Fits s)(hs:Shaped s)(hN:Small N s)(hN':N<=90000000)(hkn:Known s)(hcn:∀x∈s.W,-100000000000000000<=x.token.count/\x.token.count<=100000000000000000) :
  Calls Tryz.prog 39 #[.pointer (some ⟨B,0,none⟩),.int .i64 i] w (XGives F w B (passS s i)):=by
 refine pass_opens (some ⟨B,0,none⟩) i w _ (fun W1 W2 W3 W4 W5 W6 h1 h2 h3 h4 h5 h6=> ?_)
 have g1:=held2_below w (some ⟨B,0,none⟩) i
 have g2:=one1_below W1 i
 have g3:=held2_below W2 (some ⟨B,0,none⟩) i
 have g4:=held2_below W3 (some ⟨B,0,none⟩) i
 have g5:=held2_below W4 (some ⟨B,0,none⟩) i
 have a1:=held2_at w B i
 have a2:BoxAt (one1 W1 i) W1.heap.size 3 #[.int .i64 i]:=BoxAt.new W1 _ _
 have a3:=held2_at W2 B i
 have a4:=held2_at W3 B i
 have a5:=held2_at W4 B i
 rw[h1]at g1 a1
 rw[h2]at g2 a2
 rw[h3]at g3 a3
 rw[h4]at g4 a4
 rw[h5]at g5 a5
 have g6:Below W5.heap.size W5 W6:=by rw[<-h6];exact(Below.refl _ _).alloc (Nat.le_refl _) _
 have bL:BoxAt W6 W5.heap.size 94 ((passFs w W1 W2 W3++ [stepH 148 W4]).map stepVal).toArray:=by rw[<-h6];exact BoxAt.new W5 _ _
 have z1:=g1.size
 have z2:=g2.size
 have z3:=g3.size
 have z4:=g4.size
 have z5:=g5.size
 have z6:=g6.size
 have k5:Below W4.heap.size W4 W6:=g5.trans (g6.mono z5)
 have k4:Below W3.heap.size W3 W6:=g4.trans (k5.mono z4)
 have k3:Below W2.heap.size W2 W6:=g3.trans (k4.mono z3)
 have k2:Below W1.heap.size W1 W6:=g2.trans (k3.mono z2)
 have hb:Below w.heap.size w W6:=g1.trans (k2.mono z1)
 have c1:=a1.below k2
 have c2:=a2.below k3 a2.lt
 have c3:=a3.below k4
 have c4:=a4.below k5
 have c5:=a5.below g6
 clear a1 a2 a3 a4 a5 h1 h2 h3 h4 h5 h6 g1 g2 g3 g4 g5 k2 k3 k4 k5
 have hlow:=hx.low
 obtain⟨x0,hx0⟩:∃x0,s.W[i.toNat]?.getD worker0=x0:=⟨_,rfl⟩
 have hlen:=hs.len
 have h5w:=hs.five
 have valid:∀{t:Int},¬(t < 0\/s.workers<=t)->∃(k:Nat),t=(k:Int)/\k < s.W.length:=fun{t} ht=>⟨t.toNat,by omega,by omega⟩
 have getx:∀{k:Nat},i=(k:Int)->k < s.W.length->s.W[k]?= some x0:=fun{k} hi hk=>by
  rw[<-hx0,hi]
  simp[hk]
 refine(change_tests F B W5.heap.size s W6 (hx.later hb) (passFs w W1 W2 W3) [if i < 0\/s.workers<=i then 7 else 0,if i=0 then 9 else 0,if s.mode=1/\x0.has=true then 0 else 9,if x0.tasks.length=0 then 0 else 9] (stepH 148 W4) (passS s i) w hb hx (by simp) (by simp) 94 bL ?over ?enter ?test ?bad ?last).mono (fun e w' h=>⟨⟨_,h.1⟩,h⟩)
 case over=>
  intro ho
  simp[passS,workerE_halt ho,ho]
 case enter=>
  intro f hf' args W
  simp at hf'
  rcases hf' with rfl|rfl|rfl|rfl|rfl
  ·exact enters_of Tryz.func110 (by kernel_rfl) rfl args W
  ·exact enters_of Tryz.func146 (by kernel_rfl) rfl args W
  ·exact enters_of Tryz.func147 (by kernel_rfl) rfl args W
  ·exact enters_of Tryz.func96 (by kernel_rfl) rfl args W
  ·exact enters_of Tryz.func148 (by kernel_rfl) rfl args W
 case test=>
  intro hd ho j f e hj he hp W hW
  have hxW:=(hx.later hb).later hW
  match j,hj,he with
  |0,hj,he=>cases hj;cases he;exact isWorker1_calls F B _ _ s i W hxW hf (c1.below hW)
  |1,hj,he=>cases hj;cases he;exact isPasser1_calls _ i W (c2.below hW c2.lt)
  |2,hj,he=>
   cases hj;cases he
   obtain⟨k,rfl,hk⟩:=valid (if_zero (by omega) (hp 0 _ (by omega) rfl))
   exact hasToken1_calls F B _ _ k s x0 W hxW (getx rfl hk) (c3.below hW)
  |3,hj,he=>
   cases hj;cases he
   obtain⟨k,rfl,hk⟩:=valid (if_zero (by omega) (hp 0 _ (by omega) rfl))
   exact isIdle1_calls F B _ _ k s x0 W hxW (getx rfl hk) (c4.below hW)
  |(n+4),hj,he=>simp at hj
 case bad=>
  intro hd ho j e he hne hp
  have wi:=workerE_run hd ho i
  have busy:∀(k:Nat),i=(k:Int)->k < s.W.length->workerE s i=0->(s.mode≠1\/i=0\/x0.has=false\/x0.tasks≠ [])->passS s i=(s,9):=fun k hik hk h0 hc=>by
   have hg:=getx hik hk
   unfold passS
   rw[if_neg (by rw[h0];simp),hik,Int.toNat_natCast,hg]
   dsimp only
   rw[<-hik,if_pos hc]
  match j,he with
  |0,he=>cases he;simp only[passS,wi,if_pos hne]
  |1,he=>
   cases he
   have p0:=hp 0 _ (by omega) rfl
   obtain⟨k,hik,hk⟩:=valid (if_zero (by omega) p0)
   have hi0:i=0:=by
    by_cases h:i=0
    ·exact h
    ·rw[if_neg h]at hne;exact absurd rfl hne
   rw[busy k hik hk (wi.trans p0) (.inr (.inl hi0)),if_pos hi0]
  |2,he=>
   cases he
   have p0:=hp 0 _ (by omega) rfl
   obtain⟨k,hik,hk⟩:=valid (if_zero (by omega) p0)
   have hq:¬(s.mode=1/\x0.has=true):=fun q=>by rw[if_pos q]at hne;exact absurd rfl hne
   rw[if_neg hq]
   refine busy k hik hk (wi.trans p0) ?_
   by_cases h1:s.mode=1
   ·cases h2:x0.has
    ·exact .inr (.inr (.inl rfl))
    ·exact absurd ⟨h1,h2⟩ hq
   ·exact .inl h1
  |3,he=>
   cases he
   have p0:=hp 0 _ (by omega) rfl
   obtain⟨k,hik,hk⟩:=valid (if_zero (by omega) p0)
   have ht:x0.tasks≠ []:=fun h=>by rw[h]at hne;simp at hne
   have ht':¬x0.tasks.length=0:=fun h=>ht (List.length_eq_zero_iff.1 h)
   rw[if_neg ht']
   exact busy k hik hk (wi.trans p0) (.inr (.inr (.inr ht)))
  |(n+4),he=>simp at he
 case last=>
  intro hd ho hp W hW
  have p0:=hp 0 _ (by simp) rfl
  have p1:=if_zero (by omega) (hp 1 _ (by simp) rfl)
  have p2:=hp 2 _ (by simp) rfl
  have p3:=hp 3 _ (by simp) rfl
  have wi:=workerE_run hd ho i
  rw[p0]at wi
  obtain⟨k,rfl,hk⟩:=valid (if_zero (by omega) p0)
  have hg:=getx rfl hk
  have q2:s.mode=1/\x0.has=true:=by
   by_cases h:s.mode=1/\x0.has=true
   ·exact h
   ·rw[if_neg h]at p2;exact absurd p2 (by omega)
  have q3:x0.tasks=[]:=by
   by_cases h:x0.tasks.length=0
   ·exact List.length_eq_zero_iff.1 h
   ·rw[if_neg h]at p3;exact absurd p3 (by omega)
  have hres:passS s (k:Int)=(sendS {s with W:=s.W.set k {x0 with black:=false,has:=false}} {msg0 with src:=(k:Int),dst:=(k:Int) - 1,kind:=5,count:=x0.token.count+x0.sent - x0.came,black:=x0.token.black||x0.black},0):=by
   rw[sendS_reW _ _ _ _ (by simp)]
   unfold passS
   rw[if_neg (by rw[wi];simp),Int.toNat_natCast,hg]
   dsimp only
   rw[if_neg (by rintro(h|h|h|h);exact h q2.1;exact p1 h;rw[q2.2]at h;cases h;exact h q3)]
  rw[hres]
  have hbW:Below w.heap.size w W:=hb.trans (hW.mono hb.size)
  exact passToken1_calls _ B _ _ k N s x0 W (hlow.later hbW) hg (by omega) q2.1 q2.2 hs hN hN' hkn (hcn x0 (List.mem_of_getElem? hg)) (c5.below hW) ⟨fun h=>by omega,fun h=>by omega⟩
end Go.Proofs.YtfanaanofjhlkaaGreatDoor
