import Derived.Test.YtfanaanofjhlkaaGreatDoorXMsgs
import Derived.Test.YtfanaanofjhlkaaGreatDoorXTwice
import Derived.Test.YtfanaanofjhlkaaGreatDoorXAgain
import Derived.Stop.RegionWithIn
import Derived.Test.YtfanaanofjhlkaaGreatDoorXToken2
import Derived.Test.YtfanaanofjhlkaaGreatDoorXCome
import Derived.Test.YtfanaanofjhlkaaGreatDoorRefPass
namespace Go.Proofs.YtfanaanofjhlkaaGreatDoor
open Go Go.RowKit
theorem isMessage_calls(rp:Option Addr)(i:Int)(w:World):Calls Tryz.prog 90 #[.pointer rp,.int .i64 i] w fun e w'=>e= .returned (.func (.func 154) #[] #[.pointer (some ⟨w.heap.size,0,none⟩),.pointer (some ⟨w.heap.size+1,0,none⟩)])/\w'=held2 w rp i:=by
 go_enter Tryz.func90,Tryz.ntmps90
 go_wp2_with fail
 go_ret
 exact⟨rfl,rfl⟩
theorem dropMk_calls(rp:Option Addr)(i:Int)(w:World):Calls Tryz.prog 123 #[.pointer rp,.int .i64 i] w fun e w'=>e= .returned (.func (.func 178) #[] #[.pointer (some ⟨w.heap.size,0,none⟩),.pointer (some ⟨w.heap.size+1,0,none⟩)])/\w'=held2 w rp i:=by
 go_enter Tryz.func123,Tryz.ntmps123
 go_wp2_with fail
 go_ret
 exact⟨rfl,rfl⟩
theorem double_calls(rp:Option Addr)(i:Int)(w:World):Calls Tryz.prog 124 #[.pointer rp,.int .i64 i] w fun e w'=>e= .returned (.func (.func 179) #[] #[.pointer (some ⟨w.heap.size,0,none⟩),.pointer (some ⟨w.heap.size+1,0,none⟩)])/\w'=held2 w rp i:=by
 go_enter Tryz.func124,Tryz.ntmps124
 go_wp2_with fail
 go_ret
 exact⟨rfl,rfl⟩
theorem sendAgain_calls(rp:Option Addr)(i:Int)(w:World):Calls Tryz.prog 89 #[.pointer rp,.int .i64 i] w fun e w'=>e= .returned (.func (.func 151) #[] #[.pointer (some ⟨w.heap.size,0,none⟩),.pointer (some ⟨w.heap.size+1,0,none⟩)])/\w'=held2 w rp i:=by
 go_enter Tryz.func89,Tryz.ntmps89
 go_wp2_with fail
 go_ret
 exact⟨rfl,rfl⟩
abbrev stepH(f:Nat)(W:World):StepV:=(f,#[],#[.pointer (some ⟨W.heap.size,0,none⟩),.pointer (some ⟨W.heap.size+1,0,none⟩)])
abbrev stepW(f:Nat)(W:World):StepV:=(f,#[],#[.pointer (some ⟨W.heap.size+1,0,none⟩),.pointer (some ⟨W.heap.size,0,none⟩)])
set_option maxHeartbeats 2000000 in
set_option maxRecDepth 100000 in
theorem drop_opens(rp:Option Addr)(i:Int)(w:World)(R:Ending->World->Prop)
  (h:∀W1 W2 W3,held2 w rp i=W1->held2 W1 rp i=W2->W2.alloc (Obj.cells (([stepH 154 w]++ [stepH 178 W1]).map stepVal).toArray 94)=W3->Calls Tryz.prog 42 #[.pointer rp,.slice (some ⟨W2.heap.size,0,none⟩) 2 2] W3 fun e w'=>(∃r,e= .returned (.int .i64 r))/\R e w') :
  Calls Tryz.prog 58 #[.pointer rp,.int .i64 i] w R:=by
 obtain⟨W1,h1⟩:∃W1,held2 w rp i=W1:=⟨_,rfl⟩
 obtain⟨W2,h2⟩:∃W2,held2 W1 rp i=W2:=⟨_,rfl⟩
 obtain⟨W3,h3⟩:∃W3,W2.alloc (Obj.cells (([stepH 154 w]++ [stepH 178 W1]).map stepVal).toArray 94)=W3:=⟨_,rfl⟩
 have HC:=hid_of (h W1 W2 W3 h1 h2 h3)
 have H1:=hid_of h1
 have H2:=hid_of h2
 have H3:=hid_of h3
 clear h h1 h2 h3
 go_enter Tryz.func58,Tryz.ntmps58
 go_wp2_with (first
  |(go_at_call 90;refine(isMessage_calls rp i w).mono ?_;rintro e a1 ⟨rfl,hq⟩;obtain rfl:W1=a1:=H1.out.symm.trans hq.symm;clear hq)
  |(go_at_call 123;refine(dropMk_calls rp i W1).mono ?_;rintro e a1 ⟨rfl,hq⟩;obtain rfl:W2=a1:=H2.out.symm.trans hq.symm;clear hq)
  |(go_at_call 42;refine Calls.at_world H3.out ?_;refine HC.out.mono ?_;rintro e a7 ⟨⟨r,rfl⟩,hr⟩))
 exact hr
set_option maxHeartbeats 2000000 in
set_option maxRecDepth 100000 in
theorem twice_opens(rp:Option Addr)(i:Int)(w:World)(R:Ending->World->Prop)
  (h:∀W1 W2 W3,held2 w rp i=W1->held2 W1 rp i=W2->W2.alloc (Obj.cells (([stepH 154 w]++ [stepH 179 W1]).map stepVal).toArray 94)=W3->Calls Tryz.prog 42 #[.pointer rp,.slice (some ⟨W2.heap.size,0,none⟩) 2 2] W3 fun e w'=>(∃r,e= .returned (.int .i64 r))/\R e w') :
  Calls Tryz.prog 59 #[.pointer rp,.int .i64 i] w R:=by
 obtain⟨W1,h1⟩:∃W1,held2 w rp i=W1:=⟨_,rfl⟩
 obtain⟨W2,h2⟩:∃W2,held2 W1 rp i=W2:=⟨_,rfl⟩
 obtain⟨W3,h3⟩:∃W3,W2.alloc (Obj.cells (([stepH 154 w]++ [stepH 179 W1]).map stepVal).toArray 94)=W3:=⟨_,rfl⟩
 have HC:=hid_of (h W1 W2 W3 h1 h2 h3)
 have H1:=hid_of h1
 have H2:=hid_of h2
 have H3:=hid_of h3
 clear h h1 h2 h3
 go_enter Tryz.func59,Tryz.ntmps59
 go_wp2_with (first
  |(go_at_call 90;refine(isMessage_calls rp i w).mono ?_;rintro e a1 ⟨rfl,hq⟩;obtain rfl:W1=a1:=H1.out.symm.trans hq.symm;clear hq)
  |(go_at_call 124;refine(double_calls rp i W1).mono ?_;rintro e a1 ⟨rfl,hq⟩;obtain rfl:W2=a1:=H2.out.symm.trans hq.symm;clear hq)
  |(go_at_call 42;refine Calls.at_world H3.out ?_;refine HC.out.mono ?_;rintro e a7 ⟨⟨r,rfl⟩,hr⟩))
 exact hr
set_option maxHeartbeats 2000000 in
set_option maxRecDepth 100000 in
theorem tick_opens(rp:Option Addr)(i:Int)(w:World)(R:Ending->World->Prop)
  (h:∀W1 W2 W3,held2 w rp i=W1->held2 W1 rp i=W2->W2.alloc (Obj.cells (([stepW 110 w]++ [stepH 151 W1]).map stepVal).toArray 94)=W3->Calls Tryz.prog 42 #[.pointer rp,.slice (some ⟨W2.heap.size,0,none⟩) 2 2] W3 fun e w'=>(∃r,e= .returned (.int .i64 r))/\R e w') :
  Calls Tryz.prog 40 #[.pointer rp,.int .i64 i] w R:=by
 obtain⟨W1,h1⟩:∃W1,held2 w rp i=W1:=⟨_,rfl⟩
 obtain⟨W2,h2⟩:∃W2,held2 W1 rp i=W2:=⟨_,rfl⟩
 obtain⟨W3,h3⟩:∃W3,W2.alloc (Obj.cells (([stepW 110 w]++ [stepH 151 W1]).map stepVal).toArray 94)=W3:=⟨_,rfl⟩
 have HC:=hid_of (h W1 W2 W3 h1 h2 h3)
 have H1:=hid_of h1
 have H2:=hid_of h2
 have H3:=hid_of h3
 clear h h1 h2 h3
 go_enter Tryz.func40,Tryz.ntmps40
 go_wp2_with (first
  |(go_at_call 51;refine(isWorker_calls rp i w).mono ?_;rintro e a1 ⟨rfl,hq⟩;obtain rfl:W1=a1:=H1.out.symm.trans hq.symm;clear hq)
  |(go_at_call 89;refine(sendAgain_calls rp i W1).mono ?_;rintro e a1 ⟨rfl,hq⟩;obtain rfl:W2=a1:=H2.out.symm.trans hq.symm;clear hq)
  |(go_at_call 42;refine Calls.at_world H3.out ?_;refine HC.out.mono ?_;rintro e a7 ⟨⟨r,rfl⟩,hr⟩))
 exact hr
theorem messageE_run{s:RunS}(hd:s.done=false)(ho:s.over=false)(t:Int):messageE s t=if t < 0\/(s.way.length:Int)<=t then 10 else 0:=by
 have:startE s=0:=by simp[startE,hd,ho]
 unfold messageE
 rw[this]
 by_cases h:t < 0\/(s.way.length:Int)<=t
 ·rw[if_pos ⟨rfl,h⟩,if_pos h]
 ·rw[if_neg (fun h'=>h h'.2),if_neg h]
theorem messageE_halt{s:RunS}(h:startE s≠0)(t:Int):messageE s t=startE s:=if_neg (fun h'=>h h'.1)
theorem x_drop_calls(F:Nat->Prop)(B:Nat)(s:RunS)(i:Int)(w:World)(hx:XOK F w B s)(hs:Shaped s) :
  Calls Tryz.prog 58 #[.pointer (some ⟨B,0,none⟩),.int .i64 i] w (XGives F w B (dropS s i)):=by
 refine drop_opens (some ⟨B,0,none⟩) i w _ (fun W1 W2 W3 h1 h2 h3=> ?_)
 have g1:=held2_below w (some ⟨B,0,none⟩) i
 have g2:=held2_below W1 (some ⟨B,0,none⟩) i
 have a1:=held2_at w B i
 have a2:=held2_at W1 B i
 rw[h1]at g1 a1
 rw[h2]at g2 a2
 have g3:Below W2.heap.size W2 W3:=by rw[<-h3];exact(Below.refl _ _).alloc (Nat.le_refl _) _
 have bL:BoxAt W3 W2.heap.size 94 (([stepH 154 w]++ [stepH 178 W1]).map stepVal).toArray:=by rw[<-h3];exact BoxAt.new W2 _ _
 have z1:=g1.size
 have z2:=g2.size
 have k2:Below W1.heap.size W1 W3:=g2.trans (g3.mono z2)
 have hb:Below w.heap.size w W3:=g1.trans (k2.mono z1)
 have c1:=a1.below k2
 have c2:=a2.below g3
 clear a1 a2 h1 h2 h3 g1 g2 k2
 have hlow:=hx.low
 refine(change_tests F B W2.heap.size s W3 (hx.later hb) [stepH 154 w] [if i < 0\/(s.way.length:Int)<=i then 10 else 0] (stepH 178 W1) (dropS s i) w hb hx (by simp) (by simp) 94 bL ?over ?enter ?test ?bad ?last).mono (fun e w' h=>⟨⟨_,h.1⟩,h⟩)
 case over=>
  intro ho
  simp[dropS,messageE_halt ho,ho]
 case enter=>
  intro f hf' args W
  simp at hf'
  rcases hf' with rfl|rfl
  ·exact enters_of Tryz.func154 (by kernel_rfl) rfl args W
  ·exact enters_of Tryz.func178 (by kernel_rfl) rfl args W
 case test=>
  intro hd ho j f e hj he hp W hW
  match j,hj,he with
  |0,hj,he=>cases hj;cases he;exact isMessage1_calls F B _ _ s i W ((hx.later hb).later hW) (c1.below hW)
  |(n+1),hj,he=>simp at hj
 case bad=>
  intro hd ho j e he hne hp
  have wi:=messageE_run hd ho i
  match j,he with
  |0,he=>cases he;simp only[dropS,wi,if_pos hne]
  |(n+1),he=>simp at he
 case last=>
  intro hd ho hp W hW
  have p0:=hp 0 _ (by simp) rfl
  have wi:=messageE_run hd ho i
  rw[p0]at wi
  obtain⟨q0,q1⟩:=messageE_in wi
  obtain⟨k,rfl⟩:=Int.eq_ofNat_of_zero_le q0
  obtain⟨m,hm⟩:∃m,s.way[k]?= some m:=⟨_,List.getElem?_eq_getElem (by omega)⟩
  have hres:dropS s (k:Int)=({s with way:=s.way.take k++s.way.drop (k+1)},0):=by simp[dropS,wi]
  rw[hres]
  have hbW:Below w.heap.size w W:=hb.trans (hW.mono hb.size)
  exact drop1_calls _ B _ _ k m s W (hlow.later hbW) hm (by have:=hs.way;omega) (c2.below hW)
theorem x_twice_calls(F:Nat->Prop)(B:Nat)(s:RunS)(i:Int)(w:World)(hx:XOK F w B s)(hs:Shaped s) :
  Calls Tryz.prog 59 #[.pointer (some ⟨B,0,none⟩),.int .i64 i] w (XGives F w B (twiceS s i)):=by
 refine twice_opens (some ⟨B,0,none⟩) i w _ (fun W1 W2 W3 h1 h2 h3=> ?_)
 have g1:=held2_below w (some ⟨B,0,none⟩) i
 have g2:=held2_below W1 (some ⟨B,0,none⟩) i
 have a1:=held2_at w B i
 have a2:=held2_at W1 B i
 rw[h1]at g1 a1
 rw[h2]at g2 a2
 have g3:Below W2.heap.size W2 W3:=by rw[<-h3];exact(Below.refl _ _).alloc (Nat.le_refl _) _
 have bL:BoxAt W3 W2.heap.size 94 (([stepH 154 w]++ [stepH 179 W1]).map stepVal).toArray:=by rw[<-h3];exact BoxAt.new W2 _ _
 have z1:=g1.size
 have z2:=g2.size
 have k2:Below W1.heap.size W1 W3:=g2.trans (g3.mono z2)
 have hb:Below w.heap.size w W3:=g1.trans (k2.mono z1)
 have c1:=a1.below k2
 have c2:=a2.below g3
 clear a1 a2 h1 h2 h3 g1 g2 k2
 have hlow:=hx.low
 refine(change_tests F B W2.heap.size s W3 (hx.later hb) [stepH 154 w] [if i < 0\/(s.way.length:Int)<=i then 10 else 0] (stepH 179 W1) (twiceS s i) w hb hx (by simp) (by simp) 94 bL ?over ?enter ?test ?bad ?last).mono (fun e w' h=>⟨⟨_,h.1⟩,h⟩)
 case over=>
  intro ho
  simp[twiceS,messageE_halt ho,ho]
 case enter=>
  intro f hf' args W
  simp at hf'
  rcases hf' with rfl|rfl
  ·exact enters_of Tryz.func154 (by kernel_rfl) rfl args W
  ·exact enters_of Tryz.func179 (by kernel_rfl) rfl args W
 case test=>
  intro hd ho j f e hj he hp W hW
  match j,hj,he with
  |0,hj,he=>cases hj;cases he;exact isMessage1_calls F B _ _ s i W ((hx.later hb).later hW) (c1.below hW)
  |(n+1),hj,he=>simp at hj
 case bad=>
  intro hd ho j e he hne hp
  have wi:=messageE_run hd ho i
  match j,he with
  |0,he=>cases he;simp only[twiceS,wi,if_pos hne]
  |(n+1),he=>simp at he
 case last=>
  intro hd ho hp W hW
  have p0:=hp 0 _ (by simp) rfl
  have wi:=messageE_run hd ho i
  rw[p0]at wi
  obtain⟨q0,q1⟩:=messageE_in wi
  obtain⟨k,rfl⟩:=Int.eq_ofNat_of_zero_le q0
  obtain⟨m,hm⟩:∃m,s.way[k]?= some m:=⟨_,List.getElem?_eq_getElem (by omega)⟩
  have hres:twiceS s (k:Int)=(wayS s m,0):=by simp[twiceS,wi,hm]
  rw[hres]
  have hbW:Below w.heap.size w W:=hb.trans (hW.mono hb.size)
  exact double1_calls _ B _ _ k m s W (hlow.later hbW) hm (by have:=hs.way;omega) (c2.below hW)
attribute [local go_sem] Oper.semAt_some
set_option maxHeartbeats 8000000 in
set_option maxRecDepth 100000 in
theorem sendAgain1_calls(F:Nat->Prop)(B Br Bw k:Nat)(s:RunS)(ls:List LinkS)(w:World)(hx:XOK F w B s)(hls:s.links[k]?= some ls)(hkn:∀l∈ls,0<=l.known)(hall:∀l∈ls,l.all.length<=100000000)(hy:s.way.length<=60)(hh:HeldAt w Br Bw B k)(hF:¬F Br/\¬F Bw) :
  Calls Tryz.prog 151 #[.pointer (some ⟨Br,0,none⟩),.pointer (some ⟨Bw,0,none⟩)] w (XGives F w B (ls.foldl againS s,0)):=by
 obtain⟨part,hpF,kv,wv,yv,M,xs,h⟩:=hx
 have hkl:k < xs.length:=by have:=(List.getElem?_eq_some_iff.1 hls).1;have:=h.llen;have:=h.wlen;omega
 obtain⟨gw,wc,hwf,-,hgw⟩:=World.ownsRow.form h.wrow.1 (by omega)
 subst hwf
 have b3:w.cell? ⟨B,4,none⟩=some (.slice (some ⟨gw,0,none⟩) xs.length wc):=h.box.cell (o:=4) rfl
 have r0:=hh.1.cell (o:=0) rfl
 have i0:=hh.2.cell (o:=0) rfl
 have j1:(0:Int)<=(k:Int):=by omega
 have j2:(k:Int) < (xs.length:Int):=by omega
 have hrl:=hh.1.lt
 have hwl:=hh.2.lt
 have pr:part Br=0:=by
  rcases Nat.eq_zero_or_pos (part Br)with h|h
  ·exact h
  ·exact absurd (hpF Br (by omega)) hF.1
 have pw:part Bw=0:=by
  rcases Nat.eq_zero_or_pos (part Bw)with h|h
  ·exact h
  ·exact absurd (hpF Bw (by omega)) hF.2
 have HH:=hid_of h
 have HHE:=hid_of hh
 clear h hh
 refine(callsIn_wide (n:=6)).1 ?_
 refine callsIn_of_wp_marks Tryz.func151 rfl trivial ?_ rfl
 simp only[Tryz.ntmps151,List.size_toArray,List.length_cons,List.length_nil,Nat.reduceAdd,Nat.reduceSub,Array.replicate_succ,Array.replicate_zero,List.push_toArray,List.append_toArray,List.nil_append,List.cons_append]
 gi_wp2
 refine wpIn_wide.2 ?_
 go_still_tail 6,(by kernel_rfl)
 go_wp2_with (go_at_call 152;refine(again_calls gw (k*8) _).mono ?_;rintro e w1 ⟨rfl,hw1⟩;have HW1:=hid_of hw1;clear hw1)
 refine wpIn_block ?_
 refine range_lawG (n:=6) rfl (enters_of Tryz.func183 (by kernel_rfl) rfl) (fun rec hyield=> ?_)
 have bq:BoxAt w1 w.heap.size 213 #[.pointer (some ⟨gw,k*8,none⟩)]:=by rw[HW1.out];exact BoxAt.new w.drew _ _
 have g1:Below w.heap.size w w1:=by rw[HW1.out];exact((Below.refl _ _).drew).alloc (by simp) _
 have s1:w1.heap.size=w.heap.size+1:=by rw[HW1.out];simp
 obtain⟨V,hV⟩:∃V,(w1.alloc (.deferred (some []))).alloc (.loop (rec .ready none))=V:=⟨_,rfl⟩
 have gV:Below w1.heap.size w1 V:=by rw[<-hV];exact((Below.refl _ _).alloc (Nat.le_refl _) _).alloc (by simp) _
 have sV:V.heap.size=w1.heap.size+2:=by rw[<-hV];simp
 have lV:V.heap[w1.heap.size+1]?= some (.loop (rec .ready none)):=by
  have h:=World.alloc_heap_new (w1.alloc (.deferred (some []))) (.loop (rec .ready none))
  rw[World.size_alloc]at h;rw[<-hV];exact h
 have dV:V.heap[w1.heap.size]?= some (.deferred (some [])):=by
  rw[<-hV];exact(Below.heap_alloc _ _ _ (by simp)).trans (World.alloc_heap_new w1 _)
 rw[hV]
 obtain⟨D,hD⟩:∃D,w1.heap.size=D:=⟨_,rfl⟩
 rw[hD]at hyield lV dV gV sV s1 ⊢
 have gwV:Below w.heap.size w V:=g1.trans (gV.mono (by omega))
 obtain⟨hV0,hmV⟩:=HH.out.later gwV
 have bqV:=bq.below (by rw[hD];exact gV) bq.lt
 have rV:=HHE.out.1.below gwV hrl
 have iV:=HHE.out.2.below gwV hwl
 refine(again1_calls (6 - 1) (D+1) k w.heap.size (ext w part 0) V B M s kv yv gw wc xs ls (fun b=>b=D\/b=D+1\/b=w.heap.size\/b=Br)
  (fun A=>A.heap[D+1]?= some (.loop (rec .ready none))/\A.heap[D]?= some (.deferred (some []))/\BoxAt A Br 36 #[.pointer (some ⟨B,0,none⟩)])
  hV0 hls hkl hkn hall hy (fun b hb=>by
   rcases hb with rfl|rfl|rfl|rfl
   ·exact⟨by omega,ext_new (by omega)⟩
   ·exact⟨by omega,ext_new (by omega)⟩
   ·exact⟨by omega,ext_new (by omega)⟩
   ·exact⟨by have:=gwV.size;omega,(ext_old hrl).trans pr⟩)
  (fun A A' h hk=>⟨hk.heap h.1 (fun h=>h (by omega)),hk.heap h.2.1 (fun h=>h (by omega)),h.2.2.kept hk (fun h=>h (by omega))⟩)
  ⟨lV,dV,rV⟩ bqV (by omega) ?yields (by omega)).mono ?_
 case yields=>
  rintro s' part' yv' m W1 h1 hm1 ⟨hl1,hd1,hr1⟩ hw60
  have key:∀R:Ending->World->Prop,(∀V2 part2 yv2,V2.heap[D+1]?= some (.loop (rec .busy none))->V2.heap[D]?= some (.deferred (some []))->BoxAt V2 Br 36 #[.pointer (some ⟨B,0,none⟩)]->XAtO part2 V2 B (wayS s' m) kv (.slice (some ⟨gw,0,none⟩) xs.length wc) yv2 M xs->Kept (fun b=>ext w part 0 b≠0\/b=D+1) V V2->(∀b,b < V.heap.size->part2 b≠0->ext w part 0 b≠0)->(∀b,b < V.heap.size->200<=ext w part 0 b->part2 b=ext w part 0 b/\V2.heap[b]?= V.heap[b]?)->Kept (fun b=>(b=D\/b=D+1\/b=w.heap.size\/b=Br)->b=D+1) W1 V2->R (.returned (.bool true)) (V2.putObj (D+1) (.loop (rec .ready none))))->YieldAt Fence.wide (6 - 1 - 1) Tryz.prog (D+1) #[msgV m] W1 R:=fun R hR=>by
   have HRR:=hid_of hR
   have HX1:=hid_of h1
   have HM1:=hid_of hm1
   have HL1:=hid_of hl1
   have HD1:=hid_of hd1
   have HR1:=hid_of hr1
   have HPZ:Hid (∀b,b=D\/b=D+1\/b=w.heap.size\/b=Br->part' b=0):=fun b hb=>by
    rcases Nat.eq_zero_or_pos (part' b)with h|h
    ·exact h
    ·have h2:b < V.heap.size:=by have:=gwV.size;rcases hb with rfl|rfl|rfl|rfl<;>omega
     have h3:=hm1.old b h2 (by omega)
     rcases hb with rfl|rfl|rfl|rfl
     ·exact absurd (ext_new (by omega)) h3
     ·exact absurd (ext_new (by omega)) h3
     ·exact absurd (ext_new (by omega)) h3
     ·exact absurd ((ext_old hrl).trans pr) h3
   refine hyield _ _ W1 _ hl1 rfl (fun K hK=> ?_)
   have hWl:D+1 < W1.heap.size:=(Array.getElem?_eq_some_iff.1 hl1).1
   clear hl1 hd1 hr1 h1 hm1 hyield lV dV rV iV bqV bq hV0 hmV hR hls hkn hall hy hkl hpF hF b3 r0 i0 j1 j2
   gi_wp2
   obtain⟨U,hU⟩:∃U,W1.alloc (Obj.cells (msgCells m) 124)=U:=⟨_,rfl⟩
   have gU:Below W1.heap.size W1 U:=by rw[<-hU];exact(Below.refl _ _).alloc (Nat.le_refl _) _
   have bU:BoxAt U W1.heap.size 124 (msgCells m):=by rw[<-hU];exact BoxAt.new W1 _ _
   rw[show W1.alloc (Obj.cells (msgCells m) 124)=U from hU]
   have lU:=(gU.block (D+1) hWl).trans HL1.out
   refine hK _ _ lU ?_
   clear hK K hU
   obtain⟨T,hT⟩:∃T,U.putObj (D+1) (.loop (rec .busy none))=T:=⟨_,rfl⟩
   have hDl:=(Array.getElem?_eq_some_iff.1 lU).1
   have kT:Kept (·= D+1) U T:=by rw[<-hT];exact Kept.putObj _ _ _ rfl
   have lT:T.heap[D+1]?= some (.loop (rec .busy none)):=by rw[<-hT];exact World.putObj_heap_same hDl
   have kWT:Kept (·= D+1) W1 T:=(Kept.of_below gU (fun b h1 h2=>absurd h1 (by omega))).trans kT
   have bT:=bU.kept kT (by omega)
   have rT:=HR1.out.kept kWT (by have:=HPZ.out Br (by omega);omega)
   have dT:=kWT.heap HD1.out (by omega)
   have hXT:XAtO (ext W1 part' 0) T B s' kv (.slice (some ⟨gw,0,none⟩) xs.length wc) yv' M xs:=HX1.out.aside kWT (fun g _ e=>HPZ.out g (by omega))
   rw[hT]
   have hVT:Kept (fun b=>ext w part 0 b≠0\/b=D+1) V T:=(HM1.out.kept.mono (fun _ _ h=> .inl h)).trans (kWT.mono (fun _ _ h=> .inr h))
   have HPUT:Hid (∀(U9:World) (bb:Nat),U9=T.drew.alloc (Obj.cells (msgCells m) 124)->bb=T.heap.size->Calls Tryz.prog 153 #[.pointer (some ⟨B,5,none⟩),.slice (some ⟨bb,0,none⟩) 1 1] U9 fun e w'=>∃v,e= .returned v/\(v= .tuple #[]/\R (.returned (.bool true)) (w'.putObj (D+1) (.loop (rec .ready none)))/\w'.heap[D+1]?= some (.loop (rec .busy none)))):=fun U9 bb hU9 hbb=>by
    subst hU9 hbb
    obtain⟨h9,hm9⟩:=hXT.later (((Below.refl T.heap.size T).drew).alloc (by simp) (Obj.cells (msgCells m) 124))
    refine(put_x m T.heap.size h9 (by omega) (BoxAt.new T.drew _ _)).mono ?_
    rintro e w' ⟨v,rfl,rfl,part5,yv5,h5,hm5,-⟩
    have hm95:=hm9.trans hm5
    have p0:∀b,b < W1.heap.size->part' b=0->ext W1 part' 0 b=0:=fun b hb h=>(ext_old hb).trans h
    have lF:w'.heap[D+1]?= some (.loop (rec .busy none)):=hm95.kept.heap lT (by rw[p0 _ hWl (HPZ.out _ (by omega))];simp)
    have hW1T:=kWT.size
    have hrW:=(HR1.out).lt
    have hVW:=HM1.out.kept.size
    refine⟨_,rfl,rfl,HRR.out w' part5 yv5 lF ?_ ?_ h5 ?_ ?_ ?_ ?_,lF⟩
    ·exact hm95.kept.heap dT (by rw[p0 D (by omega) (HPZ.out D (by omega))];simp)
    ·exact rT.kept hm95.kept (by rw[p0 Br hrW (HPZ.out Br (by omega))];simp)
    ·refine hVT.andThen hm95.kept (fun b hb h=> ?_)
     have h1:ext W1 part' 0 b=part' b:=ext_old (by omega)
     exact .inl (HM1.out.old b hb (by rw[<-h1];exact h))
    ·intro b hb h
     have h2:=hm95.old b (by omega) h
     have h1:ext W1 part' 0 b=part' b:=ext_old (by omega)
     exact HM1.out.old b hb (by rw[<-h1];exact h2)
    ·intro b hb h
     obtain⟨e1,e2⟩:=HM1.out.ends b hb h
     have hbW:b < W1.heap.size:=by omega
     have h1:ext W1 part' 0 b=part' b:=ext_old hbW
     have hbD:b≠D+1:=fun e=>by
      have:=HPZ.out b (.inr (.inl e))
      omega
     obtain⟨e3,e4⟩:=hm95.ends b (by omega) (by omega)
     exact⟨by omega,e4.trans ((kWT.block b hbW hbD).trans e2)⟩
    ·refine(kWT.mono (Y:=fun b=>(b=D\/b=D+1\/b=w.heap.size\/b=Br)->b=D+1) (fun b _ e _=>e)).andThen hm95.kept (fun b hb h hz=> ?_)
     exact absurd ((ext_old hb).trans (HPZ.out b hz)) h
   have q0:=rT.cell (o:=0) rfl
   have hrT:=rT.lt
   have hrT':Br≠T.heap.size:=by omega
   have q1:∀o,(T.drew.alloc o).cell? ⟨Br,0,none⟩=some (.pointer (some ⟨B,0,none⟩)):=fun o=>cell_alloc (w:=T.drew) o q0
   obtain⟨Bx,hBx⟩:∃Bx,W1.heap.size=Bx:=⟨_,rfl⟩
   rw[hBx]at bT ⊢
   obtain⟨m0,m1,m2,m3,m4,m5,m6,m7,m8,m9,m10,m11,m12,m13,m14⟩:=cells15 bT
   have hfP:Fence.wide.fn 153:=trivial
   clear bT rT dT lT kT kWT hXT hVT hT bU lU gU hDl HX1 HM1 HL1 HD1 HR1 HPZ HRR hWl hBx gwV gV g1 sV s1 hD hV hrl hwl pr pw HH HHE HW1
   gi_wp2
   gi_region_with (first
    |((try refine⟨fun h=>(by cases h),?_⟩);gi_at_call 153;refine(CallsIn.inRound (D+1) (callsIn_wide.2 (HPUT.out _ _ rfl rfl))).mono ?_;rintro e w9 ⟨v9,rfl,rfl,hres9,hl9⟩))
   all_goals
    gi_wp2
    exact⟨hl9,hres9⟩
  refine key _ (fun V2 part2 yv2 h2 h3 h4 h5 h6 h6' h6e h7=> ?_)
  have hV2:=(Array.getElem?_eq_some_iff.1 h2).1
  have kP:Kept (·= D+1) V2 (V2.putObj (D+1) (.loop (rec .ready none))):=Kept.putObj _ _ _ rfl
  have pD:part2 (D+1)=0:=by
   rcases Nat.eq_zero_or_pos (part2 (D+1))with h|h
   ·exact h
   ·exact absurd (ext_new (by omega)) (h6' (D+1) (by omega) (by omega))
  have lP:(V2.putObj (D+1) (.loop (rec .ready none))).heap[D+1]?= some (.loop (rec .ready none)):=World.putObj_heap_same hV2
  refine⟨rfl,ext V2 part2 0,yv2,h5.aside kP (fun g _ e=>by rw[e];exact pD),⟨⟨kP.os.trans h6.os,kP.tape.trans h6.tape,kP.output.trans h6.output,Nat.le_trans h6.size kP.size,fun b hb hne=> ?_⟩,fun b hb h=> ?_,fun b hb h=> ?_⟩,h7.trans (kP.mono (fun b _ e _=>e)),lP,kP.heap h3 (by omega),h4.kept kP (by have h8:Br < w.heap.size:=hrl;omega)⟩
  ·by_cases e:b=D+1
   ·rw[e,lP];exact lV.symm
   ·exact(kP.block b (Nat.lt_of_lt_of_le hb h6.size) e).trans (h6.block b hb (fun h=>by rcases h with h|h;exact hne h;exact e h))
  ·have h1:ext V2 part2 0 b=part2 b:=ext_old (Nat.lt_of_lt_of_le hb h6.size)
   exact h6' b hb (by rw[<-h1];exact h)
  ·obtain⟨e1,e2⟩:=h6e b hb h
   have hb2:b < V2.heap.size:=Nat.lt_of_lt_of_le hb h6.size
   exact⟨(ext_old hb2).trans e1,(kP.block b hb2 (fun e=>by rw[e]at e1 h;omega)).trans e2⟩
 ·rintro e W' ⟨⟨v,rfl⟩,⟨part2,yv2,h5,hm5⟩,hl1,hd1,hr1⟩
  refine⟨⟨_,rfl⟩,.inl ⟨hl1,?_⟩⟩
  have k8:Kept (·= D+1) W' (W'.putObj (D+1) (.loop (rec .exhausted none))):=Kept.putObj _ _ _ rfl
  have hd8:=k8.heap hd1 (by omega)
  have k9:Kept (·= D) (W'.putObj (D+1) (.loop (rec .exhausted none))) ((W'.putObj (D+1) (.loop (rec .exhausted none))).putObj D (.deferred none)):=Kept.putObj _ _ _ rfl
  have kk:Kept (fun b=>b=D\/b=D+1) W' ((W'.putObj (D+1) (.loop (rec .exhausted none))).putObj D (.deferred none)):=(k8.mono (fun _ _ h=> .inr h)).trans (k9.mono (fun _ _ h=> .inl h))
  have pz:∀b,b=D\/b=D+1->part2 b=0:=fun b hb=>by
   rcases Nat.eq_zero_or_pos (part2 b)with h|h
   ·exact h
   ·exact absurd (ext_new (by omega)) (hm5.old b (by omega) (by omega))
  have h6:=h5.aside kk (fun g _ e=>pz g e)
  have hWV:=hm5.kept.size
  have hmv:=hmV.trans hm5
  have hres:XGives F w B (ls.foldl againS s,0) (.returned (.int .i64 0)) ((W'.putObj (D+1) (.loop (rec .exhausted none))).putObj D (.deferred none)):=by
   refine⟨rfl,⟨_,fun b hb=> ?_,kv,_,yv2,M,xs,h6⟩,(hmv.kept.mono (fun b _ h=>hpF b h)).andThen kk (fun b hb h=>by omega)⟩
   rcases Nat.lt_or_ge b w.heap.size with hl|hl
   ·refine .inl (hpF b (hmv.old b hl ?_))
    have h1:ext W' part2 0 b=part2 b:=ext_old (by have:=gwV.size;omega)
    rw[<-h1];exact hb
   ·exact .inr hl
  have HRES:=hid_of hres
  generalize W'.putObj (D+1) (.loop (rec .exhausted none))=W8 at hd8 HRES ⊢
  rename_i hcont
  refine hcont _ _ ?_
  clear hcont h5 hm5 hl1 hd1 hr1 k8 k9 kk pz h6 hmv hres hyield lV dV rV iV bqV bq hV0 hmV s1 sV hD gV gwV hWV
  gi_wp2
  refine⟨by simp,.inl ⟨_,_,rfl,run_takeDeferred hd8,?_⟩⟩
  exact⟨.int .i64 0,by simp[results,Tryz.f151,go_sem],HRES.out⟩
end Go.Proofs.YtfanaanofjhlkaaGreatDoor
namespace Go.Proofs.YtfanaanofjhlkaaGreatDoor
open Go Go.RowKit
abbrev one1(W:World)(i:Int):World:=W.alloc (Obj.cells #[.int .i64 i] 3)
theorem one1_below(W:World)(i:Int):Below W.heap.size W (one1 W i):=(Below.refl _ _).alloc (Nat.le_refl _) _
theorem isPasser_calls(i:Int)(w:World):Calls Tryz.prog 86 #[.int .i64 i] w fun e w'=>e= .returned (.func (.func 146) #[] #[.pointer (some ⟨w.heap.size,0,none⟩)])/\w'=one1 w i:=by
 go_enter Tryz.func86,Tryz.ntmps86
 go_wp2_with fail
 go_ret
 exact⟨rfl,rfl⟩
theorem hasToken_calls(rp:Option Addr)(i:Int)(w:World):Calls Tryz.prog 87 #[.pointer rp,.int .i64 i] w fun e w'=>e= .returned (.func (.func 147) #[] #[.pointer (some ⟨w.heap.size,0,none⟩),.pointer (some ⟨w.heap.size+1,0,none⟩)])/\w'=held2 w rp i:=by
 go_enter Tryz.func87,Tryz.ntmps87
 go_wp2_with fail
 go_ret
 exact⟨rfl,rfl⟩
theorem passToken_calls(rp:Option Addr)(i:Int)(w:World):Calls Tryz.prog 88 #[.pointer rp,.int .i64 i] w fun e w'=>e= .returned (.func (.func 148) #[] #[.pointer (some ⟨w.heap.size,0,none⟩),.pointer (some ⟨w.heap.size+1,0,none⟩)])/\w'=held2 w rp i:=by
 go_enter Tryz.func88,Tryz.ntmps88
 go_wp2_with fail
 go_ret
 exact⟨rfl,rfl⟩
theorem isPasser1_calls(Bw:Nat)(i:Int)(w:World)(h:BoxAt w Bw 3 #[.int .i64 i]):Calls Tryz.prog 146 #[.pointer (some ⟨Bw,0,none⟩)] w fun e w'=>e= .returned (.int .i64 (if i=0 then 9 else 0))/\Below w.heap.size w w':=by
 have a0:=h.cell (o:=0) rfl
 clear h
 obtain⟨res,hres⟩:∃res:Int,(if i=0 then(9:Int)else 0)=res:=⟨_,rfl⟩
 rw[hres]
 by_cases hi:i=0
 ·obtain rfl:(9:Int)=res:=by rw[<-hres,if_pos hi]
  have he:(i==0)=true:=by simp[hi]
  clear hi hres
  go_enter Tryz.func146,Tryz.ntmps146
  go_wp2_with fail
  go_ret
  exact⟨rfl,Below.refl _ _⟩
 ·obtain rfl:(0:Int)=res:=by rw[<-hres,if_neg hi]
  have he:(i==0)=false:=by rw[beq_eq_false_iff_ne];exact hi
  clear hi hres
  go_enter Tryz.func146,Tryz.ntmps146
  go_wp2_with fail
  go_ret
  exact⟨rfl,Below.refl _ _⟩
set_option maxHeartbeats 1000000 in
set_option maxRecDepth 100000 in
theorem hasToken1_calls(F:Nat->Prop)(B Br Bw k:Nat)(s:RunS)(x:WorkerS)(w:World)(hx:XOK F w B s)(hk:s.W[k]?= some x)(hh:HeldAt w Br Bw B k) :
  Calls Tryz.prog 147 #[.pointer (some ⟨Br,0,none⟩),.pointer (some ⟨Bw,0,none⟩)] w fun e w'=>e= .returned (.int .i64 (if s.mode=1/\x.has=true then 0 else 9))/\Below w.heap.size w w':=by
 obtain⟨part,kv,yv,g,c,M,T,xs,y,-,h,hy,-,ht,hc,hkl⟩:=x_worker hx hk
 have b3:w.cell? ⟨B,4,none⟩=some (.slice (some ⟨g,0,none⟩) xs.length c):=h.box.cell (o:=4) rfl
 have htk:=h.tat k y x hy hk
 have a7:=h.xcell hy 7 _ rfl
 have r0:=hh.1.cell (o:=0) rfl
 have i0:=hh.2.cell (o:=0) rfl
 have j1:(0:Int)<=(k:Int):=by omega
 have j2:(k:Int) < (xs.length:Int):=by omega
 obtain⟨res,hres⟩:∃res:Int,(if s.mode=1/\x.has=true then(0:Int)else 9)=res:=⟨_,rfl⟩
 rw[hres]
 cases hq:y.tok with
 |none=>
  rw[hq]at htk a7
  obtain rfl:(9:Int)=res:=by rw[<-hres,if_neg];intro q;have:=htk q.1;rw[q.2]at this;cases this
  have a7':w.cell? ⟨g,k*8+7,none⟩=some (.pointer none):=a7
  clear hh ht h hc htk a7 hres hq
  go_enter Tryz.func147,Tryz.ntmps147
  go_upto_region 1 with fail
  go_quiet (fail)
  go_wp2_with fail
  go_ret
  exact⟨rfl,below_drewN (Below.refl _ _) _⟩
 |some q=>
  rw[hq]at htk a7
  obtain rfl:(0:Int)=res:=by rw[<-hres,if_pos ⟨htk.1.2,htk.1.1⟩]
  have a7':w.cell? ⟨g,k*8+7,none⟩=some (.pointer (some ⟨q,0,none⟩)):=a7
  clear hh ht h hc htk a7 hres hq
  go_enter Tryz.func147,Tryz.ntmps147
  go_upto_region 1 with fail
  go_quiet (fail)
  go_wp2_with fail
  go_ret
  exact⟨rfl,below_drewN (Below.refl _ _) _⟩
theorem sendS_reW(s:RunS)(k:Nat)(x:WorkerS)(m:MsgS)(h:¬(m.kind=2\/m.kind=4)):sendS {s with W:=s.W.set k x} m={sendS s m with W:=(sendS s m).W.set k x}:=by
 unfold sendS wayS
 simp only[if_neg h]
 split<;>rfl
theorem told_x{part:Nat->Nat}{w:World}{B M k gw wc n:Nat}{s:RunS}{kv yv:Value}{xs:List XW}{x:XW}{y:WorkerS}(h:XAtO part w B s kv (.slice (some ⟨gw,0,none⟩) n wc) yv M xs)(hx:xs[k]?= some x)(hy:s.W[k]?= some y)(hm:s.mode=1)(hh:y.has=true)(hs:0<=y.sent/\y.sent<=1000000000)(hc:0<=y.came/\y.came<=1000000000)(hn: -100000000000000000<=y.token.count/\y.token.count<=100000000000000000) :
  Calls Tryz.prog 150 #[.pointer (some ⟨gw,k*8,none⟩)] w fun e w'=>∃v,e= .returned v/\(v= .agg #[.int .i64 (y.token.count+(y.sent - y.came)),.bool (y.token.black||y.black),.bool (k==0&&s.around)]/\Below w.heap.size w w'):=by
 have hxw:=h.wat k x y hx hy
 have htk:=h.tat k x y hx hy
 cases hq:x.tok with
 |none=>rw[hq]at htk;have:=htk hm;rw[hh]at this;cases this
 |some q=>
  rw[hq]at htk
  have a7:w.cell? ⟨gw,k*8+7,none⟩=some (.pointer (some ⟨q,0,none⟩)):=by
   have:=h.xcell hx 7 _ rfl
   rwa [hq]at this
  exact told_calls gw k q y.token.count y.sent y.came y.token.black (k==0&&s.around) y.black w (by rw[<-hxw.1.sent];exact h.xcell hx 4 _ rfl) (by rw[<-hxw.1.came];exact h.xcell hx 5 _ rfl) (by rw[<-hxw.1.black];exact h.xcell hx 6 _ rfl) a7 htk.2.1 (h.wrow.1.lt gw rfl).2 hs hc hn
set_option maxHeartbeats 4000000 in
set_option maxRecDepth 100000 in
theorem passToken1_calls(F:Nat->Prop)(B Br Bw k N:Nat)(s:RunS)(x:WorkerS)(w:World)(hx:XOK F w B s)(hk:s.W[k]?= some x)(hk0:k≠0)(hm:s.mode=1)(hhas:x.has=true)(hs:Shaped s)(hN:Small N s)(hN':N<=90000000)(hkn:Known s)(hcn: -100000000000000000<=x.token.count/\x.token.count<=100000000000000000)
  (hh:HeldAt w Br Bw B k) (hF:¬F Br/\¬F Bw) :
  Calls Tryz.prog 148 #[.pointer (some ⟨Br,0,none⟩),.pointer (some ⟨Bw,0,none⟩)] w (XGives F w B (sendS {s with W:=s.W.set k {x with black:=false,has:=false}} {msg0 with src:=(k:Int),dst:=(k:Int) - 1,kind:=5,count:=x.token.count+x.sent - x.came,black:=x.token.black||x.black},0)):=by
 obtain⟨part,kv,yv,g,c,M,T,xs,y,hpF,h,hy,-,-,hc,hkl⟩:=x_worker hx hk
 have hkW:=(List.getElem?_eq_some_iff.1 hk).1
 have b3:w.cell? ⟨B,4,none⟩=some (.slice (some ⟨g,0,none⟩) xs.length c):=h.box.cell (o:=4) rfl
 have r0:=hh.1.cell (o:=0) rfl
 have i0:=hh.2.cell (o:=0) rfl
 have j1:(0:Int)<=(k:Int):=by omega
 have j2:(k:Int) < (xs.length:Int):=by omega
 have hxm:=List.mem_of_getElem? hk
 have hsent:=hN.sent x hxm
 have hgot:=hN.got x hxm
 obtain⟨ls,hls⟩:∃ls,s.links[k]?= some ls:=⟨_,List.getElem?_eq_getElem (by rw[hs.llen];exact hkW)⟩
 have hlm:=List.mem_of_getElem? hls
 obtain⟨l,hl⟩:∃l,ls[k - 1]?= some l:=⟨_,List.getElem?_eq_getElem (by rw[hs.lrow ls hlm];omega)⟩
 have hlmm:=List.mem_of_getElem? hl
 have hall:=hN.all ls hlm l hlmm
 have hknl:=hkn ls hlm l hlmm
 have hway:=hs.way
 have h5:=h.five
 have hwl:=h.wlen
 have kw:IntKind.i64.wrap ((k:Int) - 1)=(k:Int) - 1:=IntWalk.i64_in _ (by omega)
 have hBrl:=hh.1.lt
 have hBwl:=hh.2.lt
 have hBl:=h.box.lt
 have hgl:=(h.wrow.1.lt g rfl).2
 have HTD:Hid (∀U,(U=w\/U=w.drew)->Calls Tryz.prog 150 #[.pointer (some ⟨g,k*8,none⟩)] U fun e w'=>∃v,e= .returned v/\(v= .agg #[.int .i64 (x.token.count+(x.sent - x.came)),.bool (x.token.black||x.black),.bool (k==0&&s.around)]/\Below w.heap.size w w')):=fun U hU=>by
  have gU:Below w.heap.size w U:=by
   rcases hU with rfl|rfl
   ·exact Below.refl _ _
   ·exact(Below.refl _ _).drew
  obtain⟨h7,-⟩:=h.later gU
  refine(told_x h7 hy hk hm hhas (by omega) (by omega) hcn).mono ?_
  rintro e w' ⟨v,rfl,rfl,hb⟩
  exact⟨_,rfl,rfl,gU.trans (hb.mono gU.size)⟩
 have HSD:Hid (∀U,Below w.heap.size w U->Calls Tryz.prog 149 #[.pointer (some ⟨B,0,none⟩),.int .i64 (k:Int),.int .i64 ((k:Int) - 1),.agg #[.int .i64 (x.token.count+(x.sent - x.came)),.bool (x.token.black||x.black),.bool (k==0&&s.around)]] U fun e w'=>∃v,e= .returned v/\(v= .tuple #[]/\XGives F w B (sendS {s with W:=s.W.set k {x with black:=false,has:=false}} {msg0 with src:=(k:Int),dst:=(k:Int) - 1,kind:=5,count:=x.token.count+x.sent - x.came,black:=x.token.black||x.black},0) (.returned (.int .i64 0)) w'/\w'.cell? ⟨B,4,none⟩=some (.slice (some ⟨g,0,none⟩) xs.length c)/\w'.cell? ⟨Br,0,none⟩=some (.pointer (some ⟨B,0,none⟩))/\w'.cell? ⟨Bw,0,none⟩=some (.int .i64 k))):=fun U hU=>by
  obtain⟨h7,hm7⟩:=h.later hU
  have hd:(k:Int) - 1=((k - 1:Nat):Int):=by omega
  rw[hd]
  refine(sendToken_x k (k - 1) (x.token.count+(x.sent - x.came)) (x.token.black||x.black) (k==0&&s.around) h7 hk hls hl (by omega) hknl (by omega) (by omega)).mono ?_
  rintro e w' ⟨v,rfl,rfl,part',yv',xs',h8,hm8⟩
  obtain⟨h9,h10⟩:=(hm7.trans hm8).okX h8 hpF
  refine⟨_,rfl,rfl,⟨rfl,?_,h10⟩,h8.box.cell (o:=4) rfl,(h10.cell (p:=⟨Br,0,none⟩) hBrl hF.1).trans r0,(h10.cell (p:=⟨Bw,0,none⟩) hBwl hF.2).trans i0⟩
  have e1:x.token.count+x.sent - x.came=x.token.count+(x.sent - x.came):=by omega
  rw[e1]
  exact h9
 have HST:Hid (∀U,Below w.heap.size w U->U.cell? ⟨B,4,none⟩=some (.slice (some ⟨g,0,none⟩) xs.length c)/\U.cell? ⟨Br,0,none⟩=some (.pointer (some ⟨B,0,none⟩))/\U.cell? ⟨Bw,0,none⟩=some (.int .i64 k)):=fun U hU=>⟨(hU.cell (p:=⟨B,4,none⟩) hBl).trans b3,(hU.cell (p:=⟨Br,0,none⟩) hBrl).trans r0,(hU.cell (p:=⟨Bw,0,none⟩) hBwl).trans i0⟩
 obtain⟨tc,htc⟩:∃tc,x.token.count+(x.sent - x.came)=tc:=⟨_,rfl⟩
 obtain⟨tb,htb⟩:∃tb,(x.token.black||x.black)=tb:=⟨_,rfl⟩
 obtain⟨tr,htr⟩:∃tr,(k==0&&s.around)=tr:=⟨_,rfl⟩
 rw[htc,htb,htr]at HTD
 rw[htc,htb,htr]at HSD
 rw[htb]
 clear h hh hc hcn hsent hgot hls hl
 go_enter Tryz.func148,Tryz.ntmps148
 go_upto_region 1 with fail
 go_region_held3 (fun U=>U.cell? ⟨B,4,none⟩=some (.slice (some ⟨g,0,none⟩) xs.length c)/\U.cell? ⟨Br,0,none⟩=some (.pointer (some ⟨B,0,none⟩))/\U.cell? ⟨Bw,0,none⟩=some (.int .i64 k))
  (first|assumption|(exact HST.out _ (by assumption))|(exact HST.out _ (Below.refl _ _))|(exact HST.out _ (Below.refl _ _).drew))
  (first
  |(go_at_call 150;refine(HTD.out _ (by first|exact .inl rfl|exact .inr rfl)).mono ?_;rintro e w8 ⟨v8,rfl,rfl,hb8⟩)
  |(go_at_call 149;refine(HSD.out _ (by first|assumption)).mono ?_;rintro e w9 ⟨v9,rfl,rfl,hres,hst9⟩))
 all_goals
  go_wp2_with fail
  go_ret
  exact hres
end Go.Proofs.YtfanaanofjhlkaaGreatDoor
