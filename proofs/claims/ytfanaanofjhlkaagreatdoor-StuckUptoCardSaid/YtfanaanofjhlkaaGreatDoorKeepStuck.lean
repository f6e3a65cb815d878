import Derived.Test.YtfanaanofjhlkaaGreatDoorRefWork
import Derived.Laws.BytesArg
import Derived.Deep.RegionLaw
import Derived.Test.YtfanaanofjhlkaaGreatDoorKeepMoves
import Derived.Test.YtfanaanofjhlkaaGreatDoorKeepSafe
namespace Go.Proofs.YtfanaanofjhlkaaGreatDoor
open Go Go.RowKit
def catS(a:ByteArray)(l:List TaskS):ByteArray:=l.foldl (fun r t=>r++t.id++⟨#[44]⟩) a
def listsS(L:Nat->List TaskS):Nat->ByteArray
 |0=>⟨#[]⟩
 |k+1=>catS (listsS L k) (L k)++⟨#[59]⟩
def numsS(m:MsgS):List Int:=[48+m.src,48+m.dst,48+m.kind,IntKind.u8.wrap m.no,32]
def wordsS(a:ByteArray)(l:List MsgS):ByteArray:=l.foldl (fun r m=>r++strOfNums (numsS m)) a
def shownS(L:Nat->List TaskS)(q:Nat)(ms:List MsgS):ByteArray:=wordsS (listsS L q) ms
theorem catS_take{a:ByteArray}{l:List TaskS}{i:Nat}{t:TaskS}(h:l[i]?= some t):catS a (l.take (i+1))=catS a (l.take i)++t.id++⟨#[44]⟩:=by
 unfold catS
 rw[List.take_add_one,h]
 simp[List.foldl_append]
theorem wordsS_take{a:ByteArray}{l:List MsgS}{i:Nat}{m:MsgS}(h:l[i]?= some m):wordsS a (l.take (i+1))=wordsS a (l.take i)++strOfNums (numsS m):=by
 unfold wordsS
 rw[List.take_add_one,h]
 simp[List.foldl_append]
theorem catS_size:∀(l:List TaskS) (a:ByteArray),(∀t∈l,t.id.size<=12)->(catS a l).size<=a.size+13*l.length
 |[],a,_=>by simp[catS]
 |t :: l,a,h=>by
  have h1:=catS_size l (a++t.id++⟨#[44]⟩) (fun u hu=>h u (List.mem_cons_of_mem _ hu))
  have h2:=h t (List.mem_cons_self ..)
  have e:(a++t.id++⟨#[44]⟩:ByteArray).size=a.size+t.id.size+1:=by simp[ByteArray.size_append];rfl
  rw[e]at h1
  show(catS (a++t.id++⟨#[44]⟩) l).size<=_
  simp only[List.length_cons]
  omega
theorem listsS_size{L:Nat->List TaskS}{q:Nat}(h:∀k,k < q->(L k).length<=20/\∀t∈L k,t.id.size<=12):∀k,k<=q->(listsS L k).size<=261*k
 |0,_=>by simp[listsS];rfl
 |k+1,hk=>by
  have h1:=listsS_size h k (by omega)
  have h2:=h k (by omega)
  have h3:=catS_size (L k) (listsS L k) h2.2
  have e:(catS (listsS L k) (L k)++⟨#[59]⟩:ByteArray).size=(catS (listsS L k) (L k)).size+1:=by simp[ByteArray.size_append];rfl
  show(catS (listsS L k) (L k)++⟨#[59]⟩:ByteArray).size<=_
  rw[e]
  omega
theorem wordsS_size:∀(l:List MsgS) (a:ByteArray),(wordsS a l).size=a.size+5*l.length
 |[],a=>by simp[wordsS]
 |m :: l,a=>by
  have h1:=wordsS_size l (a++strOfNums (numsS m))
  have e:(a++strOfNums (numsS m):ByteArray).size=a.size+5:=by simp[ByteArray.size_append,strOfNums,numsS];rfl
  rw[e]at h1
  show(wordsS (a++strOfNums (numsS m)) l).size=_
  simp only[List.length_cons]
  omega
set_option maxHeartbeats 8000000 in
set_option maxRecDepth 100000 in
theorem shown_walk{G B:Nat}{n:Int}{q:Nat}(L:Nat->List TaskS)(ms:List MsgS){w:World}(hG:G < w.heap.size)(g0:w.cell? ⟨G,0,none⟩=some (.pointer (some ⟨B,0,none⟩)))(g1:w.cell? ⟨G,1,none⟩=some (.int .i64 n))(hq:(q:Int)=n)(hq5:q<=5)(hL:∀k,k < q->(L k).length<=20/\∀t∈L k,t.id.size<=12)(hm:ms.length<=60)(hms:∀m∈ms,0<=m.src/\m.src<=5/\0<=m.dst/\m.dst<=5/\0<=m.kind/\m.kind<=7)
  (ht:∀(k:Nat) U,k < q->Below w.heap.size w U->Calls Tryz.prog 23 #[.pointer (some ⟨B,0,none⟩),.int .i64 (k:Int)] U fun e w'=>∃v,e= .returned (.tuple #[v,.int .i64 0])/\w'.ownsRow U.heap.size 62 3 v (L k).length ((L k).flatMap taskEnc)/\Below U.heap.size U w')
  (hg:∀U,Below w.heap.size w U->Calls Tryz.prog 56 #[.pointer (some ⟨B,0,none⟩)] U fun e w'=>∃v,e= .returned (.tuple #[v,.int .i64 0])/\w'.ownsRow U.heap.size 124 15 v ms.length (ms.flatMap msgEnc)/\Below U.heap.size U w') :
  Calls Tryz.prog 24 #[.pointer (some ⟨G,0,none⟩)] w fun e w'=>e= .returned (.string (shownS L q ms))/\Below w.heap.size w w':=by
 have HT:=hid_of ht
 have HMS:=hid_of hg
 have HL:=hid_of hL
 have HMB:=hid_of hms
 have HQ:=hid_of hq
 clear ht hg hL hms
 go_enter Tryz.func24,Tryz.ntmps24
 go_wp2_with fail
 go_loopw [3,4] (fun sv i wr=>∃k:Nat,k<=q/\i= .int .i64 k/\sv= .string (listsS L k)/\Below w.heap.size w wr) (fun _ i _=>q - (intOf i).toNat)
 case atStart=>exact⟨0,Nat.zero_le _,rfl,rfl,Below.refl _ _⟩
 case round=>
  obtain⟨k,hk,rfl,rfl,hbw⟩:=hrel
  have sw:=hbw.size
  have p0:=(hbw.cell (p:=⟨G,0,none⟩) hG).trans g0
  have p1:=(hbw.cell (p:=⟨G,1,none⟩) hG).trans g1
  have HBW:=hid_of hbw
  obtain⟨S0,hS0⟩:∃S0,listsS L k=S0:=⟨_,rfl⟩
  have hz0:=listsS_size HL.out k hk
  rw[hS0]at hz0 ⊢
  have HS0:=hid_of hS0
  clear hbw hS0
  by_cases hlt:k < q
  ·have i1:(k:Int) < n:=by omega
   have HT1:=hid_of (HT.out k wr hlt HBW.out)
   have HLk:=hid_of (HL.out k hlt)
   have hl20:=(HL.out k hlt).1
   obtain⟨l,hl⟩:∃l,L k=l:=⟨_,rfl⟩
   rw[hl]at HT1 HLk hl20
   have HLL:=hid_of hl
   clear hl
   go_wp2_with (go_at_call 23;refine HT1.out.mono ?_;rintro e w5 ⟨v5,rfl,hv5,hb5⟩;obtain⟨va,vc,rfl⟩:=row_form hv5;have HV5:=hid_of hv5;have HB5:=hid_of hb5;clear hv5 hb5)
   go_loopw [3,7] (fun sv iv wx=>∃i:Nat,i<=l.length/\iv= .int .i64 i/\sv= .string (catS S0 (l.take i))/\Below w5.heap.size w5 wx) (fun _ iv _=>l.length - (intOf iv).toNat)
   case atStart=>exact⟨0,Nat.zero_le _,rfl,by simp[catS],Below.refl _ _⟩
   case round=>
    obtain⟨i,hi,rfl,rfl,hbx⟩:=hrel
    by_cases hil:i < l.length
    ·obtain⟨t,ht⟩:∃t,l[i]?= some t:=⟨_,List.getElem?_eq_getElem hil⟩
     obtain⟨gt,ct,hgf,hg1,hg2⟩:=World.ownsRow.form HV5.out (by omega)
     cases hgf
     have c0:wr.cell? ⟨gt,i*3,none⟩=some (.string t.id):=by
      have h1:=HV5.out.cells (g:=gt) rfl (i*3+0) _ (flat_get (sz:=3) (enc:=taskEnc) (fun _=>rfl) l i t 0 _ ht rfl)
      rw[Addr.add_lit,Nat.zero_add]at h1
      exact(hbx.cell (p:=⟨gt,i*3,none⟩) hg2).trans h1
     have hzi:(catS S0 (l.take i)).size<=2000:=by
      have h1:=catS_size (l.take i) S0 (fun u hu=>HLk.out.2 u (List.mem_of_mem_take hu))
      have h2:(l.take i).length<=20:=by rw[List.length_take];omega
      omega
     have hzt:=HLk.out.2 t (List.mem_of_getElem? ht)
     have hcat:=catS_take (a:=S0) ht
     obtain⟨S1,hS1⟩:∃S1,catS S0 (l.take i)=S1:=⟨_,rfl⟩
     rw[hS1]at hzi hcat ⊢
     have HCAT:=hid_of hcat
     have HS1:=hid_of hS1
     have i1:(0:Int)<=(i:Int):=by omega
     have i2:(i:Int) < (l.length:Int):=by omega
     have hz2:(S1++t.id).size=S1.size+t.id.size:=by rw[ByteArray.size_append]
     have HBX:=hid_of hbx
     have HTT:=hid_of ht
     clear hbx hcat hS1 ht
     go_wp2_with fail
     go_roundw
     case rel=>exact⟨i+1,by omega,by go_num,by rw[HCAT.out],HBX.out⟩
     case measure=>simp[intOf];omega
    ·have hil':i=l.length:=by omega
     subst hil'
     rw[List.take_length]
     have hz1:=catS_size l S0 HLk.out.2
     have hlists:listsS L (k+1)=catS S0 l++⟨#[59]⟩:=by
      show catS (listsS L k) (L k)++⟨#[59]⟩=_
      rw[HS0.out,HLL.out]
     obtain⟨S1,hS1⟩:∃S1,catS S0 l=S1:=⟨_,rfl⟩
     rw[hS1]at hz1 hlists ⊢
     have z1:¬9223372036854775807 < S1.size+1:=by omega
     have z2:S1.size < 9223372036854775807:=by omega
     have HLS:=hid_of hlists
     have HBX:=hid_of hbx
     clear hlists hbx hS1
     go_wp2_with fail
     go_roundw
     case rel=>exact⟨k+1,by omega,by go_num,by rw[HLS.out],(HBW.out.trans (HB5.out.mono sw)).trans (HBX.out.mono (by have:=HB5.out.size;omega))⟩
     case measure=>simp[intOf];omega
  ·have hkq:k=q:=by omega
   subst hkq
   have i1:¬(k:Int) < n:=by omega
   have HM1:=hid_of (HMS.out wr HBW.out)
   clear HT HL
   go_wp2_with (go_at_call 56;refine HM1.out.mono ?_;rintro e w5 ⟨v5,rfl,hv5,hb5⟩;obtain⟨va,vc,rfl⟩:=row_form hv5;have HV5:=hid_of hv5;have HB5:=hid_of hb5;clear hv5 hb5)
   go_loopw [3,10] (fun sv iv wx=>∃i:Nat,i<=ms.length/\iv= .int .i64 i/\sv= .string (wordsS S0 (ms.take i))/\Below w5.heap.size w5 wx) (fun _ iv _=>ms.length - (intOf iv).toNat)
   case atStart=>exact⟨0,Nat.zero_le _,rfl,by simp[wordsS],Below.refl _ _⟩
   case round=>
    obtain⟨i,hi,rfl,rfl,hbx⟩:=hrel
    by_cases hil:i < ms.length
    ·obtain⟨m,ht⟩:∃m,ms[i]?= some m:=⟨_,List.getElem?_eq_getElem hil⟩
     obtain⟨gt,ct,hgf,hg1,hg2⟩:=World.ownsRow.form HV5.out (by omega)
     cases hgf
     have cell:∀(o:Nat) (u:Value),(msgEnc m)[o]?= some u->wr.cell? ⟨gt,i*15+o,none⟩=some u:=fun o u ho=>by
      have h1:=HV5.out.cells (g:=gt) rfl (i*15+o) u (flat_get (sz:=15) (enc:=msgEnc) (fun _=>rfl) ms i m o u ht ho)
      rw[Addr.add_lit,Nat.zero_add]at h1
      exact(hbx.cell (p:=⟨gt,i*15+o,none⟩) hg2).trans h1
     have c0:wr.cell? ⟨gt,i*15,none⟩=some (.int .i64 m.src):=cell 0 _ rfl
     have c1:=cell 1 _ rfl
     have c2:=cell 2 _ rfl
     have c3:=cell 3 _ rfl
     have c4:=cell 4 _ rfl
     have c5:=cell 5 _ rfl
     have c6:=cell 6 _ rfl
     have c7:=cell 7 _ rfl
     have c8:=cell 8 _ rfl
     have c9:=cell 9 _ rfl
     have c10:=cell 10 _ rfl
     have c11:=cell 11 _ rfl
     have c12:=cell 12 _ rfl
     have c13:=cell 13 _ rfl
     have c14:=cell 14 _ rfl
     have hz1:=wordsS_size (ms.take i) S0
     have hlt60:(ms.take i).length<=60:=by rw[List.length_take];omega
     have hcat:=wordsS_take (a:=S0) ht
     obtain⟨S1,hS1⟩:∃S1,wordsS S0 (ms.take i)=S1:=⟨_,rfl⟩
     rw[hS1]at hz1 hcat ⊢
     have hz2:S1.size<=5000:=by omega
     obtain⟨b0,b1,b2,b3,b4,b5⟩:=HMB.out m (List.mem_of_getElem? ht)
     have i1:(0:Int)<=(i:Int):=by omega
     have i2:(i:Int) < (ms.length:Int):=by omega
     have HCAT:=hid_of hcat
     have HBX:=hid_of hbx
     clear hbx hcat hS1 ht cell hz1
     go_upto_region 16 with fail
     have x0:IntKind.i64.wrap (48+m.src)=48+m.src:=IntWalk.i64_in _ (by omega)
     have x1:IntKind.i64.wrap (48+m.dst)=48+m.dst:=IntWalk.i64_in _ (by omega)
     have x3:IntKind.i64.wrap (48+m.kind)=48+m.kind:=IntWalk.i64_in _ (by omega)
     have y0:IntKind.u8.wrap (48+m.src)=48+m.src:=IntWalk.u8_in _ (by omega)
     have y1:IntKind.u8.wrap (48+m.dst)=48+m.dst:=IntWalk.u8_in _ (by omega)
     have y3:IntKind.u8.wrap (48+m.kind)=48+m.kind:=IntWalk.u8_in _ (by omega)
     obtain⟨V,hV⟩:∃V,wr.alloc (Obj.cells (msgEnc m).toArray 124)=V:=⟨_,rfl⟩
     have bM:BoxAt V wr.heap.size 124 (msgEnc m).toArray:=by rw[<-hV];exact BoxAt.new wr _ _
     have d0:V.cell? ⟨wr.heap.size,0,none⟩=some (.int .i64 m.src):=bM.cell (o:=0) rfl
     have d1:V.cell? ⟨wr.heap.size,1,none⟩=some (.int .i64 m.dst):=bM.cell (o:=1) rfl
     have d2:V.cell? ⟨wr.heap.size,2,none⟩=some (.int .i64 m.no):=bM.cell (o:=2) rfl
     have d3:V.cell? ⟨wr.heap.size,3,none⟩=some (.int .i64 m.kind):=bM.cell (o:=3) rfl
     have HBV:Hid (Below wr.heap.size wr V):=by rw[<-hV];exact(Below.refl _ _).alloc (Nat.le_refl _) _
     have hcb:=run_convert_bytes_arg (P:=Tryz.prog) (V.alloc (Obj.cells #[.int .u8 (48+m.src),.int .u8 (48+m.dst),.int .u8 (48+m.kind),.int .u8 (IntKind.u8.wrap m.no),.int .u8 32] 5)) 125 5 Tryz.underlying125 Tryz.underlying5 V.heap.size 0 5 5 (numsS m) rfl (fun j hj=>by
      obtain rfl|rfl|rfl|rfl|rfl:j=0\/j=1\/j=2\/j=3\/j=4:=by omega
      all_goals exact(BoxAt.new V 5 #[.int .u8 (48+m.src),.int .u8 (48+m.dst),.int .u8 (48+m.kind),.int .u8 (IntKind.u8.wrap m.no),.int .u8 32]).cell rfl) 9 Tryz.underlying9
     have hw5:(strOfNums (numsS m)).size=5:=by simp[strOfNums,numsS];rfl
     obtain⟨S2,hS2⟩:∃S2,strOfNums (numsS m)=S2:=⟨_,rfl⟩
     rw[hS2]at hw5 hcb HCAT
     obtain⟨n2,hn2⟩:∃n2,IntKind.u8.wrap m.no=n2:=⟨_,rfl⟩
     rw[hn2]at hcb
     try rw[show(Obj.cells #[Value.int IntKind.i64 m.src,Value.int IntKind.i64 m.dst,Value.int IntKind.i64 m.no,Value.int IntKind.i64 m.kind,Value.string m.t.id,Value.int IntKind.i64 m.t.kind,Value.int IntKind.i64 m.t.arg,Value.string m.v.fst,Value.int IntKind.i64 m.v.snd,Value.bool m.black,Value.bool m.idle,Value.int IntKind.i64 m.count,Value.int IntKind.i64 m.round,Value.int IntKind.i64 m.sent,Value.int IntKind.i64 m.came] 124)=Obj.cells (msgEnc m).toArray 124 from rfl,hV]
     clear c0 c1 c2 c3 c4 c5 c6 c7 c8 c9 c10 c11 c12 c13 c14 hV bM hS2
     have z1:¬9223372036854775807 < S1.size+S2.size:=by omega
     go_wp2_with fail
     go_roundw
     case rel=>exact⟨i+1,by omega,by go_num,by rw[HCAT.out],(HBX.out.trans (HBV.out.mono HBX.out.size)).alloc (Nat.le_trans HBX.out.size HBV.out.size) _⟩
     case measure=>simp[intOf];omega
    ·have hil':i=ms.length:=by omega
     subst hil'
     rw[List.take_length]
     have HBX:=hid_of hbx
     clear hbx
     go_wp2_with fail
     go_ret
     refine⟨?_,(HBW.out.trans (HB5.out.mono sw)).trans (HBX.out.mono (by have:=HB5.out.size;omega))⟩
     unfold shownS
     rw[HS0.out]
     rfl
theorem workerE_six{s:RunS}(h:startE s=6)(i:Int):workerE s i=6:=by
 unfold workerE
 rw[if_neg (fun q=>by have:=q.1;omega)]
 exact h
theorem messageE_six{s:RunS}(h:startE s=6)(i:Int):messageE s i=6:=by
 unfold messageE
 rw[if_neg (fun q=>by have:=q.1;omega)]
 exact h
theorem worker_start{s:RunS}{i:Int}(h:workerE s i=6):startE s=6:=by
 unfold workerE at h
 split at h
 ·omega
 ·exact h
theorem message_start{s:RunS}{i:Int}(h:messageE s i=6):startE s=6:=by
 unfold messageE at h
 split at h
 ·omega
 ·exact h
theorem worker_zero{s:RunS}{i:Int}(h:¬workerE s i≠0):s.done=false:=by
 have h':workerE s i=0:=by omega
 unfold workerE at h'
 split at h'
 ·omega
 ·unfold startE at h'
  cases hd:s.done with
  |false=>rfl
  |true=>rw[hd]at h';simp at h'
theorem move_stuck{s:RunS}(h:startE s=6)(m:MoveS):moveS s m=(s,6):=by
 have hw:∀i,workS s i=(s,6):=fun i=>by unfold workS;rw[workerE_six h,if_pos (by decide)]
 have hs:∀i v,stealS s i v=(s,6):=fun i v=>by unfold stealS;rw[workerE_six h,if_pos (by decide)]
 have hd:∀i,deliverS s i=(s,6):=fun i=>by unfold deliverS;rw[messageE_six h,if_pos (by decide)]
 have hr:∀i,dropS s i=(s,6):=fun i=>by unfold dropS;rw[messageE_six h,if_pos (by decide)]
 have ht:∀i,twiceS s i=(s,6):=fun i=>by unfold twiceS;rw[messageE_six h,if_pos (by decide)]
 have hk:∀i,tickS s i=(s,6):=fun i=>by unfold tickS;rw[workerE_six h,if_pos (by decide)]
 have hp:∀i,passS s i=(s,6):=fun i=>by unfold passS;rw[workerE_six h,if_pos (by decide)]
 have hc:checkS s=(s,6):=by unfold checkS;rw[h,if_pos (by decide)]
 unfold moveS
 rw[hw,hs,hd,hr,ht,hk,hp,hc]
 repeat' split
 all_goals rfl
theorem work_six{s:RunS}{i:Int}(h:(workS s i).2=6):startE (workS s i).1=6:=by
 unfold workS at h ⊢
 split
 ·rename_i hq
  rw[if_pos hq]at h
  exact worker_start h
 ·rename_i hq
  rw[if_neg hq]at h
  have hz:=worker_zero hq
  cases hx:s.W[i.toNat]? with
  |none=>rw[hx]at h;simp at h
  |some x=>
   rw[hx]at h
   dsimp only at h ⊢
   cases ht:x.tasks.getLast? with
   |none=>rw[ht]at h;simp at h
   |some t=>
    rw[ht]at h
    dsimp only at h ⊢
    split
    ·unfold startE
     simp[hz]
    ·rename_i hr
     rw[if_neg hr]at h
     split at h<;>simp at h
theorem move_six{s:RunS}(m:MoveS)(h:(moveS s m).2=6):startE (moveS s m).1=6:=by
 have hs:∀i v,(stealS s i v).2=6->startE s=6:=fun i v h=>by
  unfold stealS at h
  split at h
  ·exact worker_start h
  ·split at h
   ·exact worker_start h
   ·split at h
    ·simp at h
    ·split at h
     ·simp at h
     ·split at h<;>simp at h
 have hd:∀i,(deliverS s i).2=6->startE s=6:=fun i h=>by
  unfold deliverS at h
  split at h
  ·exact message_start h
  ·dsimp only at h
   split at h<;>simp at h
 have hr:∀i,(dropS s i).2=6->startE s=6:=fun i h=>by
  unfold dropS at h
  split at h
  ·exact message_start h
  ·simp at h
 have ht:∀i,(twiceS s i).2=6->startE s=6:=fun i h=>by
  unfold twiceS at h
  split at h
  ·exact message_start h
  ·simp at h
 have hk:∀i,(tickS s i).2=6->startE s=6:=fun i h=>by
  unfold tickS at h
  split at h
  ·exact worker_start h
  ·simp at h
 have hp:∀i,(passS s i).2=6->startE s=6:=fun i h=>by
  unfold passS at h
  split at h
  ·exact worker_start h
  ·split at h
   ·simp at h
   ·split at h<;>simp at h
 have hc:(checkS s).2=6->startE s=6:=fun h=>by
  unfold checkS at h
  split at h
  ·exact h
  ·split at h
   ·unfold ringS at h
    split at h
    ·simp at h
    ·split at h
     ·simp at h
     ·split at h<;>simp at h
   ·unfold wavesS at h
    split at h
    ·simp at h
    ·split at h
     ·simp at h
     ·split at h<;>simp at h
 have fin:startE s=6->startE (moveS s m).1=6:=fun q=>by rw[move_stuck q];exact q
 by_cases h3:pickS m.k 12 < 3
 ·have e:moveS s m=workS s (pickS m.w s.workers):=by unfold moveS;rw[if_pos h3]
  rw[e]at h ⊢
  exact work_six h
 ·refine fin ?_
  unfold moveS at h
  rw[if_neg h3]at h
  split at h
  ·exact hs _ _ h
  ·split at h
   ·exact hd _ h
   ·split at h
    ·split at h
     ·exact hr _ h
     ·exact ht _ h
    ·split at h
     ·exact hk _ h
     ·split at h
      ·exact hp _ h
      ·exact hc h
def stuckKs:List KindS:=[⟨0,0,[⟨0,1⟩,⟨0,1⟩]⟩]
def stuckS:RunS:=newS 2 1 1 stuckKs 0 2
def overS:RunS:={stuckS with over:=true}
theorem stuck_cfg:cfgB 2 1 1=true:=by kernel_rfl
theorem stuck_prog:progB stuckKs 0 2=true:=by kernel_rfl
theorem stuck_unfold:(unfoldS stuckKs 0 2).1=0:=by kernel_rfl
theorem stuck_work:workS stuckS 0=(overS,6):=by kernel_rfl
theorem stuck_tasks:tasksS overS 0=([⟨⟨#[]⟩,0,2⟩],0):=by kernel_rfl
theorem stuck_check:checkS overS=(overS,6):=by kernel_rfl
theorem stuck_whole:Whole 0 stuckS:=Whole.new stuck_cfg stuck_prog
theorem over_whole:Whole 1 overS:=by
 have h:=stuck_whole.work 0
 rw[stuck_work]at h
 exact h
theorem tasks_at{s:RunS}(hl:(s.W.length:Int)=s.workers){k:Nat}(hk:k < s.W.length):∃x,s.W[k]?= some x/\tasksS s (k:Int)=(x.tasks,0):=by
 refine⟨_,List.getElem?_eq_getElem hk,?_⟩
 unfold tasksS
 rw[if_neg (by omega),Int.toNat_natCast,List.getElem?_eq_getElem hk]
 rfl
def showS(s:RunS):ByteArray:=shownS (fun k=>(tasksS s (k:Int)).1) s.W.length s.way
theorem kshown_calls(H:RunCalls){base:Nat}{own:Nat->Nat}{G B N:Nat}{s:RunS}{ka:Option Addr}{kc:Nat}{av dv:Value}{did:List ByteArray}{over done:Bool}{w:World}(h:GameAt base own w G B s ka kc av dv did over done)(hW:Whole N s) :
  Calls Tryz.prog 24 #[.pointer (some ⟨G,0,none⟩)] w fun e w'=>e= .returned (.string (showS s))/\Below w.heap.size w w':=by
 have hf:=hW.fine
 have hlen:=hf.len
 have h5:=hf.five
 refine shown_walk (n:=s.workers) (q:=s.W.length) (fun k=>(tasksS s (k:Int)).1) s.way h.box.lt (h.box.cell (o:=0) rfl) (h.box.cell (o:=1) rfl) hlen (by omega) (fun k hk=> ?_) hf.w60 (fun m hm=> ?_) (fun k U hk hU=> ?_) (fun U hU=>H.messages _ B N s U (h.run.later hU) hW)
 ·obtain⟨x,hx,e⟩:=tasks_at hlen hk
  rw[e]
  have h1:=hW.steady.pol.room k x hx
  have h2:=hf.rmax
  refine⟨by dsimp only;omega,fun t ht=> ?_⟩
  have h3:=((hf.works x (List.mem_of_getElem? hx)).good t ht).1
  have h4:=h3.2.2.1
  have h6:=h3.2.2.2
  omega
 ·have h1:=hf.ways m hm
  have h2:=h1.src
  have h3:=h1.dst
  have h4:=h1.kind
  omega
 ·obtain⟨x,hx,e⟩:=tasks_at hlen hk
  have h1:=H.tasks _ B N s (k:Int) U (h.run.later hU) hW
  rw[show(tasksS s (k:Int)).2=0 by rw[e]]at h1
  exact h1
structure StuckOK(base N:Nat)(W:World)(G:Nat)(over:Bool):Prop where
 ok:∃own B s ka kc av dv did done,GameAt base own W G B s ka kc av dv did over done/\Whole N s/\Play did s/\(allTasks s.ks s.kind s.arg).length<=200/\(over=true->startE s=6)
theorem StuckOK.later{base N:Nat}{W W':World}{G:Nat}{over:Bool}(h:StuckOK base N W G over)(hb:Below W.heap.size W W'):StuckOK base N W' G over:=by
 obtain⟨own,B,s,ka,kc,av,dv,did,done,h1,h2,h3,h4,h5⟩:=h.ok
 exact⟨_,_,_,_,_,_,_,_,_,h1.later hb,h2,h3,h4,h5⟩
theorem StuckOK.lt{base N:Nat}{W:World}{G:Nat}{over:Bool}(h:StuckOK base N W G over):G < W.heap.size:=by
 obtain⟨own,B,s,ka,kc,av,dv,did,done,h1,-⟩:=h.ok
 exact h1.box.lt
theorem StuckOK.flag{base N:Nat}{W:World}{G:Nat}{over:Bool}(h:StuckOK base N W G over):W.cell? ⟨G,9,none⟩=some (.bool over):=by
 obtain⟨own,B,s,ka,kc,av,dv,did,done,h1,-⟩:=h.ok
 exact h1.box.cell (o:=9) rfl
theorem StuckOK.moves{base N:Nat}{W:World}{G:Nat}(H:RunCalls)(h:StuckOK base N W G false)(hb:base<=W.heap.size)(hN:N+12<=80000000){m:MoveS}(hm:MoveFits m):Calls Tryz.prog 14 #[.pointer (some ⟨G,0,none⟩),.agg (moveV m)] W fun e w'=>e= .returned (.tuple #[])/\(∃over,StuckOK base (N+6) w' G over)/\Below base W w':=by
 obtain⟨own,B,s,ka,kc,av,dv,did,done,h1,h2,h3,h4,h5⟩:=h.ok
 have hf:=h3.few
 refine(kmoves_calls H m hm h1 h2 hN h3 hb (by omega)).mono ?_
 rintro e w' ⟨rfl,⟨own',dv',h6⟩,h7⟩
 refine⟨rfl,⟨_,_,_,_,_,_,_,_,_,_,h6,h2.move (by omega) m,h3.move h2.fine (by omega) m,?_,fun q=>move_six m (by simpa using q)⟩,h7⟩
 have e:=Stays.move s m
 rw[e.ks,e.kind,e.arg]
 exact h4
theorem StuckOK.shown{base N:Nat}{W:World}{G:Nat}{over:Bool}(H:RunCalls)(h:StuckOK base N W G over)(ho:over=true)(hb:base<=W.heap.size)(hN:N+6<=80000000) :
  ∃T:ByteArray,Calls Tryz.prog 24 #[.pointer (some ⟨G,0,none⟩)] W (fun e w'=>e= .returned (.string T)/\Below W.heap.size W w')/\∀(m:MoveS) U,MoveFits m->Below W.heap.size W U->Calls Tryz.prog 25 #[.pointer (some ⟨G,0,none⟩),.agg (moveV m)] U fun e w'=>∃v,e= .returned v/\(v= .int .i64 6/\Calls Tryz.prog 24 #[.pointer (some ⟨G,0,none⟩)] w' (fun e w2=>e= .returned (.string T)/\Below w'.heap.size w' w2)/\Below base U w'):=by
 obtain⟨own,B,s,ka,kc,av,dv,did,done,h1,h2,h3,h4,h5⟩:=h.ok
 refine⟨showS s,kshown_calls H h1 h2,fun m U hm hU=> ?_⟩
 have hU1:=h1.later hU
 have sU:=hU.size
 refine(kmove_all H m hm hU1 h2 hN).mono ?_
 rintro e w' ⟨v,rfl,hv,hx,hk⟩
 rw[move_stuck (h5 ho)]at hv hx
 have hk':=hk.mono (Y:=fun b=>(fun g=>if g < W.heap.size then own g else 0) b=2) (fun b _ q=>q.1)
 have hG:=hU1.ran (by omega) hk' (hx.mono (fun b _ q=>by
  rcases q with q|q
  ·exact .inl q.1
  ·exact .inr q)) (Stays.refl s)
 exact⟨_,rfl,hv,kshown_calls H hG h2,hk'.below (by omega) (fun g q=>hU1.new g (fun e=>absurd (q.symm.trans e) (by decide)))⟩
theorem begun_stuck(H:RunCalls)(wk rm md kind arg:Int)(a:Option Addr)(len cap:Nat)(w:World)(f1:isI64 wk)(f2:isI64 rm)(f3:isI64 md)(f4:isI64 kind)(f5:isI64 arg)(hl:len<=9223372036854775806)(hraw:RawAt w a len) :
  Calls Tryz.prog 13 #[.agg (caseV wk rm md a len cap kind arg)] w fun e w'=>∃G,e= .returned (.pointer (some ⟨G,0,none⟩))/\StuckOK w.heap.size 0 w' G false/\Below w.heap.size w w':=by
 refine(begun_calls H wk rm md kind arg a len cap w f1 f2 f3 f4 f5 hl hraw).mono ?_
 rintro e w' ⟨G,own,B,s,ka,kc,av,rfl,h1,h2,h3,h4,h5⟩
 exact⟨G,rfl,⟨_,_,_,_,_,_,_,_,_,h1,h2,h3,h4,fun q=>by cases q⟩,h5⟩
theorem stuck_new(w:World):Calls Tryz.prog 21 #[.agg #[.int .i64 2,.int .i64 1,.int .i64 1],.agg #[.slice (some ⟨w.heap.size+1,0,none⟩) 1 1,.int .i64 0,.int .i64 2]] ((w.alloc (Obj.cells #[.int .i64 0,.int .i64 1,.int .i64 0,.int .i64 1] 53)).alloc (Obj.cells #[.int .i64 0,.int .i64 0,.slice (some ⟨w.heap.size,0,none⟩) 2 2] 56)) fun e w'=>∃X,e= .returned (.tuple #[.pointer (some ⟨X,0,none⟩),.int .i64 0])/\XOK (fun b=>w.heap.size<=b) w' X stuckS/\Below w.heap.size w w':=by
 have hb:Below w.heap.size w ((w.alloc (Obj.cells #[.int .i64 0,.int .i64 1,.int .i64 0,.int .i64 1] 53)).alloc (Obj.cells #[.int .i64 0,.int .i64 0,.slice (some ⟨w.heap.size,0,none⟩) 2 2] 56)):=((Below.refl _ _).alloc (Nat.le_refl _) _).alloc (by simp) _
 have hk:KindsAt (fun b=>w.heap.size<=b) ((w.alloc (Obj.cells #[.int .i64 0,.int .i64 1,.int .i64 0,.int .i64 1] 53)).alloc (Obj.cells #[.int .i64 0,.int .i64 0,.slice (some ⟨w.heap.size,0,none⟩) 2 2] 56)) (.slice (some ⟨w.heap.size+1,0,none⟩) 1 1) stuckKs:=by
  refine KindsRow.at (l:=[((⟨0,0,[⟨0,1⟩,⟨0,1⟩]⟩:KindS),Value.slice (some ⟨w.heap.size,0,none⟩) 2 2)]) ⟨?_,?_⟩
  ·exact row_new _ (w.heap.size+1) w.heap.size 56 3 1 _ _ (by simp) (by omega) rfl rfl (by unfold maxLen;omega)
  ·intro p hp
   simp only[List.mem_singleton]at hp
   subst hp
   exact(row_new _ w.heap.size w.heap.size 53 2 2 _ _ (by simp) (by omega) rfl rfl (by unfold maxLen;omega)).alloc _
 have hs:=hb.size
 refine(x_new_good (some ⟨w.heap.size+1,0,none⟩) 1 2 1 1 0 2 stuckKs _ (hk.mono (fun _ _=>trivial)) stuck_cfg stuck_unfold).mono ?_
 rintro e w' ⟨X,rfl,hx,hb'⟩
 exact⟨X,rfl,hx.mono (fun b _ h=>by omega),hb.trans (hb'.mono hs)⟩
set_option maxHeartbeats 8000000 in
set_option maxRecDepth 100000 in
theorem stuck_calls(H:RunCalls)(wk rm md kind arg:Int)(ra:Option Addr)(rl rc:Nat)(a:Option Addr)(cap:Nat)(l:List MoveS)(mv:MoveS)(w:World)(f1:isI64 wk)(f2:isI64 rm)(f3:isI64 md)(f4:isI64 kind)(f5:isI64 arg)(hl:rl<=9223372036854775806)(hraw:RawAt w ra rl)(hm:MovesAt w a l)(hn:l.length<=1000000)(hmv:MoveFits mv) :
  Calls Tryz.prog 11 #[.agg (caseV wk rm md ra rl rc kind arg),.slice a l.length cap,.agg (moveV mv)] w fun e w'=>e= .returned (.bool true)/\Below w.heap.size w w':=by
 obtain⟨V0,hV0⟩:∃V,w.alloc (Obj.cells (caseV wk rm md ra rl rc kind arg) 27)=V:=⟨_,rfl⟩
 obtain⟨V,hV⟩:∃V,V0.alloc (Obj.cells (moveV mv) 33)=V:=⟨_,rfl⟩
 have hbV0:Below w.heap.size w V0:=by rw[<-hV0];exact(Below.refl _ _).alloc (Nat.le_refl _) _
 have hbV1:Below V0.heap.size V0 V:=by rw[<-hV];exact(Below.refl _ _).alloc (Nat.le_refl _) _
 have s0:=hbV0.size
 have s1:V0.heap.size=w.heap.size+1:=by rw[<-hV0];simp
 have hbV:Below w.heap.size w V:=hbV0.trans (hbV1.mono s0)
 have bC:BoxAt V w.heap.size 27 (caseV wk rm md ra rl rc kind arg):=by
  have h:BoxAt V0 w.heap.size 27 (caseV wk rm md ra rl rc kind arg):=by rw[<-hV0];exact BoxAt.new w _ _
  exact h.below hbV1 (by omega)
 have bM:BoxAt V V0.heap.size 33 (moveV mv):=by rw[<-hV];exact BoxAt.new V0 _ _
 have HBG:=hid_of (begun_stuck H wk rm md kind arg ra rl rc V f1 f2 f3 f4 f5 hl (fun j hj=>by
  obtain⟨b,o,z,h1,h2,h3,h4⟩:=hraw j hj
  exact⟨b,o,z,h1,Nat.lt_of_lt_of_le h2 hbV.size,(hbV.cell (p:=⟨b,_,none⟩) h2).trans h3,h4⟩))
 have c0:V.cell? ⟨w.heap.size,0,none⟩=some (.int .i64 wk):=bC.cell (o:=0) rfl
 have c1:V.cell? ⟨w.heap.size,1,none⟩=some (.int .i64 rm):=bC.cell (o:=1) rfl
 have c2:V.cell? ⟨w.heap.size,2,none⟩=some (.int .i64 md):=bC.cell (o:=2) rfl
 have c3:V.cell? ⟨w.heap.size,3,none⟩=some (.slice ra rl rc):=bC.cell (o:=3) rfl
 have c4:V.cell? ⟨w.heap.size,4,none⟩=some (.int .i64 kind):=bC.cell (o:=4) rfl
 have c5:V.cell? ⟨w.heap.size,5,none⟩=some (.int .i64 arg):=bC.cell (o:=5) rfl
 have HM:=hid_of hm
 have HBV:=hid_of hbV
 have HBM:=hid_of bM
 have HMF:=hid_of hmv
 have hlM:=bM.lt
 clear hbV hbV0 hbV1 bM bC hm hraw hmv s1 s0
 go_enter Tryz.func11,Tryz.ntmps11
 go_upto_region 2 with(go_at_call 13;refine HBG.out.mono ?_;rintro e w1 ⟨G,rfl,hG,hb1⟩)
 have HG:=hid_of hG
 have HB1:=hid_of hb1
 have sz1:=hb1.size
 have hgl:=hG.lt
 have HNW:=hid_of (stuck_new w1)
 clear hG hb1 c0 c1 c2 c3 c4 c5 HBG
 go_upto_region 5 with(go_at_call 21;refine HNW.out.mono ?_;rintro e w2 ⟨X,rfl,hx2,hb2⟩)
 have sz2:=hb2.size
 have hwk:=H.work _ X 0 stuckS 0 w2 hx2 stuck_whole (by omega)
 rw[stuck_work]at hwk
 have HWK:=hid_of hwk
 have HB2:=hid_of hb2
 clear hwk hx2 hb2 HNW
 go_upto_region 6 with(go_at_call 22;refine HWK.out.mono ?_;rintro e w3 ⟨rfl,hx3,hk3⟩)
 have hb3:Below w1.heap.size w2 w3:=hk3.below (by omega) (fun b h=>h)
 have sz3:=hb3.size
 have hx3:XOK (fun b=>w1.heap.size<=b/\b < w3.heap.size) w3 X overS:=hx3.mono (fun b hb h=>⟨by
  rcases h with h|h
  ·exact h
  ·exact Nat.le_trans sz2 h,hb⟩)
 have htk:=H.tasks _ X 1 overS 0 w3 hx3 over_whole
 rw[stuck_tasks]at htk
 have HTK:=hid_of htk
 have HX3:=hid_of hx3
 have HB3:=hid_of hb3
 clear htk hx3 hk3 hb3 HWK
 go_upto_region 7 with(go_at_call 23;refine HTK.out.mono ?_;rintro e w4 ⟨v4,rfl,hv4,hb4⟩)
 have sz4:=hb4.size
 obtain⟨g4,k4,hf4,hg4,hl4⟩:=World.ownsRow.form hv4 (by simp)
 cases hf4
 have t0:w4.cell? ⟨g4,0,none⟩=some (.string ⟨#[]⟩):=by
  have h1:=hv4.cells (g:=g4) rfl 0 (.string ⟨#[]⟩) rfl
  rw[Addr.add_lit,Nat.zero_add]at h1
  exact h1
 have hck:=H.check _ X 1 overS w4 (HX3.out.later hb4) over_whole (by omega)
 rw[stuck_check]at hck
 have HCK:=hid_of hck
 have HB4:=hid_of hb4
 clear hck hv4 hb4 HTK
 go_upto_region 8 with(go_at_call 19;refine HCK.out.mono ?_;rintro e w5 ⟨rfl,hx5,hk5⟩)
 have sz5:=hk5.size
 have hb5:Below w1.heap.size w4 w5:=hk5.below (by omega) (fun b h=>h.1)
 have hb15:Below w1.heap.size w1 w5:=(((HB2.out.trans HB3.out).trans (HB4.out.mono (by omega))).trans hb5)
 have HG5:=hid_of (HG.out.later hb15)
 have HBV5:Hid (Below V.heap.size V w5):=HB1.out.trans (hb15.mono sz1)
 have u0:w5.cell? ⟨g4,0,none⟩=some (.string ⟨#[]⟩):=by
  refine(hk5.cell (p:=⟨g4,0,none⟩) hl4 (fun h=> ?_)).trans t0
  exact absurd h.2 (Nat.not_lt_of_le hg4)
 clear hx5 hk5 hb5 hb15 t0 HG HB1 HB2 HB3 HB4 HX3 HCK
 go_wp2_with fail
 have HBASE:Hid (V.heap.size<=w5.heap.size):=HBV5.out.size
 go_loopw [14] (fun i wr=>∃(k:Nat) (over:Bool),k<=l.length/\i= .int .i64 k/\StuckOK V.heap.size (6*k) wr G over/\Below V.heap.size V wr) (fun i _=>l.length - (intOf i).toNat)
 case atStart=>exact⟨0,false,Nat.zero_le _,rfl,HG5.out,HBV5.out⟩
 case round=>
  obtain⟨k,over,hk,rfl,hg,hbw⟩:=hrel
  have g9:=hg.flag
  have szr:=hbw.size
  by_cases hgo:k < l.length/\over=false
  ·obtain⟨hlt,rfl⟩:=hgo
   obtain⟨m,hx⟩:∃m,l[k]?= some m:=⟨_,List.getElem?_eq_getElem hlt⟩
   obtain⟨hmf,b,o,rfl,hbl,hc⟩:=HM.out k m hx
   have hbW:Below w.heap.size w wr:=HBV.out.trans (hbw.mono HBV.out.size)
   have d0:wr.cell? ⟨b,o+k*4,none⟩=some (.int .i64 m.k):=(hbW.cell (p:=⟨b,o+k*4,none⟩) hbl).trans (hc 0 _ rfl)
   have d1:wr.cell? ⟨b,o+k*4+1,none⟩=some (.int .i64 m.w):=(hbW.cell (p:=⟨b,o+k*4+1,none⟩) hbl).trans (hc 1 _ rfl)
   have d2:wr.cell? ⟨b,o+k*4+2,none⟩=some (.int .i64 m.v):=(hbW.cell (p:=⟨b,o+k*4+2,none⟩) hbl).trans (hc 2 _ rfl)
   have d3:wr.cell? ⟨b,o+k*4+3,none⟩=some (.int .i64 m.i):=(hbW.cell (p:=⟨b,o+k*4+3,none⟩) hbl).trans (hc 3 _ rfl)
   have i1:(0:Int)<=(k:Int):=by omega
   have i2:(k:Int) < (l.length:Int):=by omega
   have HMV:=hid_of (hg.moves H szr (by omega) hmf)
   have HBW:=hid_of hbw
   clear hc hx hg hbw hmf hbW
   go_wp2_with (go_at_call 14;refine HMV.out.mono ?_;rintro e w6 ⟨rfl,hg6,hb6⟩;have HG6:=hid_of hg6;have HB6:=hid_of hb6;clear hg6 hb6)
   go_roundw
   case rel=>
    obtain⟨over',hg6⟩:=HG6.out
    exact⟨k+1,over',by omega,by go_num,by rw[show 6*(k+1)=6*k+6 by omega];exact hg6,HBW.out.trans HB6.out⟩
   case measure=>simp[intOf];omega
  ·cases over with
   |false=>
    have hlt:¬k < l.length:=fun h=>hgo ⟨h,rfl⟩
    have HBW:Hid (Below w.heap.size w wr):=HBV.out.trans (hbw.mono HBV.out.size)
    clear hgo hg hbw
    go_wp2_with fail
    go_ret
    exact⟨rfl,HBW.out⟩
   |true=>
    obtain⟨T,hT1,hT2⟩:=hg.shown H rfl szr (by omega)
    have HT1:=hid_of hT1
    have HT2:=hid_of hT2
    have HBW:=hid_of hbw
    have hbt:(T.toList==T.toList)=true:=by simp
    have i2:decide ((k:Int) < (l.length:Int))=decide (k < l.length):=by simp
    cases hlt:decide (k < l.length)
    all_goals
     clear hgo hg hbw hT1 hT2
     go_wp2_with (first
      |(go_at_call 24;refine HT1.out.mono ?_;rintro e w6 ⟨rfl,hb6⟩
        have bM6:=(HBM.out.below HBW.out hlM).below hb6 (by omega)
        have n0:w6.cell? ⟨V0.heap.size,0,none⟩=some (.int .i64 mv.k):=bM6.cell (o:=0) rfl
        have n1:w6.cell? ⟨V0.heap.size,1,none⟩=some (.int .i64 mv.w):=bM6.cell (o:=1) rfl
        have n2:w6.cell? ⟨V0.heap.size,2,none⟩=some (.int .i64 mv.v):=bM6.cell (o:=2) rfl
        have n3:w6.cell? ⟨V0.heap.size,3,none⟩=some (.int .i64 mv.i):=bM6.cell (o:=3) rfl
        have HMV:=hid_of (HT2.out mv w6 HMF.out hb6)
        have HB6:=hid_of hb6
        have sz6:=hb6.size
        clear hb6 bM6 HT1)
      |(go_at_call 25;refine HMV.out.mono ?_;rintro e w7 ⟨v7,rfl,rfl,hT3,hb7⟩
        have HT3:=hid_of hT3
        have HB7:=hid_of hb7
        have sz7:=hb7.size
        clear hT3 hb7)
      |(go_at_call 24;refine HT3.out.mono ?_;rintro e w8 ⟨rfl,hb8⟩
        have HB8:=hid_of hb8
        clear hb8))
     go_ret
     exact⟨rfl,(((HBV.out.trans (HBW.out.mono HBV.out.size)).trans (HB6.out.mono (Nat.le_trans HBV.out.size szr))).trans (HB7.out.mono HBV.out.size)).trans (HB8.out.mono (by have:=HBV.out.size;omega))⟩
end Go.Proofs.YtfanaanofjhlkaaGreatDoor
