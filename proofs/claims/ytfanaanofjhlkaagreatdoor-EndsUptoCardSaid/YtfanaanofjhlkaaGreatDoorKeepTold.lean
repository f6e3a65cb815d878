import Derived.Test.YtfanaanofjhlkaaGreatDoorXPut
import Derived.Test.YtfanaanofjhlkaaGreatDoorXSteal2
import Derived.Test.YtfanaanofjhlkaaGreatDoorTurns7
import Derived.Test.YtfanaanofjhlkaaGreatDoorSame
import Derived.Test.YtfanaanofjhlkaaGreatDoorRaw
import Derived.Test.YtfanaanofjhlkaaGreatDoorRefWork
import Derived.BigQuiet
namespace Go.Proofs.YtfanaanofjhlkaaGreatDoor
open Go Go.RowKit
def toldS(s:RunS):List (ByteArray×Int):=if s.done=true then s.values else []
structure RunCalls:Prop where
 tasks:∀(F:Nat->Prop) (B N:Nat) (s:RunS) (i:Int) (w:World),XOK F w B s->Whole N s->Calls Tryz.prog 23 #[.pointer (some ⟨B,0,none⟩),.int .i64 i] w fun e w'=>∃v,e= .returned (.tuple #[v,.int .i64 (tasksS s i).2])/\w'.ownsRow w.heap.size 62 3 v (tasksS s i).1.length ((tasksS s i).1.flatMap taskEnc)/\Below w.heap.size w w'
 messages:∀(F:Nat->Prop) (B N:Nat) (s:RunS) (w:World),XOK F w B s->Whole N s->Calls Tryz.prog 56 #[.pointer (some ⟨B,0,none⟩)] w fun e w'=>∃v,e= .returned (.tuple #[v,.int .i64 0])/\w'.ownsRow w.heap.size 124 15 v s.way.length (s.way.flatMap msgEnc)/\Below w.heap.size w w'
 announced:∀(F:Nat->Prop) (B N:Nat) (did:List ByteArray) (s:RunS) (w:World),XOK F w B s->Whole N s->N+6<=80000000->Play did s->Calls Tryz.prog 20 #[.pointer (some ⟨B,0,none⟩)] w fun e w'=>∃v,e= .returned (.tuple #[v,.bool s.done,.int .i64 0])/\w'.ownsRow w.heap.size 92 2 v (toldS s).length (pairCells (toldS s))/\Below w.heap.size w w'
 work:∀(F:Nat->Prop) (B N:Nat) (s:RunS) (i:Int) (w:World),XOK F w B s->Whole N s->N+6<=80000000->Calls Tryz.prog 22 #[.pointer (some ⟨B,0,none⟩),.int .i64 i] w (XGives F w B (workS s i))
 steal:∀(F:Nat->Prop) (B N:Nat) (s:RunS) (i v:Int) (w:World),XOK F w B s->Whole N s->N+6<=80000000->Calls Tryz.prog 57 #[.pointer (some ⟨B,0,none⟩),.int .i64 i,.int .i64 v] w (XGives F w B (stealS s i v))
 drop:∀(F:Nat->Prop) (B N:Nat) (s:RunS) (i:Int) (w:World),XOK F w B s->Whole N s->N+6<=80000000->Calls Tryz.prog 58 #[.pointer (some ⟨B,0,none⟩),.int .i64 i] w (XGives F w B (dropS s i))
 twice:∀(F:Nat->Prop) (B N:Nat) (s:RunS) (i:Int) (w:World),XOK F w B s->Whole N s->N+6<=80000000->Calls Tryz.prog 59 #[.pointer (some ⟨B,0,none⟩),.int .i64 i] w (XGives F w B (twiceS s i))
 tick:∀(F:Nat->Prop) (B N:Nat) (s:RunS) (i:Int) (w:World),XOK F w B s->Whole N s->N+6<=80000000->Calls Tryz.prog 40 #[.pointer (some ⟨B,0,none⟩),.int .i64 i] w (XGives F w B (tickS s i))
 deliver:∀(F:Nat->Prop) (B N:Nat) (s:RunS) (i:Int) (w:World),XOK F w B s->Whole N s->N+6<=80000000->Calls Tryz.prog 41 #[.pointer (some ⟨B,0,none⟩),.int .i64 i] w (XGives F w B (deliverS s i))
 pass:∀(F:Nat->Prop) (B N:Nat) (s:RunS) (i:Int) (w:World),XOK F w B s->Whole N s->N+6<=80000000->Calls Tryz.prog 39 #[.pointer (some ⟨B,0,none⟩),.int .i64 i] w (XGives F w B (passS s i))
 check:∀(F:Nat->Prop) (B N:Nat) (s:RunS) (w:World),XOK F w B s->Whole N s->N+6<=80000000->Calls Tryz.prog 19 #[.pointer (some ⟨B,0,none⟩)] w (XGives F w B (checkS s))
structure MoveS where
 k:Int
 w:Int
 v:Int
 i:Int
def placeS(s:RunS)(i:Int):Int:=if s.way=[]then 0 else pickS i s.way.length
def moveS(s:RunS)(m:MoveS):RunS×Int:=
 if pickS m.k 12 < 3 then workS s (pickS m.w s.workers)
 else if pickS m.k 12 < 5 then stealS s (pickS m.w s.workers) ((pickS m.w s.workers+1+pickS m.v (s.workers - 1)) % s.workers)
 else if pickS m.k 12 < 8 then deliverS s (placeS s m.i)
 else if pickS m.k 12=8 then(if pickS m.v 2=0 then dropS s (placeS s m.i)else twiceS s (placeS s m.i))
 else if pickS m.k 12=9 then tickS s (pickS m.w s.workers)
 else if pickS m.k 12=10 then passS s (pickS m.w s.workers)
 else checkS s
theorem Whole.move{N:Nat}{s:RunS}(h:Whole N s)(hN:N+6<=80000000)(m:MoveS):Whole (N+6) (moveS s m).1:=by
 unfold moveS
 repeat' split
 ·exact(h.work _).more (by omega)
 ·exact(h.steal _ _).more (by omega)
 ·exact(h.deliver (by omega) _).more (by omega)
 ·exact(h.drop _).more (by omega)
 ·exact(h.twice _).more (by omega)
 ·exact(h.tick _).more (by omega)
 ·exact(h.pass (by omega) _).more (by omega)
 ·exact h.check (by omega)
theorem Stays.move(s:RunS)(m:MoveS):Stays s (moveS s m).1:=by
 unfold moveS
 repeat' split
 ·exact .work _ _
 ·exact .steal _ _ _
 ·exact .deliver _ _
 ·exact .drop _ _
 ·exact .twice _ _
 ·exact .tick _ _
 ·exact .pass _ _
 ·exact .check _
def youngS(s:RunS)(w:Int):Option ByteArray:=(tasksS s w).1.getLast?.map (·.id)
def didS(s:RunS)(m:MoveS)(did:List ByteArray):List ByteArray:=
 if pickS m.k 12 < 3/\(moveS s m).2=0 then did++(youngS s (pickS m.w s.workers)).toList else did
theorem Play.move{N:Nat}{s:RunS}{did:List ByteArray}(h:Play did s)(hf:Fine N s)(hN:N+6<=80000000)(m:MoveS):Play (didS s m did) (moveS s m).1:=by
 unfold didS
 by_cases hk:pickS m.k 12 < 3
 ·have e:moveS s m=workS s (pickS m.w s.workers):=by unfold moveS;rw[if_pos hk]
  rw[e]
  have h2:=hf.two
  have hp:=pickS_range m.w s.workers (by omega)
  rcases h.work hf (pickS m.w s.workers)with⟨h0,h1⟩|⟨h0,x,t,hx,ht,h1⟩
  ·rw[if_neg (fun q=>h0 q.2)]
   exact h1
  ·rw[if_pos ⟨hk,h0⟩]
   have e2:youngS s (pickS m.w s.workers)=some t.id:=by
    unfold youngS tasksS
    rw[if_neg (by omega),hx]
    show(x.tasks.getLast?).map (·.id)=_
    rw[ht]
    rfl
   rw[e2]
   exact h1
 ·rw[if_neg (fun q=>hk q.1)]
  unfold moveS
  rw[if_neg hk]
  repeat' split
  ·exact h.steal hf _ _
  ·exact h.deliver hf (by omega) _
  ·exact h.drop _
  ·exact h.twice _
  ·exact h.tick _
  ·exact h.pass hf _
  ·exact h.check hf (by omega)
def gameCells(B:Nat)(s:RunS)(kv av dv:Value)(over done:Bool):Array Value:=#[.pointer (some ⟨B,0,none⟩),.int .i64 s.workers,.int .i64 s.room,.int .i64 s.mode,kv,.int .i64 s.kind,.int .i64 s.arg,av,dv,.bool over,.bool done]
def allS(s:RunS):List (ByteArray×Int):=pairsOf s.ks (allTasks s.ks s.kind s.arg)
theorem Stays.all{s s':RunS}(h:Stays s s'):allS s'=allS s:=by unfold allS;rw[h.ks,h.kind,h.arg]
structure GameAt(base:Nat)(own:Nat->Nat)(W:World)(G B:Nat)(s:RunS)(ka:Option Addr)(kc:Nat)(av dv:Value)(did:List ByteArray)(over done:Bool):Prop where
 new:∀b,own b≠0->base<=b
 box:BoxAt W G 45 (gameCells B s (.slice ka s.ks.length kc) av dv over done)
 gown:own G=1
 run:XOK (fun b=>own b=2) W B s
 kinds:KindsAt (fun b=>own b=3) W (.slice ka s.ks.length kc) s.ks
 all:W.ownsRow base 92 2 av (allS s).length (pairCells (allS s))
 aown:∀g,av.ownBlock=some g->own g=4
 did:W.ownsRow base 9 1 dv did.length (did.map Value.string)
 down:∀g,dv.ownBlock=some g->own g=5
section
variable {base:Nat} {own:Nat->Nat} {W W':World} {G B:Nat} {s s':RunS} {ka:Option Addr} {kc:Nat} {av dv:Value} {did:List ByteArray} {over done:Bool}
theorem GameAt.later(h:GameAt base own W G B s ka kc av dv did over done)(hb:Below W.heap.size W W'):GameAt base (fun g=>if g < W.heap.size then own g else 0) W' G B s ka kc av dv did over done:=by
 have hk:Kept (fun b=>W.heap.size<=b) W W':=Kept.of_below hb (fun _ _ h=>h)
 refine⟨fun g hg=> ?_,h.box.kept hk (by have:=h.box.lt;omega),?_,h.run.kept hk (fun g hl hg=>⟨by omega,by simp[hl,hg]⟩),?_,row_later h.all hb,fun g e=> ?_,row_later h.did hb,fun g e=> ?_⟩
 ·by_cases hl:g < W.heap.size
  ·exact h.new g (by simpa[hl]using hg)
  ·simp[hl]at hg
 ·have:=h.box.lt
  simp[this,h.gown]
 ·refine(h.kinds.below.kept hk (fun b h1 h2=>by omega)).mono (fun b hb=> ?_)
  simp[hb.2,hb.1]
 ·have:=(h.all.lt g e).2
  simp[this,h.aown g e]
 ·have:=(h.did.lt g e).2
  simp[this,h.down g e]
theorem GameAt.ran(h:GameAt base own W G B s ka kc av dv did over done)(hbase:base<=W.heap.size)(hk:Kept (fun b=>own b=2) W W')(hx:XOK (fun b=>own b=2\/W.heap.size<=b) W' B s')(hs:Stays s s'):GameAt base (fun g=>if g < W.heap.size then own g else 2) W' G B s' ka kc av dv did over done:=by
 have e:gameCells B s' (.slice ka s'.ks.length kc) av dv over done=gameCells B s (.slice ka s.ks.length kc) av dv over done:=by
  unfold gameCells
  rw[hs.workers,hs.room,hs.mode,hs.ks,hs.kind,hs.arg]
 refine⟨fun g hg=> ?_,?_,?_,hx.kept (Kept.refl (fun _=>False) W') (fun g _ hg=>⟨fun h=>h,?_⟩),?_,?_,fun g e=> ?_,?_,fun g e=> ?_⟩
 ·by_cases hl:g < W.heap.size
  ·exact h.new g (by simpa[hl]using hg)
  ·omega
 ·rw[e]
  exact h.box.kept hk (by have:=h.gown;omega)
 ·have:=h.box.lt
  simp[this,h.gown]
 ·by_cases hl:g < W.heap.size
  ·rcases hg with hg|hg
   ·simp[hl,hg]
   ·omega
  ·simp[hl]
 ·rw[hs.ks]
  refine(h.kinds.below.kept hk (fun b h1 h2=>by omega)).mono (fun b hb=> ?_)
  simp[hb.2,hb.1]
 ·rw[hs.all]
  exact row_kept h.all hk (fun g e hg=>by have:=h.aown g e;omega) (Nat.le_refl _)
 ·have:=(h.all.lt g e).2
  simp[this,h.aown g e]
 ·exact row_kept h.did hk (fun g e hg=>by have:=h.down g e;omega) (Nat.le_refl _)
 ·have:=(h.did.lt g e).2
  simp[this,h.down g e]
theorem GameAt.wrote{dv':Value}{did':List ByteArray}{over' done':Bool}(h:GameAt base own W G B s ka kc av dv did over done)(hbase:base<=W.heap.size)(hk:Kept (fun b=>own b=1\/own b=5) W W')(hb:BoxAt W' G 45 (gameCells B s (.slice ka s.ks.length kc) av dv' over' done'))(hd:W'.ownsRow base 9 1 dv' did'.length (did'.map Value.string))(hdo:∀g,dv'.ownBlock=some g->own g=5\/W.heap.size<=g):GameAt base (fun g=>if g < W.heap.size then own g else 5) W' G B s ka kc av dv' did' over' done':=by
 refine⟨fun g hg=> ?_,hb,?_,h.run.kept hk (fun g hl hg=>⟨by omega,by simp[hl,hg]⟩),?_,row_kept h.all hk (fun g e hg=>by have:=h.aown g e;omega) (Nat.le_refl _),fun g e=> ?_,hd,fun g e=> ?_⟩
 ·by_cases hl:g < W.heap.size
  ·exact h.new g (by simpa[hl]using hg)
  ·omega
 ·have:=h.box.lt
  simp[this,h.gown]
 ·refine(h.kinds.below.kept hk (fun b h1 h2=>by omega)).mono (fun b hb=> ?_)
  simp[hb.2,hb.1]
 ·have:=(h.all.lt g e).2
  simp[this,h.aown g e]
 ·by_cases hl:g < W.heap.size
  ·rcases hdo g e with q|q
   ·simp[hl,q]
   ·omega
  ·simp[hl]
end
set_option maxHeartbeats 4000000 in
set_option maxRecDepth 100000 in
theorem young_calls(H:RunCalls){base:Nat}{own:Nat->Nat}{G B N:Nat}{s:RunS}{ka:Option Addr}{kc:Nat}{av dv:Value}{did:List ByteArray}{over done:Bool}(i:Int){w:World}(h:GameAt base own w G B s ka kc av dv did over done)(hW:Whole N s) :
  Calls Tryz.prog 36 #[.pointer (some ⟨G,0,none⟩),.int .i64 i] w fun e w'=>∃v,e= .returned v/\(v= .tuple #[.string ((youngS s i).getD ⟨#[]⟩),.bool (youngS s i).isSome]/\Below w.heap.size w w'):=by
 have g0:=h.box.cell (o:=0) rfl
 have HT:=hid_of (H.tasks _ B N s i w h.run hW)
 have HY:Hid (youngS s i=(tasksS s i).1.getLast?.map (·.id)):=rfl
 have hfew:(tasksS s i).1.length<=90000000:=by
  unfold tasksS
  split
  ·simp
  ·cases hx:s.W[i.toNat]? with
   |none=>simp
   |some x=>
    have h1:=hW.steady.pol.room _ x hx
    have h2:=hW.fine.rmax
    simp
    omega
 generalize (tasksS s i).1=l at *
 generalize (tasksS s i).2=er at *
 clear h
 rcases List.eq_nil_or_concat l with rfl|⟨L,t,rfl⟩
 ·go_enter Tryz.func36,Tryz.ntmps36
  go_wp2_with (first
   |(go_at_call 23;refine HT.out.mono ?_;rintro e w1 ⟨v,rfl,hv,hb1⟩
     obtain⟨va,vc,rfl⟩:=row_form hv
     have HB1:=hid_of hb1
     clear hv hb1))
  refine bodyPost_ret (v:= .tuple #[.string ⟨#[]⟩,.bool false]) (by simp[results,Tryz.results36,go_sem]) rfl ⟨_,rfl,?_,HB1.out⟩
  rw[HY.out]
  rfl
 ·rw[List.concat_eq_append]at *
  have hn:((L++ [t]).length:Int)=(L.length:Int)+1:=by simp
  have hz:(((L++ [t]).length:Int)==0)=false:=by rw[beq_eq_false_iff_ne];omega
  have i1:(0:Int)<=(L.length:Int):=by omega
  have i2:(L.length:Int) < ((L++ [t]).length:Int):=by omega
  have i3:((L++ [t]).length:Int) - 1=(L.length:Int):=by omega
  go_enter Tryz.func36,Tryz.ntmps36
  go_wp2_with (first
   |(go_at_call 23;refine HT.out.mono ?_;rintro e w1 ⟨v,rfl,hv,hb1⟩
     obtain⟨g1,cap1,hgf,hg1,hg2⟩:=World.ownsRow.form hv (by simp)
     cases hgf
     have c0:w1.cell? ⟨g1,L.length*3,none⟩=some (.string t.id):=by
      have h1:=hv.cells (g:=g1) rfl (L.length*3) (.string t.id) (by
       exact flat_get (sz:=3) (enc:=taskEnc) (fun _=>rfl) (L++ [t]) L.length t 0 _ (by simp) rfl)
      rw[Addr.add_lit,Nat.zero_add]at h1
      exact h1
     have HB1:=hid_of hb1
     clear hv hb1))
  refine bodyPost_ret (v:= .tuple #[.string t.id,.bool true]) (by simp[results,Tryz.results36,go_sem]) rfl ⟨_,rfl,?_,HB1.out⟩
  rw[HY.out]
  simp
theorem workerE_at{s:RunS}(hd:s.done=true)(i:Int):workerE s i=5:=by
 unfold workerE startE
 simp[hd]
theorem work_done{s:RunS}(hd:s.done=true)(i:Int):workS s i=(s,5):=by
 unfold workS
 rw[workerE_at hd,if_pos (by decide)]
theorem check_done{s:RunS}(hd:s.done=true):checkS s=(s,5):=by
 unfold checkS startE
 simp[hd]
theorem tasks_rest{s:RunS}(h:∀x∈s.W,x.tasks=[]){i:Int}(h0:0<=i)(h1:i < s.workers):tasksS s i=([],0):=by
 unfold tasksS
 rw[if_neg (by omega)]
 cases hx:s.W[i.toNat]? with
 |none=>rfl
 |some x=>simp[h x (List.mem_of_getElem? hx)]
set_option maxHeartbeats 8000000 in
set_option maxRecDepth 100000 in
theorem kannounced_calls(H:RunCalls){base:Nat}{own:Nat->Nat}{G B N:Nat}{s:RunS}{ka:Option Addr}{kc:Nat}{av dv:Value}{did:List ByteArray}{over done:Bool}{w:World}(h:GameAt base own w G B s ka kc av dv did over done)(hW:Whole N s)(hN:N+6<=80000000)(hp:Play did s)(hbase:base<=w.heap.size)(hfew:(allTasks s.ks s.kind s.arg).length<=200) :
  Calls Tryz.prog 16 #[.pointer (some ⟨G,0,none⟩)] w fun e w'=>e= .returned (.bool true)/\∃own',GameAt base own' w' G B s ka kc av dv did over done/\Below base w w':=by
 have HAN:=hid_of (H.announced _ B N did s w h.run hW hN hp)
 have g0:w.cell? ⟨G,0,none⟩=some (.pointer (some ⟨B,0,none⟩)):=h.box.cell (o:=0) rfl
 have hall:(allS s).length<=200:=by unfold allS;rw[pairsOf_length];exact hfew
 by_cases hd:s.done=true
 ·have hpa:=hp.announced hW.fine hd
  have e1:toldS s=allS s:=by unfold toldS allS;rw[if_pos hd,hpa.1]
  have hlen:did.length=(allS s).length:=by unfold allS;rw[pairsOf_length];exact hpa.2.1
  obtain⟨aa,ac,rfl⟩:=row_form h.all
  obtain⟨da,dc,rfl⟩:=row_form h.did
  have HREST:=hid_of hpa.2.2
  rw[e1,hd]at HAN
  have HG:=hid_of h
  have HPAIR:=hid_of (pairs_of_row h.all).2
  have h2:=hW.fine.two
  have h5:=hW.fine.five
  have HWh:=hid_of hW
  have HD:=hid_of hd
  obtain⟨n,hn⟩:∃n,s.workers=n:=⟨_,rfl⟩
  rw[hn]at h2 h5
  obtain⟨q,hq⟩:∃q:Nat,(q:Int)=n:=⟨n.toNat,by omega⟩
  have HN:=hid_of hn
  have HLEN:=hid_of hlen
  obtain⟨L,hL⟩:∃L,allS s=L:=⟨_,rfl⟩
  rw[hL]at HAN HPAIR hall HLEN
  have HL:=hid_of hL
  clear h hW hp hpa e1 hlen hd hn hL
  go_enter Tryz.func16,Tryz.ntmps16
  go_upto_region 2 with(go_at_call 20;refine HAN.out.mono ?_;rintro e w1 ⟨v,rfl,hv,hb1⟩)
  obtain⟨va,vc,rfl⟩:=row_form hv
  have HPV:=hid_of (pairs_of_row hv).2
  have hG1:=HG.out.later hb1
  have HB1:=hid_of hb1
  obtain⟨own1,ho1⟩:∃own1,(fun g=>if g < w.heap.size then own g else 0)=own1:=⟨_,rfl⟩
  rw[ho1]at hG1
  have g7:w1.cell? ⟨G,7,none⟩=some (.slice aa L.length ac):=by rw[<-HL.out];exact hG1.box.cell (o:=7) rfl
  have g8:w1.cell? ⟨G,8,none⟩=some (.slice da L.length dc):=by rw[<-HLEN.out];exact hG1.box.cell (o:=8) rfl
  have HP1:Hid (PairsAt w1 (.slice aa L.length ac) L):=HPAIR.out.below hb1 (Nat.le_refl _)
  have HG1:=hid_of hG1
  have s1:=hb1.size
  have hgl:=hG1.box.lt
  clear hv hb1 hG1 HPAIR HAN g0
  have hs:=valueHeld
  have hg:=valueGuard
  go_upto_region 4 with fail
  go_quiet (fail)
  go_wp2_with fail
  go_loopw [6] (fun i wr=>∃k:Nat,k<=L.length/\i= .int .i64 k/\Below w1.heap.size w1 wr) (fun i _=>L.length - (intOf i).toNat)
  case atStart=>exact⟨0,Nat.zero_le _,rfl,below_drewN (Below.refl _ _) _⟩
  case round=>
   obtain⟨k,hk,rfl,hbw⟩:=hrel
   by_cases hlt:k < L.length
   ·obtain⟨x,hx⟩:∃x,L[k]?= some x:=⟨_,List.getElem?_eq_getElem hlt⟩
    obtain⟨a1,c1,e1,hc1⟩:=HP1.out
    cases e1
    obtain⟨a2,c2,e2,hc2⟩:=HPV.out
    cases e2
    obtain⟨y1,o1,rfl,hy1,x0,x1⟩:=hc1 k x hx
    obtain⟨y2,o2,rfl,hy2,x2,x3⟩:=hc2 k x hx
    have d0:=(hbw.cell (p:=⟨y1,o1+k*2,none⟩) hy1).trans x0
    have d1:=(hbw.cell (p:=⟨y1,o1+k*2+1,none⟩) hy1).trans x1
    have d2:=(hbw.cell (p:=⟨y2,o2+k*2,none⟩) hy2).trans x2
    have d3:=(hbw.cell (p:=⟨y2,o2+k*2+1,none⟩) hy2).trans x3
    have d7:=(hbw.cell (p:=⟨G,7,none⟩) (by show G < w1.heap.size;omega)).trans g7
    have i1:(0:Int)<=(k:Int):=by omega
    have i2:(k:Int) < (L.length:Int):=by omega
    clear hc1 hc2 x0 x1 x2 x3 g7 g8
    go_wp2_with fail
    go_quiet (fail)
    go_wp2_with fail
    go_roundw
    case rel=>exact⟨k+1,by omega,by go_num,below_drewN hbw _⟩
    case measure=>simp[intOf];omega
   ·have hG2:=HG1.out.later hbw
    have hb2:Below base w wr:=(HB1.out.mono hbase).trans (hbw.mono (by omega))
    have s2:=hbw.size
    have HG2:=hid_of hG2
    have HB2:=hid_of hb2
    clear hG2 hb2 hbw g7 g8 hs hg
    go_wp2_with fail
    go_loopw [7] (fun i wx=>∃(k:Nat) (own':Nat->Nat),k<=q/\i= .int .i64 k/\GameAt base own' wx G B s ka kc (.slice aa (allS s).length ac) (.slice da did.length dc) did over done/\Below base w wx) (fun i _=>q - (intOf i).toNat)
    case atStart=>exact⟨0,_,Nat.zero_le _,rfl,HG2.out,HB2.out⟩
    case round=>
     obtain⟨k,own3,hk,rfl,hG3,hb3⟩:=hrel
     have s3:=hb3.size
     have p0:wr.cell? ⟨G,0,none⟩=some (.pointer (some ⟨B,0,none⟩)):=hG3.box.cell (o:=0) rfl
     have p1:wr.cell? ⟨G,1,none⟩=some (.int .i64 n):=by rw[<-HN.out];exact hG3.box.cell (o:=1) rfl
     by_cases hlt:k < q
     ·have i1:(k:Int) < n:=by omega
      have hte:=tasks_rest HREST.out (i:=(k:Int)) (by omega) (by rw[HN.out];exact i1)
      have hT:=H.tasks _ B N s k wr hG3.run HWh.out
      rw[hte]at hT
      have HT:=hid_of hT
      have HG3:=hid_of hG3
      have HB3:=hid_of hb3
      have hgl3:=hG3.box.lt
      clear hT hte hG3 hb3
      go_wp2_with (first
       |(go_at_call 23;refine HT.out.mono ?_;rintro e w5 ⟨v5,rfl,hv5,hb5⟩
         obtain⟨a5,c5,rfl⟩:=row_form hv5
         have s5:=hb5.size
         have p0':=(hb5.cell (p:=⟨G,0,none⟩) (by show G < wr.heap.size;omega)).trans p0
         have hG5:=HG3.out.later hb5
         have hwk:=H.work _ B N s (k:Int) w5 hG5.run HWh.out hN
         rw[work_done HD.out]at hwk
         have HWK:=hid_of hwk
         have HG5:=hid_of hG5
         have HB5:=hid_of hb5
         clear hv5 hG5 hb5 hwk p0 p1)
       |(go_at_call 22;refine HWK.out.mono ?_;rintro e w6 ⟨rfl,hx6,hk6⟩
         have HX6:=hid_of hx6
         have HK6:=hid_of hk6
         clear hx6 hk6))
      go_roundw
      case rel=>
       have hG6:=HG5.out.ran (by omega) HK6.out HX6.out (Stays.refl s)
       exact⟨k+1,_,by omega,by go_num,hG6,(HB3.out.trans (HB5.out.mono (by omega))).trans (HK6.out.below (by omega) (fun g e=>HG5.out.new g (by omega)))⟩
      case measure=>simp[intOf];omega
     ·have i1:¬(k:Int) < n:=by omega
      have hck:=H.check _ B N s wr hG3.run HWh.out hN
      rw[check_done HD.out]at hck
      have HCK:=hid_of hck
      have HG3:=hid_of hG3
      have HB3:=hid_of hb3
      clear hck hG3 hb3
      go_wp2_with (go_at_call 19;refine HCK.out.mono ?_;rintro e w6 ⟨rfl,hx6,hk6⟩)
      go_ret
      exact⟨rfl,_,HG3.out.ran (by omega) hk6 hx6 (Stays.refl s),HB3.out.trans (hk6.below (by omega) (fun g e=>HG3.out.new g (by omega)))⟩
 ·have hd':s.done=false:=by simpa using hd
  have e1:toldS s=[]:=by unfold toldS;rw[if_neg hd]
  rw[e1,hd']at HAN
  have HG:=hid_of h
  clear h hW hp hd hd' e1
  go_enter Tryz.func16,Tryz.ntmps16
  go_wp2_with (go_at_call 20;refine HAN.out.mono ?_;rintro e w1 ⟨v,rfl,hv,hb1⟩;obtain⟨va,vc,rfl⟩:=row_form hv;have HB1:=hid_of hb1;clear hv hb1)
  go_ret
  exact⟨rfl,_,HG.out.later HB1.out,HB1.out.mono hbase⟩
end Go.Proofs.YtfanaanofjhlkaaGreatDoor
