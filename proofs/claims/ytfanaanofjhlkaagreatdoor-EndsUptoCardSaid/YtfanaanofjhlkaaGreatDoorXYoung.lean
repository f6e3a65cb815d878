import Derived.Test.YtfanaanofjhlkaaGreatDoorGather
import Derived.OwnWalkIn
import Derived.Test.YtfanaanofjhlkaaGreatDoorRefWork3
import Derived.Test.YtfanaanofjhlkaaGreatDoorXAgain
namespace Go.Proofs.YtfanaanofjhlkaaGreatDoor
open Go Go.RowKit Go.Shelf
attribute [local go_sem] Oper.semAt_some
set_option maxHeartbeats 2000000 in
set_option maxRecDepth 100000 in
theorem appendSeq_calls(gf:Nat)(lb:Array Value)(L:List TaskS)(w:World)(hlen:L.length<=1000)(eg:∀args w,(callFunc gf args).run Tryz.prog w= .ok (.enter gf args) w)
  (hseq:∀(n:Nat) (X:Nat->Prop) (W:World),Below w.heap.size w W->(∀k,X k->w.heap.size<=k)->SeqY Fence.wide n Tryz.prog gf lb (fun c:TaskS=>#[taskV c]) X L W) :
  Calls Tryz.prog 117 #[.slice none 0 0,.func (.func gf) #[] lb] w fun e w'=>∃v,e= .returned v/\w'.ownsRow w.heap.size 62 3 v L.length (L.flatMap taskEnc)/\Below w.heap.size w w':=by
 obtain⟨iT,hiT,hzT0,hzT1,hzT2⟩:=info_parts infoTask
 refine(callsIn_wide (n:=5)).1 ?_
 refine callsIn_of_wp_marks Tryz.func117 rfl trivial ?_ rfl
 simp only[Tryz.ntmps117,List.size_toArray,List.length_cons,List.length_nil,Nat.reduceAdd,Nat.reduceSub,Array.replicate_succ,Array.replicate_zero,List.push_toArray,List.append_toArray,List.nil_append,List.cons_append]
 gi_wp2_with fail
 obtain⟨Z,hZ⟩:∃Z,w.alloc (Obj.cells #[.slice none 0 0] 58)=Z:=⟨_,rfl⟩
 have hbZ:Below w.heap.size w Z:=by rw[<-hZ];exact(Below.refl _ _).alloc (Nat.le_refl _) _
 have sZ:Z.heap.size=w.heap.size+1:=by rw[<-hZ];simp
 have bS:BoxAt Z w.heap.size 58 #[.slice none 0 0]:=by rw[<-hZ];exact BoxAt.new w _ _
 rw[hZ]
 clear hZ
 have hseqZ:∀W,Below Z.heap.size Z W->W.heap.size=Z.heap.size+2->SeqY Fence.wide (5 - 1) Tryz.prog gf lb (fun c:TaskS=>#[taskV c]) (fun k=>(k=w.heap.size\/Z.heap.size+2<=k)\/k=Z.heap.size+1) L W:=fun W hW _=>hseq _ _ W (hbZ.trans (hW.mono (by omega))) (fun k h=>by omega)
 refine range_lawY (F:=Fence.wide) (n:=5) (w:=Z) rfl (fun h=>(by cases h)) (gf:=gf) (lb:=lb) (by rfl) trivial eg
  (fun k=>k=w.heap.size\/Z.heap.size+2<=k) (fun k h=>by omega) hseqZ (fun _=>by rfl)
  (fun pre U=>∃v,BoxAt U w.heap.size 58 #[v]/\U.ownsRow (Z.heap.size+2) 62 3 v pre.length (pre.flatMap taskEnc)/\Kept (·= w.heap.size) Z U)
  (fun s A B h hk=>by
   obtain⟨v,h1,h2,h4⟩:=h
   exact⟨v,h1.kept hk (by omega),row_kept h2 hk (fun g e h=>by have:=(h2.lt g e).1;omega) (Nat.le_refl _),h4.andThen hk (fun b hb h=>by omega)⟩)
  ⟨_,bS,World.ownsRow_nil _ _ _ _,Kept.refl _ _⟩
  (fun pre c a' U=>∃Bx,Z.heap.size+2<=Bx/\BoxAt U Bx 62 #[.string c.id,.int .i64 c.kind,.int .i64 c.arg]/\a'=Act.mk #[Value.slice none 0 0,Value.func (Fn.func gf) #[] lb,Value.pointer (some {block:=w.heap.size,off:=0}),undef,Value.slice none 0 0,Value.pointer (some {block:=Bx,off:=0}),Value.func (Fn.func gf) #[] lb,Value.agg #[.string c.id,.int .i64 c.kind,.int .i64 c.arg],undef,undef,undef,undef,undef] [])
  (fun pre c a' A A' h hk=>by
   obtain⟨Bx,e1,e2,e3⟩:=h
   exact⟨Bx,e1,e2.kept hk (by omega),e3⟩) ?assign ?body ?done
 case assign=>
  rintro l' pre' ⟨id',k',x'⟩ U K hpre ⟨v,h1,h2,h4⟩ hszU hK
  simp only[taskV]
  gi_wp2
  exact hK _ _ (Kept.alloc _ _ _) ⟨v,h1.alloc _,row_kept h2 (Kept.alloc (fun _=>False) _ _) (fun _ _ h=>h) (Nat.le_refl _),h4.trans (Kept.alloc _ _ _)⟩ ⟨U.heap.size,hszU,BoxAt.new U _ _,rfl⟩
 case body=>
  rintro l' pre' ⟨id',k',x'⟩ a' U hpre ⟨v,h1,h2,h4⟩ ⟨Bx,hBx,bX,rfl⟩ hszU
  simp only at bX
  have hpl:pre'.length+1<=1000:=by
   have:=hpre.length_le
   rw[List.length_append]at this
   simp at this
   omega
  obtain⟨va,vc,hvf⟩:=row_form h2
  subst hvf
  have s0:=h1.cell (o:=0) rfl
  have x0:=bX.cell (o:=0) rfl
  have x1:=bX.cell (o:=1) rfl
  have x2:=bX.cell (o:=2) rfl
  have H1:=hid_of h1
  have H2:=hid_of h2
  have H4:=hid_of h4
  have HNB:Hid ((Value.slice va pre'.length vc).ownBlock≠some w.heap.size):=row_ne h2 h1 (by decide)
  have hul:=h1.lt
  clear h1 h2 h4 bX hpre
  gi_wp2_with (gi_at_builtin;refine wpListIn_append_own _ rfl _ _ _ rfl (Z.heap.size+2) 62 iT _ 3 32 Tryz.underlying58 hiT hzT0 hzT1 hzT2 rfl (by omega) (Value.slice va pre'.length vc) pre'.length (pre'.flatMap taskEnc) rfl (H2.out.alloc _) ⟨U.heap.size,0,none⟩ 1 1 [.string id',.int .i64 k',.int .i64 x'] rfl rfl (World.news_of_block (cs:=#[.string id',.int .i64 k',.int .i64 x']) (t:=62) (fr:=(0,0)) (heap_alloc_new U _)) (by simp[Value.oneCell']) (by unfold maxLen;omega) (by omega) (by simp;omega) ?_;intro v1 w1 hown1 hgrow1 _;obtain⟨a1,c1,rfl⟩:=row_form hown1;have hbs1:BoxAt w1 w.heap.size 58 #[.slice va pre'.length vc]:=(hgrow1.block _ (by simp;omega) (fun e=>HNB.out e.symm)).trans (H1.out.alloc _);have q1:=hbs1.cell (o:=0) rfl;have f1:=hbs1.frozen 0)
  have kU1:Kept (fun b=>(Value.slice va pre'.length vc).ownBlock=some b) U w1:=(Kept.alloc _ _ _).trans (Kept.grown hgrow1 (fun r e=>e))
  have k12:Kept (·= w.heap.size) w1 (w1.setCell ⟨w.heap.size,0,none⟩ (.slice a1 (pre'.length+1) c1)):=(Kept.refl _ _).setCell (.inl (by rfl)) _
  have hkX:Kept (fun k=>k=w.heap.size\/Z.heap.size+2<=k) U (w1.setCell ⟨w.heap.size,0,none⟩ (.slice a1 (pre'.length+1) c1)):=(kU1.mono (fun b _ h=> .inr (H2.out.lt b h).1)).trans (k12.mono (fun b _ h=> .inl h))
  refine⟨hkX,_,hbs1.setAt 0 _,?_,H4.out.andThen hkX (fun b hb h=>by omega)⟩
  rw[List.length_append,List.flatMap_append]
  exact row_kept hown1 k12 (fun g e h=>by subst h;exact row_ne hown1 hbs1 (by decide) e) (Nat.le_refl _)
 case done=>
  rintro Dd U hD ⟨v,h1,h2,h4⟩ hK
  obtain⟨va,vc,hvf⟩:=row_form h2
  subst hvf
  have s0:=h1.cell (o:=0) rfl
  gi_wp2
  refine⟨by simp,.inl ⟨_,_,rfl,run_takeDeferred hK,?_⟩⟩
  have hkF:Kept (·= Dd) U (U.putObj Dd (.deferred none)):=Kept.putObj _ _ _ rfl
  have hDu:=(Array.getElem?_eq_some_iff.1 hK).1
  have hbU:Below w.heap.size w U:=hbZ.trans (h4.below (by omega) (fun b h=>by omega))
  refine⟨.slice va L.length vc,by simp[results,Tryz.f117,go_sem],_,rfl,row_kept h2 hkF (fun g e h=> ?_) (by omega),hbU.trans (hkF.below hbU.size (fun k e=>by omega))⟩
  obtain⟨cs,hcs⟩:=row_obj h2 e
  rw[h,hK]at hcs
  cases hcs
set_option maxHeartbeats 1000000 in
theorem collect_calls(gf:Nat)(lb:Array Value)(L:List TaskS)(w:World)(hlen:L.length<=1000)(eg:∀args w,(callFunc gf args).run Tryz.prog w= .ok (.enter gf args) w)
  (hseq:∀(n:Nat) (X:Nat->Prop) (W:World),Below w.heap.size w W->(∀k,X k->w.heap.size<=k)->SeqY Fence.wide n Tryz.prog gf lb (fun c:TaskS=>#[taskV c]) X L W) :
  Calls Tryz.prog 54 #[.func (.func gf) #[] lb] w fun e w'=>∃v,e= .returned v/\w'.ownsRow w.heap.size 62 3 v L.length (L.flatMap taskEnc)/\Below w.heap.size w w':=by
 have HC:=hid_of (appendSeq_calls gf lb L w hlen eg hseq)
 clear hseq
 go_enter Tryz.func54,Tryz.ntmps54
 go_wp2_with (go_at_call 117;refine HC.out.mono ?_;rintro e w1 ⟨v1,rfl,hrow1,hb1⟩)
 go_ret
 exact⟨_,rfl,hrow1,hb1⟩
end Go.Proofs.YtfanaanofjhlkaaGreatDoor
namespace Go.Proofs.YtfanaanofjhlkaaGreatDoor
open Go Go.RowKit
abbrev StepV:=Nat×Array Value×Array Value
def stepVal(f:StepV):Value:= .func (.func f.1) f.2.1 f.2.2
set_option maxHeartbeats 2000000 in
set_option maxRecDepth 100000 in
theorem inTurn_calls(g n cap:Nat)(fs:List StepV)(w:World)(hn:fs.length=n)(hn9:n<=9)(J:Nat->World->Prop)(E:Int->World->Prop)
  (hcell:∀i W,J i W->∀f,fs[i]?= some f->W.cell? ⟨g,i,none⟩=some (stepVal f)) (he:∀f∈fs,∀args w,(callFunc f.1 args).run Tryz.prog w= .ok (.enter f.1 args) w)
  (hstep:∀i f,fs[i]?= some f->∀W,J i W->Calls Tryz.prog f.1 (f.2.1++f.2.2) W fun e W'=>∃r,e= .returned (.int .i64 r)/\((r=0/\J (i+1) W')\/(r≠0/\E r W'))) (h0:J 0 w) :
  Calls Tryz.prog 95 #[.slice (some ⟨g,0,none⟩) n cap] w fun e w'=>∃r,e= .returned (.int .i64 r)/\((r=0/\J n w')\/(r≠0/\E r w')):=by
 have HC:=hid_of hcell
 have HE:=hid_of he
 have HS:=hid_of hstep
 have HJ0:=hid_of h0
 clear hcell he hstep h0
 go_enter Tryz.func95,Tryz.ntmps95
 go_wp2_with fail
 go_loopw [8] (fun iv wr=>∃k:Nat,k<=n/\iv= .int .i64 k/\J k wr) (fun iv _=>n - (intOf iv).toNat)
 case atStart=>exact⟨0,Nat.zero_le _,rfl,HJ0.out⟩
 case round=>
  obtain⟨k,hk,rfl,hJ⟩:=hrel
  rename World=>wr
  have HJ:=hid_of hJ
  clear hJ
  by_cases hlt:k < n
  ·obtain⟨f,hf⟩:∃f,fs[k]?= some f:=⟨_,List.getElem?_eq_getElem (by omega)⟩
   have y0:=HC.out k wr HJ.out f hf
   have hef:=HE.out f (List.mem_of_getElem? hf)
   have hst:=HS.out k f hf wr HJ.out
   obtain⟨fk,bs,cs⟩:=f
   dsimp only[stepVal]at y0 hef hst
   have HST:=hid_of hst
   have j1:(0:Int)<=(k:Int):=by omega
   have j2:(k:Int) < (n:Int):=by omega
   clear hf hst
   go_wp2_with fail
   refine HST.out.mono ?_
   rintro e w1 ⟨r,rfl,hr⟩
   by_cases hr0:r=0
   ·subst hr0
    have hJ1:J (k+1) w1:=by
     rcases hr with h|h
     ·exact h.2
     ·exact absurd rfl h.1
    go_wp2_with fail
    go_roundw
    case rel=>exact⟨k+1,by omega,by go_num,hJ1⟩
    case measure=>simp[intOf];omega
   ·have hb:(r==0)=false:=by rw[beq_eq_false_iff_ne];exact hr0
    have hE:E r w1:=by
     rcases hr with h|h
     ·exact absurd h.1 hr0
     ·exact h.2
    go_wp2_with fail
    go_ret
    exact⟨r,rfl,.inr ⟨hr0,hE⟩⟩
  ·go_wp2_with fail
   go_ret
   obtain rfl:n=k:=by omega
   exact⟨0,rfl,.inl ⟨rfl,HJ.out⟩⟩
theorem isWorker_calls(rp:Option Addr)(i:Int)(w:World):Calls Tryz.prog 51 #[.pointer rp,.int .i64 i] w fun e w'=>e= .returned (.func (.func 110) #[] #[.pointer (some ⟨w.heap.size+1,0,none⟩),.pointer (some ⟨w.heap.size,0,none⟩)])/\w'=(w.alloc (Obj.cells #[.pointer rp] 36)).alloc (Obj.cells #[.int .i64 i] 3):=by
 go_enter Tryz.func51,Tryz.ntmps51
 go_wp2_with fail
 go_ret
 exact⟨rfl,rfl⟩
theorem hasTask_calls(rp:Option Addr)(i:Int)(w:World):Calls Tryz.prog 52 #[.pointer rp,.int .i64 i] w fun e w'=>e= .returned (.func (.func 111) #[] #[.pointer (some ⟨w.heap.size,0,none⟩),.pointer (some ⟨w.heap.size+1,0,none⟩)])/\w'=(w.alloc (Obj.cells #[.pointer rp] 36)).alloc (Obj.cells #[.int .i64 i] 3):=by
 go_enter Tryz.func52,Tryz.ntmps52
 go_wp2_with fail
 go_ret
 exact⟨rfl,rfl⟩
theorem doYoungest_calls(rp:Option Addr)(i:Int)(w:World):Calls Tryz.prog 53 #[.pointer rp,.int .i64 i] w fun e w'=>e= .returned (.func (.func 112) #[] #[.pointer (some ⟨w.heap.size,0,none⟩),.pointer (some ⟨w.heap.size+1,0,none⟩)])/\w'=(w.alloc (Obj.cells #[.pointer rp] 36)).alloc (Obj.cells #[.int .i64 i] 3):=by
 go_enter Tryz.func53,Tryz.ntmps53
 go_wp2_with fail
 go_ret
 exact⟨rfl,rfl⟩
def HeldAt(W:World)(Br Bw B:Nat)(i:Int):Prop:=BoxAt W Br 36 #[.pointer (some ⟨B,0,none⟩)]/\BoxAt W Bw 3 #[.int .i64 i]
theorem HeldAt.below{W W':World}{Br Bw B:Nat}{i:Int}(h:HeldAt W Br Bw B i)(hb:Below W.heap.size W W'):HeldAt W' Br Bw B i:=⟨h.1.below hb h.1.lt,h.2.below hb h.2.lt⟩
set_option maxHeartbeats 1000000 in
set_option maxRecDepth 100000 in
theorem goesOn_calls(F:Nat->Prop)(B:Nat)(s:RunS)(w:World)(hx:XOK F w B s):Calls Tryz.prog 92 #[.pointer (some ⟨B,0,none⟩)] w fun e w'=>e= .returned (.int .i64 (if s.done then 5 else 0))/\w'=w:=by
 obtain⟨part,-,kv,wv,yv,M,xs,h⟩:=hx
 have hb:=h.box
 have b6:w.cell? ⟨B,15,none⟩=some (.bool s.done):=hb.cell (o:=15) rfl
 clear hb h
 obtain⟨o,ho⟩:∃o,s.done=o:=⟨_,rfl⟩
 rw[ho]at b6 ⊢
 go_enter Tryz.func92,Tryz.ntmps92
 cases o
 all_goals
  go_wp2_with fail
  go_ret
  exact⟨rfl,rfl⟩
set_option maxHeartbeats 1000000 in
set_option maxRecDepth 100000 in
theorem hadRoom_calls(F:Nat->Prop)(B:Nat)(s:RunS)(w:World)(hx:XOK F w B s):Calls Tryz.prog 93 #[.pointer (some ⟨B,0,none⟩)] w fun e w'=>e= .returned (.int .i64 (if s.over then 6 else 0))/\w'=w:=by
 obtain⟨part,-,kv,wv,yv,M,xs,h⟩:=hx
 have hb:=h.box
 have b6:w.cell? ⟨B,16,none⟩=some (.bool s.over):=hb.cell (o:=16) rfl
 clear hb h
 obtain⟨o,ho⟩:∃o,s.over=o:=⟨_,rfl⟩
 rw[ho]at b6 ⊢
 go_enter Tryz.func93,Tryz.ntmps93
 cases o
 all_goals
  go_wp2_with fail
  go_ret
  exact⟨rfl,rfl⟩
set_option maxHeartbeats 1000000 in
set_option maxRecDepth 100000 in
theorem isWorker1_calls(F:Nat->Prop)(B Br Bw:Nat)(s:RunS)(i:Int)(w:World)(hx:XOK F w B s)(hf:Fits s)(hh:HeldAt w Br Bw B i) :
  Calls Tryz.prog 110 #[.pointer (some ⟨Bw,0,none⟩),.pointer (some ⟨Br,0,none⟩)] w fun e w'=>e= .returned (.int .i64 (if i < 0\/s.workers<=i then 7 else 0))/\Below w.heap.size w w':=by
 obtain⟨part,-,kv,wv,yv,M,xs,h⟩:=hx
 have hb:=h.box
 have hrow:=h.wrow
 have hxl:=h.wlen
 clear h
 obtain⟨wa,wc,rfl⟩:=row_form hrow.1
 have b3:w.cell? ⟨B,4,none⟩=some (.slice wa xs.length wc):=hb.cell (o:=4) rfl
 have r0:=hh.1.cell (o:=0) rfl
 have i0:=hh.2.cell (o:=0) rfl
 have hlen:=hf.len
 have hxl':(xs.length:Int)=s.workers:=by rw[hxl];exact hlen
 obtain⟨res,hres⟩:∃res:Int,(if i < 0\/s.workers<=i then(7:Int)else 0)=res:=⟨_,rfl⟩
 rw[hres]
 rw[<-hxl']at hres
 have HRES:=hid_of hres
 clear hb hh hrow hxl hlen hf hxl' hres
 go_enter Tryz.func110,Tryz.ntmps110
 by_cases h1:i < 0
 ·have hr:res=7:=by rw[<-HRES.out,if_pos (.inl h1)]
  rw[hr]
  go_wp2_with fail
  go_quiet (fail)
  go_wp2_with fail
  go_ret
  exact⟨rfl,below_drewN (Below.refl _ _) _⟩
 ·by_cases h2:(xs.length:Int)<=i
  ·have hr:res=7:=by rw[<-HRES.out,if_pos (.inr h2)]
   rw[hr]
   have d1:decide (i < 0)=false:=decide_eq_false h1
   go_wp2_with fail
   go_quiet (fail)
   go_wp2_with fail
   go_ret
   exact⟨rfl,below_drewN (Below.refl _ _) _⟩
  ·have hr:res=0:=by rw[<-HRES.out,if_neg (by omega)]
   rw[hr]
   have d1:decide (i < 0)=false:=decide_eq_false h1
   have d2:decide ((xs.length:Int)<=i)=false:=decide_eq_false h2
   go_wp2_with fail
   go_quiet (fail)
   go_wp2_with fail
   go_ret
   exact⟨rfl,below_drewN (Below.refl _ _) _⟩
theorem idle_calls(X:Nat->Prop)(T:Nat)(room:Int)(l:List TaskS)(w:World)(ht:TaskListAt X w T room l):Calls Tryz.prog 97 #[.pointer (some ⟨T,0,none⟩)] w fun e w'=>e= .returned (.bool (decide (l.length=0)))/\w'=w:=by
 obtain⟨tv,hb,-,hr⟩:=ht
 obtain⟨ta,tc,rfl⟩:=row_form hr.1
 have b0:=hb.cell (o:=0) rfl
 clear hb hr
 go_enter Tryz.func97,Tryz.ntmps97
 go_wp2_with fail
 go_ret
 refine⟨?_,rfl⟩
 have e:((l.length:Int)==0)=decide (l.length=0):=by rw[Bool.eq_iff_iff];simp
 simp[e]
theorem x_worker{F:Nat->Prop}{B k:Nat}{s:RunS}{w:World}{x:WorkerS}(hx:XOK F w B s)(hk:s.W[k]?= some x) :
  ∃(part:Nat->Nat) (kv yv:Value) (g c M T:Nat) (xs:List XW) (y:XW),(∀b,part b≠0->F b)/\XAtO part w B s kv (.slice (some ⟨g,0,none⟩) xs.length c) yv M xs/\xs[k]?= some y/\y.T=T/\TaskListAt (fun b=>part b=10+k) w T s.room x.tasks/\w.cell? ⟨g,k*8,none⟩=some (.pointer (some ⟨T,0,none⟩))/\k < xs.length:=by
 obtain⟨part,h0,kv,wv,yv,M,xs,h⟩:=hx
 have hk':=(List.getElem?_eq_some_iff.1 hk).1
 have hxl:=h.wlen
 obtain⟨y,hy⟩:∃y,xs[k]?= some y:=⟨_,List.getElem?_eq_getElem (by omega)⟩
 obtain⟨g,c,rfl,-,-⟩:=World.ownsRow.form h.wrow.1 (by omega)
 refine⟨part,kv,yv,g,c,M,y.T,xs,y,h0,h,hy,rfl,(h.wat k y x hy hk).2,?_,by omega⟩
 have:=h.wrow.1.cells (g:=g) rfl (k*8+0) _ (flat_get (sz:=8) (enc:=xwEnc) (fun _=>rfl) xs k y 0 _ hy rfl)
 rwa [addr_add]at this
set_option maxHeartbeats 1000000 in
set_option maxRecDepth 100000 in
theorem hasTask1_calls(F:Nat->Prop)(B Br Bw k:Nat)(s:RunS)(x:WorkerS)(w:World)(hx:XOK F w B s)(hk:s.W[k]?= some x)(hk5:k < 5)(hh:HeldAt w Br Bw B k) :
  Calls Tryz.prog 111 #[.pointer (some ⟨Br,0,none⟩),.pointer (some ⟨Bw,0,none⟩)] w fun e w'=>e= .returned (.int .i64 (if x.tasks.length=0 then 8 else 0))/\Below w.heap.size w w':=by
 obtain⟨part,kv,yv,g,c,M,T,xs,y,-,h,-,-,ht,hc,hkl⟩:=x_worker hx hk
 have hb:=h.box
 have hrw:=h.wrow
 clear h
 have hgl0:g < w.heap.size:=(hrw.1.lt g rfl).2
 clear hrw
 have HI:Hid (∀U,Below w.heap.size w U->Calls Tryz.prog 97 #[.pointer (some ⟨T,0,none⟩)] U fun e w'=>e= .returned (.bool (decide (x.tasks.length=0)))/\Below w.heap.size w w'):=fun U hU=>by
  refine(idle_calls (fun b=>part b=10+k) T s.room x.tasks U (ht.kept (Kept.of_below hU (X:=fun b=>w.heap.size<=b) (fun _ _ h=>h)) (fun g hg h=>⟨by omega,h⟩))).mono ?_
  rintro e w' ⟨rfl,rfl⟩
  exact⟨rfl,hU⟩
 have b3:w.cell? ⟨B,4,none⟩=some (.slice (some ⟨g,0,none⟩) xs.length c):=hb.cell (o:=4) rfl
 have r0:=hh.1.cell (o:=0) rfl
 have i0:=hh.2.cell (o:=0) rfl
 have j1:(0:Int)<=(k:Int):=by omega
 have j2:(k:Int) < (xs.length:Int):=by omega
 obtain⟨eb,heb⟩:∃eb,decide (x.tasks.length=0)=eb:=⟨_,rfl⟩
 rw[heb]at HI
 have hif:(if x.tasks.length=0 then(8:Int)else 0)=if eb then 8 else 0:=by rw[<-heb];simp
 rw[hif]
 have hgl:g < w.heap.size/\B < w.heap.size/\Br < w.heap.size/\Bw < w.heap.size:=⟨hgl0,hb.lt,hh.1.lt,hh.2.lt⟩
 have HST:Hid (∀U,Below w.heap.size w U->Below w.heap.size w U/\U.cell? ⟨B,4,none⟩=some (.slice (some ⟨g,0,none⟩) xs.length c)/\U.cell? ⟨Br,0,none⟩=some (.pointer (some ⟨B,0,none⟩))/\U.cell? ⟨Bw,0,none⟩=some (.int .i64 k)/\U.cell? ⟨g,k*8,none⟩=some (.pointer (some ⟨T,0,none⟩))):=fun U hU=>⟨hU,(hU.cell (p:=⟨B,4,none⟩) hgl.2.1).trans b3,(hU.cell (p:=⟨Br,0,none⟩) hgl.2.2.1).trans r0,(hU.cell (p:=⟨Bw,0,none⟩) hgl.2.2.2).trans i0,(hU.cell (p:=⟨g,k*8,none⟩) hgl.1).trans hc⟩
 clear hif heb hb hh ht hgl
 go_enter Tryz.func111,Tryz.ntmps111
 go_upto_region 1 with fail
 go_region_held3 (fun U=>Below w.heap.size w U/\U.cell? ⟨B,4,none⟩=some (.slice (some ⟨g,0,none⟩) xs.length c)/\U.cell? ⟨Br,0,none⟩=some (.pointer (some ⟨B,0,none⟩))/\U.cell? ⟨Bw,0,none⟩=some (.int .i64 k)/\U.cell? ⟨g,k*8,none⟩=some (.pointer (some ⟨T,0,none⟩)))
  (first|assumption|(exact HST.out _ (by assumption))|(exact HST.out _ (Below.refl _ _))|(exact HST.out _ (Below.refl _ _).drew))
  (first
  |(go_at_call 97;refine(HI.out _ (by first|assumption|exact Below.refl _ _|exact(Below.refl _ _).drew|exact And.left (by assumption))).mono ?_;rintro e w1 ⟨rfl,hb1⟩))
 cases eb
 all_goals
  go_wp2_with fail
  go_ret
  exact⟨rfl,by first|exact hb1|exact hb1.drew⟩
theorem row_init{W:World}{base g c:Nat}{L:List TaskS}{t:TaskS}(h:W.ownsRow base 62 3 (.slice (some ⟨g,0,none⟩) (L.length+1) c) (L.length+1) (L.flatMap taskEnc++taskEnc t)):W.ownsRow base 62 3 (.slice (some ⟨g,0,none⟩) L.length c) L.length (L.flatMap taskEnc):=by
 have hfl:(L.flatMap taskEnc).length=L.length*3:=flat_length (sz:=3) (enc:=taskEnc) (fun _=>rfl) L
 obtain⟨h1,h2⟩:=h
 rcases h2 with⟨h0,_⟩|⟨g',cap',cur,h0,hb,hcur,hnc,hcm,hcs,htk⟩
 ·cases h0
 ·cases h0
  refine⟨hfl,.inr ⟨g,c,cur,rfl,hb,hcur,by omega,hcm,hcs,?_⟩⟩
  have:=congrArg (List.take (L.length*3)) htk
  rw[List.take_take,Nat.min_eq_left (by omega),List.take_append_of_le_length (by omega),<-hfl,List.take_length]at this
  rw[<-hfl]
  exact this
theorem row_last{W:World}{base g c:Nat}{L:List TaskS}{t:TaskS}(h:W.ownsRow base 62 3 (.slice (some ⟨g,0,none⟩) (L.length+1) c) (L.length+1) (L.flatMap taskEnc++taskEnc t))(j:Nat)(u:Value)(hj:(taskEnc t)[j]?= some u):W.cell? ⟨g,L.length*3+j,none⟩=some u:=by
 have h1:=h.cells (g:=g) rfl (L.length*3+j) u (by
  have hfl:(L.flatMap taskEnc).length=L.length*3:=flat_length (sz:=3) (enc:=taskEnc) (fun _=>rfl) L
  rw[List.getElem?_append_right (by omega),hfl,show L.length*3+j - L.length*3=j from by omega]
  exact hj)
 rwa [addr_add]at h1
theorem tasks_row{X:Nat->Prop}{W:World}{T:Nat}{room:Int}{L:List TaskS}{t:TaskS}(h:TaskListAt X W T room (L++ [t])):∃g c,BoxAt W T 175 #[.slice (some ⟨g,0,none⟩) (L.length+1) c,.int .i64 room]/\X T/\X g/\W.ownsRow 0 62 3 (.slice (some ⟨g,0,none⟩) (L.length+1) c) (L.length+1) (L.flatMap taskEnc++taskEnc t):=by
 obtain⟨tv,hb,hT,hr,hX⟩:=h
 rw[List.length_append,List.flatMap_append]at hr
 obtain⟨g,c,rfl,-,-⟩:=World.ownsRow.form hr (by simp)
 exact⟨g,c,hb,hT,hX g rfl,by simpa using hr⟩
theorem wpList_append_where{P:Program}{w:World}{ops:Array Oper}{rest:List Oper}{o:Oper}{a:Act}{Q:Exit->Act->World->Prop}(hgd:o.guard=none)(s x:Operand)(t:TypeId)
  (ho:o.op= .call {callee:= .builtin .append,args:=#[s,x],argTypes:=#[t,t]})
  (e:TypeId) (i:TypeInfo) (z:Value) (size bytes:Nat) (ht:P.underlying t=some (.slice e)) (hi:P.info? e=some i) (hz:i.zero=some z)
  (hsize:i.size=size) (hby:i.bytes=bytes) (hzs:z.cells.size=size) (hsz:0 < size)
  (g cap n:Nat) (xs:List Value) (hs:a.eval s= .slice (some ⟨g,0,none⟩) n cap) (hown:w.ownsRow 0 e size (.slice (some ⟨g,0,none⟩) n cap) n xs)
  (ad:Option Addr) (m c:Nat) (news:List Value) (hx:a.eval x= .slice ad m c) (hl:news.length=m*size) (hnews:∀j u,news[j]?= some u->∃b,ad=some b/\w.cell? (b.add j)=some u) (h1:∀u∈news,u.oneCell'=true)
  (h63:n+m<=maxLen) (hbytes:(n+m)*bytes<=140737488355328)
  (h:∀g' c' w',w'.ownsRow 0 e size (.slice (some ⟨g',0,none⟩) (n+m) c') (n+m) (xs++news)->w.grownBy w' (some g)->(g'=g\/w.heap.size<=g')->wpList P ops Q rest (a.put o.dst (.slice (some ⟨g',0,none⟩) (n+m) c')) w'):wpList P ops Q (o :: rest) a w:=by
 cases ad with
 |none=>
  have hn0:news=[]:=by
   cases news with
   |nil=>rfl
   |cons u r=>obtain⟨b,e',_⟩:=hnews 0 u rfl;cases e'
  subst hn0
  have hm:m=0:=by
   have h':m*size=0:=by simpa using hl.symm
   rcases Nat.mul_eq_zero.1 h' with h'|h'
   ·exact h'
   ·omega
  subst hm
  refine wpList_plain hgd fun K hK=> ?_
  have hrun:(Builtin.append_ #[t,t] o.type #[.slice (some ⟨g,0,none⟩) n cap,.slice none 0 c]).run P w= .ok (.slice (some ⟨g,0,none⟩) n cap) w:=by
   rcases hown.2 with⟨h0,_⟩|⟨g',cap',cur,h0,_,_,hnc,_⟩
   ·cases h0
   ·cases h0
    simp[Builtin.append_,run_underlying ht,sizeOf,typeInfo,hi,Builtin.lenOf,Builtin.firstCells,hnc,storeCells]
  unfold Oper.wp
  simp[execOp,ho,resolve,invoke,builtin,hs,hx,hrun,Result.andThen]
  exact hK _ _ (h g cap w (by simpa using hown) (World.grownBy.refl _ _) (.inl rfl))
 |some b=>
  have hcells:∀j u,news[j]?= some u->w.cell? (b.add j)=some u:=fun j u hj=>by obtain⟨b',e',h'⟩:=hnews j u hj;cases e';exact h'
  by_cases hr:n+m<=cap
  ·exact wpList_append_fits w hgd s x t ho 0 e i size ht hi hsize g n cap xs hs hown b m c news hx hl hcells h1 hr (fun w' h2 h3=>h g cap w' h2 h3 (.inl rfl))
  ·have hnc:n<=cap:=by
    rcases hown.2 with⟨h0,_⟩|⟨g',cap',cur,h0,_,_,hnc,_⟩
    ·cases h0
    ·cases h0;exact hnc
   refine wpList_append_keeps hgd s x t ho 0 e i z size bytes ht hi hz hsize hby hzs hsz _ n xs hs hown b m c news hx hl hcells h1 (by omega) h63 hbytes (Nat.zero_le _) (fun g' c' w' h2 h3 h4 _=>h g' c' w' h2 h3 ?_)
   rcases h4 with h4|h4
   ·simp[Value.ownBlock]at h4;exact .inl h4.symm
   ·exact .inr h4
set_option maxHeartbeats 1000000 in
set_option maxRecDepth 100000 in
theorem youngest_calls(X:Nat->Prop)(T:Nat)(room:Int)(L:List TaskS)(t:TaskS)(w:World)(ht:TaskListAt X w T room (L++ [t]))(hl:L.length<=1000):Calls Tryz.prog 113 #[.pointer (some ⟨T,0,none⟩)] w fun e w'=>e= .returned (.agg #[.string t.id,.int .i64 t.kind,.int .i64 t.arg])/\Below w.heap.size w w':=by
 obtain⟨g,c,hb,-,-,hr⟩:=tasks_row ht
 obtain⟨V,hV⟩:∃V,w.alloc (Obj.cells #[.string ⟨#[]⟩,.int .i64 0,.int .i64 0] 62)=V:=⟨_,rfl⟩
 have hbV:Below w.heap.size w V:=by rw[<-hV];exact(Below.refl _ _).alloc (Nat.le_refl _) _
 have bZ:BoxAt V w.heap.size 62 #[.string ⟨#[]⟩,.int .i64 0,.int .i64 0]:=by rw[<-hV];exact BoxAt.new w _ _
 have hgl:=(hr.lt g rfl).2
 have b0:=(hb.below hbV hb.lt).cell (o:=0) rfl
 have e0:V.cell? ⟨g,L.length*3,none⟩=some (.string t.id):=(hbV.cell (p:=⟨g,L.length*3,none⟩) hgl).trans (row_last hr 0 _ rfl)
 have e1:V.cell? ⟨g,L.length*3+1,none⟩=some (.int .i64 t.kind):=(hbV.cell (p:=⟨g,L.length*3+1,none⟩) hgl).trans (row_last hr 1 _ rfl)
 have e2:V.cell? ⟨g,L.length*3+2,none⟩=some (.int .i64 t.arg):=(hbV.cell (p:=⟨g,L.length*3+2,none⟩) hgl).trans (row_last hr 2 _ rfl)
 have z0:=bZ.cell (o:=0) rfl
 have z1:=bZ.cell (o:=1) rfl
 have z2:=bZ.cell (o:=2) rfl
 have f0:=bZ.frozen 0
 have f1:=bZ.frozen 1
 have f2:=bZ.frozen 2
 have hne:g≠w.heap.size:=by omega
 have hneT:T≠w.heap.size:=by have:=hb.lt;omega
 have HBZ:=hid_of bZ
 have HBV:=hid_of hbV
 have j1:(0:Int)<=(L.length:Int):=by omega
 have j2:(L.length:Int) < ((L.length+1:Nat):Int):=by omega
 clear hb hr hbV bZ ht
 go_enter Tryz.func113,Tryz.ntmps113
 go_upto_region 1 with fail
 clear hV
 go_region
 all_goals
  go_wp2_with fail
  have hbz:BoxAt (((V.setCell ⟨w.heap.size,0,none⟩ (.string t.id)).setCell ⟨w.heap.size,1,none⟩ (.int .i64 t.kind)).setCell ⟨w.heap.size,2,none⟩ (.int .i64 t.arg)).drew w.heap.size 62 #[.string t.id,.int .i64 t.kind,.int .i64 t.arg]:=((HBZ.out.setAt 0 _).setAt 1 _).setAt 2 _
  have r0:=hbz.cell (o:=0) rfl
  have r1:=hbz.cell (o:=1) rfl
  have r2:=hbz.cell (o:=2) rfl
  refine bodyPost_ret (v:= .agg #[.string t.id,.int .i64 t.kind,.int .i64 t.arg]) (by simp[results,Tryz.results113,go_sem,r0,r1,r2]) rfl ⟨rfl,?_⟩
  exact(((HBV.out.setCell (p:=⟨w.heap.size,0,none⟩) (Nat.le_refl _) _).setCell (p:=⟨w.heap.size,1,none⟩) (Nat.le_refl _) _).setCell (p:=⟨w.heap.size,2,none⟩) (Nat.le_refl _) _).drew
set_option maxHeartbeats 2000000 in
set_option maxRecDepth 100000 in
theorem replace_calls(X:Nat->Prop)(T:Nat)(room:Int)(L C:List TaskS)(t:TaskS)(gf:Nat)(lb:Array Value)(w:World)(ht:TaskListAt X w T room (L++ [t]))(hl:L.length<=100)(hc:C.length<=100)(eg:∀args w,(callFunc gf args).run Tryz.prog w= .ok (.enter gf args) w)
  (hseq:∀(n:Nat) (X:Nat->Prop) (U W:World),Below w.heap.size w U->Below U.heap.size U W->(∀k,X k->U.heap.size<=k)->SeqY Fence.wide n Tryz.prog gf lb (fun c:TaskS=>#[taskV c]) X C W) :
  Calls Tryz.prog 114 #[.pointer (some ⟨T,0,none⟩),.func (.func gf) #[] lb] w fun e w'=>e= .returned (.bool (!decide (room < (L.length:Int)+C.length)))/\Kept X w w'/\(if room < (L.length:Int)+C.length then Below w.heap.size w w' else TaskListAt (fun b=>X b\/w.heap.size<=b) w' T room (L++C)):=by
 obtain⟨iT,hiT,hzT0,hzT1,hzT2⟩:=info_parts infoTask
 obtain⟨g,c,hb,hXT,hXg,hr⟩:=tasks_row ht
 have b0:=hb.cell (o:=0) rfl
 have hri:=row_init hr
 have HC:Hid (∀U,Below w.heap.size w U->Calls Tryz.prog 54 #[.func (.func gf) #[] lb] U fun e w'=>∃v,e= .returned v/\w'.ownsRow U.heap.size 62 3 v C.length (C.flatMap taskEnc)/\Below U.heap.size U w'):=fun U hU=>collect_calls gf lb C U (by omega) eg (fun n X W hW hX=>hseq n X U W hU hW hX)
 have HB:=hid_of hb
 have HRI:=hid_of hri
 have hgl:=(hr.lt g rfl).2
 have hcap:L.length+1<=c:=by
  rcases hr.2 with⟨h0,_⟩|⟨g',cap',cur,h0,_,_,h1,_⟩
  ·cases h0
  ·cases h0;omega
 obtain⟨n,hn⟩:∃n,C.length=n:=⟨_,rfl⟩
 have HN:Hid (C.length=n):=hn
 rw[hn]at HC hc
 rw[hn]
 obtain⟨bb,hbb⟩:∃bb,decide (room < (L.length:Int)+n)=bb:=⟨_,rfl⟩
 have HBB:Hid (decide (room < (L.length:Int)+n)=bb):=hbb
 rw[hbb]
 have hXg':X g:=hXg
 clear hb hr hri ht hseq eg hn hbb
 have j3:(L.length:Int)<=(c:Int):=by omega
 have j4:L.length<=c:=by omega
 have hwa:IntKind.i64.wrap ((L.length:Int)+(n:Int))=(L.length:Int)+(n:Int):=IntWalk.i64_in _ (by omega)
 go_enter Tryz.func114,Tryz.ntmps114
 go_upto_region 1 with fail
 go_quiet (fail)
 go_upto_region 3 with(go_at_call 54;refine(HC.out _ (below_drewN (Below.refl _ _) _)).mono ?_;rintro e w2 ⟨v2,rfl,hrow2',hb2'⟩;obtain⟨a2,c2,rfl⟩:=row_form hrow2')
 have hb2:Below w.heap.size w w2:=(below_drewN (Below.refl _ _) nq).trans hb2'
 have hrow2:w2.ownsRow w.heap.size 62 3 (.slice a2 n c2) n (C.flatMap taskEnc):=hrow2'
 have HB2:=hid_of (HB.out.below hb2 HB.out.lt)
 have HRI2:=hid_of (row_below HRI.out hb2 (fun g e=>(HRI.out.lt g e).2))
 have HBW2:=hid_of hb2
 have s2:=hb2.size
 have HNC:Hid (∀j u,(C.flatMap taskEnc)[j]?= some u->∃b,a2=some b/\w2.cell? (b.add j)=some u):=fun j u hj=>by
  obtain⟨a9,c9,h9,hc9⟩:=row_slice hrow2
  cases h9
  obtain⟨g,h1,h2,h3,h4⟩:=hc9 j u hj
  exact⟨_,h1,by rw[addr_add];exact h4⟩
 have HFC:Hid ((C.flatMap taskEnc).length=n*3):=by show _=_;rw[<-HN.out];exact flat_length (sz:=3) (enc:=taskEnc) (fun _=>rfl) _
 have x1:=HB2.out.cell (o:=1) rfl
 clear hb2 hrow2' hb2' hrow2 b0
 cases bb with
 |true=>
  have hlt:room < (L.length:Int)+(n:Int):=by have:=HBB.out;simpa using this
  go_wp2_with fail
  go_ret
  exact⟨rfl,Kept.of_below HBW2.out (fun b h1 h2=>by omega),by first|exact HBW2.out|(rw[if_pos hlt];exact HBW2.out)⟩
 |false=>
  have hlt:¬room < (L.length:Int)+(n:Int):=by have:=HBB.out;simpa using this
  have HTg:Hid ((Value.slice (some ⟨g,0,none⟩) L.length c).ownBlock≠some T):=row_ne HRI2.out HB2.out (by decide)
  go_wp2_with (at_builtin;refine wpList_append_where rfl _ _ _ rfl 62 iT _ 3 32 Tryz.underlying58 hiT hzT0 hzT1 hzT2 rfl (by omega) g c L.length (L.flatMap taskEnc) rfl HRI2.out a2 n c2 (C.flatMap taskEnc) rfl HFC.out HNC.out (flat_one taskEnc_one _) (by unfold maxLen;omega) (by omega) ?_;intro g3 c3 w3 hown3 hgrow3 hat3;have hb3:BoxAt w3 T 175 #[.slice (some ⟨g,0,none⟩) (L.length+1) c,.int .i64 room]:=(hgrow3.block T HB2.out.lt (fun e=>HTg.out e.symm)).trans HB2.out;have y0:=hb3.cell (o:=0) rfl;have f0:=hb3.frozen 0)
  go_ret
  have k23:Kept (fun b=>b=g) w2 w3:=Kept.grown hgrow3 (fun r e=>by cases e;rfl)
  have k34:Kept (·= T) w3 (w3.setCell ⟨T,0,none⟩ (.slice (some ⟨g3,0,none⟩) (L.length+n) c3)):=(Kept.refl _ _).setCell (.inl (by rfl)) _
  have kk:Kept X w (w3.setCell ⟨T,0,none⟩ (.slice (some ⟨g3,0,none⟩) (L.length+n) c3)):=((Kept.of_below HBW2.out (X:=X) (fun b h1 h2=>by omega)).andThen k23 (fun b _ h=>by subst h;exact hXg')).andThen k34 (fun b _ h=>by subst h;exact hXT)
  have hfin:(w3.setCell ⟨T,0,none⟩ (.slice (some ⟨g3,0,none⟩) (L.length+n) c3)).ownsRow 0 62 3 (.slice (some ⟨g3,0,none⟩) (L.length+n) c3) (L.length+n) (L.flatMap taskEnc++C.flatMap taskEnc):=row_kept hown3 k34 (fun g e h=>by subst h;exact row_ne hown3 hb3 (by decide) e) (Nat.le_refl _)
  have hTL:TaskListAt (fun b=>X b\/w.heap.size<=b) (w3.setCell ⟨T,0,none⟩ (.slice (some ⟨g3,0,none⟩) (L.length+n) c3)) T room (L++C):=by
   refine⟨_,hb3.setAt 0 _,.inl hXT,?_,fun g' e=> ?_⟩
   ·rw[List.length_append,List.flatMap_append,HN.out];exact hfin
   ·simp[Value.ownBlock]at e
    subst e
    rcases hat3 with h|h
    ·rw[h];exact .inl hXg'
    ·exact .inr (by omega)
  refine⟨rfl,kk,?_⟩
  first|exact hTL|(rw[if_neg hlt];exact hTL)
theorem sendS_eq(s:RunS)(m:MsgS):∃(lk:List (List LinkS)) (ww:List WorkerS) (y:List MsgS),sendS s m={s with links:=lk,W:=ww,way:=y}/\
  lk=s.links.set m.src.toNat ((s.links[m.src.toNat]?.getD []).set m.dst.toNat {((s.links[m.src.toNat]?.getD [])[m.dst.toNat]?.getD link0)with all:=((s.links[m.src.toNat]?.getD [])[m.dst.toNat]?.getD link0).all++ [{m with no:=((s.links[m.src.toNat]?.getD [])[m.dst.toNat]?.getD link0).all.length+1}]})/\
  (ww=s.W\/ww=s.W.set m.src.toNat {(s.W[m.src.toNat]?.getD worker0)with sent:=(s.W[m.src.toNat]?.getD worker0).sent+1})/\(s.way.length<=60->y.length<=60):=by
 unfold sendS
 dsimp only
 split
 ·obtain⟨y,h1,h2⟩:=wayS_eq {s with links:=s.links.set m.src.toNat ((s.links[m.src.toNat]?.getD []).set m.dst.toNat {((s.links[m.src.toNat]?.getD [])[m.dst.toNat]?.getD link0)with all:=((s.links[m.src.toNat]?.getD [])[m.dst.toNat]?.getD link0).all++ [{m with no:=((s.links[m.src.toNat]?.getD [])[m.dst.toNat]?.getD link0).all.length+1}]}),W:=s.W.set m.src.toNat {(s.W[m.src.toNat]?.getD worker0)with sent:=(s.W[m.src.toNat]?.getD worker0).sent+1}} {m with no:=((s.links[m.src.toNat]?.getD [])[m.dst.toNat]?.getD link0).all.length+1}
  exact⟨_,_,y,h1,rfl,.inr rfl,h2⟩
 ·obtain⟨y,h1,h2⟩:=wayS_eq {s with links:=s.links.set m.src.toNat ((s.links[m.src.toNat]?.getD []).set m.dst.toNat {((s.links[m.src.toNat]?.getD [])[m.dst.toNat]?.getD link0)with all:=((s.links[m.src.toNat]?.getD [])[m.dst.toNat]?.getD link0).all++ [{m with no:=((s.links[m.src.toNat]?.getD [])[m.dst.toNat]?.getD link0).all.length+1}]})} {m with no:=((s.links[m.src.toNat]?.getD [])[m.dst.toNat]?.getD link0).all.length+1}
  exact⟨_,_,y,h1,rfl,.inl rfl,h2⟩
theorem Shaped.send{s:RunS}(h:Shaped s)(m:MsgS):Shaped (sendS s m):=by
 obtain⟨lk,ww,y,he,hlk,hww,hy⟩:=sendS_eq s m
 have hwl:ww.length=s.W.length:=by rcases hww with rfl|rfl<;>simp
 rw[he]
 refine⟨by show(ww.length:Int)=_;rw[hwl];exact h.len,h.two,h.five,by show lk.length=ww.length;rw[hwl,hlk];simpa using h.llen,fun ls hl=> ?_,hy h.way⟩
 show ls.length=ww.length
 rw[hwl]
 have hl':ls∈lk:=hl
 rw[hlk]at hl'
 rcases List.mem_or_eq_of_mem_set hl' with h'|rfl
 ·exact h.lrow ls h'
 ·rw[List.length_set]
  cases hg:s.links[m.src.toNat]? with
  |none=>
   exfalso
   rw[hg]at hl'
   have hn:=List.getElem?_eq_none_iff.1 hg
   rw[List.set_eq_of_length_le hn]at hl'
   have:=h.lrow _ hl'
   have h2:=h.two
   have h3:=h.len
   simp at this
   omega
  |some l=>exact h.lrow l (List.mem_of_getElem? hg)
theorem Small.send{N:Nat}{s:RunS}(h:Small N s)(m:MsgS):Small (N+1) (sendS s m):=by
 obtain⟨lk,ww,y,he,hlk,hww,-⟩:=sendS_eq s m
 have hold:∀l,(∃ls∈s.links,l∈ls)->l.all.length<=N/\0<=l.known/\(0<=l.came/\l.came<=(N:Int))/\l.kept.length<=N:=fun l ⟨ls,h1,h2⟩=>⟨h.all ls h1 l h2,h.known ls h1 l h2,h.came ls h1 l h2,h.kept ls h1 l h2⟩
 have hget:∀(ls:List LinkS) (j:Nat),(∀l∈ls,l.all.length<=N/\0<=l.known/\(0<=l.came/\l.came<=(N:Int))/\l.kept.length<=N)->((ls[j]?.getD link0).all.length<=N/\0<=(ls[j]?.getD link0).known/\(0<=(ls[j]?.getD link0).came/\(ls[j]?.getD link0).came<=(N:Int))/\(ls[j]?.getD link0).kept.length<=N):=fun ls j hl=>by
  cases hj:ls[j]? with
  |none=>simp[link0]
  |some l=>exact hl l (List.mem_of_getElem? hj)
 have key:∀ls∈lk,∀l∈ls,l.all.length<=N+1/\0<=l.known/\(0<=l.came/\l.came<=(N:Int))/\l.kept.length<=N:=fun ls hls l hl=>by
  rw[hlk]at hls
  rcases List.mem_or_eq_of_mem_set hls with h'|rfl
  ·have:=hold l ⟨ls,h',hl⟩
   omega
  ·have hrow:∀l∈s.links[m.src.toNat]?.getD [],l.all.length<=N/\0<=l.known/\(0<=l.came/\l.came<=(N:Int))/\l.kept.length<=N:=fun l' hl'=>by
    cases hg:s.links[m.src.toNat]? with
    |none=>rw[hg]at hl';simp at hl'
    |some ls'=>rw[hg]at hl';exact hold l' ⟨ls',List.mem_of_getElem? hg,hl'⟩
   rcases List.mem_or_eq_of_mem_set hl with h'|rfl
   ·have:=hrow l h'
    omega
   ·have:=hget _ m.dst.toNat hrow
    dsimp only
    rw[List.length_append,List.length_singleton]
    omega
 have hworker:∀x∈ww,(0<=x.sent/\x.sent<=((N+1:Nat):Int))/\0<=x.came/\x.came<=(N:Int):=fun x hx=>by
  have hw0:∀x∈s.W,(0<=x.sent/\x.sent<=((N+1:Nat):Int))/\0<=x.came/\x.came<=(N:Int):=fun x hx=>by
   have:=h.sent x hx
   have:=h.got x hx
   omega
  rcases hww with rfl|rfl
  ·exact hw0 x hx
  ·rcases List.mem_or_eq_of_mem_set hx with h'|rfl
   ·exact hw0 x h'
   ·cases hg:s.W[m.src.toNat]? with
    |none=>simp[worker0];omega
    |some z=>
     have h1:=h.sent z (List.mem_of_getElem? hg)
     have h2:=h.got z (List.mem_of_getElem? hg)
     dsimp only[Option.getD_some]
     omega
 rw[he]
 exact⟨fun ls h1 l h2=>(key ls h1 l h2).1,fun ls h1 l h2=>(key ls h1 l h2).2.1,fun ls h1 l h2=>by have:=(key ls h1 l h2).2.2.1;omega,fun ls h1 l h2=>by have:=(key ls h1 l h2).2.2.2;omega,fun x hx=>(hworker x hx).1,fun x hx=>by have:=(hworker x hx).2;omega⟩
def Known(s:RunS):Prop:=∀ls∈s.links,∀l∈ls,l.known.toNat<=l.all.length
theorem Known.send{s:RunS}(h:Known s)(m:MsgS):Known (sendS s m):=by
 obtain⟨lk,ww,y,he,hlk,hww,-⟩:=sendS_eq s m
 rw[he]
 intro ls hls l hl
 have hls':ls∈lk:=hls
 rw[hlk]at hls'
 rcases List.mem_or_eq_of_mem_set hls' with h'|rfl
 ·exact h ls h' l hl
 ·have hrow:∀l∈s.links[m.src.toNat]?.getD [],l.known.toNat<=l.all.length:=fun l' hl'=>by
   cases hg:s.links[m.src.toNat]? with
   |none=>rw[hg]at hl';simp at hl'
   |some ls'=>rw[hg]at hl';exact h ls' (List.mem_of_getElem? hg) l' hl'
  rcases List.mem_or_eq_of_mem_set hl with h'|rfl
  ·exact hrow l h'
  ·dsimp only
   rw[List.length_append]
   cases hj:(s.links[m.src.toNat]?.getD [])[m.dst.toNat]? with
   |none=>simp[link0]
   |some l'=>have:=hrow l' (List.mem_of_getElem? hj);simp;omega
theorem flat_set{α:Type}{sz:Nat}{enc:α->List Value}(he:∀x,(enc x).length=sz):∀(xs:List α) (k:Nat) (x x':α) (i:Nat) (u:Value),xs[k]?= some x->i < sz->enc x'=(enc x).set i u->(xs.flatMap enc).set (k*sz+i) u=(xs.set k x').flatMap enc
 |[],_,_,_,_,_,h,_,_=>by simp at h
 |y :: r,0,x,x',i,u,h,hi,hx=>by
  simp at h
  subst h
  rw[Nat.zero_mul,Nat.zero_add,List.flatMap_cons,List.set_append_left _ _ (by rw[he];exact hi),<-hx]
  rfl
 |y :: r,k+1,x,x',i,u,h,hi,hx=>by
  have h1:=flat_set he r k x x' i u (by simpa using h) hi hx
  rw[List.flatMap_cons,List.set_append_right _ _ (by rw[he,Nat.succ_mul];omega),he,show(k+1)*sz+i - sz=k*sz+i by rw[Nat.succ_mul];omega,h1]
  rfl
theorem sendS_post2(s:RunS)(i j:Nat)(m:MsgS)(y:WorkerS)(hk:m.kind=2\/m.kind=4)(h0:m.src=i)(h1:m.dst=j)(hy:s.W[i]?= some y):sendS s m=postS {s with W:=s.W.set i {y with sent:=y.sent+1}} i j m:=by
 simp only[sendS,postS,LinkS.sent,hk,if_true,h0,h1,Int.toNat_natCast,hy,Option.getD_some]
theorem row_note{W:World}{gw wc:Nat}{xs:List XW}{i o:Nat}{x x':XW}{u:Value}(hr:W.ownsRow 0 119 8 (.slice (some ⟨gw,0,none⟩) xs.length wc) xs.length (xs.flatMap xwEnc))(hx:xs[i]?= some x)(ho:o < 8)(he:xwEnc x'=(xwEnc x).set o u) :
  (W.setCell ⟨gw,i*8+o,none⟩ u).ownsRow 0 119 8 (.slice (some ⟨gw,0,none⟩) xs.length wc) (xs.set i x').length ((xs.set i x').flatMap xwEnc):=by
 have hil:=(List.getElem?_eq_some_iff.1 hx).1
 have h1:=row_putAll [u] (xs.flatMap xwEnc) (i*8+o) W hr (by simp;omega)
 have h2:setAll (xs.flatMap xwEnc) (i*8+o) [u]=(xs.set i x').flatMap xwEnc:=by
  simp only[setAll]
  exact flat_set (sz:=8) (enc:=xwEnc) (fun _=>rfl) xs i x _ o _ hx ho he
 rw[h2]at h1
 rw[List.length_set]
 exact h1
set_option maxHeartbeats 4000000 in
set_option maxRecDepth 100000 in
theorem sendWork_x(i j:Nat)(m:MsgS)(b:Nat){part:Nat->Nat}{w:World}{B M:Nat}{s:RunS}{kv wv yv:Value}{xs:List XW}{ls:List LinkS}{l:LinkS}{y:WorkerS}(h:XAtO part w B s kv wv yv M xs)(hy:s.W[i]?= some y)(hls:s.links[i]?= some ls)(hl:ls[j]?= some l)(hij:j≠i)(hk:l.known.toNat<=l.all.length)(hn:l.all.length<=100000000)(hw:s.way.length<=1000)(hm:BoxAt w b 124 (msgCells m))(hb:part b=0)(hkind:m.kind=2\/m.kind=4)(hs:0<=y.sent/\y.sent<=1000000000) :
  Calls Tryz.prog 172 #[.pointer (some ⟨B,0,none⟩),.int .i64 (i:Int),.int .i64 (j:Int),.slice (some ⟨b,0,none⟩) 1 1] w fun e w'=>∃v,e= .returned v/\(v= .tuple #[]/\∃part' yv' xs',XAtO part' w' B (sendS s {m with src:=(i:Int),dst:=(j:Int)}) kv wv yv' M xs'/\XMoved part part' w w'):=by
 have hil:=(List.getElem?_eq_some_iff.1 hy).1
 have hxl:=h.wlen
 obtain⟨x,hx⟩:∃x,xs[i]?= some x:=⟨_,List.getElem?_eq_getElem (by omega)⟩
 obtain⟨gw,wc,hwf,-,hgw⟩:=World.ownsRow.form h.wrow.1 (by omega)
 subst hwf
 have hxw:=h.wat i x y hx hy
 have b3:w.cell? ⟨B,4,none⟩=some (.slice (some ⟨gw,0,none⟩) xs.length wc):=h.box.cell (o:=4) rfl
 have a4:w.cell? ⟨gw,i*8+4,none⟩=some (.int .i64 y.sent):=by
  have h1:=h.wrow.1.cells (g:=gw) rfl (i*8+4) _ (flat_get (sz:=8) (enc:=xwEnc) (fun _=>rfl) xs i x 4 _ hx rfl)
  rw[addr_add,hxw.1.sent]at h1
  exact h1
 obtain⟨cur,hcur⟩:∃cur,BoxAt w gw 119 cur:=by
  obtain⟨cs,hcs⟩:=row_obj h.wrow.1 (g:=gw) rfl
  exact⟨cs,hcs⟩
 have f4:=hcur.frozen (i*8+4)
 have hpg:part gw=7:=h.wrow.2 gw rfl
 have hbg:b≠gw:=fun e=>by rw[e]at hb;omega
 obtain⟨Y,hY⟩:∃Y,w.setCell ⟨gw,i*8+4,none⟩ (.int .i64 (y.sent+1))=Y:=⟨_,rfl⟩
 have kY:Kept (·= gw) w Y:=by rw[<-hY];exact(Kept.refl (·= gw) w).setCell (.inl (by rfl)) _
 have rY:=row_note (x':={x with sent:=y.sent+1}) (u:= .int .i64 (y.sent+1)) (o:=4) h.wrow.1 hx (by omega) rfl
 rw[hY]at rY
 obtain⟨h2,hm2⟩:=h.renote (x':={x with sent:=y.sent+1}) (y':={y with sent:=y.sent+1}) hx hy ⟨rfl,rfl,rfl⟩ ⟨hxw.1.asked,rfl,hxw.1.came,hxw.1.black⟩ ⟨rfl,rfl,rfl,rfl⟩ (kY.mono (fun b _ e=>by subst e;exact hpg)) rY
 have hwr:IntKind.i64.wrap (y.sent+1)=y.sent+1:=IntWalk.i64_in _ (by omega)
 have i0:(0:Int)<=(i:Int):=by omega
 have i1:(i:Int) < (xs.length:Int):=by omega
 have HSD:Hid (∀U,(U=Y\/U=Y.drew)->Calls Tryz.prog 165 #[.pointer (some ⟨B,0,none⟩),.int .i64 (i:Int),.int .i64 (j:Int),.slice (some ⟨b,0,none⟩) 1 1] U fun e w'=>∃v,e= .returned v/\(v= .tuple #[]/\∃part' yv' xs',XAtO part' w' B (sendS s {m with src:=(i:Int),dst:=(j:Int)}) kv (.slice (some ⟨gw,0,none⟩) xs.length wc) yv' M xs'/\XMoved part part' w w')):=fun U hU=>by
  have hbU:Below Y.heap.size Y U:=by
   rcases hU with rfl|rfl
   ·exact Below.refl _ _
   ·exact(Below.refl _ _).drew
  obtain⟨h3,hm3⟩:=h2.later hbU
  have hbY:=hm.kept kY hbg
  refine(send_x i j m b h3 hls hl hij hk hn hw (hbY.below hbU hbY.lt)).mono ?_
  rintro e w' ⟨v,rfl,rfl,part',yv',h4,hm4⟩
  refine⟨_,rfl,rfl,part',yv',xs.set i {x with sent:=y.sent+1},?_,(hm2.trans hm3).trans hm4⟩
  rw[sendS_post2 s i j {m with src:=(i:Int),dst:=(j:Int)} y hkind rfl rfl hy]
  exact h4
 clear h h2 hm2 hxw hcur rY kY hm
 go_enter Tryz.func172,Tryz.ntmps172
 go_wp2_with (go_at_call 165;refine(HSD.out _ (by first|exact .inl hY|exact .inl rfl|exact .inr rfl)).mono ?_;rintro e w3 ⟨v3,rfl,rfl,hres⟩;have HRES:=hid_of hres;clear hres)
 go_end0
 exact⟨_,rfl,rfl,HRES.out⟩
end Go.Proofs.YtfanaanofjhlkaaGreatDoor
namespace Go.Proofs.YtfanaanofjhlkaaGreatDoor
open Go Go.RowKit Go.Maps Go.WideMaps
set_option maxHeartbeats 1000000 in
set_option maxRecDepth 100000 in
theorem bring_calls(B M b:Nat)(D:DataW Unit)(cells:Array Value)(id:ByteArray)(v:Int)(w:World)(hB:BoxAt w B 105 cells)(h5:cells[6]?= some (.map (some M)))(hm:MapIs w M D)(hn:Maps.size D < 100000000)(hid:id.size<=100000000)(hv:(Lit.int .i64 v).wf=true)
  (c0:w.cell? ⟨b,0,none⟩=some (.string id)) (c1:w.cell? ⟨b,1,none⟩=some (.int .i64 v)) (hb:b < w.heap.size) :
  Calls Tryz.prog 116 #[.pointer (some ⟨B,0,none⟩),.int .i64 0,.slice (some ⟨b,0,none⟩) 1 1] w fun e w'=>(∃u,e= .returned u)/\MapIs w' M (D.put (keyL id) (elemD v))/\Kept (·= M) w w':=by
 have HK:=hid_of (keep_calls M b 0 D id v w hm hn hid hv c0 c1 hb)
 have b5:=hB.cell (o:=6) h5
 clear hB hm
 go_enter Tryz.func116,Tryz.ntmps116
 go_wp2_with (go_at_call 84;refine HK.out.mono ?_;rintro e w1 ⟨⟨u,rfl⟩,hm1,hk1⟩)
 refine bodyPost_ret (results_none rfl _ _ _) rfl ?_
 exact⟨⟨_,rfl⟩,hm1,hk1⟩
def bringS(s:RunS)(k:Nat)(v:ByteArray×Int):RunS:=if k=0 then{s with values:=putS s.values v}else sendS s {msg0 with src:=(k:Int),dst:=0,kind:=4,v:=v}
theorem bringS_rest(s:RunS)(k:Nat)(v:ByteArray×Int):(bringS s k v).kind=s.kind/\(bringS s k v).arg=s.arg:=by
 unfold bringS
 split
 ·exact⟨rfl,rfl⟩
 ·unfold sendS wayS
  dsimp only
  constructor<;>(split<;>split<;>rfl)
theorem bring0_x(b:Nat)(id:ByteArray)(v:Int){part:Nat->Nat}{w:World}{B M:Nat}{s:RunS}{kv wv yv:Value}{xs:List XW}(h:XAtO part w B s kv wv yv M xs)(hv:s.values.length<=90000000)(hid:id.size<=100000000)(hwf:(Lit.int .i64 v).wf=true)(hb:BoxAt w b 92 #[.string id,.int .i64 v]) :
  Calls Tryz.prog 116 #[.pointer (some ⟨B,0,none⟩),.int .i64 0,.slice (some ⟨b,0,none⟩) 1 1] w fun e w'=>∃u,e= .returned u/\∃part' yv' xs',XAtO part' w' B {s with values:=putS s.values (id,v)} kv wv yv' M xs'/\XMoved part part' w w':=by
 obtain⟨D,hm,hpM,hDk⟩:=h.vals
 have hDs:=hDk.size
 refine(bring_calls B M b D _ id v w h.box rfl hm (by omega) hid hwf (hb.cell (o:=0) rfl) (hb.cell (o:=1) rfl) hb.lt).mono ?_
 rintro e w' ⟨⟨u,rfl⟩,h1,h2⟩
 have htidy:Tidy D:=World.ownsMap.tidy hm strKeyed
 obtain⟨h8,hm8⟩:=h.revals (vs:=putS s.values (id,v)) h2 ⟨_,h1,hpM,hDk.put htidy (id,v)⟩
 exact⟨u,rfl,_,_,_,h8,hm8⟩
set_option maxHeartbeats 4000000 in
set_option maxRecDepth 100000 in
theorem bring1_x(k b:Nat)(id:ByteArray)(v:Int){part:Nat->Nat}{w:World}{B M N:Nat}{s:RunS}{kv wv yv:Value}{xs:List XW}{y:WorkerS}(h:XAtO part w B s kv wv yv M xs)(hy:s.W[k]?= some y)(hk:k≠0)(hs:Shaped s)(hN:Small N s)(hN':N<=90000000)(hkn:Known s)(hb:BoxAt w b 92 #[.string id,.int .i64 v]) :
  Calls Tryz.prog 116 #[.pointer (some ⟨B,0,none⟩),.int .i64 (k:Int),.slice (some ⟨b,0,none⟩) 1 1] w fun e w'=>∃u,e= .returned u/\∃part' yv' xs',XAtO part' w' B (sendS s {msg0 with src:=(k:Int),dst:=0,kind:=4,v:=(id,v)}) kv wv yv' M xs'/\XMoved part part' w w':=by
 have hkl:=(List.getElem?_eq_some_iff.1 hy).1
 obtain⟨ls,hls⟩:∃ls,s.links[k]?= some ls:=⟨_,List.getElem?_eq_getElem (by rw[hs.llen];exact hkl)⟩
 have hlm:=List.mem_of_getElem? hls
 obtain⟨l,hl⟩:∃l,ls[0]?= some l:=⟨_,List.getElem?_eq_getElem (by rw[hs.lrow ls hlm];omega)⟩
 have hmm:=List.mem_of_getElem? hl
 have hall:=hN.all ls hlm l hmm
 have hknown:=hkn ls hlm l hmm
 have hsent:=hN.sent y (List.mem_of_getElem? hy)
 have hway:=hs.way
 have c0:=hb.cell (o:=0) rfl
 have c1:=hb.cell (o:=1) rfl
 have hbl:=hb.lt
 have hk0:((k:Int)==0)=false:=by rw[beq_eq_false_iff_ne];omega
 have HSW:Hid (∀(U:World) (bb:Nat),Below w.heap.size w U->bb=U.heap.size->Calls Tryz.prog 172 #[.pointer (some ⟨B,0,none⟩),.int .i64 (k:Int),.int .i64 0,.slice (some ⟨bb,0,none⟩) 1 1] (U.alloc (Obj.cells (msgCells {msg0 with kind:=4,v:=(id,v)}) 124)) fun e w'=>∃u,e= .returned u/\(u= .tuple #[]/\∃part' yv' xs',XAtO part' w' B (sendS s {msg0 with src:=(k:Int),dst:=0,kind:=4,v:=(id,v)}) kv wv yv' M xs'/\XMoved part part' w w')):=fun U bb hU hbb=>by
  subst hbb
  obtain⟨h3,hm3⟩:=h.later (hU.alloc hU.size (Obj.cells (msgCells {msg0 with kind:=4,v:=(id,v)}) 124))
  refine(sendWork_x k 0 {msg0 with kind:=4,v:=(id,v)} U.heap.size h3 hy hls hl (fun e=>hk e.symm) hknown (by omega) (by omega) (BoxAt.new U _ _) (ext_new hU.size) (.inr rfl) ⟨hsent.1,by omega⟩).mono ?_
  rintro e w' ⟨u,rfl,rfl,part',yv',xs',h4,hm4⟩
  exact⟨_,rfl,rfl,part',yv',xs',h4,hm3.trans hm4⟩
 simp only[msg0]at HSW ⊢
 have HW0:Hid (Below w.heap.size w w):=Below.refl _ _
 clear h hb
 go_enter Tryz.func116,Tryz.ntmps116
 go_wp2_with fail
 go_loopw [18] (fun iv wr=>(iv= .int .i64 0/\Below w.heap.size w wr/\wr.cell? ⟨b,0,none⟩=some (.string id)/\wr.cell? ⟨b,1,none⟩=some (.int .i64 v))\/(iv= .int .i64 1/\∃part' yv' xs',XAtO part' wr B (sendS s {src:=(k:Int),dst:=0,no:=0,kind:=4,t:=⟨⟨#[]⟩,0,0⟩,v:=(id,v),black:=false,idle:=false,count:=0,round:=0,sent:=0,came:=0}) kv wv yv' M xs'/\XMoved part part' w wr)) (fun iv _=>1 - (intOf iv).toNat)
 case atStart=>exact .inl ⟨rfl,by first|exact Below.refl _ _|exact(Below.refl _ _).drew,c0,c1⟩
 case round=>
  rename World=>wr
  rcases hrel with⟨rfl,hb0,d0,d1⟩|⟨rfl,hres⟩
  ·have HB0:=hid_of hb0
   clear hb0 c0 c1
   go_wp2_with (go_at_call 172;refine(HSW.out _ _ (by first|exact HB0.out|exact HB0.out.drew|exact(HB0.out.alloc HB0.out.size _)|exact((HB0.out.alloc HB0.out.size _).drew)) (by simp)).mono ?_;rintro e w3 ⟨v3,rfl,rfl,hres⟩;have HRES:=hid_of hres;clear hres)
   go_roundw
   case rel=>exact .inr ⟨by go_num,HRES.out⟩
   case measure=>simp[intOf]
  ·have HRES:=hid_of hres
   clear hres
   go_wp2_with fail
   go_end0
   exact⟨_,rfl,HRES.out⟩
theorem bring_x(k b:Nat)(id:ByteArray)(v:Int){part:Nat->Nat}{w:World}{B M N:Nat}{s:RunS}{kv wv yv:Value}{xs:List XW}{y:WorkerS}(h:XAtO part w B s kv wv yv M xs)(hy:s.W[k]?= some y)(hs:Shaped s)(hN:Small N s)(hN':N<=90000000)(hkn:Known s)(hv:s.values.length<=90000000)(hid:id.size<=100000000)(hwf:(Lit.int .i64 v).wf=true)(hb:BoxAt w b 92 #[.string id,.int .i64 v]) :
  Calls Tryz.prog 116 #[.pointer (some ⟨B,0,none⟩),.int .i64 (k:Int),.slice (some ⟨b,0,none⟩) 1 1] w fun e w'=>∃u,e= .returned u/\∃part' yv' xs',XAtO part' w' B (bringS s k (id,v)) kv wv yv' M xs'/\XMoved part part' w w':=by
 unfold bringS
 by_cases hk:k=0
 ·subst hk
  exact bring0_x b id v h hv hid hwf hb
 ·rw[if_neg hk]
  exact bring1_x k b id v h hy hk hs hN hN' hkn hb
def doneS(s:RunS)(k:Nat)(x:WorkerS)(L:List TaskS)(t:TaskS):RunS×Int:=
 if s.room < (L.length:Int)+((children s.ks t).length:Int)then({s with over:=true},6)else(bringS {s with W:=s.W.set k {x with tasks:=L++children s.ks t}} k (t.id,valueOf s.ks t),0)
set_option maxHeartbeats 4000000 in
set_option maxRecDepth 100000 in
theorem doYoungest1_calls(F:Nat->Prop)(B Br Bw k N:Nat)(s:RunS)(x:WorkerS)(L:List TaskS)(t:TaskS)(w:World)(hx:XOK F w B s)(hf:Fits s)(hs:Shaped s)(hN:Small N s)(hN':N<=90000000)(hkn:Known s)(hk:s.W[k]?= some x)(hk5:k < 5)(hxt:x.tasks=L++ [t])(hv:s.values.length<=90000000)(hh:HeldAt w Br Bw B k)(hF:¬F Br/\¬F Bw) :
  Calls Tryz.prog 112 #[.pointer (some ⟨Br,0,none⟩),.pointer (some ⟨Bw,0,none⟩)] w fun e w'=>e= .returned (.int .i64 (doneS s k x L t).2)/\XOK (fun b=>F b\/w.heap.size<=b) w' B (doneS s k x L t).1/\Kept F w w':=by
 have hgd:=hf.good x (List.mem_of_getElem? hk) t (by rw[hxt];simp)
 have hGd:Good s.ks t:=hgd.1
 have h12:t.arg<=12:=hgd.2
 have hprog:=hf.prog
 have hL20:L.length<=19:=by
  have h1:=hf.few x (List.mem_of_getElem? hk)
  have:=hf.rmax
  rw[hxt]at h1
  simp at h1
  omega
 have hch3:(children s.ks t).length<=3:=children_length hprog t
 obtain⟨part,kv,yv,g,c,M,T,xs,y,hpF,hO,hy,hyT,ht,hc,hkl⟩:=x_worker hx hk
 have HO:=hid_of hO
 have hb:=hO.box
 have hpB:=hO.pB
 have hks:=hO.kinds
 obtain⟨D,hm,hpM,hDs⟩:=hO.vals
 clear hO
 rw[hxt]at ht
 obtain⟨ka,kc,hkf,-⟩:=id hks
 subst hkf
 have b3:w.cell? ⟨B,4,none⟩=some (.slice (some ⟨g,0,none⟩) xs.length c):=hb.cell (o:=4) rfl
 have r0:=hh.1.cell (o:=0) rfl
 have i0:=hh.2.cell (o:=0) rfl
 have hc':w.cell? ⟨g,k*8,none⟩=some (.pointer (some ⟨T,0,none⟩)):=hc
 have j1:(0:Int)<=(k:Int):=by omega
 have j2:(k:Int) < (xs.length:Int):=by omega
 obtain⟨res,hres⟩:∃res,doneS s k x L t=res:=⟨_,rfl⟩
 have HRES:=hid_of hres
 rw[hres]
 have HB:=hid_of hb
 have HKS:=hid_of hks
 have HM:=hid_of hm
 have HT:=hid_of ht
 have HH:=hid_of hh
 have HPF:=hid_of hpF
 have HPB:Hid (part B=1):=hpB
 have HPM:Hid (part M=3):=hpM
 have HY:Hid (xs[k]?= some y):=hy
 have HYT:Hid (y.T=T):=hyT
 have HXT:Hid (x.tasks=L++ [t]):=hxt
 have HKX:Hid (s.W[k]?= some x):=hk
 have HY0:Hid (∀U,Below w.heap.size w U->Calls Tryz.prog 113 #[.pointer (some ⟨T,0,none⟩)] U fun e w'=>e= .returned (.agg #[.string t.id,.int .i64 t.kind,.int .i64 t.arg])/\Below w.heap.size w w'):=fun U hU=>by
  refine(youngest_calls (fun b=>part b=10+k) T s.room L t U (ht.kept (Kept.of_below hU (X:=fun b=>w.heap.size<=b) (fun _ _ h=>h)) (fun g hg h=>⟨by omega,h⟩)) (by omega)).mono ?_
  rintro e w' ⟨rfl,h1⟩
  exact⟨rfl,hU.trans (h1.mono hU.size)⟩
 clear hx hb hks hm ht hh hpF hpB hpM hy hyT hxt hk hres hgd hc
 go_enter Tryz.func112,Tryz.ntmps112
 go_upto_region 1 with fail
 go_quiet (fail)
 go_upto_region 3 with(go_at_call 113;refine(HY0.out _ (below_drewN (Below.refl _ _) _)).mono ?_;rintro e w1 ⟨rfl,hb1⟩)
 obtain⟨w2,hw2⟩:∃w2,w1.alloc (Obj.cells #[.string t.id,.int .i64 t.kind,.int .i64 t.arg] 62)=w2:=⟨_,rfl⟩
 have s1:=hb1.size
 have hb2:Below w.heap.size w w2:=by rw[<-hw2];exact hb1.alloc s1 _
 have HT2:Hid (BoxAt w2 w1.heap.size 62 #[.string t.id,.int .i64 t.kind,.int .i64 t.arg]):=by rw[<-hw2];exact BoxAt.new w1 _ _
 rw[hw2]
 clear hw2 hb1 b3 r0 i0 hc'
 have HB2:=hid_of hb2
 have s2:=hb2.size
 have HR2:=hid_of (HB.out.below hb2 HB.out.lt)
 have HH2:=hid_of (show HeldAt w2 Br Bw B k from⟨HH.out.1.below hb2 HH.out.1.lt,HH.out.2.below hb2 HH.out.2.lt⟩)
 have hbl:=HB.out.lt
 have hrl:=HH.out.1.lt
 have r0:=HH2.out.1.cell (o:=0) rfl
 have b0:w2.cell? ⟨B,0,none⟩=some (.slice ka s.ks.length kc):=HR2.out.cell (o:=0) rfl
 have b1:w2.cell? ⟨B,1,none⟩=some (.int .i64 s.kind):=HR2.out.cell (o:=1) rfl
 have b2:w2.cell? ⟨B,2,none⟩=some (.int .i64 s.arg):=HR2.out.cell (o:=2) rfl
 have x0:=HT2.out.cell (o:=0) rfl
 have x1:=HT2.out.cell (o:=1) rfl
 have x2:=HT2.out.cell (o:=2) rfl
 have HKU:Hid (∀U,Below w.heap.size w U->KindsAt (fun b=>part b=6/\b < w.heap.size) U (.slice ka s.ks.length kc) s.ks):=fun U hU=>HKS.out.below.kept (Kept.of_below (X:=fun b=>w.heap.size<=b) hU (fun _ _ h=>h)) (fun b h=>by omega)
 have HCH:Hid (∀U,Below w2.heap.size w2 U->Calls Tryz.prog 115 #[.agg #[.slice ka s.ks.length kc,.int .i64 s.kind,.int .i64 s.arg],.agg #[.string t.id,.int .i64 t.kind,.int .i64 t.arg]] U fun e w'=>∃v,e= .returned v/\∃Bp Bt,v= .func (.func 170) #[] #[.pointer (some ⟨Bp,0,none⟩),.pointer (some ⟨Bt,0,none⟩)]/\BoxAt w' Bp 41 #[.slice ka s.ks.length kc,.int .i64 s.kind,.int .i64 s.arg]/\BoxAt w' Bt 62 #[.string t.id,.int .i64 t.kind,.int .i64 t.arg]/\w2.heap.size<=Bp/\w2.heap.size<=Bt/\Below w2.heap.size w2 w'):=fun U hU=>by
  refine((callsIn_wide (n:=5)).1 (children_in Fence.wide 5 trivial rfl ka s.ks.length kc s.kind s.arg t.id t.kind t.arg U)).mono ?_
  rintro e w' ⟨rfl,rfl⟩
  have hz:=hU.size
  refine⟨_,rfl,U.heap.size,U.heap.size+1,rfl,(BoxAt.new U _ _).alloc _,boxAt_at _ _ _ _ (by simp),hz,by omega,(hU.alloc hU.size _).alloc (by simp;omega) _⟩
 have HRP:Hid (∀U Bp Bt,Below w2.heap.size w2 U->BoxAt U Bp 41 #[.slice ka s.ks.length kc,.int .i64 s.kind,.int .i64 s.arg]->BoxAt U Bt 62 #[.string t.id,.int .i64 t.kind,.int .i64 t.arg]->Calls Tryz.prog 114 #[.pointer (some ⟨T,0,none⟩),.func (.func 170) #[] #[.pointer (some ⟨Bp,0,none⟩),.pointer (some ⟨Bt,0,none⟩)]] U fun e w'=>∃v,e= .returned v/\v= .bool (!decide (s.room < (L.length:Int)+(children s.ks t).length))/\Kept (fun b=>part b=10+k/\b < w.heap.size) w2 w'/\(if s.room < (L.length:Int)+(children s.ks t).length then Below w2.heap.size w2 w' else TaskListAt (fun b=>(part b=10+k/\b < w.heap.size)\/w2.heap.size<=b) w' T s.room (L++children s.ks t))):=fun U Bp Bt hU hBp hBt=>by
  have hwU:Below w.heap.size w U:=HB2.out.trans (hU.mono s2)
  have htU:TaskListAt (fun b=>part b=10+k/\b < w.heap.size) U T s.room (L++ [t]):=HT.out.kept (Kept.of_below hwU (X:=fun b=>w.heap.size<=b) (fun _ _ h=>h)) (fun g hg h=>⟨by omega,h,hg⟩)
  refine(replace_calls _ T s.room L (children s.ks t) t 170 #[.pointer (some ⟨Bp,0,none⟩),.pointer (some ⟨Bt,0,none⟩)] U htU (by omega) (by omega) (enters_of Tryz.func170 (by kernel_rfl) rfl) (fun n X U' W hU' hW hX=> ?_)).mono ?_
  ·have hbUW:Below U.heap.size U W:=hU'.trans (hW.mono hU'.size)
   have hbp:=hBp.lt
   have hbt:=hBt.lt
   have hz:=hU'.size
   have hwz:=hwU.size
   exact children1_seqY n Bp Bt X (fun b=>part b=6/\b < w.heap.size) ka kc s.kind s.arg s.ks t (children s.ks t) rfl W (hBp.below hbUW hbp) (hBt.below hbUW hbt) (HKU.out W (hwU.trans (hbUW.mono hwz))) (fun b h h'=>by have:=hX b h';omega) (fun h'=>by have:=hX _ h';omega) hprog hGd.1 hGd.2.1 hGd.2.2.1 h12 (by have:=hGd.2.2.2;have:=hGd.2.2.1;omega)
  ·rintro e w' ⟨rfl,h1,h2⟩
   have hz:=hU.size
   refine⟨_,rfl,rfl,(Kept.of_below hU (X:=fun b=>part b=10+k/\b < w.heap.size) (fun b h1 h2=>by omega)).trans h1,?_⟩
   split
   ·rename_i hlt;rw[if_pos hlt]at h2;exact hU.trans (h2.mono hz)
   ·rename_i hlt;rw[if_neg hlt]at h2;exact h2.kept (Kept.refl (fun _=>False) _) (fun g _ h=>⟨fun h=>h,by omega⟩)
 obtain⟨n,hn⟩:∃n,(children s.ks t).length=n:=⟨_,rfl⟩
 have HN:Hid ((children s.ks t).length=n):=hn
 rw[hn]at HRP hch3
 clear hn hb2
 go_cut [23] (fun bv wx=>bv= .bool (decide (s.room < (L.length:Int)+n))/\Kept (fun b=>part b=10+k/\b < w.heap.size) w2 wx/\(if s.room < (L.length:Int)+n then Below w2.heap.size w2 wx else TaskListAt (fun b=>(part b=10+k/\b < w.heap.size)\/w2.heap.size<=b) wx T s.room (L++children s.ks t)))
 case first=>
  go_region_law (first
   |(refine step_call2 (by rfl) 115 _ _ _ (by rfl) (.agg #[.slice ka s.ks.length kc,.int .i64 s.kind,.int .i64 s.arg]) (.agg #[.string t.id,.int .i64 t.kind,.int .i64 t.arg]) (by rfl) (by rfl) (enters_of Tryz.func115 (by kernel_rfl) rfl) (HCH.out _ (by first|assumption|exact Below.refl _ _|exact(Below.refl _ _).drew|exact Below.drew (by assumption))) ?_;rintro v3 w3 ⟨Bp,Bt,rfl,hBp,hBt,hpl,htl',hb3⟩)
   |(refine step_call2 (by rfl) 114 _ _ _ (by rfl) (.pointer (some ⟨T,0,none⟩)) (.func (.func 170) #[] #[.pointer (some ⟨Bp,0,none⟩),.pointer (some ⟨Bt,0,none⟩)]) (by rfl) (by rfl) (enters_of Tryz.func114 (by kernel_rfl) rfl) (HRP.out _ Bp Bt (by first|assumption|exact Below.drew (by assumption)) (by first|assumption|exact hBp) (by first|assumption|exact hBt)) ?_;rintro v4 w4 ⟨rfl,hk4,hif4⟩))
  all_goals
   go_wp2_with fail
   go_meet
   case rel=>exact⟨by simp,by first|exact hk4|exact hk4.drew,by first|exact hif4|(split<;>simp_all)⟩
 case rest=>
  obtain⟨rfl,hk4,hif4⟩:=hcut
  rename World=>w4
  have HK4:=hid_of hk4
  have s4:=hk4.size
  have hTl:T < w.heap.size:=by obtain⟨_,h,_⟩:=HT.out;exact h.lt
  have npB:¬(part B=10+k/\B < w.heap.size):=fun h=>by have:=HPB.out;omega
  have hpr:part Br=0:=by
   rcases Nat.eq_zero_or_pos (part Br)with h|h
   ·exact h
   ·exact absurd (HPF.out Br (by omega)) hF.1
  have hpw:part Bw=0:=by
   rcases Nat.eq_zero_or_pos (part Bw)with h|h
   ·exact h
   ·exact absurd (HPF.out Bw (by omega)) hF.2
  have HR4:=hid_of (HR2.out.kept hk4 npB)
  have HH4:Hid (HeldAt w4 Br Bw B k):=⟨HH2.out.1.kept hk4 (by omega),HH2.out.2.kept hk4 (by omega)⟩
  have HT4:=hid_of (HT2.out.kept hk4 (by omega))
  have HK04:Hid (Kept (fun b=>part b=10+k/\b < w.heap.size) w w4):=(Kept.of_below HB2.out (X:=fun b=>part b=10+k/\b < w.heap.size) (fun b h1 h2=>by omega)).trans hk4
  have HKS4:=hid_of (HKS.out.below.kept HK04.out (fun b h1 h2=>by omega))
  have HM4:=hid_of (HM.out.kept HK04.out (fun h=>by have:=HPM.out;omega))
  have HML:=HM.out.lt
  clear r0 b0 b1 b2 x0 x1 x2 hk4
  have r0:=HH4.out.1.cell (o:=0) rfl
  by_cases hlt:s.room < (L.length:Int)+(n:Int)
  ·have hd:decide (s.room < (L.length:Int)+(n:Int))=true:=decide_eq_true hlt
   rw[hd]
   rw[if_pos hlt]at hif4
   have hres:res=({s with over:=true},6):=by rw[<-HRES.out];unfold doneS;rw[HN.out,if_pos hlt]
   have HRS:=hid_of hres
   have hwb:Below w.heap.size w w4:=HB2.out.trans (hif4.mono s2)
   have HWB:=hid_of hwb
   have c6:=HR4.out.cell (o:=16) rfl
   have f6:=HR4.out.frozen 16
   clear hd hres hwb hif4
   go_wp2_with fail
   go_ret
   rw[HRS.out]
   have k5:Kept (·= B) w (w4.setCell ⟨B,16,none⟩ (.bool true)):=(Kept.of_below HWB.out (X:=(·= B)) (fun b h1 h2=>by omega)).andThen ((Kept.refl (·= B) w4).setCell (.inl (by rfl)) _) (fun b _ h=>h)
   obtain⟨h8,hm8⟩:=HO.out.over k5 (HR4.out.setAt 16 _)
   obtain⟨h9,hk9⟩:=hm8.okX h8 HPF.out
   exact⟨rfl,h9,hk9⟩
  ·have hd:decide (s.room < (L.length:Int)+(n:Int))=false:=decide_eq_false hlt
   rw[hd]
   rw[if_neg hlt]at hif4
   have hres:res=(bringS {s with W:=s.W.set k {x with tasks:=L++children s.ks t}} k (t.id,valueOf s.ks t),0):=by rw[<-HRES.out];unfold doneS;rw[HN.out,if_neg hlt]
   have HRS:=hid_of hres
   obtain⟨h6,hm6⟩:=HO.out.later HB2.out
   have k7:Kept (fun g=>ext w part 0 g=10+k) w2 w4:=HK4.out.mono (fun b _ h=>(ext_old h.2).trans h.1)
   obtain⟨h7,hm7⟩:=h6.retasks (l:=L++children s.ks t) HY.out HKX.out k7 (by
    rw[HYT.out]
    exact hif4.kept (Kept.refl (fun _=>False) w4) (fun b _ h=>⟨fun h=>h,by
     rcases h with h|h
     ·exact .inl ⟨(ext_old h.2).trans h.1,by omega⟩
     ·exact .inr h⟩))
   have HH7:=hid_of h7
   have HM7:=hid_of (hm6.trans hm7)
   have i0:=HH4.out.2.cell (o:=0) rfl
   have b0:w4.cell? ⟨B,0,none⟩=some (.slice ka s.ks.length kc):=HR4.out.cell (o:=0) rfl
   have b1:w4.cell? ⟨B,1,none⟩=some (.int .i64 s.kind):=HR4.out.cell (o:=1) rfl
   have b2:w4.cell? ⟨B,2,none⟩=some (.int .i64 s.arg):=HR4.out.cell (o:=2) rfl
   have x0:=HT4.out.cell (o:=0) rfl
   have x1:=HT4.out.cell (o:=1) rfl
   have x2:=HT4.out.cell (o:=2) rfl
   have HST:Hid (∀U,Below w4.heap.size w4 U->U.cell? ⟨Br,0,none⟩=some (.pointer (some ⟨B,0,none⟩))/\U.cell? ⟨Bw,0,none⟩=some (.int .i64 k)/\U.cell? ⟨B,0,none⟩=some (.slice ka s.ks.length kc)/\U.cell? ⟨B,1,none⟩=some (.int .i64 s.kind)/\U.cell? ⟨B,2,none⟩=some (.int .i64 s.arg)/\U.cell? ⟨w1.heap.size,0,none⟩=some (.string t.id)/\U.cell? ⟨w1.heap.size,1,none⟩=some (.int .i64 t.kind)/\U.cell? ⟨w1.heap.size,2,none⟩=some (.int .i64 t.arg)):=fun U hU=>
    ⟨(hU.cell (p:=⟨Br,0,none⟩) HH4.out.1.lt).trans r0,(hU.cell (p:=⟨Bw,0,none⟩) HH4.out.2.lt).trans i0,(hU.cell (p:=⟨B,0,none⟩) HR4.out.lt).trans b0,(hU.cell (p:=⟨B,1,none⟩) HR4.out.lt).trans b1,(hU.cell (p:=⟨B,2,none⟩) HR4.out.lt).trans b2,
     (hU.cell (p:=⟨w1.heap.size,0,none⟩) HT4.out.lt).trans x0,(hU.cell (p:=⟨w1.heap.size,1,none⟩) HT4.out.lt).trans x1,(hU.cell (p:=⟨w1.heap.size,2,none⟩) HT4.out.lt).trans x2⟩
   have HVA:Hid (∀U,Below w4.heap.size w4 U->Calls Tryz.prog 85 #[.agg #[.slice ka s.ks.length kc,.int .i64 s.kind,.int .i64 s.arg],.agg #[.string t.id,.int .i64 t.kind,.int .i64 t.arg]] U fun e w'=>e= .returned (.agg #[.string t.id,.int .i64 (valueOf s.ks t)])/\Below w4.heap.size w4 w'):=fun U hU=>by
    refine(value_calls (.slice ka s.ks.length kc) s.kind s.arg s.ks t _ U (HKS4.out.kept (Kept.of_below (X:=fun b=>w4.heap.size<=b) hU (fun _ _ h=>h)) (fun b h=>by omega)) hprog hGd.1 hGd.2.1 hGd.2.2.1 h12).mono ?_
    rintro e w' ⟨rfl,h1⟩
    exact⟨rfl,hU.trans (h1.mono hU.size)⟩
   have HBR:Hid (∀(U:World) (bb:Nat),Below w4.heap.size w4 U->bb=U.heap.size->Calls Tryz.prog 116 #[.pointer (some ⟨B,0,none⟩),.int .i64 (k:Int),.slice (some ⟨bb,0,none⟩) 1 1] (U.alloc (Obj.cells #[.string t.id,.int .i64 (valueOf s.ks t)] 92)) fun e w'=>∃u,e= .returned u/\XOK (fun b=>F b\/w.heap.size<=b) w' B (bringS {s with W:=s.W.set k {x with tasks:=L++children s.ks t}} k (t.id,valueOf s.ks t))/\Kept F w w'/\
     (w'.cell? ⟨Br,0,none⟩=some (.pointer (some ⟨B,0,none⟩))/\w'.cell? ⟨Bw,0,none⟩=some (.int .i64 k)/\w'.cell? ⟨B,0,none⟩=some (.slice ka s.ks.length kc)/\w'.cell? ⟨B,1,none⟩=some (.int .i64 s.kind)/\w'.cell? ⟨B,2,none⟩=some (.int .i64 s.arg)/\w'.cell? ⟨w1.heap.size,0,none⟩=some (.string t.id)/\w'.cell? ⟨w1.heap.size,1,none⟩=some (.int .i64 t.kind)/\w'.cell? ⟨w1.heap.size,2,none⟩=some (.int .i64 t.arg))):=fun U bb hU hbb=>by
    subst hbb
    have hA:Below w4.heap.size w4 (U.alloc (Obj.cells #[.string t.id,.int .i64 (valueOf s.ks t)] 92)):=hU.alloc hU.size _
    obtain⟨h8,hm8⟩:=HH7.out.later hA
    have hkl':=(List.getElem?_eq_some_iff.1 HKX.out).1
    have hWl:(s.W.set k {x with tasks:=L++children s.ks t}).length=s.W.length:=List.length_set ..
    have hmem:∀z∈s.W.set k {x with tasks:=L++children s.ks t},∃z'∈s.W,z.sent=z'.sent/\z.came=z'.came:=fun z hz=>by
     rcases List.mem_or_eq_of_mem_set hz with h'|rfl
     ·exact⟨z,h',rfl,rfl⟩
     ·exact⟨x,List.mem_of_getElem? HKX.out,rfl,rfl⟩
    refine(bring_x k U.heap.size t.id (valueOf s.ks t) h8 (y:={x with tasks:=L++children s.ks t}) (List.getElem?_set_self hkl') ⟨by show((s.W.set k _).length:Int)=_;rw[hWl];exact hs.len,hs.two,hs.five,by show s.links.length=(s.W.set k _).length;rw[hWl];exact hs.llen,fun ls h=>by show ls.length=(s.W.set k _).length;rw[hWl];exact hs.lrow ls h,hs.way⟩
     ⟨hN.all,hN.known,hN.came,hN.kept,fun z hz=>by obtain⟨z',h1,h2,h3⟩:=hmem z hz;rw[h2];exact hN.sent z' h1,fun z hz=>by obtain⟨z',h1,h2,h3⟩:=hmem z hz;rw[h3];exact hN.got z' h1⟩ hN' hkn hv (by have:=hGd.2.2.2;have:=hGd.2.2.1;omega) (valueOf_wf hprog hGd) (BoxAt.new U _ _)).mono ?_
    rintro e w' ⟨u,rfl,part',yv',xs',h9,hm9⟩
    have hmA:=(HM7.out.trans hm8).trans hm9
    obtain⟨h10,hk10⟩:=hmA.okX h9 HPF.out
    have hmB:=(hm8.trans hm9).kept
    have hst:=HST.out _ hA
    have hw12:=HT2.out.lt
    have hbl2:=HH.out.2.lt
    have n1:¬(ext w2 (ext w part 0) (10+k) Br≠0):=fun h=>h ((ext_old (by omega)).trans ((ext_old hrl).trans hpr))
    have n2:¬(ext w2 (ext w part 0) (10+k) Bw≠0):=fun h=>h ((ext_old (by omega)).trans ((ext_old hbl2).trans hpw))
    have n3:¬(ext w2 (ext w part 0) (10+k) w1.heap.size≠0):=fun h=>h ((ext_old hw12).trans (ext_new s1))
    have hr:=bringS_rest {s with W:=s.W.set k {x with tasks:=L++children s.ks t}} k (t.id,valueOf s.ks t)
    refine⟨u,rfl,h10,hk10,(hmB.cell (p:=⟨Br,0,none⟩) HH4.out.1.lt n1).trans r0,(hmB.cell (p:=⟨Bw,0,none⟩) HH4.out.2.lt n2).trans i0,h9.box.cell (o:=0) rfl,?_,?_,(hmB.cell (p:=⟨w1.heap.size,0,none⟩) HT4.out.lt n3).trans x0,(hmB.cell (p:=⟨w1.heap.size,1,none⟩) HT4.out.lt n3).trans x1,(hmB.cell (p:=⟨w1.heap.size,2,none⟩) HT4.out.lt n3).trans x2⟩
    ·have h11:w'.cell? ⟨B,1,none⟩=some (.int .i64 (bringS {s with W:=s.W.set k {x with tasks:=L++children s.ks t}} k (t.id,valueOf s.ks t)).kind):=h9.box.cell (o:=1) rfl
     rw[hr.1]at h11
     exact h11
    ·have h11:w'.cell? ⟨B,2,none⟩=some (.int .i64 (bringS {s with W:=s.W.set k {x with tasks:=L++children s.ks t}} k (t.id,valueOf s.ks t)).arg):=h9.box.cell (o:=2) rfl
     rw[hr.2]at h11
     exact h11
   clear hd hres hif4 h6 hm6 h7 hm7 k7
   go_upto_region 6 with fail
   go_region_held3 (fun U=>U.cell? ⟨Br,0,none⟩=some (.pointer (some ⟨B,0,none⟩))/\U.cell? ⟨Bw,0,none⟩=some (.int .i64 k)/\U.cell? ⟨B,0,none⟩=some (.slice ka s.ks.length kc)/\U.cell? ⟨B,1,none⟩=some (.int .i64 s.kind)/\U.cell? ⟨B,2,none⟩=some (.int .i64 s.arg)/\U.cell? ⟨w1.heap.size,0,none⟩=some (.string t.id)/\U.cell? ⟨w1.heap.size,1,none⟩=some (.int .i64 t.kind)/\U.cell? ⟨w1.heap.size,2,none⟩=some (.int .i64 t.arg))
    (first|assumption|(exact HST.out _ (by assumption))|(exact HST.out _ (Below.refl _ _))|(exact HST.out _ (Below.refl _ _).drew)|(exact HST.out _ (below_alloc (by assumption) _)))
    (first
    |(go_at_call 85;refine(HVA.out _ (by first|assumption|exact Below.refl _ _|exact(Below.refl _ _).drew)).mono ?_;rintro e w5 ⟨rfl,hb5⟩)
    |(go_at_call 116;refine(HBR.out _ _ (by first|assumption) rfl).mono ?_;rintro e w6 ⟨u6,rfl,hx6,hk6,hst6⟩))
   all_goals
    go_wp2_with fail
    go_ret
    rw[HRS.out]
    exact⟨rfl,hx6,hk6⟩
end Go.Proofs.YtfanaanofjhlkaaGreatDoor
