import Derived.Test.YtfanaanofjhlkaaGreatDoorKeepSafe
import Derived.Laws.StructEq
namespace Go.Proofs.YtfanaanofjhlkaaGreatDoor
open Go Go.RowKit
theorem all_at{N:Nat}{s:RunS}(hf:Fine N s){u:TaskS}(hu:u∈allTasks s.ks s.kind s.arg):u.id.size<=12/\locate s.ks s.kind s.arg u.id.data.toList=some (u.kind,u.arg):=by
 have hkr:0<=s.kind/\s.kind < s.ks.length/\0<=s.arg/\s.arg<=12:=by have hprog:=hf.prog;simp[progB,rangeB,numB]at hprog;omega
 have hGr:Good s.ks ⟨⟨#[]⟩,s.kind,s.arg⟩:=⟨hkr.1,hkr.2.1,hkr.2.2.1,by simp[ByteArray.size];omega⟩
 have hG:=tree_good hf.prog 12 _ hGr u hu
 refine⟨by have:=hG.2.2.2;have:=hG.2.2.1;omega,?_⟩
 obtain⟨r,h1,h2⟩:=tree_locate hf.prog 12 _ u hu
 have e:idl u=r:=by simpa[idl]using h1
 rw[<-e]at h2
 exact h2
theorem split_at{α:Type}{l:List α}{i:Nat}{a:α}(h:l[i]?= some a):l=l.take i++a :: l.drop (i+1):=by
 obtain⟨hl,e⟩:=List.getElem?_eq_some_iff.1 h
 rw[<-e,<-List.drop_eq_getElem_cons hl,List.take_append_drop]
theorem ids_step{W:List WorkerS}{k:Nat}{x:WorkerS}(hx:W[k]?= some x):idsS (W.take (k+1))=idsS (W.take k)++x.tasks.map (·.id):=by
 unfold idsS
 rw[List.take_add_one,hx]
 simp
theorem once_fresh{W:List WorkerS}{did:List ByteArray}(hn:(idsS W++did).Nodup){k i:Nat}{x:WorkerS}{t:TaskS}(hx:W[k]?= some x)(ht:x.tasks[i]?= some t):t.id ∉ idsS (W.take k)++(x.tasks.take i).map (·.id)/\t.id ∉ did:=by
 have e:idsS W++did=(idsS (W.take k)++(x.tasks.take i).map (·.id))++t.id :: ((x.tasks.drop (i+1)).map (·.id)++(idsS (W.drop (k+1))++did)):=by
  have h1:idsS W=idsS (W.take k)++(x.tasks.map (·.id)++idsS (W.drop (k+1))):=by
   conv=>lhs;rw[split_at hx]
   unfold idsS
   simp
  have h2:x.tasks.map (·.id)=(x.tasks.take i).map (·.id)++t.id :: (x.tasks.drop (i+1)).map (·.id):=by
   conv=>lhs;rw[split_at ht]
   simp
  rw[h1,h2]
  simp
 rw[e]at hn
 obtain⟨-,h2,h3⟩:=List.nodup_append.1 hn
 refine⟨fun hm=>h3 _ hm _ (List.mem_cons_self ..) rfl,fun hm=>(List.nodup_cons.1 h2).1 ?_⟩
 exact List.mem_append_right _ (List.mem_append_right _ hm)
theorem did_fresh{W:List WorkerS}{did:List ByteArray}(hn:(idsS W++did).Nodup){i:Nat}{x:ByteArray}(hx:did[i]?= some x):x ∉ did.take i:=by
 have h1:=(List.nodup_append.1 hn).2.1
 rw[split_at hx]at h1
 exact fun hm=>(List.nodup_append.1 h1).2.2 _ hm _ (List.mem_cons_self ..) rfl
theorem inB_false{l:List ByteArray}{id:ByteArray}(h:id ∉ l):inB l id=false:=by
 rw[Bool.eq_false_iff]
 exact fun e=>h (inB_iff.1 e)
theorem taskHeld:Tryz.prog.stoodInHeld 62=false:=by kernel_rfl
theorem taskGuard:Tryz.prog.eqGuardType Tryz.prog.depth 62=false:=by kernel_rfl
theorem row_cap{W:World}{base e size:Nat}{a:Option Addr}{n c:Nat}{xs:List Value}(h:W.ownsRow base e size (.slice a n c) n xs):n<=c:=by
 obtain⟨-,⟨h,h0⟩|⟨g,cap,cur,hv,-,-,hc,-⟩⟩:=h
 ·omega
 ·cases hv
  exact hc
structure OnceOK(s:RunS)(did:List ByteArray)(q:Nat):Prop where
 len:s.W.length=q
 nodup:(idsS s.W++did).Nodup
 theirs:∀(k:Nat) x (i:Nat) t,s.W[k]?= some x->x.tasks[i]?= some t->t.id.size<=12/\locate s.ks s.kind s.arg t.id.data.toList=some (t.kind,t.arg)
 dones:∀x∈did,x.size<=12/\∃uk ux,locate s.ks s.kind s.arg x.data.toList=some (uk,ux)
 few:(idsS s.W).length+did.length<=(allS s).length
 room:∀(k:Nat) x,s.W[k]?= some x->(x.tasks.length:Int)<=s.room
theorem once_ok{N:Nat}{s:RunS}{did:List ByteArray}(hW:Whole N s)(hp:Play did s):OnceOK s did s.W.length:=by
 refine⟨rfl,hp.nodup hW.fine,fun k x i t hx ht=>all_at hW.fine (hp.theirs x (List.mem_of_getElem? hx) t (List.mem_of_getElem? ht)),fun x hx=> ?_,?_,hW.steady.pol.room⟩
 ·obtain⟨t,ht,rfl⟩:=hp.dones x hx
  have:=all_at hW.fine ht
  exact⟨this.1,_,_,this.2⟩
 ·have:=hp.few
  unfold allS
  rw[pairsOf_length]
  exact this
def AtSays(wr:World)(G:Nat)(va:Option Addr)(n vcap:Nat)(k x:Int)(g off:Nat)(id:ByteArray)(uk ux:Int):Prop:=
 ∀U,Below wr.heap.size wr U->Calls Tryz.prog 37 #[.agg #[.slice va n vcap,.int .i64 k,.int .i64 x],.string id] U fun e U'=>∃v,e= .returned v/\(v= .tuple #[.agg #[.string id,.int .i64 uk,.int .i64 ux],.bool true]/\(U'.cell? ⟨G,4,none⟩=some (.slice va n vcap)/\U'.cell? ⟨G,5,none⟩=some (.int .i64 k)/\U'.cell? ⟨G,6,none⟩=some (.int .i64 x)/\U'.cell? ⟨g,off,none⟩=some (.string id))/\Below U.heap.size U U'/\(∀o,Below wr.heap.size wr (U'.alloc o))/\(∀o,wr.heap.size < U.heap.size->U'.cell? ⟨wr.heap.size,o,none⟩=U.cell? ⟨wr.heap.size,o,none⟩)/\(∀o,wr.heap.size < U.heap.size->U'.frozen? ⟨wr.heap.size,o,none⟩=U.frozen? ⟨wr.heap.size,o,none⟩)/\Below wr.heap.size wr U')
theorem at_says{ok:Nat->Prop}{wr:World}{G:Nat}{va:Option Addr}{vcap g off:Nat}{k x:Int}{ks:List KindS}{id:ByteArray}{uk ux:Int}(hk:KindsAt ok wr (.slice va ks.length vcap) ks)(hp:progB ks k x=true)(hs:id.size<=12)(hl:locate ks k x id.data.toList=some (uk,ux))(hG:G < wr.heap.size)(hg:g < wr.heap.size)(p4:wr.cell? ⟨G,4,none⟩=some (.slice va ks.length vcap))(p5:wr.cell? ⟨G,5,none⟩=some (.int .i64 k))(p6:wr.cell? ⟨G,6,none⟩=some (.int .i64 x))(pg:wr.cell? ⟨g,off,none⟩=some (.string id)):AtSays wr G va ks.length vcap k x g off id uk ux:=fun U hU=>by
 refine(at_calls _ va vcap k x ks id uk ux U (hk.below.kept (Kept.of_below (X:=fun b=>wr.heap.size<=b) hU (fun _ _ h=>h)) (fun b h=>by omega)) hp hs hl).mono ?_
 rintro e U' ⟨rfl,hb⟩
 have hbb:=hU.trans (hb.mono hU.size)
 exact⟨_,rfl,rfl,⟨(hbb.cell (p:=⟨G,4,none⟩) hG).trans p4,(hbb.cell (p:=⟨G,5,none⟩) hG).trans p5,(hbb.cell (p:=⟨G,6,none⟩) hG).trans p6,(hbb.cell (p:=⟨g,off,none⟩) hg).trans pg⟩,hb,fun o=>hbb.alloc hbb.size o,fun o hlt=>hb.cell (p:=⟨wr.heap.size,o,none⟩) hlt,fun o hlt=>hb.frozen (p:=⟨wr.heap.size,o,none⟩) hlt,hbb⟩
set_option maxHeartbeats 16000000 in
set_option maxRecDepth 100000 in
theorem konce_calls(H:RunCalls){base:Nat}{own:Nat->Nat}{G B N:Nat}{s:RunS}{ka:Option Addr}{kc:Nat}{av dv:Value}{did:List ByteArray}{over done:Bool}{w:World}(h:GameAt base own w G B s ka kc av dv did over done)(hW:Whole N s)(hp:Play did s)(hfew:(allTasks s.ks s.kind s.arg).length<=200) :
  Calls Tryz.prog 15 #[.pointer (some ⟨G,0,none⟩)] w fun e w'=>e= .returned (.bool true)/\Below w.heap.size w w':=by
 obtain⟨iS,hiS,hzS0,hzS1,hzS2⟩:=info_parts infoStr
 have hok:=once_ok hW hp
 have hprog:=hW.fine.prog
 have h2:=hW.fine.two
 have h5:=hW.fine.five
 have hlw:=hW.fine.len
 have hall:(allS s).length<=200:=by unfold allS;rw[pairsOf_length];exact hfew
 have hfw:=hok.few
 obtain⟨aa,ac,rfl⟩:=row_form h.all
 obtain⟨da,dc,rfl⟩:=row_form h.did
 obtain⟨n,hn⟩:∃n,s.workers=n:=⟨_,rfl⟩
 obtain⟨q,hq⟩:∃q:Nat,s.W.length=q:=⟨_,rfl⟩
 rw[hn]at h2 h5 hlw
 rw[hq]at hok hlw
 have HOK:=hid_of hok
 have HPR:=hid_of hprog
 have HG:=hid_of h
 have HWh:=hid_of hW
 have HN:=hid_of hn
 have hGl:=h.box.lt
 have HIDS:Hid (∀k,(idsS (s.W.take k)).length<=200):=fun k=>by
  have e:idsS s.W=idsS (s.W.take k)++idsS (s.W.drop k):=by
   unfold idsS
   rw[<-List.flatMap_append,List.take_append_drop]
  have e2:=congrArg List.length e
  rw[List.length_append]at e2
  show _<=_
  omega
 have HBX:Hid (∀U,Below w.heap.size w U->U.cell? ⟨G,0,none⟩=some (.pointer (some ⟨B,0,none⟩))/\U.cell? ⟨G,1,none⟩=some (.int .i64 n)/\U.cell? ⟨G,2,none⟩=some (.int .i64 s.room)/\U.cell? ⟨G,4,none⟩=some (.slice ka s.ks.length kc)/\U.cell? ⟨G,5,none⟩=some (.int .i64 s.kind)/\U.cell? ⟨G,6,none⟩=some (.int .i64 s.arg)/\U.cell? ⟨G,7,none⟩=some (.slice aa (allS s).length ac)/\U.cell? ⟨G,8,none⟩=some (.slice da did.length dc)):=fun U hU=>by
  have b:=h.box.below hU hGl
  exact⟨b.cell (o:=0) rfl,by rw[<-hn];exact b.cell (o:=1) rfl,b.cell (o:=2) rfl,b.cell (o:=4) rfl,b.cell (o:=5) rfl,b.cell (o:=6) rfl,b.cell (o:=7) rfl,b.cell (o:=8) rfl⟩
 clear h hW hp hok hprog hn hq hfw
 go_enter Tryz.func15,Tryz.ntmps15
 go_wp2_with fail
 go_loopw [3,4] (fun sv i wr=>∃k:Nat,k<=q/\i= .int .i64 k/\wr.ownsRow w.heap.size 9 1 sv (idsS (s.W.take k)).length ((idsS (s.W.take k)).map Value.string)/\Below w.heap.size w wr) (fun _ i _=>q - (intOf i).toNat)
 case atStart=>exact⟨0,Nat.zero_le _,rfl,World.ownsRow_nil _ _ _ _,Below.refl _ _⟩
 case round=>
  obtain⟨k,hk,rfl,hrow,hbw⟩:=hrel
  obtain⟨sv,hsv⟩:∃sv,sv=u3:=⟨_,rfl⟩
  subst hsv
  obtain⟨Wo,hWo⟩:∃Wo,Wo=wr:=⟨_,rfl⟩
  subst hWo
  have sw:=hbw.size
  obtain⟨g0,g1,g2,g4,g5,g6,g7,g8⟩:=HBX.out Wo hbw
  have HROW:=hid_of hrow
  have HBW:=hid_of hbw
  clear hrow hbw
  by_cases hlt:k < q
  ·have i1:(k:Int) < n:=by omega
   obtain⟨x,hx⟩:∃x,s.W[k]?= some x:=⟨_,List.getElem?_eq_getElem (by rw[HOK.out.len];exact hlt)⟩
   have hts:tasksS s (k:Int)=(x.tasks,0):=by
    unfold tasksS
    rw[if_neg (by rw[HN.out];omega)]
    have:((k:Int)).toNat=k:=by omega
    rw[this,hx]
    rfl
   have hrm:=HOK.out.room k x hx
   have hrx:=HWh.out.fine.rmax
   have hT:=H.tasks _ B N s (k:Int) Wo (HG.out.run.later HBW.out) HWh.out
   rw[hts]at hT
   have HT:=hid_of hT
   have HX:=hid_of hx
   have rm1:decide (s.room < (x.tasks.length:Int))=false:=decide_eq_false (by omega)
   clear hT hts hx
   go_upto_region 6 with(go_at_call 23;refine HT.out.mono ?_;rintro e w5 ⟨v5,rfl,hv5,hb5⟩)
   obtain⟨va,vc,rfl⟩:=row_form hv5
   have s5:=hb5.size
   have y2:=(hb5.cell (p:=⟨G,2,none⟩) (by show G < Wo.heap.size;omega)).trans g2
   have HV5:=hid_of hv5
   have HB5:=hid_of hb5
   clear hv5 hb5 HT
   go_wp2_with fail
   go_loopw [3,7] (fun sv2 iv wx=>∃i:Nat,i<=x.tasks.length/\iv= .int .i64 i/\wx.ownsRow w.heap.size 9 1 sv2 (idsS (s.W.take k)++(x.tasks.take i).map (·.id)).length ((idsS (s.W.take k)++(x.tasks.take i).map (·.id)).map Value.string)/\Kept (fun b=>sv.ownBlock=some b) w5 wx/\(∀g,sv2.ownBlock=some g->sv.ownBlock=some g\/w5.heap.size<=g)) (fun _ iv _=>x.tasks.length - (intOf iv).toNat)
   case atStart=>
    refine⟨0,Nat.zero_le _,rfl,?_,Kept.refl _ _,fun g e=> .inl e⟩
    rw[List.take_zero,List.map_nil,List.append_nil]
    exact row_later HROW.out HB5.out
   case round=>
    obtain⟨i,hi,rfl,hrow2,hk2,hso⟩:=hrel
    obtain⟨sv2,hsv2⟩:∃sv2,sv2=u3:=⟨_,rfl⟩
    subst hsv2
    have hbx:Below w.heap.size w wr:=(HBW.out.trans (HB5.out.mono sw)).trans (hk2.below (by omega) (fun g e=>(HROW.out.lt g e).1))
    have sx:=hk2.size
    obtain⟨p0,p1,p2,p4,p5,p6,p7,p8⟩:=HBX.out wr hbx
    obtain⟨SL,hSL⟩:∃SL,idsS (s.W.take k)++(x.tasks.take i).map (·.id)=SL:=⟨_,rfl⟩
    rw[hSL]at hrow2
    have HSL:=hid_of hSL
    have HR2:=hid_of hrow2
    clear hSL
    have HK2:=hid_of hk2
    have HSO:=hid_of hso
    have HBR:=hid_of hbx
    clear hrow2 hk2 hso hbx
    by_cases hil:i < x.tasks.length
    ·obtain⟨t,ht⟩:∃t,x.tasks[i]?= some t:=⟨_,List.getElem?_eq_getElem hil⟩
     have hv:wr.ownsRow Wo.heap.size 62 3 (.slice va x.tasks.length vc) x.tasks.length (x.tasks.flatMap taskEnc):=row_kept HV5.out HK2.out (fun g e h=>by
      have h1:=(HV5.out.lt g e).1
      have h2:=(HROW.out.lt g h).2
      omega) (Nat.le_refl _)
     obtain⟨gt,ct,hgf,hg1,hg2⟩:=World.ownsRow.form hv (by omega)
     cases hgf
     have cell:∀(o:Nat) (u:Value),(taskEnc t)[o]?= some u->wr.cell? ⟨gt,i*3+o,none⟩=some u:=fun o u ho=>by
      have h1:=hv.cells (g:=gt) rfl (i*3+o) u (flat_get (sz:=3) (enc:=taskEnc) (fun _=>rfl) x.tasks i t o u ht ho)
      rw[Addr.add_lit,Nat.zero_add]at h1
      exact h1
     have c0:wr.cell? ⟨gt,i*3,none⟩=some (.string t.id):=cell 0 _ rfl
     have c1:wr.cell? ⟨gt,i*3+1,none⟩=some (.int .i64 t.kind):=cell 1 _ rfl
     have c2:wr.cell? ⟨gt,i*3+2,none⟩=some (.int .i64 t.arg):=cell 2 _ rfl
     have hloc:=HOK.out.theirs k x i t HX.out ht
     have hfr:=once_fresh HOK.out.nodup HX.out ht
     have hGw:=HG.out.later (W':=wr) ?later
     case later=>exact Below.mono HBR.out (Nat.le_refl _)
     have HA:Hid (AtSays wr G ka s.ks.length kc s.kind s.arg gt (i*3) t.id t.kind t.arg):=at_says hGw.kinds HPR.out hloc.1 hloc.2 (by omega) hg2 p4 p5 p6 c0
     have HIDD:=hid_of (ids_of_row hGw.did)
     have HT:=hid_of ht
     have HFR:=hid_of hfr
     have i1:(0:Int)<=(i:Int):=by omega
     have i2:(i:Int) < (x.tasks.length:Int):=by omega
     have ne1:G≠wr.heap.size:=by omega
     have ne2:gt≠wr.heap.size:=by omega
     have ne3:wr.heap.size≠G:=by omega
     have ne4:wr.heap.size≠gt:=by omega
     have nb1:(G==wr.heap.size)=false:=by rw[beq_eq_false_iff_ne];exact ne1
     have nb2:(gt==wr.heap.size)=false:=by rw[beq_eq_false_iff_ne];exact ne2
     have hal0:∀o,Below wr.heap.size wr (wr.alloc o).drew:=fun o=>((Below.refl _ _).alloc (Nat.le_refl _) _).drew
     have hba:Below wr.heap.size wr (wr.alloc (Obj.cells #[.string ⟨#[]⟩,.int .i64 0,.int .i64 0] 62)):=(Below.refl _ _).alloc (Nat.le_refl _) _
     have a4:=(hba.cell (p:=⟨G,4,none⟩) (by show G < wr.heap.size;omega)).trans p4
     have a5:=(hba.cell (p:=⟨G,5,none⟩) (by show G < wr.heap.size;omega)).trans p5
     have a6:=(hba.cell (p:=⟨G,6,none⟩) (by show G < wr.heap.size;omega)).trans p6
     have a0:=(hba.cell (p:=⟨gt,i*3,none⟩) hg2).trans c0
     clear hv cell hGw hloc hfr ht hba
     go_upto_region 11 with fail
     go_cut [8,9] (fun tp okv wx=>okv= .bool true/\∃Bt,tp= .pointer (some ⟨Bt,0,none⟩)/\BoxAt wx Bt 62 #[.string t.id,.int .i64 t.kind,.int .i64 t.arg]/\Below wr.heap.size wr wx/\wr.heap.size<=Bt)
     case first=>
      go_region_law (refine step_call2 (by rfl) 37 _ _ _ (by rfl) (.agg #[.slice ka s.ks.length kc,.int .i64 s.kind,.int .i64 s.arg]) (.string t.id) (by rfl) (by rfl) (enters_of Tryz.func37 (by kernel_rfl) rfl) (HA.out _ (by first|exact(Below.refl _ _).drew|exact hal0 _)) ?_;rintro v8 w8 ⟨rfl,hS,hbU,hal,hce,hfz,hbW⟩)
      all_goals
       go_wp2_with fail
       go_meet
       case rel=>
        first
        |exact⟨rfl,wr.heap.size,rfl,(((BoxAt.below (W:=(wr.alloc (Obj.cells #[.string ⟨#[]⟩,.int .i64 0,.int .i64 0] 62)).drew) (BoxAt.new wr 62 #[.string ⟨#[]⟩,.int .i64 0,.int .i64 0]) hbU (by show wr.heap.size < (wr.alloc _).heap.size;simp)).setAt 0 _).setAt 1 _).setAt 2 _,((hbW.setCell (p:=⟨wr.heap.size,0,none⟩) (Nat.le_refl _) _).setCell (p:=⟨wr.heap.size,1,none⟩) (Nat.le_refl _) _).setCell (p:=⟨wr.heap.size,2,none⟩) (Nat.le_refl _) _,Nat.le_refl _⟩
        |exact⟨rfl,_,rfl,BoxAt.new _ _ _,hal _,hbW.size⟩
     case rest=>
      obtain⟨rfl,Bt,rfl,hBt,hbc,hBt2⟩:=hcut
      have HBC:=hid_of hbc
      have sc:=hbc.size
      have HBT:=hid_of hBt
      obtain⟨sa,sc2,hsv2⟩:=row_form HR2.out
      subst hsv2
      have hr3:=row_later HR2.out hbc
      have HR3:=hid_of hr3
      have hfa:=inB_false HFR.out.1
      rw[HSL.out]at hfa
      have hfb:=inB_false HFR.out.2
      have hsl:SL.length<=1000:=by
       have h1:=HIDS.out k
       rw[<-HSL.out,List.length_append,List.length_map,List.length_take]
       omega
      have HH1:=hid_of (khas_calls sa sc2 SL t.id wc (ids_of_row hr3) (by omega))
      have hdl:did.length<=1000:=by have:=HOK.out.few;omega
      have HH2:Hid (∀U,Below wc.heap.size wc U->Calls Tryz.prog 38 #[.slice da did.length dc,.string t.id] U fun e w'=>e= .returned (.bool (inB did t.id))/\w'=U):=fun U hU=>(khas_calls da dc did t.id U ((HIDD.out.later HBC.out).later hU) (by omega)).mono fun e w' q=>⟨q.1,q.2.symm⟩
      rw[hfa]at HH1
      rw[hfb]at HH2
      have d0:=(hbc.cell (p:=⟨gt,i*3,none⟩) hg2).trans c0
      have d1:=(hbc.cell (p:=⟨gt,i*3+1,none⟩) hg2).trans c1
      have d2:=(hbc.cell (p:=⟨gt,i*3+2,none⟩) hg2).trans c2
      have e8:=(hbc.cell (p:=⟨G,8,none⟩) (by show G < wr.heap.size;omega)).trans p8
      have t0:=hBt.cell (o:=0) rfl
      have t1:=hBt.cell (o:=1) rfl
      have t2:=hBt.cell (o:=2) rfl
      have hs:=taskHeld
      have hgd:=taskGuard
      clear hbc hBt hr3 c0 c1 c2 a0 a4 a5 a6 p0 p1 p2 p4 p5 p6 p7 p8 HA hfa hfb hal0
      go_upto_region 13 with(go_at_call 38;refine HH1.out.mono ?_;rintro e w7 ⟨rfl,rfl⟩)
      go_quiet (first|(go_at_call 38;refine Calls.quiet_of_same (HH2.out _ (below_drewN (Below.refl _ _) _))))
      obtain⟨nq0,hnq0⟩:∃m,m=nq:=⟨_,rfl⟩
      subst hnq0
      go_upto_region 14 with fail
      go_quiet (fail)
      go_upto_region 16 with fail
      obtain⟨Y,hY⟩:∃Y,(wc.drewN nq0).drewN nq=Y:=⟨_,rfl⟩
      have hbY:Below wc.heap.size wc Y:=by rw[<-hY];exact below_drewN (below_drewN (Below.refl _ _) _) _
      have sY:=hbY.size
      have hbA:Below Y.heap.size Y (Y.alloc (Obj.cells #[.string t.id] 9)):=(Below.refl _ _).alloc (Nat.le_refl _) _
      have HR4:=hid_of (row_later (row_later HR3.out hbY) hbA)
      have HBASE:Hid (w.heap.size<=(Y.alloc (Obj.cells #[.string t.id] 9)).heap.size):=by have:=hbA.size;show _<=_;omega
      have HKA:Hid (Kept (fun b=>sv.ownBlock=some b) w5 (Y.alloc (Obj.cells #[.string t.id] 9))):=((HK2.out.later HBC.out sx).later hbY (by omega)).later hbA (by omega)
      have y0:=(hbY.cell (p:=⟨gt,i*3,none⟩) (by show gt < wc.heap.size;omega)).trans d0
      have HNEW:Hid (idsS (s.W.take k)++(x.tasks.take (i+1)).map (·.id)=SL++ [t.id]):=by
       show _=_
       rw[<-HSL.out,List.take_add_one,HT.out]
       simp
      try rw[hY]
      clear hbY hbA hY HH1 HH2 d0 d1 d2 e8 t0 t1 t2 hs hgd HR3 HBT
      go_wp2_with (at_builtin;refine wpList_append_lies _ rfl _ _ _ rfl w.heap.size 9 iS _ 1 16 Tryz.underlying43 hiS hzS0 hzS1 hzS2 rfl (by omega) (.slice sa SL.length sc2) SL.length (SL.map Value.string) rfl HR4.out ⟨Y.heap.size,0,none⟩ 1 1 [.string t.id] rfl rfl (World.news_of_block (cs:=#[.string t.id]) (t:=9) (fr:=(0,0)) (heap_alloc_new Y _)) (by simp[Value.oneCell']) (by omega) (by unfold maxLen;omega) (by omega) HBASE.out (Y.heap.size+1) (by simp) ?_;intro g6 c6 w6 hown6 hgrow6 hat6 hg6;have HOWN:=hid_of hown6;have HGROW:=hid_of hgrow6;have HAT:=hid_of hat6;clear hown6 hgrow6 hat6)
      go_roundw
      case rel=>
       have hk6:=Kept.grown HGROW.out (X:=fun b=>(Value.slice sa SL.length sc2).ownBlock=some b) (fun r e=>e)
       refine⟨i+1,by omega,by go_num,?_,HKA.out.andThen hk6 (fun b hb e=> ?_),fun g e=> ?_⟩
       ·have h1:=HOWN.out
        rw[HNEW.out,List.length_append,List.map_append]
        exact h1
       ·rcases HSO.out b e with q|q
        ·exact q
        ·omega
       ·have e':g6=g:=by simpa[Value.ownBlock]using e
        subst e'
        rcases HAT.out with q|q
        ·exact HSO.out _ q
        ·right
         omega
      case measure=>simp[intOf];omega
    ·have hil':i=x.tasks.length:=by omega
     subst hil'
     have HSL2:Hid (idsS (s.W.take (k+1))=SL):=by
      show _=_
      rw[ids_step HX.out,<-HSL.out,List.take_length]
     clear HSL p0 p1 p2 p4 p5 p6 p7 p8
     go_wp2_with fail
     go_roundw
     case rel=>exact⟨k+1,by omega,by go_num,by rw[HSL2.out];exact HR2.out,HBR.out⟩
     case measure=>simp[intOf];omega
  ·have hkq:k=q:=by omega
   subst hkq
   have i1:¬(k:Int) < n:=by omega
   obtain⟨sa,sc,hsv⟩:=row_form HROW.out
   subst hsv
   have HFEW:=hid_of HOK.out.few
   have hids:idsS (s.W.take k)=idsS s.W:=by rw[<-HOK.out.len,List.take_length]
   rw[hids]at HROW ⊢
   obtain⟨L,hL⟩:∃L,(idsS s.W).length=L:=⟨_,rfl⟩
   rw[hL]at HFEW ⊢
   have hdl:did.length<=200:=by have:=HFEW.out;omega
   have hLl:L<=200:=by have:=HFEW.out;omega
   clear hids hL HROW
   go_wp2_with fail
   go_loopw [12] (fun iv wx=>∃i:Nat,i<=did.length/\iv= .int .i64 i/\Below w.heap.size w wx) (fun iv _=>did.length - (intOf iv).toNat)
   case atStart=>exact⟨0,Nat.zero_le _,rfl,HBW.out⟩
   case round=>
    obtain⟨i,hi,rfl,hbx⟩:=hrel
    have sx:=hbx.size
    obtain⟨p0,p1,p2,p4,p5,p6,p7,p8⟩:=HBX.out wr hbx
    by_cases hil:i < did.length
    ·obtain⟨x,hx⟩:∃x,did[i]?= some x:=⟨_,List.getElem?_eq_getElem hil⟩
     have hGw:=HG.out.later hbx
     have hcap:=row_cap hGw.did
     obtain⟨gd,od,rfl,hgd,hcd⟩:=ids_of_row hGw.did i x hx
     have hfr:=inB_false (did_fresh HOK.out.nodup hx)
     have hdn:=HOK.out.dones x (List.mem_of_getElem? hx)
     obtain⟨hx12,uk,ux,hloc⟩:=hdn
     have HA:Hid (∀Z,Below wr.heap.size wr Z->AtSays Z G ka s.ks.length kc s.kind s.arg gd (od+i) x uk ux):=fun Z hZ=>by
      have hl:G < wr.heap.size:=by omega
      exact at_says (hGw.later hZ).kinds HPR.out hx12 hloc (Nat.lt_of_lt_of_le hl hZ.size) (Nat.lt_of_lt_of_le hgd hZ.size) ((hZ.cell (p:=⟨G,4,none⟩) hl).trans p4) ((hZ.cell (p:=⟨G,5,none⟩) hl).trans p5) ((hZ.cell (p:=⟨G,6,none⟩) hl).trans p6) ((hZ.cell (p:=⟨gd,od+i,none⟩) hgd).trans hcd)
     have etk:(did.take i).length=i:=by rw[List.length_take];omega
     have hdi:=(ids_of_row hGw.did).take i
     have HH:Hid (∀U,Below wr.heap.size wr U->Calls Tryz.prog 38 #[.slice (some ⟨gd,od,none⟩) i dc,.string x] U fun e w'=>e= .returned (.bool false)/\w'=U):=fun U hU=>by
      have hh:=khas_calls (some ⟨gd,od,none⟩) dc (did.take i) x U (hdi.later hU) (by have:=HFEW.out;rw[etk];omega)
      rw[etk,hfr]at hh
      exact hh.mono fun e w' q=>⟨q.1,q.2.symm⟩
     have j1:(0:Int)<=(i:Int):=by omega
     have j2:(i:Int) < (did.length:Int):=by omega
     have j3:(i:Int)<=(dc:Int):=by omega
     have HBX2:=hid_of hbx
     have HX:=hid_of hx
     clear hbx hGw hfr hloc hx hdi etk
     go_upto_region 20 with fail
     go_quiet (first|(go_at_call 38;refine Calls.quiet_of_same (HH.out _ (below_drewN (Below.refl _ _) _))))
     go_upto_region 21 with fail
     obtain⟨Z,hZ⟩:∃Z,wr.drewN nq=Z:=⟨_,rfl⟩
     have hbZ:Below wr.heap.size wr Z:=by rw[<-hZ];exact below_drewN (Below.refl _ _) _
     have sZ:=hbZ.size
     have HAZ:=hid_of (HA.out Z hbZ)
     have q4:=(hbZ.cell (p:=⟨G,4,none⟩) (by show G < wr.heap.size;omega)).trans p4
     have q5:=(hbZ.cell (p:=⟨G,5,none⟩) (by show G < wr.heap.size;omega)).trans p5
     have q6:=(hbZ.cell (p:=⟨G,6,none⟩) (by show G < wr.heap.size;omega)).trans p6
     have q8:=(hbZ.cell (p:=⟨G,8,none⟩) (by show G < wr.heap.size;omega)).trans p8
     have q0:=(hbZ.cell (p:=⟨gd,od+i,none⟩) hgd).trans hcd
     have hba:Below Z.heap.size Z (Z.alloc (Obj.cells #[.string ⟨#[]⟩,.int .i64 0,.int .i64 0] 62)):=(Below.refl _ _).alloc (Nat.le_refl _) _
     have hal0:∀o,Below Z.heap.size Z (Z.alloc o).drew:=fun o=>((Below.refl _ _).alloc (Nat.le_refl _) _).drew
     have a4:=(hba.cell (p:=⟨G,4,none⟩) (by show G < Z.heap.size;omega)).trans q4
     have a5:=(hba.cell (p:=⟨G,5,none⟩) (by show G < Z.heap.size;omega)).trans q5
     have a6:=(hba.cell (p:=⟨G,6,none⟩) (by show G < Z.heap.size;omega)).trans q6
     have a8:=(hba.cell (p:=⟨G,8,none⟩) (by show G < Z.heap.size;omega)).trans q8
     have a0:=(hba.cell (p:=⟨gd,od+i,none⟩) (by show gd < Z.heap.size;omega)).trans q0
     have ne1:G≠Z.heap.size:=by omega
     have ne2:gd≠Z.heap.size:=by omega
     have ne3:Z.heap.size≠G:=by omega
     have ne4:Z.heap.size≠gd:=by omega
     have nb1:(G==Z.heap.size)=false:=by rw[beq_eq_false_iff_ne];exact ne1
     have nb2:(gd==Z.heap.size)=false:=by rw[beq_eq_false_iff_ne];exact ne2
     have HBZ:Hid (Below w.heap.size w Z):=HBX2.out.trans (hbZ.mono sx)
     have HSZ:Hid (w.heap.size<=Z.heap.size):=Nat.le_trans sx sZ
     try rw[hZ]
     clear hZ hbZ hba p0 p1 p2 p4 p5 p6 p7 p8 hcd HA HH
     go_cut [14,15] (fun tp okv wx=>okv= .bool true/\Below Z.heap.size Z wx)
     case first=>
      go_region_law (refine step_call2 (by rfl) 37 _ _ _ (by rfl) (.agg #[.slice ka s.ks.length kc,.int .i64 s.kind,.int .i64 s.arg]) (.string x) (by rfl) (by rfl) (enters_of Tryz.func37 (by kernel_rfl) rfl) (HAZ.out _ (by first|exact(Below.refl _ _).drew|exact hal0 _)) ?_;rintro v8 w8 ⟨rfl,hS,hbU,hal,hce,hfz,hbW⟩)
      all_goals
       go_wp2_with fail
       go_meet
       case rel=>
        first
        |exact⟨rfl,((hbW.setCell (p:=⟨Z.heap.size,0,none⟩) (Nat.le_refl _) _).setCell (p:=⟨Z.heap.size,1,none⟩) (Nat.le_refl _) _).setCell (p:=⟨Z.heap.size,2,none⟩) (Nat.le_refl _) _⟩
        |exact⟨rfl,hal _⟩
     case rest=>
      obtain⟨rfl,hbc⟩:=hcut
      have HBC:=hid_of hbc
      clear hbc
      go_wp2_with fail
      go_roundw
      case rel=>exact⟨i+1,by omega,by go_num,HBZ.out.trans (HBC.out.mono HSZ.out)⟩
      case measure=>simp[intOf];omega
    ·have hil':i=did.length:=by omega
     subst hil'
     have HBX2:=hid_of hbx
     clear hbx
     have f0:(L:Int)+(did.length:Int)<=((allS s).length:Int):=by
      have h:=HFEW.out
      rw[<-Int.natCast_add]
      exact Int.ofNat_le.2 h
     have f1:decide ((L:Int)+(did.length:Int)<=((allS s).length:Int))=true:=decide_eq_true f0
     have hw:wrap64 ((L:Int)+(did.length:Int))=(L:Int)+(did.length:Int):=IntWalk.wrap64_in _ (by omega)
     clear f0
     have f2:decide (L+did.length<=(allS s).length)=true:=decide_eq_true HFEW.out
     go_wp2_with fail
     go_quiet (fail)
     go_wp2_with fail
     go_ret
     exact⟨rfl,below_drewN HBX2.out _⟩
theorem GameOK.once{base N:Nat}{W:World}{G:Nat}(H:RunCalls)(h:GameOK base N W G):Calls Tryz.prog 15 #[.pointer (some ⟨G,0,none⟩)] W fun e w'=>e= .returned (.bool true)/\GameOK base N w' G/\Below W.heap.size W w':=by
 obtain⟨own,B,s,ka,kc,av,dv,did,over,done,h1,h2,h3,h4⟩:=h.ok
 refine(konce_calls H h1 h2 h3 h4).mono ?_
 rintro e w' ⟨rfl,hb⟩
 exact⟨rfl,⟨_,_,_,_,_,_,_,_,_,_,h1.later hb,h2,h3,h4⟩,hb⟩
set_option maxHeartbeats 4000000 in
set_option maxRecDepth 100000 in
theorem once_calls(H:RunCalls)(wk rm md kind arg:Int)(ra:Option Addr)(rl rc:Nat)(a:Option Addr)(cap:Nat)(l:List MoveS)(w:World)(f1:isI64 wk)(f2:isI64 rm)(f3:isI64 md)(f4:isI64 kind)(f5:isI64 arg)(hl:rl<=9223372036854775806)(hraw:RawAt w ra rl)(hm:MovesAt w a l)(hn:l.length<=1000000) :
  Calls Tryz.prog 7 #[.agg (caseV wk rm md ra rl rc kind arg),.slice a l.length cap] w fun e w'=>e= .returned (.bool true)/\Below w.heap.size w w':=by
 obtain⟨V,hV⟩:∃V,w.alloc (Obj.cells (caseV wk rm md ra rl rc kind arg) 27)=V:=⟨_,rfl⟩
 have hbV:Below w.heap.size w V:=by rw[<-hV];exact(Below.refl _ _).alloc (Nat.le_refl _) _
 have bM:BoxAt V w.heap.size 27 (caseV wk rm md ra rl rc kind arg):=by rw[<-hV];exact BoxAt.new w _ _
 have HBG:=hid_of (begun_ok H wk rm md kind arg ra rl rc V f1 f2 f3 f4 f5 hl (fun j hj=>by
  obtain⟨b,o,z,h1,h2,h3,h4⟩:=hraw j hj
  exact⟨b,o,z,h1,Nat.lt_of_lt_of_le h2 hbV.size,(hbV.cell (p:=⟨b,_,none⟩) h2).trans h3,h4⟩))
 have c0:V.cell? ⟨w.heap.size,0,none⟩=some (.int .i64 wk):=bM.cell (o:=0) rfl
 have c1:V.cell? ⟨w.heap.size,1,none⟩=some (.int .i64 rm):=bM.cell (o:=1) rfl
 have c2:V.cell? ⟨w.heap.size,2,none⟩=some (.int .i64 md):=bM.cell (o:=2) rfl
 have c3:V.cell? ⟨w.heap.size,3,none⟩=some (.slice ra rl rc):=bM.cell (o:=3) rfl
 have c4:V.cell? ⟨w.heap.size,4,none⟩=some (.int .i64 kind):=bM.cell (o:=4) rfl
 have c5:V.cell? ⟨w.heap.size,5,none⟩=some (.int .i64 arg):=bM.cell (o:=5) rfl
 have HM:=hid_of hm
 have HBV:=hid_of hbV
 clear hbV bM hm hraw
 go_enter Tryz.func7,Tryz.ntmps7
 go_upto_region 4 with(go_at_call 13;refine HBG.out.mono ?_;rintro e w1 ⟨G,rfl,hG,hb1⟩)
 have HB1:Hid (Below w.heap.size w w1):=HBV.out.trans (hb1.mono HBV.out.size)
 have sV:=HBV.out.size
 have s1:=hb1.size
 have HG:=hid_of hG
 clear hG hb1 c0 c1 c2 c3 c4 c5
 go_wp2_with fail
 go_loopw [6] (fun i wr=>∃k:Nat,k<=l.length/\i= .int .i64 k/\GameOK V.heap.size (6*k) wr G/\Below w.heap.size w wr/\V.heap.size<=wr.heap.size) (fun i _=>l.length - (intOf i).toNat)
 case atStart=>exact⟨0,Nat.zero_le _,rfl,HG.out,HB1.out,s1⟩
 case round=>
  obtain⟨k,hk,rfl,hg,hbw,hsz⟩:=hrel
  by_cases hlt:k < l.length
  ·obtain⟨m,hx⟩:∃m,l[k]?= some m:=⟨_,List.getElem?_eq_getElem hlt⟩
   obtain⟨hmf,b,o,rfl,hbl,hc⟩:=HM.out k m hx
   have d0:wr.cell? ⟨b,o+k*4,none⟩=some (.int .i64 m.k):=(hbw.cell (p:=⟨b,o+k*4,none⟩) hbl).trans (hc 0 _ rfl)
   have d1:wr.cell? ⟨b,o+k*4+1,none⟩=some (.int .i64 m.w):=(hbw.cell (p:=⟨b,o+k*4+1,none⟩) hbl).trans (hc 1 _ rfl)
   have d2:wr.cell? ⟨b,o+k*4+2,none⟩=some (.int .i64 m.v):=(hbw.cell (p:=⟨b,o+k*4+2,none⟩) hbl).trans (hc 2 _ rfl)
   have d3:wr.cell? ⟨b,o+k*4+3,none⟩=some (.int .i64 m.i):=(hbw.cell (p:=⟨b,o+k*4+3,none⟩) hbl).trans (hc 3 _ rfl)
   have i1:(0:Int)<=(k:Int):=by omega
   have i2:(k:Int) < (l.length:Int):=by omega
   have HMV:=hid_of (hg.moves H hsz (by omega) hmf)
   have HBW:=hid_of hbw
   clear hc hx hg hbw hmf
   go_wp2_with (first
    |(go_at_call 14;refine HMV.out.mono ?_;rintro e w5 ⟨rfl,hg5,hb5⟩
      have s5:=hb5.size
      have HG5:=hid_of hg5
      have HB5:=hid_of hb5
      have HTL:=hid_of (hg5.once H)
      clear hg5 hb5)
    |(go_at_call 15;refine HTL.out.mono ?_;rintro e w6 ⟨rfl,hg6,hb6⟩
      have s6:=hb6.size
      have HG6:=hid_of hg6
      have HB6:=hid_of hb6
      clear hg6 hb6))
   go_roundw
   case rel=>exact⟨k+1,by omega,by go_num,by rw[show 6*(k+1)=6*k+6 by omega];exact HG6.out,(HBW.out.trans (HB5.out.mono sV)).trans (HB6.out.mono (by omega)),by omega⟩
   case measure=>simp[intOf];omega
  ·go_wp2_with fail
   go_ret
   exact⟨rfl,hbw⟩
end Go.Proofs.YtfanaanofjhlkaaGreatDoor
