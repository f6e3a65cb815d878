import Derived.Test.YtfanaanofjhlkaaGreatDoorXPut
import Derived.Lib.SliceRun
import Derived.StillTailTactics
import Derived.Test.YtfanaanofjhlkaaGreatDoorXYoung
import Derived.Test.YtfanaanofjhlkaaGreatDoorStoreM
import Derived.Test.YtfanaanofjhlkaaGreatDoorXSteal2
import Derived.Test.YtfanaanofjhlkaaGreatDoorRefCame3
import Derived.BigRegion
namespace Go.Proofs.YtfanaanofjhlkaaGreatDoor
open Go Go.RowKit
theorem row_behind{base t sz g n cap:Nat}{xs:List Value}:∀(vs:List Value) (o:Nat) (W:World),W.ownsRow base t sz (.slice (some ⟨g,0,none⟩) n cap) n xs->n*sz<=o->(W.setCells g o vs).ownsRow base t sz (.slice (some ⟨g,0,none⟩) n cap) n xs/\Kept (·= g) W (W.setCells g o vs)
 |[],o,W,h,_=>⟨h,Kept.refl _ _⟩
 |v :: r,o,W,h,ho=>by
  have h1:(W.setCell ⟨g,o,none⟩ v).ownsRow base t sz (.slice (some ⟨g,0,none⟩) n cap) n xs:=by
   obtain⟨hl,h2⟩:=h
   rcases h2 with⟨h0,_⟩|⟨g',cap',cur,h0,hb,hcur,hnc,hcm,hcs,htk⟩
   ·cases h0
   ·cases h0
    have hbx:BoxAt W g t cur:=hcur
    refine⟨hl,.inr ⟨g,cap,cur.setIfInBounds o v,rfl,hb,hbx.setAt o v,hnc,hcm,by simpa using hcs,?_⟩⟩
    rw[Array.toList_setIfInBounds,List.take_set_of_le ho]
    exact htk
  obtain⟨h2,h3⟩:=row_behind r (o+1) _ h1 (by omega)
  exact⟨h2,((Kept.refl (·= g) W).setCell (.inl (by rfl)) v).trans h3⟩
theorem row_take{base t sz g n cap k:Nat}{W:World}{xs ys:List Value}(h:W.ownsRow base t sz (.slice (some ⟨g,0,none⟩) n cap) n (xs++ys))(hk:k<=n)(hx:xs.length=k*sz):W.ownsRow base t sz (.slice (some ⟨g,0,none⟩) k cap) k xs:=by
 obtain⟨hl,h2⟩:=h
 rcases h2 with⟨h0,_⟩|⟨g',cap',cur,h0,hb,hcur,hnc,hcm,hcs,htk⟩
 ·cases h0
 ·cases h0
  refine⟨hx,.inr ⟨g,cap,cur,rfl,hb,hcur,by omega,hcm,hcs,?_⟩⟩
  have h1:=congrArg (List.take (k*sz)) htk
  rw[List.take_take,Nat.min_eq_left (Nat.mul_le_mul_right sz hk),<-hx,List.take_left' rfl,hx]at h1
  exact h1
theorem zeroMessage(w:World):(zeroValue 124).run Tryz.prog w= .ok (.agg (msgCells msg0)) w:=by
 have hi:=infoMessage
 cases h:Tryz.prog.info? 124 with
 |none=>rw[h]at hi;cases hi
 |some i=>
  rw[h]at hi
  simp at hi
  simp[zeroValue,typeInfo,h,hi.1,msg0]
theorem run_clear_one(w:World)(ty:TypeId)(g o c:Nat)(hc:∀j,j < 15->(w.cell? ⟨g,o+j,none⟩).isSome=true)(hf:∀j,j < 15->w.frozen? ⟨g,o+j,none⟩=false) :
  (Builtin.clear_ #[97] ty #[.slice (some ⟨g,o,none⟩) 1 c]).run Tryz.prog w= .ok (.tuple #[]) (w.setCells g o (msgEnc msg0)):=by
 have hst:=run_storeCells_cells (P:=Tryz.prog) g o (msgEnc msg0) 0 w (by simpa[msgEnc]using hc) (by simpa[msgEnc]using hf) (by intro v hv;exact msgEnc_one msg0 v hv)
 simp only[Nat.add_zero]at hst
 have hz:(Builtin.zeroCells (Value.agg (msgCells msg0)).cells 1).toList=msgEnc msg0:=by kernel_rfl
 simp only[msg0]at hz hst ⊢
 simp[Builtin.clear_,run_underlying Tryz.underlying97,hz,hst]
set_option maxHeartbeats 4000000 in
set_option maxRecDepth 100000 in
theorem delete_calls(g cap k:Nat)(l:List MsgS)(m:MsgS)(w:World)(h:w.ownsRow 0 124 15 (.slice (some ⟨g,0,none⟩) l.length cap) l.length (l.flatMap msgEnc))(hk:l[k]?= some m)(hl:l.length<=1000) :
  Calls Tryz.prog 189 #[.slice (some ⟨g,0,none⟩) l.length cap,.int .i64 (k:Int),.int .i64 ((k:Int)+1)] w fun e w'=>∃v,e= .returned v/\(v= .slice (some ⟨g,0,none⟩) (l.length - 1) cap/\w'.ownsRow 0 124 15 (.slice (some ⟨g,0,none⟩) (l.length - 1) cap) (l.length - 1) ((l.take k++l.drop (k+1)).flatMap msgEnc)/\Kept (·= g) w w'):=by
 obtain⟨iM,hiM,hzM0,hzM1,hzM2⟩:=info_parts infoMessage
 have hkl:=(List.getElem?_eq_some_iff.1 hk).1
 obtain⟨n,hn⟩:∃n,l.length=n:=⟨_,rfl⟩
 have hcap:n<=cap:=by
  rcases h.2 with⟨h0,_⟩|⟨g',cap',cur,h0,_,_,h1,_⟩
  ·cases h0
  ·cases h0;omega
 have HT1:Hid (((l.take k).flatMap msgEnc).length=k*15):=by show _=_;rw[flat_length (sz:=15) (enc:=msgEnc) (fun _=>rfl),List.length_take,Nat.min_eq_left (by omega)]
 have HT2:Hid (((l.drop (k+1)).flatMap msgEnc).length=(n - (k+1))*15):=by show _=_;rw[flat_length (sz:=15) (enc:=msgEnc) (fun _=>rfl),List.length_drop,hn]
 have HSP:Hid (l.flatMap msgEnc=(l.take k).flatMap msgEnc++(msgEnc m++(l.drop (k+1)).flatMap msgEnc)):=by
  show _=_
  rw[<-List.flatMap_cons,<-List.flatMap_append]
  congr 1
  rw[List.getElem?_eq_some_iff]at hk
  obtain⟨h1,rfl⟩:=hk
  rw[<-List.drop_eq_getElem_cons h1,List.take_append_drop]
 have HROW:=hid_of h
 have HCY:Hid (∀j u,(l.flatMap msgEnc)[j]?= some u->w.cell? ⟨g,j,none⟩=some u):=fun j u hj=>by
  have:=h.cells (g:=g) rfl j u hj
  rwa [addr_add]at this
 have HPRE:Hid (∀U,Kept (fun _=>False) w U->U.ownsRow 0 124 15 (.slice (some ⟨g,0,none⟩) k cap) k ((l.take k).flatMap msgEnc)):=fun U hU=>by
  refine row_kept ?_ hU (fun _ _ h=>h) (Nat.le_refl _)
  have h':=h
  rw[HSP.out]at h'
  exact row_take h' (by omega) HT1.out
 have HN2:Hid (∀j u,((l.drop (k+1)).flatMap msgEnc)[j]?= some u->w.cell? ⟨g,(k+1)*15+j,none⟩=some u):=fun j u hj=>by
  refine HCY.out ((k+1)*15+j) u ?_
  rw[HSP.out,List.getElem?_append_right (by rw[HT1.out];omega),HT1.out,List.getElem?_append_right (by show 15<=_;omega)]
  have e:(k+1)*15+j - k*15 - (msgEnc m).length=j:=by show _ - 15=_;omega
  rw[e]
  exact hj
 have HLN:Hid (l.length=n):=hn
 rw[hn]at h hkl hl ⊢
 have HRN:Hid (w.ownsRow 0 124 15 (.slice (some ⟨g,0,none⟩) n cap) n (l.flatMap msgEnc)):=h
 have hgl:=(h.lt g rfl).2
 have i0:(0:Int)<=(k:Int):=by omega
 have i1:(0:Int)<=(k:Int)+1:=by omega
 have i2:(k:Int)<=(k:Int)+1:=by omega
 have i3:(k:Int)+1<=(n:Int):=by omega
 have i4:(n:Int)<=(cap:Int):=by omega
 have i5:(k:Int)<=(cap:Int):=by omega
 have i6:((k:Int)==(k:Int)+1)=false:=by rw[beq_eq_false_iff_ne];omega
 obtain⟨p,rfl⟩:∃p,n=p+1:=⟨n - 1,by omega⟩
 rw[show p+1 - 1=p from rfl]
 clear h hk hn HROW
 go_enter Tryz.func189,Tryz.ntmps189
 go_upto_region 5 with fail
 have hpk:p+1 - (k+1)=p - k:=by omega
 rw[hpk]at HT2
 have HFIT:Hid (k+(p - k)<=cap):=by show _<=_;omega
 have HPK:Hid (k+(p - k)=p):=by show _=_;omega
 have hkw:Kept (fun _=>False) w w.drew:=(Kept.refl _ _).drew
 have HPR:=hid_of (HPRE.out w.drew hkw)
 have q1:p+1 - (k+1)=p - k:=hpk
 have q2:(k:Int)<=(p:Int):=by omega
 have q3:k<=p:=by omega
 have q4:(p:Int)+1<=(cap:Int):=by omega
 have q5:(k:Int)+1<=(p:Int)+1:=by omega
 go_cut [0]from 8 to 26 (fun v2 w2=>v2= .slice (some ⟨g,0,none⟩) (k+(p - k)) cap/\w2.ownsRow 0 124 15 (.slice (some ⟨g,0,none⟩) (k+(p - k)) cap) (k+(p - k)) ((l.take k).flatMap msgEnc++(l.drop (k+1)).flatMap msgEnc)/\Kept (·= g) w w2)
 case first=>
  by_cases hyc:cap=k+1
  ·have HD:Hid ((l.drop (k+1)).flatMap msgEnc=[]):=by show _=_;rw[List.drop_eq_nil_of_le (by have:=HLN.out;omega)];rfl
   obtain rfl:p=k:=by omega
   subst hyc
   have q6:p+1 - (p+1)=0:=by omega
   have q7:p - p=0:=by omega
   go_still_tail 6,(by kernel_rfl)
   go_wp2_with (at_builtin;refine wpList_append_fits w.drew rfl _ _ _ rfl 0 124 iM 15 Tryz.underlying97 hiM hzM1 g p (p+1) ((l.take p).flatMap msgEnc) rfl HPR.out ⟨g,0,none⟩ 0 0 [] rfl rfl (fun j u hj=>by simp at hj) (fun u hu=>by simp at hu) (by omega) ?_;intro w2 hown2 hgrow2)
   go_meet
   case rel=>
    refine⟨by first|rfl|(rw[HPK.out]),?_,(Kept.refl _ _).drew.trans (Kept.grown hgrow2 (fun r e=>by cases e;rfl))⟩
    rw[HD.out]
    simpa using hown2
  ·have hy1:¬cap - (k+1)=0:=by omega
   have hy2:k+1 < cap:=by omega
   have hy3:(k:Int)+1 < (cap:Int):=by omega
   have HN3:Hid (∀j u,((l.drop (k+1)).flatMap msgEnc)[j]?= some u->w.drew.cell? ((⟨g,(k+1)*15,none⟩:Addr).add j)=some u):=fun j u hj=>by
    have e:(⟨g,(k+1)*15,none⟩:Addr).add j=⟨g,(k+1)*15+j,none⟩:=by unfold Addr.add;split<;>simp_all
    rw[e]
    exact HN2.out j u hj
   go_still_tail 6,(by kernel_rfl)
   go_wp2_with (at_builtin;refine wpList_append_fits w.drew rfl _ _ _ rfl 0 124 iM 15 Tryz.underlying97 hiM hzM1 g k cap ((l.take k).flatMap msgEnc) rfl HPR.out ⟨g,(k+1)*15,none⟩ (p - k) (cap - (k+1)) ((l.drop (k+1)).flatMap msgEnc) rfl HT2.out HN3.out (flat_one msgEnc_one _) HFIT.out ?_;intro w2 hown2 hgrow2)
   go_meet
   case rel=>exact⟨by first|rfl|(rw[HPK.out]),hown2,(Kept.refl _ _).drew.trans (Kept.grown hgrow2 (fun r e=>by cases e;rfl))⟩
 case rest=>
  obtain⟨rfl,hown2,hk2⟩:=hcut
  rename World=>w2
  rw[HPK.out]at hown2 ⊢
  have hcells:∀j,j < 15->(w2.cell? ⟨g,p*15+j,none⟩).isSome=true/\w2.frozen? ⟨g,p*15+j,none⟩=false:=fun j hj=>by
   obtain⟨hx,h2⟩:=hown2
   rcases h2 with⟨h0,_⟩|⟨g',cap',cur,h0,hb,hcur,hnc,hcm,hcs,htk⟩
   ·cases h0
   ·cases h0
    have hbx:BoxAt w2 g 124 cur:=hcur
    obtain⟨v,hv⟩:=get_some (cs:=cur) (i:=p*15+j) (by rw[hcs];omega)
    exact⟨by rw[hbx.cell hv];rfl,hbx.frozen _⟩
  obtain⟨w3,hw3⟩:∃w3,w2.setCells g (p*15) (msgEnc msg0)=w3:=⟨_,rfl⟩
  have hclr:∀ty,(Builtin.clear_ #[97] ty #[.slice (some ⟨g,p*15,none⟩) 1 (cap - p)]).run Tryz.prog w2= .ok (.tuple #[]) w3:=fun ty=>by
   rw[<-hw3]
   exact run_clear_one w2 ty g (p*15) (cap - p) (fun j hj=>(hcells j hj).1) (fun j hj=>(hcells j hj).2)
  obtain⟨hown3,hk3⟩:=row_behind (msgEnc msg0) (p*15) w2 hown2 (Nat.le_refl _)
  rw[hw3]at hown3 hk3
  have HO3:=hid_of hown3
  have HK3:Hid (Kept (·= g) w w3):=hk2.trans hk3
  have e0:(0:Int)<=(p:Int):=by omega
  have e1:(p:Int)<=((p+1:Nat):Int):=by omega
  have e2:((p+1:Nat):Int)<=(cap:Int):=by omega
  have e3:¬cap - p=0:=by omega
  have e4:p < cap:=by omega
  have e5:(p:Int) < (cap:Int):=by omega
  have e6:p+1 - p=1:=by omega
  clear hown2 hk2 hown3 hk3 hcells hw3 HCY HN2 HPRE HPR HRN HT1 HT2 HSP HFIT
  go_wp2_with fail
  go_ret
  refine⟨_,rfl,rfl,?_,HK3.out⟩
  rw[List.flatMap_append]
  exact HO3.out
def task0:TaskS:=⟨⟨#[]⟩,0,0⟩
theorem run_clear_oneT(w:World)(ty:TypeId)(g o c:Nat)(hc:∀j,j < 3->(w.cell? ⟨g,o+j,none⟩).isSome=true)(hf:∀j,j < 3->w.frozen? ⟨g,o+j,none⟩=false) :
  (Builtin.clear_ #[58] ty #[.slice (some ⟨g,o,none⟩) 1 c]).run Tryz.prog w= .ok (.tuple #[]) (w.setCells g o (taskEnc task0)):=by
 have hst:=run_storeCells_cells (P:=Tryz.prog) g o (taskEnc task0) 0 w (by simpa[taskEnc]using hc) (by simpa[taskEnc]using hf) (by intro v hv;exact taskEnc_one task0 v hv)
 simp only[Nat.add_zero]at hst
 have hz:(Builtin.zeroCells (Value.agg #[.string ⟨#[]⟩,.int .i64 0,.int .i64 0]).cells 1).toList=taskEnc task0:=by kernel_rfl
 simp only[task0]at hz hst ⊢
 simp[Builtin.clear_,run_underlying Tryz.underlying58,hz,hst]
set_option maxHeartbeats 4000000 in
set_option maxRecDepth 100000 in
theorem deleteT_calls(g cap k:Nat)(l:List TaskS)(m:TaskS)(w:World)(h:w.ownsRow 0 62 3 (.slice (some ⟨g,0,none⟩) l.length cap) l.length (l.flatMap taskEnc))(hk:l[k]?= some m)(hl:l.length<=200000000) :
  Calls Tryz.prog 231 #[.slice (some ⟨g,0,none⟩) l.length cap,.int .i64 (k:Int),.int .i64 ((k:Int)+1)] w fun e w'=>∃v,e= .returned v/\(v= .slice (some ⟨g,0,none⟩) (l.length - 1) cap/\w'.ownsRow 0 62 3 (.slice (some ⟨g,0,none⟩) (l.length - 1) cap) (l.length - 1) ((l.take k++l.drop (k+1)).flatMap taskEnc)/\Kept (·= g) w w'):=by
 obtain⟨iM,hiM,hzM0,hzM1,hzM2⟩:=info_parts infoTask
 have hkl:=(List.getElem?_eq_some_iff.1 hk).1
 obtain⟨n,hn⟩:∃n,l.length=n:=⟨_,rfl⟩
 have hcap:n<=cap:=by
  rcases h.2 with⟨h0,_⟩|⟨g',cap',cur,h0,_,_,h1,_⟩
  ·cases h0
  ·cases h0;omega
 have HT1:Hid (((l.take k).flatMap taskEnc).length=k*3):=by show _=_;rw[flat_length (sz:=3) (enc:=taskEnc) (fun _=>rfl),List.length_take,Nat.min_eq_left (by omega)]
 have HT2:Hid (((l.drop (k+1)).flatMap taskEnc).length=(n - (k+1))*3):=by show _=_;rw[flat_length (sz:=3) (enc:=taskEnc) (fun _=>rfl),List.length_drop,hn]
 have HSP:Hid (l.flatMap taskEnc=(l.take k).flatMap taskEnc++(taskEnc m++(l.drop (k+1)).flatMap taskEnc)):=by
  show _=_
  rw[<-List.flatMap_cons,<-List.flatMap_append]
  congr 1
  rw[List.getElem?_eq_some_iff]at hk
  obtain⟨h1,rfl⟩:=hk
  rw[<-List.drop_eq_getElem_cons h1,List.take_append_drop]
 have HROW:=hid_of h
 have HCY:Hid (∀j u,(l.flatMap taskEnc)[j]?= some u->w.cell? ⟨g,j,none⟩=some u):=fun j u hj=>by
  have:=h.cells (g:=g) rfl j u hj
  rwa [addr_add]at this
 have HPRE:Hid (∀U,Kept (fun _=>False) w U->U.ownsRow 0 62 3 (.slice (some ⟨g,0,none⟩) k cap) k ((l.take k).flatMap taskEnc)):=fun U hU=>by
  refine row_kept ?_ hU (fun _ _ h=>h) (Nat.le_refl _)
  have h':=h
  rw[HSP.out]at h'
  exact row_take h' (by omega) HT1.out
 have HN2:Hid (∀j u,((l.drop (k+1)).flatMap taskEnc)[j]?= some u->w.cell? ⟨g,(k+1)*3+j,none⟩=some u):=fun j u hj=>by
  refine HCY.out ((k+1)*3+j) u ?_
  rw[HSP.out,List.getElem?_append_right (by rw[HT1.out];omega),HT1.out,List.getElem?_append_right (by show 3<=_;omega)]
  have e:(k+1)*3+j - k*3 - (taskEnc m).length=j:=by show _ - 3=_;omega
  rw[e]
  exact hj
 have HLN:Hid (l.length=n):=hn
 rw[hn]at h hkl hl ⊢
 have HRN:Hid (w.ownsRow 0 62 3 (.slice (some ⟨g,0,none⟩) n cap) n (l.flatMap taskEnc)):=h
 have hgl:=(h.lt g rfl).2
 have i0:(0:Int)<=(k:Int):=by omega
 have i1:(0:Int)<=(k:Int)+1:=by omega
 have i2:(k:Int)<=(k:Int)+1:=by omega
 have i3:(k:Int)+1<=(n:Int):=by omega
 have i4:(n:Int)<=(cap:Int):=by omega
 have i5:(k:Int)<=(cap:Int):=by omega
 have i6:((k:Int)==(k:Int)+1)=false:=by rw[beq_eq_false_iff_ne];omega
 obtain⟨p,rfl⟩:∃p,n=p+1:=⟨n - 1,by omega⟩
 rw[show p+1 - 1=p from rfl]
 clear h hk hn HROW
 go_enter Tryz.func231,Tryz.ntmps231
 go_upto_region 5 with fail
 have hpk:p+1 - (k+1)=p - k:=by omega
 rw[hpk]at HT2
 have HFIT:Hid (k+(p - k)<=cap):=by show _<=_;omega
 have HPK:Hid (k+(p - k)=p):=by show _=_;omega
 have hkw:Kept (fun _=>False) w w.drew:=(Kept.refl _ _).drew
 have HPR:=hid_of (HPRE.out w.drew hkw)
 have q1:p+1 - (k+1)=p - k:=hpk
 have q2:(k:Int)<=(p:Int):=by omega
 have q3:k<=p:=by omega
 have q4:(p:Int)+1<=(cap:Int):=by omega
 have q5:(k:Int)+1<=(p:Int)+1:=by omega
 go_cut [0]from 8 to 26 (fun v2 w2=>v2= .slice (some ⟨g,0,none⟩) (k+(p - k)) cap/\w2.ownsRow 0 62 3 (.slice (some ⟨g,0,none⟩) (k+(p - k)) cap) (k+(p - k)) ((l.take k).flatMap taskEnc++(l.drop (k+1)).flatMap taskEnc)/\Kept (·= g) w w2)
 case first=>
  by_cases hyc:cap=k+1
  ·have HD:Hid ((l.drop (k+1)).flatMap taskEnc=[]):=by show _=_;rw[List.drop_eq_nil_of_le (by have:=HLN.out;omega)];rfl
   obtain rfl:p=k:=by omega
   subst hyc
   have q6:p+1 - (p+1)=0:=by omega
   have q7:p - p=0:=by omega
   go_still_tail 6,(by kernel_rfl)
   go_wp2_with (at_builtin;refine wpList_append_fits w.drew rfl _ _ _ rfl 0 62 iM 3 Tryz.underlying58 hiM hzM1 g p (p+1) ((l.take p).flatMap taskEnc) rfl HPR.out ⟨g,0,none⟩ 0 0 [] rfl rfl (fun j u hj=>by simp at hj) (fun u hu=>by simp at hu) (by omega) ?_;intro w2 hown2 hgrow2)
   go_meet
   case rel=>
    refine⟨by first|rfl|(rw[HPK.out]),?_,(Kept.refl _ _).drew.trans (Kept.grown hgrow2 (fun r e=>by cases e;rfl))⟩
    rw[HD.out]
    simpa using hown2
  ·have hy1:¬cap - (k+1)=0:=by omega
   have hy2:k+1 < cap:=by omega
   have hy3:(k:Int)+1 < (cap:Int):=by omega
   have HN3:Hid (∀j u,((l.drop (k+1)).flatMap taskEnc)[j]?= some u->w.drew.cell? ((⟨g,(k+1)*3,none⟩:Addr).add j)=some u):=fun j u hj=>by
    have e:(⟨g,(k+1)*3,none⟩:Addr).add j=⟨g,(k+1)*3+j,none⟩:=by unfold Addr.add;split<;>simp_all
    rw[e]
    exact HN2.out j u hj
   go_still_tail 6,(by kernel_rfl)
   go_wp2_with (at_builtin;refine wpList_append_fits w.drew rfl _ _ _ rfl 0 62 iM 3 Tryz.underlying58 hiM hzM1 g k cap ((l.take k).flatMap taskEnc) rfl HPR.out ⟨g,(k+1)*3,none⟩ (p - k) (cap - (k+1)) ((l.drop (k+1)).flatMap taskEnc) rfl HT2.out HN3.out (flat_one taskEnc_one _) HFIT.out ?_;intro w2 hown2 hgrow2)
   go_meet
   case rel=>exact⟨by first|rfl|(rw[HPK.out]),hown2,(Kept.refl _ _).drew.trans (Kept.grown hgrow2 (fun r e=>by cases e;rfl))⟩
 case rest=>
  obtain⟨rfl,hown2,hk2⟩:=hcut
  rename World=>w2
  rw[HPK.out]at hown2 ⊢
  have hcells:∀j,j < 3->(w2.cell? ⟨g,p*3+j,none⟩).isSome=true/\w2.frozen? ⟨g,p*3+j,none⟩=false:=fun j hj=>by
   obtain⟨hx,h2⟩:=hown2
   rcases h2 with⟨h0,_⟩|⟨g',cap',cur,h0,hb,hcur,hnc,hcm,hcs,htk⟩
   ·cases h0
   ·cases h0
    have hbx:BoxAt w2 g 62 cur:=hcur
    obtain⟨v,hv⟩:=get_some (cs:=cur) (i:=p*3+j) (by rw[hcs];omega)
    exact⟨by rw[hbx.cell hv];rfl,hbx.frozen _⟩
  obtain⟨w3,hw3⟩:∃w3,w2.setCells g (p*3) (taskEnc task0)=w3:=⟨_,rfl⟩
  have hclr:∀ty,(Builtin.clear_ #[58] ty #[.slice (some ⟨g,p*3,none⟩) 1 (cap - p)]).run Tryz.prog w2= .ok (.tuple #[]) w3:=fun ty=>by
   rw[<-hw3]
   exact run_clear_oneT w2 ty g (p*3) (cap - p) (fun j hj=>(hcells j hj).1) (fun j hj=>(hcells j hj).2)
  obtain⟨hown3,hk3⟩:=row_behind (taskEnc task0) (p*3) w2 hown2 (Nat.le_refl _)
  rw[hw3]at hown3 hk3
  have HO3:=hid_of hown3
  have HK3:Hid (Kept (·= g) w w3):=hk2.trans hk3
  have e0:(0:Int)<=(p:Int):=by omega
  have e1:(p:Int)<=((p+1:Nat):Int):=by omega
  have e2:((p+1:Nat):Int)<=(cap:Int):=by omega
  have e3:¬cap - p=0:=by omega
  have e4:p < cap:=by omega
  have e5:(p:Int) < (cap:Int):=by omega
  have e6:p+1 - p=1:=by omega
  clear hown2 hk2 hown3 hk3 hcells hw3 HCY HN2 HPRE HPR HRN HT1 HT2 HSP HFIT
  go_wp2_with fail
  go_ret
  refine⟨_,rfl,rfl,?_,HK3.out⟩
  rw[List.flatMap_append]
  exact HO3.out
theorem cell_add{W:World}{g o:Nat}{u:Value}(j:Nat)(h:W.cell? ⟨g,o+j,none⟩=some u):W.cell? ((⟨g,o,none⟩:Addr).add j)=some u:=by
 have e:(⟨g,o,none⟩:Addr).add j=⟨g,o+j,none⟩:=by unfold Addr.add;split<;>simp_all
 rw[e];exact h
set_option maxHeartbeats 2000000 in
set_option maxRecDepth 100000 in
theorem tasksPut_calls(X:Nat->Prop)(T:Nat)(room:Int)(l:List TaskS)(t:TaskS)(b:Nat)(w:World)(h:TaskListAt X w T room l)(hl:l.length<=100000000)(hb:BoxAt w b 62 #[.string t.id,.int .i64 t.kind,.int .i64 t.arg]) :
  Calls Tryz.prog 201 #[.pointer (some ⟨T,0,none⟩),.slice (some ⟨b,0,none⟩) 1 1] w fun e w'=>∃v,e= .returned v/\(v= .tuple #[]/\TaskListAt (fun g=>X g/\g < w.heap.size\/w.heap.size<=g) w' T room (l++ [t])/\Kept X w w'):=by
 obtain⟨iT,hiT,hzT0,hzT1,hzT2⟩:=info_parts infoTask
 obtain⟨tv,h1,h2,h3⟩:=h
 obtain⟨a,c,hf⟩:=row_form h3.1
 subst hf
 have y0:=h1.cell (o:=0) rfl
 have f0:=h1.frozen 0
 have HB1:=hid_of h1
 have HR:=hid_of h3.1
 have HX:=hid_of h3.2
 have hTl:=h1.lt
 have HNE:Hid ((Value.slice a l.length c).ownBlock≠some T):=row_ne h3.1 h1 (by decide)
 have HNW:Hid (∀j u,(taskEnc t)[j]?= some u->w.cell? ((⟨b,0,none⟩:Addr).add j)=some u):=fun j u hj=>by
  refine cell_add j ?_
  rw[Nat.zero_add]
  exact hb.cell (o:=j) (by simpa[taskEnc]using hj)
 clear h1 h3 hb
 go_enter Tryz.func201,Tryz.ntmps201
 go_wp2_with (at_builtin;refine wpList_append_lies _ rfl _ _ _ rfl 0 62 iT _ 3 32 Tryz.underlying58 hiT hzT0 hzT1 hzT2 rfl (by omega) (.slice a l.length c) l.length (l.flatMap taskEnc) rfl (by first|exact HR.out|exact HR.out.drew) ⟨b,0,none⟩ 1 1 (taskEnc t) rfl rfl (by first|exact HNW.out) (taskEnc_one t) (by omega) (by unfold maxLen;omega) (by omega) (Nat.zero_le _) w.heap.size rfl ?_;intro g3 c3 w3 hown3 hgrow3 hat3 hlt3;have hb3:BoxAt w3 T 175 #[.slice a l.length c,.int .i64 room]:=HB1.out.kept (Kept.grown hgrow3 (X:=fun k=>(Value.slice a l.length c).ownBlock=some k) (fun r e=>e)) HNE.out;have y3:=hb3.cell (o:=0) rfl;have f3:=hb3.frozen 0)
 go_end0
 have kg:Kept (fun k=>(Value.slice a l.length c).ownBlock=some k) w w3:=Kept.grown hgrow3 (fun r e=>e)
 have ks:Kept (·= T) w3 (w3.setCell ⟨T,0,none⟩ (.slice (some ⟨g3,0,none⟩) (l.length+1) c3)):=(Kept.refl _ _).setCell (.inl (by rfl)) _
 have hgT:g3≠T:=fun e=>by
  subst e
  rcases hat3 with e|e
  ·exact HNE.out e
  ·omega
 refine⟨_,rfl,rfl,⟨_,hb3.setAt 0 _,.inl ⟨h2,hTl⟩,?_,fun g e=> ?_⟩,?_⟩
 ·rw[List.flatMap_append,List.length_append,List.length_singleton]
  have e1: [t].flatMap taskEnc=taskEnc t:=by simp
  rw[e1]
  exact row_kept hown3 ks (fun g e h=>by simp[Value.ownBlock]at e;omega) (Nat.le_refl _)
 ·obtain rfl:g3=g:=by simpa[Value.ownBlock]using e
  rcases hat3 with e|e
  ·exact .inl ⟨HX.out g3 e,(HR.out.lt g3 e).2⟩
  ·exact .inr (by omega)
 ·exact(kg.mono (fun b _ e=>HX.out b e)).trans (ks.mono (fun b _ e=>by subst e;exact h2))
set_option maxHeartbeats 2000000 in
set_option maxRecDepth 100000 in
theorem takeOldest_calls(X:Nat->Prop)(T:Nat)(room:Int)(t:TaskS)(r:List TaskS)(w:World)(h:TaskListAt X w T room (t :: r))(hl:r.length<=190000000) :
  Calls Tryz.prog 219 #[.pointer (some ⟨T,0,none⟩)] w fun e w'=>∃v,e= .returned v/\(v= .agg #[.string t.id,.int .i64 t.kind,.int .i64 t.arg]/\TaskListAt (fun g=>X g/\g < w.heap.size) w' T room r/\Kept X w w'):=by
 obtain⟨tv,h1,h2,h3⟩:=h
 obtain⟨g,c,hf,-,hgl⟩:=World.ownsRow.form h3.1 (by simp)
 subst hf
 have hpg:X g:=h3.2 g rfl
 have hTl:=h1.lt
 have hgT:g≠T:=fun e=>(row_ne h3.1 h1 (by decide)) (by rw[e];rfl)
 obtain⟨V,hV⟩:∃V,w.alloc (Obj.cells #[.string ⟨#[]⟩,.int .i64 0,.int .i64 0] 62)=V:=⟨_,rfl⟩
 have gV:Below w.heap.size w V:=by rw[<-hV];exact(Below.refl _ _).alloc (Nat.le_refl _) _
 have sV:V.heap.size=w.heap.size+1:=by rw[<-hV];simp
 have rV:BoxAt V w.heap.size 62 #[.string ⟨#[]⟩,.int .i64 0,.int .i64 0]:=by rw[<-hV];exact BoxAt.new w _ _
 obtain⟨Z,hZ⟩:∃Z,V.alloc (Obj.cells #[.string t.id,.int .i64 t.kind,.int .i64 t.arg] 62)=Z:=⟨_,rfl⟩
 have gVZ:Below V.heap.size V Z:=by rw[<-hZ];exact(Below.refl _ _).alloc (Nat.le_refl _) _
 have sZ:Z.heap.size=w.heap.size+2:=by rw[<-hZ];simp[sV]
 have bZ:BoxAt Z (w.heap.size+1) 62 #[.string t.id,.int .i64 t.kind,.int .i64 t.arg]:=by rw[<-hZ,<-sV];exact BoxAt.new V _ _
 have rZ:BoxAt Z w.heap.size 62 #[.string ⟨#[]⟩,.int .i64 0,.int .i64 0]:=rV.below gVZ rV.lt
 have gZ:Below w.heap.size w Z:=gV.trans (gVZ.mono gV.size)
 have y0:V.cell? ⟨T,0,none⟩=some (.slice (some ⟨g,0,none⟩) (r.length+1) c):=(h1.below gV hTl).cell (o:=0) rfl
 have y0':Z.cell? ⟨T,0,none⟩=some (.slice (some ⟨g,0,none⟩) (r.length+1) c):=(h1.below gZ hTl).cell (o:=0) rfl
 have hcm:∀o u,(taskEnc t)[o]?= some u->V.cell? ⟨g,o,none⟩=some u:=fun o u ho=>by
  have:=h3.1.cells (g:=g) rfl _ u (flat_get (sz:=3) (enc:=taskEnc) (fun _=>rfl) (t :: r) 0 t o u rfl ho)
  rw[addr_add]at this
  refine(gV.cell (p:=⟨g,o,none⟩) hgl).trans ?_
  simpa using this
 have m0:=hcm 0 _ rfl
 have m1:=hcm 1 _ rfl
 have m2:=hcm 2 _ rfl
 have j2:(0:Int) < ((r.length+1:Nat):Int):=by omega
 have HD:Hid (Calls Tryz.prog 231 #[.slice (some ⟨g,0,none⟩) (r.length+1) c,.int .i64 0,.int .i64 1] Z fun e w'=>∃v,e= .returned v/\(v= .slice (some ⟨g,0,none⟩) r.length c/\BoxAt w' T 175 #[.slice (some ⟨g,0,none⟩) (r.length+1) c,.int .i64 room]/\w'.ownsRow 0 62 3 (.slice (some ⟨g,0,none⟩) r.length c) r.length (r.flatMap taskEnc)/\Kept (·= g) Z w')):=by
  refine(deleteT_calls g c 0 (t :: r) t Z (row_kept h3.1 (Kept.of_below gZ (X:=fun b=>w.heap.size<=b) (fun _ _ h=>h)) (fun g' e h=>by have:=(h3.1.lt g' e).2;omega) (Nat.le_refl _)) rfl (by simp;omega)).mono ?_
  rintro e w' ⟨v,rfl,rfl,h5,h6⟩
  exact⟨_,rfl,by simp,(h1.below gZ hTl).kept h6 (fun e=>hgT e.symm),by simpa using h5,h6⟩
 have HGZ:=hid_of gZ
 have HBZ:=hid_of bZ
 have HRZ:=hid_of rZ
 clear h1 h3 hcm gV gVZ gZ bZ rZ rV
 go_enter Tryz.func219,Tryz.ntmps219
 go_upto_region 1 with fail
 try rw[hV]
 clear hV
 go_upto_region 2 with fail
 try rw[sV]
 try rw[hZ]
 clear hZ y0 m0 m1 m2
 go_upto_region 3 with(go_at_call 231;refine HD.out.mono ?_;rintro e w1 ⟨v1,rfl,rfl,hb1,hr1,hk1⟩;have y1:=hb1.cell (o:=0) rfl;have f1:=hb1.frozen 0)
 obtain⟨w2,hw2⟩:∃w2,w1.setCell ⟨T,0,none⟩ (.slice (some ⟨g,0,none⟩) r.length c)=w2:=⟨_,rfl⟩
 have kS:Kept (·= T) w1 w2:=by rw[<-hw2];exact(Kept.refl _ _).setCell (.inl (by rfl)) _
 have hT2:BoxAt w2 T 175 #[.slice (some ⟨g,0,none⟩) r.length c,.int .i64 room]:=by rw[<-hw2];exact hb1.setAt 0 _
 have hR2:=row_kept hr1 kS (fun g' e h=>by simp[Value.ownBlock]at e;omega) (Nat.le_refl _)
 have k02:Kept (fun b=>b=g\/b=T) w w2:=((Kept.of_below HGZ.out (X:=fun b=>b=g\/b=T) (fun b h1 h2=>by omega)).andThen hk1 (fun b _ e=> .inl e)).andThen kS (fun b _ e=> .inr e)
 have b2:=(HBZ.out.kept hk1 (by omega)).kept kS (by omega)
 have r2:=(HRZ.out.kept hk1 (by omega)).kept kS (by omega)
 have HT2:=hid_of hT2
 have HRW:=hid_of hR2
 have HK2:=hid_of k02
 have HR2:=hid_of r2
 have fr:=r2.frozen
 have n0:=b2.cell (o:=0) rfl
 have n1:=b2.cell (o:=1) rfl
 have n2:=b2.cell (o:=2) rfl
 have z0:=r2.cell (o:=0) rfl
 have z1:=r2.cell (o:=1) rfl
 have z2:=r2.cell (o:=2) rfl
 try rw[hw2]
 clear hw2 b2 r2 hb1 hr1 hk1 y1 f1 kS hT2 hR2 k02
 go_wp2_with fail
 change bodyPost Tryz.prog Tryz.f219 _ Exit.ret _ (putAll w2 w.heap.size 0 (taskEnc t))
 have kP:Kept (·= w.heap.size) w2 (putAll w2 w.heap.size 0 (taskEnc t)):=kept_putAll (X:=fun x=>x=w.heap.size) (.inl rfl) _ _ _ (Kept.refl _ _)
 have hbz:=box_putAll (taskEnc t) HR2.out rfl
 generalize putAll w2 w.heap.size 0 (taskEnc t)=U at kP hbz ⊢
 have hbv:BoxAt U w.heap.size 62 #[.string t.id,.int .i64 t.kind,.int .i64 t.arg]:=hbz
 have q0:=hbv.cell (o:=0) rfl
 have q1:=hbv.cell (o:=1) rfl
 have q2:=hbv.cell (o:=2) rfl
 refine bodyPost_ret (v:= .agg #[.string t.id,.int .i64 t.kind,.int .i64 t.arg]) ?_ rfl ⟨_,rfl,rfl,⟨_,HT2.out.kept kP (by omega),⟨h2,hTl⟩,row_kept HRW.out kP (fun g' e h=>by simp[Value.ownBlock]at e;omega) (Nat.le_refl _),fun g' e=> ?_⟩,(HK2.out.andThen kP (fun b hb e=>by omega)).mono (fun b _ e=>by rcases e with rfl|rfl;exact hpg;exact h2)⟩
 ·simp[results,Tryz.results219,go_sem,q0,q1,q2]
 ·obtain rfl:g=g':=by simpa[Value.ownBlock]using e
  exact⟨hpg,hgl⟩
structure ComeAt(N:Nat)(s:RunS)(i j:Nat)(m:MsgS):Prop where
 shape:Shaped s
 small:Small N s
 le:N<=90000000
 known:Known s
 vals:s.values.length<=90000000
 few:∀x∈s.W,x.tasks.length<=100000000
 src:m.src=i
 dst:m.dst=j
 ne:i≠j
 hi:i < s.W.length
 hj:j < s.W.length
 told:m.kind=7->s.answers≠ []
 ans:∀a∈s.answers,(0<=a.many/\a.many<=90000000)/\(0<=a.sent/\a.sent<=90000000000000000)/\(0<=a.came/\a.came<=90000000000000000)
 nums:0<=m.sent/\m.sent<=1000000000/\0<=m.came/\m.came<=1000000000
theorem ComeAt.link{N:Nat}{s:RunS}{i j:Nat}{m:MsgS}(h:ComeAt N s i j m){a b:Nat}(ha:a < s.W.length)(hb:b < s.W.length):∃ls l,s.links[a]?= some ls/\ls[b]?= some l/\l.known.toNat<=l.all.length/\l.all.length<=N:=by
 obtain⟨ls,hls⟩:∃ls,s.links[a]?= some ls:=⟨_,List.getElem?_eq_getElem (by rw[h.shape.llen];exact ha)⟩
 have hlm:=List.mem_of_getElem? hls
 obtain⟨l,hl⟩:∃l,ls[b]?= some l:=⟨_,List.getElem?_eq_getElem (by rw[h.shape.lrow ls hlm];exact hb)⟩
 exact⟨ls,l,hls,hl,h.known ls hlm l (List.mem_of_getElem? hl),h.small.all ls hlm l (List.mem_of_getElem? hl)⟩
theorem set_twice{α:Type}(l:List α)(i:Nat)(a b:α):(l.set i a).set i b=l.set i b:=by simp
set_option maxHeartbeats 2000000 in
set_option maxRecDepth 100000 in
theorem countCome_x(j:Nat){part:Nat->Nat}{w:World}{B M gw wc:Nat}{s:RunS}{kv yv:Value}{xs:List XW}{y:WorkerS}(h:XAtO part w B s kv (.slice (some ⟨gw,0,none⟩) xs.length wc) yv M xs)(hy:s.W[j]?= some y)(hc:0<=y.came/\y.came<=1000000000) :
  Calls Tryz.prog 200 #[.pointer (some ⟨gw,j*8,none⟩)] w fun e w'=>∃v,e= .returned v/\(v= .tuple #[]/\∃part' xs',XAtO part' w' B {s with W:=s.W.set j {y with came:=y.came+1,black:=true}} kv (.slice (some ⟨gw,0,none⟩) xs.length wc) yv M xs'/\XMoved part part' w w'):=by
 have hjl:=(List.getElem?_eq_some_iff.1 hy).1
 have hxl:=h.wlen
 obtain⟨x,hx⟩:∃x,xs[j]?= some x:=⟨_,List.getElem?_eq_getElem (by omega)⟩
 have hxw:=h.wat j x y hx hy
 have hpg:part gw=7:=h.wrow.2 gw rfl
 have a5:w.cell? ⟨gw,j*8+5,none⟩=some (.int .i64 y.came):=by
  have h1:=h.wrow.1.cells (g:=gw) rfl (j*8+5) _ (flat_get (sz:=8) (enc:=xwEnc) (fun _=>rfl) xs j x 5 _ hx rfl)
  rw[addr_add,hxw.1.came]at h1
  exact h1
 have a6:w.cell? ⟨gw,j*8+6,none⟩=some (.bool y.black):=by
  have h1:=h.wrow.1.cells (g:=gw) rfl (j*8+6) _ (flat_get (sz:=8) (enc:=xwEnc) (fun _=>rfl) xs j x 6 _ hx rfl)
  rw[addr_add,hxw.1.black]at h1
  exact h1
 obtain⟨cur,hcur⟩:∃cur,BoxAt w gw 119 cur:=by
  obtain⟨cs,hcs⟩:=row_obj h.wrow.1 (g:=gw) rfl
  exact⟨cs,hcs⟩
 have f5:=hcur.frozen (j*8+5)
 have f6:=hcur.frozen (j*8+6)
 have hwr:IntKind.i64.wrap (y.came+1)=y.came+1:=IntWalk.i64_in _ (by omega)
 obtain⟨Y,hY⟩:∃Y,(w.setCell ⟨gw,j*8+5,none⟩ (.int .i64 (y.came+1))).setCell ⟨gw,j*8+6,none⟩ (.bool true)=Y:=⟨_,rfl⟩
 have kY:Kept (·= gw) w Y:=by rw[<-hY];exact((Kept.refl (·= gw) w).setCell (.inl (by rfl)) _).setCell (.inl (by rfl)) _
 have r1:=row_note (x':={x with came:=y.came+1}) (u:= .int .i64 (y.came+1)) (o:=5) h.wrow.1 hx (by omega) rfl
 have hl1:(xs.set j {x with came:=y.came+1}).length=xs.length:=List.length_set ..
 have r1':(w.setCell ⟨gw,j*8+5,none⟩ (.int .i64 (y.came+1))).ownsRow 0 119 8 (.slice (some ⟨gw,0,none⟩) (xs.set j {x with came:=y.came+1}).length wc) (xs.set j {x with came:=y.came+1}).length ((xs.set j {x with came:=y.came+1}).flatMap xwEnc):=by
  rw[hl1]at r1 ⊢
  exact r1
 have r2:=row_note (x':={x with came:=y.came+1,black:=true}) (u:= .bool true) (o:=6) r1' (List.getElem?_set_self (by omega)) (by omega) rfl
 rw[set_twice,hl1,hY]at r2
 obtain⟨h2,hm2⟩:=h.renote (x':={x with came:=y.came+1,black:=true}) (y':={y with came:=y.came+1,black:=true}) hx hy ⟨rfl,rfl,rfl⟩ ⟨hxw.1.asked,hxw.1.sent,rfl,rfl⟩ ⟨rfl,rfl,rfl,rfl⟩ (kY.mono (fun b _ e=>by subst e;exact hpg)) r2
 have HH:=hid_of h2
 have HM:=hid_of hm2
 clear h h2 hm2 hxw hcur r1 r1' r2 kY
 go_enter Tryz.func200,Tryz.ntmps200
 go_wp2_with fail
 go_end0
 try rw[hY]
 exact⟨_,rfl,rfl,_,_,HH.out,HM.out⟩
theorem unask_x(j:Nat){part:Nat->Nat}{w:World}{B M gw wc:Nat}{s:RunS}{kv yv:Value}{xs:List XW}{y:WorkerS}(h:XAtO part w B s kv (.slice (some ⟨gw,0,none⟩) xs.length wc) yv M xs)(hy:s.W[j]?= some y) :
  ∃xs',XAtO (ext w part 0) (w.setCell ⟨gw,j*8+1,none⟩ (.bool false)) B {s with W:=s.W.set j {y with asked:=false}} kv (.slice (some ⟨gw,0,none⟩) xs.length wc) yv M xs'/\XMoved part (ext w part 0) w (w.setCell ⟨gw,j*8+1,none⟩ (.bool false))/\Kept (·= gw) w (w.setCell ⟨gw,j*8+1,none⟩ (.bool false)):=by
 have hjl:=(List.getElem?_eq_some_iff.1 hy).1
 have hxl:=h.wlen
 obtain⟨x,hx⟩:∃x,xs[j]?= some x:=⟨_,List.getElem?_eq_getElem (by omega)⟩
 have hxw:=h.wat j x y hx hy
 have hpg:part gw=7:=h.wrow.2 gw rfl
 have kY:Kept (·= gw) w (w.setCell ⟨gw,j*8+1,none⟩ (.bool false)):=(Kept.refl (·= gw) w).setCell (.inl (by rfl)) _
 have r1:=row_note (x':={x with asked:=false}) (u:= .bool false) (o:=1) h.wrow.1 hx (by omega) rfl
 obtain⟨h2,hm2⟩:=h.renote (x':={x with asked:=false}) (y':={y with asked:=false}) hx hy ⟨rfl,rfl,rfl⟩ ⟨rfl,hxw.1.sent,hxw.1.came,hxw.1.black⟩ ⟨rfl,rfl,rfl,rfl⟩ (kY.mono (fun b _ e=>by subst e;exact hpg)) r1
 exact⟨_,h2,hm2,kY⟩
set_option maxHeartbeats 4000000 in
set_option maxRecDepth 100000 in
theorem answer_x(m:MsgS)(i j:Nat){part:Nat->Nat}{w:World}{B M N:Nat}{s:RunS}{kv wv yv:Value}{xs:List XW}(h:XAtO part w B s kv wv yv M xs)(hc:ComeAt N s i j m)(hk:m.kind=1) :
  Calls Tryz.prog 199 #[.pointer (some ⟨B,0,none⟩),.int .i64 (j:Int),.int .i64 (i:Int)] w fun e w'=>∃v,e= .returned v/\(v= .tuple #[]/\∃part' yv' xs',XAtO part' w' B (cameS s m) kv wv yv' M xs'/\XMoved part part' w w'):=by
 obtain⟨y,hy⟩:∃y,s.W[j]?= some y:=⟨_,List.getElem?_eq_getElem hc.hj⟩
 have hxl:=h.wlen
 have hjl:=hc.hj
 obtain⟨x,hx⟩:∃x,xs[j]?= some x:=⟨_,List.getElem?_eq_getElem (by omega)⟩
 obtain⟨gw,wc,hwf,-,hgw⟩:=World.ownsRow.form h.wrow.1 (by omega)
 subst hwf
 obtain⟨ls,l,hls,hl,hkn,hall⟩:=hc.link hc.hj hc.hi
 have hle:=hc.le
 have hway:=hc.shape.way
 have hym:=List.mem_of_getElem? hy
 have hfew:=hc.few y hym
 have hsent:=hc.small.sent y hym
 have ht:=(h.wat j x y hx hy).2
 have b3:w.cell? ⟨B,4,none⟩=some (.slice (some ⟨gw,0,none⟩) xs.length wc):=h.box.cell (o:=4) rfl
 have a0:w.cell? ⟨gw,j*8,none⟩=some (.pointer (some ⟨x.T,0,none⟩)):=by
  have h1:=h.wrow.1.cells (g:=gw) rfl (j*8+0) _ (flat_get (sz:=8) (enc:=xwEnc) (fun _=>rfl) xs j x 0 _ hx rfl)
  rwa [addr_add]at h1
 have j1:(0:Int)<=(j:Int):=by omega
 have j2:(j:Int) < (xs.length:Int):=by omega
 have HI:=hid_of (idle_calls (fun b=>part b=10+j) x.T s.room y.tasks w ht)
 have hcame:cameS s m=match y.tasks with
   |[]=>sendS s {msg0 with src:=(j:Int),dst:=(i:Int),kind:=3}
   |t :: r=>sendS {s with W:=s.W.set j {y with tasks:=r}} {msg0 with src:=(j:Int),dst:=(i:Int),kind:=2,t:=t}:=by
  unfold cameS
  simp only[hk,if_true,hc.dst,hc.src,Int.toNat_natCast,hy,Option.getD_some]
  cases y.tasks<;>rfl
 have HCM:=hid_of hcame
 have hij:=hc.ne
 cases hyt:y.tasks with
 |nil=>
  rw[hyt]at HI HCM
  have HSD:Hid (Calls Tryz.prog 165 #[.pointer (some ⟨B,0,none⟩),.int .i64 (j:Int),.int .i64 (i:Int),.slice (some ⟨w.heap.size,0,none⟩) 1 1] (w.alloc (Obj.cells (msgCells {msg0 with kind:=3}) 124)) fun e w'=>∃v,e= .returned v/\(v= .tuple #[]/\∃part' yv' xs',XAtO part' w' B (cameS s m) kv (.slice (some ⟨gw,0,none⟩) xs.length wc) yv' M xs'/\XMoved part part' w w')):=by
   obtain⟨h3,hm3⟩:=h.later ((Below.refl _ _).alloc (Nat.le_refl _) (Obj.cells (msgCells {msg0 with kind:=3}) 124))
   refine(send_x j i {msg0 with kind:=3} w.heap.size h3 hls hl hij hkn (by omega) (by omega) (BoxAt.new w _ _)).mono ?_
   rintro e w' ⟨v,rfl,rfl,part',yv',h4,hm4⟩
   refine⟨_,rfl,rfl,part',yv',xs,?_,hm3.trans hm4⟩
   rw[HCM.out]
   show XAtO part' w' B (sendS _ _) _ _ _ _ _
   rw[sendS_post _ j i _ (by simp) rfl rfl]
   exact h4
  simp only[msg0]at HSD
  clear h ht hc HCM hcame
  go_enter Tryz.func199,Tryz.ntmps199
  go_wp2_with (first
   |(go_at_call 97;refine HI.out.mono ?_;rintro e w1 ⟨rfl,hq⟩;obtain rfl:=hq.symm)
   |(go_at_call 165;refine HSD.out.mono ?_;rintro e w3 ⟨v3,rfl,rfl,hres⟩;have HRES:=hid_of hres;clear hres))
  refine bodyPost_ret (results_none rfl _ _ _) rfl ?_
  exact⟨_,rfl,rfl,HRES.out⟩
 |cons t r=>
  rw[hyt]at HI HCM ht hfew
  have hlr:r.length<=190000000:=by simp at hfew;omega
  have HTO:Hid (Calls Tryz.prog 219 #[.pointer (some ⟨x.T,0,none⟩)] w fun e w'=>∃v,e= .returned v/\(v= .agg #[.string t.id,.int .i64 t.kind,.int .i64 t.arg]/\∃part',XAtO part' w' B {s with W:=s.W.set j {y with tasks:=r}} kv (.slice (some ⟨gw,0,none⟩) xs.length wc) yv M xs/\XMoved part part' w w')):=by
   refine(takeOldest_calls (fun b=>part b=10+j) x.T s.room t r w ht hlr).mono ?_
   rintro e w' ⟨v,rfl,rfl,h1,h2⟩
   obtain⟨h3,hm3⟩:=h.retasks (l:=r) hx hy h2 (h1.kept (Kept.refl (fun _=>False) w') (fun b _ hb=>⟨fun h=>h,.inl hb⟩))
   exact⟨_,rfl,rfl,_,h3,hm3⟩
  have HSD:Hid (∀(U:World) (part1:Nat->Nat) (bb:Nat),bb=U.heap.size->XAtO part1 U B {s with W:=s.W.set j {y with tasks:=r}} kv (.slice (some ⟨gw,0,none⟩) xs.length wc) yv M xs->XMoved part part1 w U->Calls Tryz.prog 172 #[.pointer (some ⟨B,0,none⟩),.int .i64 (j:Int),.int .i64 (i:Int),.slice (some ⟨bb,0,none⟩) 1 1] (U.alloc (Obj.cells (msgCells {msg0 with kind:=2,t:=t}) 124)) fun e w'=>∃v,e= .returned v/\(v= .tuple #[]/\∃part' yv' xs',XAtO part' w' B (cameS s m) kv (.slice (some ⟨gw,0,none⟩) xs.length wc) yv' M xs'/\XMoved part part' w w')):=fun U part1 bb hbb hU hMU=>by
   subst hbb
   obtain⟨h3,hm3⟩:=hU.later ((Below.refl _ _).alloc (Nat.le_refl _) (Obj.cells (msgCells {msg0 with kind:=2,t:=t}) 124))
   refine(sendWork_x j i {msg0 with kind:=2,t:=t} U.heap.size h3 (y:={y with tasks:=r}) (List.getElem?_set_self hjl) hls hl hij hkn (by omega) (by show s.way.length<=1000;omega) (BoxAt.new U _ _) (ext_new (Nat.le_refl _)) (.inl rfl) ⟨hsent.1,by have:=hsent.2;show y.sent<=_;omega⟩).mono ?_
   rintro e w' ⟨v,rfl,rfl,part',yv',xs',h4,hm4⟩
   refine⟨_,rfl,rfl,part',yv',xs',?_,(hMU.trans hm3).trans hm4⟩
   rw[HCM.out]
   exact h4
  simp only[msg0]at HSD
  clear h ht hc HCM hcame
  go_enter Tryz.func199,Tryz.ntmps199
  go_wp2_with (first
   |(go_at_call 97;refine HI.out.mono ?_;rintro e w1 ⟨rfl,hq⟩;obtain rfl:=hq.symm)
   |(go_at_call 219;refine HTO.out.mono ?_;rintro e w2 ⟨v2,rfl,rfl,part1,hx2,hm2⟩;have HX2:=hid_of hx2;have HM2:=hid_of hm2;clear hx2 hm2)
   |(go_at_call 172;refine(HSD.out _ part1 _ rfl HX2.out HM2.out).mono ?_;rintro e w3 ⟨v3,rfl,rfl,hres⟩;have HRES:=hid_of hres;clear hres))
  go_end0
  exact⟨_,rfl,rfl,HRES.out⟩
theorem lastA_snoc(L:List AnsS)(a:AnsS):lastA (L++ [a])=a:=by simp[lastA]
theorem beforeA_snoc(L:List AnsS)(a:AnsS):beforeA (L++ [a])=lastA L:=by simp[beforeA,lastA]
theorem missA_snoc(n:Int)(L:List AnsS)(a:AnsS):missA n (L++ [a])=n - a.many:=by simp[missA,lastA]
theorem XAtO.xcell{part:Nat->Nat}{W:World}{B M n c gw j:Nat}{s:RunS}{kv yv:Value}{xs:List XW}{x:XW}(h:XAtO part W B s kv (.slice (some ⟨gw,0,none⟩) n c) yv M xs)(hx:xs[j]?= some x)(o:Nat)(u:Value)(hu:(xwEnc x)[o]?= some u):W.cell? ⟨gw,j*8+o,none⟩=some u:=by
 have h1:=h.wrow.1.cells (g:=gw) rfl (j*8+o) _ (flat_get (sz:=8) (enc:=xwEnc) (fun _=>rfl) xs j x o _ hx hu)
 rwa [addr_add]at h1
set_option maxHeartbeats 4000000 in
set_option maxRecDepth 100000 in
theorem takeToken_x(m:MsgS)(j:Nat){part:Nat->Nat}{w:World}{B M:Nat}{s:RunS}{kv wv yv:Value}{xs:List XW}{y:WorkerS}(h:XAtO part w B s kv wv yv M xs)(hd:m.dst=j)(hy:s.W[j]?= some y)(hm1:s.mode=1) :
  Calls Tryz.prog 202 #[.pointer (some ⟨B,0,none⟩),.agg (msgCells m)] w fun e w'=>∃v,e= .returned v/\(v= .tuple #[]/\∃part' xs',XAtO part' w' B {s with W:=s.W.set j {y with has:=true,token:=m},around:=s.around||m.dst==0} kv wv yv M xs'/\XMoved part part' w w'):=by
 have hjl:=(List.getElem?_eq_some_iff.1 hy).1
 have hxl:=h.wlen
 obtain⟨x,hx⟩:∃x,xs[j]?= some x:=⟨_,List.getElem?_eq_getElem (by omega)⟩
 obtain⟨gw,wc,hwf,-,hgw⟩:=World.ownsRow.form h.wrow.1 (by omega)
 subst hwf
 obtain⟨Z,hZ⟩:∃Z,w.alloc (Obj.cells (msgCells m) 124)=Z:=⟨_,rfl⟩
 have gZ:Below w.heap.size w Z:=by rw[<-hZ];exact(Below.refl _ _).alloc (Nat.le_refl _) _
 have bZ:BoxAt Z w.heap.size 124 (msgCells m):=by rw[<-hZ];exact BoxAt.new w _ _
 obtain⟨hxZ,hmZ⟩:=h.later gZ
 have b3:Z.cell? ⟨B,4,none⟩=some (.slice (some ⟨gw,0,none⟩) xs.length wc):=hxZ.box.cell (o:=4) rfl
 have d1:Z.cell? ⟨w.heap.size,1,none⟩=some (.int .i64 (j:Int)):=by rw[<-hd];exact bZ.cell (o:=1) rfl
 have d9:=bZ.cell (o:=9) rfl
 have d11:=bZ.cell (o:=11) rfl
 have a7:=hxZ.xcell hx 7 _ rfl
 have f7:Z.frozen? ⟨gw,j*8+7,none⟩=false:=by
  obtain⟨cs,hcs⟩:=row_obj hxZ.wrow.1 (g:=gw) rfl
  have hb:BoxAt Z gw 119 cs:=hcs
  exact hb.frozen _
 have hgZ:gw < Z.heap.size:=(hxZ.wrow.1.lt gw rfl).2
 obtain⟨jz,hjz⟩:∃jz,((j:Int)==0)=jz:=⟨_,rfl⟩
 have b3':∀o,(Z.alloc o).cell? ⟨B,4,none⟩=some (.slice (some ⟨gw,0,none⟩) xs.length wc):=fun o=>cell_alloc o b3
 have b3'':∀o,(Z.drew.alloc o).cell? ⟨B,4,none⟩=some (.slice (some ⟨gw,0,none⟩) xs.length wc):=fun o=>cell_alloc (w:=Z.drew) o b3
 have d1':∀o,(Z.alloc o).cell? ⟨w.heap.size,1,none⟩=some (.int .i64 (j:Int)):=fun o=>cell_alloc o d1
 have d1'':∀o,(Z.drew.alloc o).cell? ⟨w.heap.size,1,none⟩=some (.int .i64 (j:Int)):=fun o=>cell_alloc (w:=Z.drew) o d1
 have a7':∀o,(Z.alloc o).cell? ⟨gw,j*8+7,none⟩=some (.pointer (x.tok.map (fun b=>⟨b,0,none⟩))):=fun o=>cell_alloc o a7
 have a7'':∀o,(Z.drew.alloc o).cell? ⟨gw,j*8+7,none⟩=some (.pointer (x.tok.map (fun b=>⟨b,0,none⟩))):=fun o=>cell_alloc (w:=Z.drew) o a7
 have j1:(0:Int)<=(j:Int):=by omega
 have j2:(j:Int) < (xs.length:Int):=by omega
 have HXZ:=hid_of hxZ
 have HMZ:=hid_of hmZ
 have HX:Hid (xs[j]?= some x):=hx
 have HY:Hid (s.W[j]?= some y):=hy
 have HJZ:Hid (((j:Int)==0)=jz):=hjz
 clear h gZ bZ hxZ hmZ
 go_enter Tryz.func202,Tryz.ntmps202
 go_upto_region 1 with fail
 try rw[hZ]
 clear hZ
 go_region
 all_goals
  go_wp2_with fail
  go_end0
  obtain⟨Y,hYe⟩:∃Y,((Z.setCell ⟨gw,j*8+7,none⟩ (.pointer (some ⟨Z.heap.size,0,none⟩))).alloc (Obj.cells #[.int .i64 m.count,.bool m.black,.bool jz] 167)).drew=Y:=⟨_,rfl⟩
  have kY:Kept (·= gw) Z Y:=by rw[<-hYe];exact(((Kept.refl (·= gw) Z).setCell (.inl (by rfl)) _).trans (Kept.alloc _ _ _)).drew
  have r1:=row_note (x':={x with tok:=some Z.heap.size}) (u:= .pointer (some ⟨Z.heap.size,0,none⟩)) (o:=7) HXZ.out.wrow.1 HX.out (by omega) rfl
  have r2:Y.ownsRow 0 119 8 (.slice (some ⟨gw,0,none⟩) xs.length wc) (xs.set j {x with tok:=some Z.heap.size}).length ((xs.set j {x with tok:=some Z.heap.size}).flatMap xwEnc):=by rw[<-hYe];exact(r1.alloc _).drew
  have bq:BoxAt Y Z.heap.size 167 #[.int .i64 m.count,.bool m.black,.bool jz]:=by rw[<-hYe];exact boxAt_at _ _ _ _ (by simp)
  rw[hYe]
  have hxw:=HXZ.out.wat j x y HX.out HY.out
  have hpg:ext w part 0 gw=7:=HXZ.out.wrow.2 gw rfl
  have hjb:(j==0&&(s.around||m.dst==0))=jz:=by
   rw[<-HJZ.out,hd]
   cases j<;>simp<;>omega
  obtain⟨h2,hm2⟩:=HXZ.out.retok (n:=20+j) (ar:=s.around||m.dst==0) (x':={x with tok:=some Z.heap.size}) (y':={y with has:=true,token:=m}) HX.out HY.out rfl ⟨hxw.1.asked,hxw.1.sent,hxw.1.came,hxw.1.black⟩ ⟨rfl,rfl,rfl⟩ (kY.mono (fun b _ e=>by subst e;exact hpg)) (.inr rfl) (fun h0=>by rw[hd];simp;intro h1;omega) ⟨⟨rfl,hm1⟩,by rw[hjb];exact bq,ext_new (Nat.le_refl _)⟩ r2
  exact⟨_,rfl,rfl,_,_,h2,HMZ.out.trans hm2⟩
end Go.Proofs.YtfanaanofjhlkaaGreatDoor
