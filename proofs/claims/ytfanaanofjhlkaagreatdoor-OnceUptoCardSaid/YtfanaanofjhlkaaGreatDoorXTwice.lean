import Derived.Test.YtfanaanofjhlkaaGreatDoorXMsgs
namespace Go.Proofs.YtfanaanofjhlkaaGreatDoor
open Go Go.RowKit
set_option maxHeartbeats 8000000 in
set_option maxRecDepth 100000 in
theorem double1_calls(F:Nat->Prop)(B Br Bw k:Nat)(m:MsgS)(s:RunS)(w:World)(hx:XOK F w B s)(hk:s.way[k]?= some m)(hn:s.way.length<=1000)(hh:HeldAt w Br Bw B k) :
  Calls Tryz.prog 179 #[.pointer (some ⟨Br,0,none⟩),.pointer (some ⟨Bw,0,none⟩)] w (XGives F w B (wayS s m,0)):=by
 obtain⟨part,hpF,kv,wv,yv,M,xs,h⟩:=hx
 have hkl:=(List.getElem?_eq_some_iff.1 hk).1
 obtain⟨g,cap,hyf,-,hgl⟩:=World.ownsRow.form h.yrow.1 (by omega)
 subst hyf
 have b4:w.cell? ⟨B,5,none⟩=some (.slice (some ⟨g,0,none⟩) s.way.length cap):=h.box.cell (o:=5) rfl
 have hcm:∀o u,(msgCells m)[o]?= some u->w.cell? ⟨g,k*15+o,none⟩=some u:=fun o u ho=>by
  have:=h.yrow.1.cells (g:=g) rfl _ u (flat_get (sz:=15) (enc:=msgEnc) (fun _=>rfl) s.way k m o u hk (by simpa[msgEnc]using ho))
  rwa [addr_add]at this
 have m0:w.cell? ⟨g,k*15,none⟩=some (.int .i64 m.src):=hcm 0 _ rfl
 have m1:=hcm 1 _ rfl
 have m2:=hcm 2 _ rfl
 have m3:=hcm 3 _ rfl
 have m4:=hcm 4 _ rfl
 have m5:=hcm 5 _ rfl
 have m6:=hcm 6 _ rfl
 have m7:=hcm 7 _ rfl
 have m8:=hcm 8 _ rfl
 have m9:=hcm 9 _ rfl
 have m10:=hcm 10 _ rfl
 have m11:=hcm 11 _ rfl
 have m12:=hcm 12 _ rfl
 have m13:=hcm 13 _ rfl
 have m14:=hcm 14 _ rfl
 have r0:=hh.1.cell (o:=0) rfl
 have i0:=hh.2.cell (o:=0) rfl
 have hbr:Br < w.heap.size:=hh.1.lt
 have hbr':Br≠w.heap.size:=by omega
 have r1:∀o,(w.drew.alloc o).cell? ⟨Br,0,none⟩=some (.pointer (some ⟨B,0,none⟩)):=fun o=>cell_alloc (w:=w.drew) o r0
 have j1:(0:Int)<=(k:Int):=by omega
 have j2:(k:Int) < (s.way.length:Int):=by omega
 have HP:Hid (∀(U:World) (bb:Nat),U=(w.drew).alloc (Obj.cells (msgCells m) 124)->bb=w.heap.size->Calls Tryz.prog 153 #[.pointer (some ⟨B,5,none⟩),.slice (some ⟨bb,0,none⟩) 1 1] U fun e w'=>∃v,e= .returned v/\(v= .tuple #[]/\XGives F w B (wayS s m,0) (.returned (.int .i64 0)) w')):=fun U bb hU hbb=>by
  subst hU hbb
  obtain⟨h2,hm2⟩:=h.later (((Below.refl w.heap.size w).drew).alloc (by simp) (Obj.cells (msgCells m) 124))
  refine(put_x m w.heap.size h2 hn (BoxAt.new w.drew _ _)).mono ?_
  rintro e w' ⟨v,rfl,rfl,part',yv',h3,hm3,-⟩
  obtain⟨h5,h6⟩:=(hm2.trans hm3).okX h3 hpF
  exact⟨_,rfl,rfl,rfl,h5,h6⟩
 clear h hh hcm
 go_enter Tryz.func179,Tryz.ntmps179
 go_upto_region 1 with fail
 go_region_law (refine step_call2 (by rfl) 153 _ _ _ (by rfl) (.pointer (some ⟨B,5,none⟩)) (.slice (some ⟨w.heap.size,0,none⟩) 1 1) (by rfl) (by rfl) (enters_of Tryz.func153 (by kernel_rfl) rfl) (HP.out _ _ rfl rfl) ?_;rintro v9 w9 ⟨rfl,hres⟩;have HRES:=hid_of hres;clear hres)
 all_goals
  go_wp2_with fail
  go_ret
  exact HRES.out
end Go.Proofs.YtfanaanofjhlkaaGreatDoor
