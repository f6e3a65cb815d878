import Derived.Test.YtfanaanofjhlkaaGreatDoorXOut
import Derived.Test.YtfanaanofjhlkaaGreatDoorXPut
import Derived.Deep.RegionHeld3
import Derived.Test.YtfanaanofjhlkaaGreatDoorXOldest
import Derived.Test.YtfanaanofjhlkaaGreatDoorRefWork3
namespace Go.Proofs.YtfanaanofjhlkaaGreatDoor
open Go Go.RowKit
def postS(s:RunS)(i j:Nat)(m:MsgS):RunS:=
 let ls:=s.links[i]?.getD []
 let l:=ls[j]?.getD link0
 wayS {s with links:=s.links.set i (ls.set j (l.sent m))} {m with no:=(l.all.length:Int)+1}
theorem xlink{part:Nat->Nat}{i j:Nat}{w:World}{v:Value}{ls:List LinkS}{l:LinkS}(h:XLinksAt part i w v ls)(hj:ls[j]?= some l)(hij:j≠i):∃(qs:List (Option Nat)) (q g c:Nat),RowIn (fun b=>part b=9) 206 1 optEnc w v qs/\qs.length=ls.length/\(∀j q l,qs[j]?= some q->ls[j]?= some l->EndAt part i j w l q)/\qs[j]?= some (some q)/\OutAt (fun b=>part b=100+10*i+j) w q l/\v= .slice (some ⟨g,0,none⟩) qs.length c/\w.cell? ⟨g,j,none⟩=some (.pointer (some ⟨q,0,none⟩))/\g < w.heap.size:=by
 obtain⟨qs,h1,h2,h3⟩:=h
 have hjl:=(List.getElem?_eq_some_iff.1 hj).1
 obtain⟨oq,hoq⟩:∃q,qs[j]?= some q:=⟨_,List.getElem?_eq_getElem (by omega)⟩
 have he:=h3 j oq l hoq hj
 cases oq with
 |none=>exact absurd he.1 hij
 |some q=>
  obtain⟨g,c,rfl,-,hgl⟩:=World.ownsRow.form h1.1 (by omega)
  refine⟨qs,q,g,c,h1,h2,h3,hoq,he.2,rfl,?_,hgl⟩
  have:=h1.1.cells (g:=g) rfl (j*1+0) _ (flat_get (sz:=1) (enc:=optEnc) (fun _=>rfl) qs j (some q) 0 _ hoq rfl)
  rw[addr_add]at this
  simpa using this
set_option maxHeartbeats 8000000 in
set_option maxRecDepth 100000 in
theorem send_x(i j:Nat)(m:MsgS)(b:Nat){part:Nat->Nat}{w:World}{B M:Nat}{s:RunS}{kv wv yv:Value}{xs:List XW}{ls:List LinkS}{l:LinkS}(h:XAtO part w B s kv wv yv M xs)(hls:s.links[i]?= some ls)(hl:ls[j]?= some l)(hij:j≠i)(hk:l.known.toNat<=l.all.length)(hn:l.all.length<=100000000)(hy:s.way.length<=1000)(hm:BoxAt w b 124 (msgCells m)) :
  Calls Tryz.prog 165 #[.pointer (some ⟨B,0,none⟩),.int .i64 (i:Int),.int .i64 (j:Int),.slice (some ⟨b,0,none⟩) 1 1] w fun e w'=>∃v,e= .returned v/\(v= .tuple #[]/\∃part' yv',XAtO part' w' B (postS s i j {m with src:=(i:Int),dst:=(j:Int)}) kv wv yv' M xs/\XMoved part part' w w'):=by
 have hil:i < s.W.length:=by have:=(List.getElem?_eq_some_iff.1 hls).1;have:=h.llen;omega
 have hxl:=h.wlen
 obtain⟨x,hx⟩:∃x,xs[i]?= some x:=⟨_,List.getElem?_eq_getElem (by omega)⟩
 obtain⟨gw,wc,hwf,-,hgw⟩:=World.ownsRow.form h.wrow.1 (by omega)
 subst hwf
 obtain⟨Z,hZ⟩:∃Z,w.alloc (Obj.cells (msgCells m) 124)=Z:=⟨_,rfl⟩
 have gZ:Below w.heap.size w Z:=by rw[<-hZ];exact(Below.refl _ _).alloc (Nat.le_refl _) _
 have bZ:BoxAt Z w.heap.size 124 (msgCells m):=by rw[<-hZ];exact BoxAt.new w _ _
 obtain⟨Y,hY⟩:∃Y,(Z.setCell ⟨w.heap.size,0,none⟩ (.int .i64 (i:Int))).setCell ⟨w.heap.size,1,none⟩ (.int .i64 (j:Int))=Y:=⟨_,rfl⟩
 have gY:Below w.heap.size w Y:=by rw[<-hY];exact(gZ.setCell (p:=⟨w.heap.size,0,none⟩) (Nat.le_refl _) _).setCell (p:=⟨w.heap.size,1,none⟩) (Nat.le_refl _) _
 have bY:BoxAt Y w.heap.size 124 (msgCells {m with src:=(i:Int),dst:=(j:Int)}):=by rw[<-hY];exact(bZ.setAt 0 _).setAt 1 _
 obtain⟨h2,hm2⟩:=h.later gY
 obtain⟨qs,q,g,gc,hqr,hql,hqe,hq,hout,hvf,hcq,hgq⟩:=xlink (h2.lat i x ls hx hls) hl hij
 have b3:Y.cell? ⟨B,4,none⟩=some (.slice (some ⟨gw,0,none⟩) xs.length wc):=h2.box.cell (o:=4) rfl
 have w1:Y.cell? ⟨gw,i*8+2,none⟩=some (.slice (some ⟨g,0,none⟩) qs.length gc):=by
  have:=h2.wrow.1.cells (g:=gw) rfl (i*8+2) _ (flat_get (sz:=8) (enc:=xwEnc) (fun _=>rfl) xs i x 2 _ hx rfl)
  rwa [addr_add,hvf]at this
 have z0:=bZ.cell (o:=0) rfl
 have z1:=bZ.cell (o:=1) rfl
 have f0:=bZ.frozen 0
 have f1:=bZ.frozen 1
 have i0:(0:Int)<=(i:Int):=by omega
 have i1:(i:Int) < (xs.length:Int):=by omega
 have j0:(0:Int)<=(j:Int):=by omega
 have hjl:=(List.getElem?_eq_some_iff.1 hl).1
 have j1:(j:Int) < (qs.length:Int):=by omega
 obtain⟨c0,c1,c2,c3,c4,c5,c6,c7,c8,c9,c10,c11,c12,c13,c14⟩:=cells15 hm
 obtain⟨n0,n1,n2,n3,n4,n5,n6,n7,n8,n9,n10,n11,n12,n13,n14⟩:=cells15 bY
 have HP:Hid (postS s i j {m with src:=(i:Int),dst:=(j:Int)}=wayS {s with links:=s.links.set i (ls.set j (l.sent {m with src:=(i:Int),dst:=(j:Int)}))} {m with src:=(i:Int),dst:=(j:Int),no:=(l.all.length:Int)+1}):=by show _=_;simp[postS,hls,hl]
 have HS0:Hid (∀U,∀{X:Nat->Prop},Kept X Y U->(∀g,X g->100<=ext w part 0 g/\g < Y.heap.size\/ext w part 0 g=2/\g < Y.heap.size)->U.cell? ⟨B,4,none⟩=some (.slice (some ⟨gw,0,none⟩) xs.length wc)/\U.cell? ⟨gw,i*8+2,none⟩=some (.slice (some ⟨g,0,none⟩) qs.length gc)/\U.cell? ⟨g,j,none⟩=some (.pointer (some ⟨q,0,none⟩))/\U.cell? ⟨w.heap.size,0,none⟩=some (.int .i64 (i:Int))/\U.cell? ⟨w.heap.size,1,none⟩=some (.int .i64 (j:Int))/\U.cell? ⟨w.heap.size,2,none⟩=some (.int .i64 m.no)/\U.cell? ⟨w.heap.size,3,none⟩=some (.int .i64 m.kind)/\U.cell? ⟨w.heap.size,4,none⟩=some (.string m.t.id)/\U.cell? ⟨w.heap.size,5,none⟩=some (.int .i64 m.t.kind)/\U.cell? ⟨w.heap.size,6,none⟩=some (.int .i64 m.t.arg)/\U.cell? ⟨w.heap.size,7,none⟩=some (.string m.v.1)/\U.cell? ⟨w.heap.size,8,none⟩=some (.int .i64 m.v.2)/\U.cell? ⟨w.heap.size,9,none⟩=some (.bool m.black)/\U.cell? ⟨w.heap.size,10,none⟩=some (.bool m.idle)/\U.cell? ⟨w.heap.size,11,none⟩=some (.int .i64 m.count)/\U.cell? ⟨w.heap.size,12,none⟩=some (.int .i64 m.round)/\U.cell? ⟨w.heap.size,13,none⟩=some (.int .i64 m.sent)/\U.cell? ⟨w.heap.size,14,none⟩=some (.int .i64 m.came)):=fun U X hU hX=>by
  have hp:∀g,X g->ext w part 0 g≠1/\ext w part 0 g≠7/\ext w part 0 g≠9/\ext w part 0 g≠0:=fun g hg=>by have:=hX g hg;omega
  have c1:¬X B:=fun h=>(hp B h).1 h2.pB
  have c2:¬X gw:=fun h=>(hp gw h).2.1 (h2.wrow.2 gw rfl)
  have c3:¬X g:=fun h=>(hp g h).2.2.1 (hqr.2 g (by rw[hvf];rfl))
  have c4:¬X w.heap.size:=fun h=>(hp _ h).2.2.2 (ext_new (Nat.le_refl _))
  refine⟨(hU.cell (p:=⟨B,4,none⟩) h2.box.lt c1).trans b3,(hU.cell (p:=⟨gw,i*8+2,none⟩) (Nat.lt_of_lt_of_le hgw gY.size) c2).trans w1,(hU.cell (p:=⟨g,j,none⟩) hgq c3).trans hcq,(hU.cell (p:=⟨w.heap.size,0,none⟩) bY.lt c4).trans n0,(hU.cell (p:=⟨w.heap.size,1,none⟩) bY.lt c4).trans n1,(hU.cell (p:=⟨w.heap.size,2,none⟩) bY.lt c4).trans n2,(hU.cell (p:=⟨w.heap.size,3,none⟩) bY.lt c4).trans n3,(hU.cell (p:=⟨w.heap.size,4,none⟩) bY.lt c4).trans n4,(hU.cell (p:=⟨w.heap.size,5,none⟩) bY.lt c4).trans n5,(hU.cell (p:=⟨w.heap.size,6,none⟩) bY.lt c4).trans n6,(hU.cell (p:=⟨w.heap.size,7,none⟩) bY.lt c4).trans n7,(hU.cell (p:=⟨w.heap.size,8,none⟩) bY.lt c4).trans n8,(hU.cell (p:=⟨w.heap.size,9,none⟩) bY.lt c4).trans n9,(hU.cell (p:=⟨w.heap.size,10,none⟩) bY.lt c4).trans n10,(hU.cell (p:=⟨w.heap.size,11,none⟩) bY.lt c4).trans n11,(hU.cell (p:=⟨w.heap.size,12,none⟩) bY.lt c4).trans n12,(hU.cell (p:=⟨w.heap.size,13,none⟩) bY.lt c4).trans n13,(hU.cell (p:=⟨w.heap.size,14,none⟩) bY.lt c4).trans n14⟩
 have HSE:Hid (∀U,Below Y.heap.size Y U->Calls Tryz.prog 192 #[.pointer (some ⟨q,0,none⟩),.agg (msgCells {m with src:=(i:Int),dst:=(j:Int)})] U fun e w'=>∃v,e= .returned v/\(v= .agg (msgCells {m with src:=(i:Int),dst:=(j:Int),no:=(l.all.length:Int)+1})/\∃part3,XAtO part3 w' B {s with links:=s.links.set i (ls.set j (l.sent {m with src:=(i:Int),dst:=(j:Int)}))} kv (.slice (some ⟨gw,0,none⟩) xs.length wc) yv M xs/\XMoved part part3 w w'/\part3 w.heap.size=0/\(w'.cell? ⟨B,4,none⟩=some (.slice (some ⟨gw,0,none⟩) xs.length wc)/\w'.cell? ⟨gw,i*8+2,none⟩=some (.slice (some ⟨g,0,none⟩) qs.length gc)/\w'.cell? ⟨g,j,none⟩=some (.pointer (some ⟨q,0,none⟩))/\w'.cell? ⟨w.heap.size,0,none⟩=some (.int .i64 (i:Int))/\w'.cell? ⟨w.heap.size,1,none⟩=some (.int .i64 (j:Int))/\w'.cell? ⟨w.heap.size,2,none⟩=some (.int .i64 m.no)/\w'.cell? ⟨w.heap.size,3,none⟩=some (.int .i64 m.kind)/\w'.cell? ⟨w.heap.size,4,none⟩=some (.string m.t.id)/\w'.cell? ⟨w.heap.size,5,none⟩=some (.int .i64 m.t.kind)/\w'.cell? ⟨w.heap.size,6,none⟩=some (.int .i64 m.t.arg)/\w'.cell? ⟨w.heap.size,7,none⟩=some (.string m.v.1)/\w'.cell? ⟨w.heap.size,8,none⟩=some (.int .i64 m.v.2)/\w'.cell? ⟨w.heap.size,9,none⟩=some (.bool m.black)/\w'.cell? ⟨w.heap.size,10,none⟩=some (.bool m.idle)/\w'.cell? ⟨w.heap.size,11,none⟩=some (.int .i64 m.count)/\w'.cell? ⟨w.heap.size,12,none⟩=some (.int .i64 m.round)/\w'.cell? ⟨w.heap.size,13,none⟩=some (.int .i64 m.sent)/\w'.cell? ⟨w.heap.size,14,none⟩=some (.int .i64 m.came)))):=fun U hU=>by
  have hoU:OutAt (fun b=>ext w part 0 b=100+10*i+j/\b < Y.heap.size) U q l:=hout.kept (Kept.of_below hU (X:=fun b=>Y.heap.size<=b) (fun _ _ h=>h)) (fun g hg h=>⟨by omega,h,hg⟩)
  refine(send_out _ q l {m with src:=(i:Int),dst:=(j:Int)} U hoU hk hn).mono ?_
  rintro e w' ⟨v,rfl,rfl,ho,hko⟩
  have zU:=hU.size
  have hKK:Kept (fun g=>ext w part 0 g=100+10*i+j) Y w':=(Kept.of_below hU (X:=fun g=>ext w part 0 g=100+10*i+j) (fun b h1 h2=>by omega)).andThen hko (fun b hb h=>h.1)
  obtain⟨h3,hm3⟩:=h2.relink (l':=l.sent {m with src:=(i:Int),dst:=(j:Int)}) hx hls hij hqr hql hqe hq hl ⟨rfl,rfl,_,rfl⟩ hKK (ho.kept (Kept.refl (fun _=>False) w') (fun b _ h=>⟨fun h=>h,by
   rcases h with h|h
   ·exact .inl h
   ·exact .inr (by omega)⟩))
  have hst:=HS0.out w' ((Kept.of_below hU (X:=fun g=>(ext w part 0 g=100+10*i+j/\g < Y.heap.size)) (fun b h1 h2=>by omega)).trans hko) (fun g hg=>by omega)
  exact⟨_,rfl,rfl,_,h3,hm2.trans hm3,(ext_old bY.lt).trans (ext_new (Nat.le_refl _)),hst⟩
 have HPU:Hid (∀part3 U,XAtO part3 U B {s with links:=s.links.set i (ls.set j (l.sent {m with src:=(i:Int),dst:=(j:Int)}))} kv (.slice (some ⟨gw,0,none⟩) xs.length wc) yv M xs->XMoved part part3 w U->part3 w.heap.size=0->(U.cell? ⟨B,4,none⟩=some (.slice (some ⟨gw,0,none⟩) xs.length wc)/\U.cell? ⟨gw,i*8+2,none⟩=some (.slice (some ⟨g,0,none⟩) qs.length gc)/\U.cell? ⟨g,j,none⟩=some (.pointer (some ⟨q,0,none⟩))/\U.cell? ⟨w.heap.size,0,none⟩=some (.int .i64 (i:Int))/\U.cell? ⟨w.heap.size,1,none⟩=some (.int .i64 (j:Int))/\U.cell? ⟨w.heap.size,2,none⟩=some (.int .i64 m.no)/\U.cell? ⟨w.heap.size,3,none⟩=some (.int .i64 m.kind)/\U.cell? ⟨w.heap.size,4,none⟩=some (.string m.t.id)/\U.cell? ⟨w.heap.size,5,none⟩=some (.int .i64 m.t.kind)/\U.cell? ⟨w.heap.size,6,none⟩=some (.int .i64 m.t.arg)/\U.cell? ⟨w.heap.size,7,none⟩=some (.string m.v.1)/\U.cell? ⟨w.heap.size,8,none⟩=some (.int .i64 m.v.2)/\U.cell? ⟨w.heap.size,9,none⟩=some (.bool m.black)/\U.cell? ⟨w.heap.size,10,none⟩=some (.bool m.idle)/\U.cell? ⟨w.heap.size,11,none⟩=some (.int .i64 m.count)/\U.cell? ⟨w.heap.size,12,none⟩=some (.int .i64 m.round)/\U.cell? ⟨w.heap.size,13,none⟩=some (.int .i64 m.sent)/\U.cell? ⟨w.heap.size,14,none⟩=some (.int .i64 m.came))->Calls Tryz.prog 153 #[.pointer (some ⟨B,5,none⟩),.slice (some ⟨U.heap.size,0,none⟩) 1 1] (U.alloc (Obj.cells (msgCells {m with src:=(i:Int),dst:=(j:Int),no:=(l.all.length:Int)+1}) 124)) fun e w'=>∃v,e= .returned v/\(v= .tuple #[]/\(∃part' yv',XAtO part' w' B (postS s i j {m with src:=(i:Int),dst:=(j:Int)}) kv (.slice (some ⟨gw,0,none⟩) xs.length wc) yv' M xs/\XMoved part part' w w')/\(w'.cell? ⟨B,4,none⟩=some (.slice (some ⟨gw,0,none⟩) xs.length wc)/\w'.cell? ⟨gw,i*8+2,none⟩=some (.slice (some ⟨g,0,none⟩) qs.length gc)/\w'.cell? ⟨g,j,none⟩=some (.pointer (some ⟨q,0,none⟩))/\w'.cell? ⟨w.heap.size,0,none⟩=some (.int .i64 (i:Int))/\w'.cell? ⟨w.heap.size,1,none⟩=some (.int .i64 (j:Int))/\w'.cell? ⟨w.heap.size,2,none⟩=some (.int .i64 m.no)/\w'.cell? ⟨w.heap.size,3,none⟩=some (.int .i64 m.kind)/\w'.cell? ⟨w.heap.size,4,none⟩=some (.string m.t.id)/\w'.cell? ⟨w.heap.size,5,none⟩=some (.int .i64 m.t.kind)/\w'.cell? ⟨w.heap.size,6,none⟩=some (.int .i64 m.t.arg)/\w'.cell? ⟨w.heap.size,7,none⟩=some (.string m.v.1)/\w'.cell? ⟨w.heap.size,8,none⟩=some (.int .i64 m.v.2)/\w'.cell? ⟨w.heap.size,9,none⟩=some (.bool m.black)/\w'.cell? ⟨w.heap.size,10,none⟩=some (.bool m.idle)/\w'.cell? ⟨w.heap.size,11,none⟩=some (.int .i64 m.count)/\w'.cell? ⟨w.heap.size,12,none⟩=some (.int .i64 m.round)/\w'.cell? ⟨w.heap.size,13,none⟩=some (.int .i64 m.sent)/\w'.cell? ⟨w.heap.size,14,none⟩=some (.int .i64 m.came)))):=fun part3 U h3 hm3 hp3 hSU=>by
  obtain⟨h4,hm4⟩:=h3.later ((Below.refl _ _).alloc (Nat.le_refl _) (Obj.cells (msgCells {m with src:=(i:Int),dst:=(j:Int),no:=(l.all.length:Int)+1}) 124))
  refine(put_x _ U.heap.size h4 hy (BoxAt.new U _ _)).mono ?_
  rintro e w' ⟨v,rfl,rfl,part',yv',h5,hm5,hk5⟩
  have hls3:(s.links.set i (ls.set j (l.sent {m with src:=(i:Int),dst:=(j:Int)})))[i]?= some (ls.set j (l.sent {m with src:=(i:Int),dst:=(j:Int)})):=List.getElem?_set_self (List.getElem?_eq_some_iff.1 hls).1
  obtain⟨qs9,hr9,-,-⟩:=h4.lat i x _ hx hls3
  have hg9:=hr9.2 g (by rw[hvf];rfl)
  have hgw9:=h4.wrow.2 gw rfl
  obtain⟨a0,a1,a2,a3,a4,a5,a6,a7,a8,a9,a10,a11,a12,a13,a14,a15,a16,a17⟩:=hSU
  have ltc:∀{a:Addr} {v:Value},U.cell? a=some v->a.block < U.heap.size:=fun h=>by
   obtain⟨o,ho,-⟩:=not_walk_of_cell h
   exact(Array.getElem?_eq_some_iff.1 ho).1
  have hwU:w.heap.size < U.heap.size:=ltc a3
  have hgU:g < U.heap.size:=ltc a2
  have hgwU:gw < U.heap.size:=ltc a1
  have pB:=h4.pB
  have n1:¬(gw=B\/ext U part3 0 gw=2):=fun h=>by
   rcases h with h|h
   ·rw[h,pB]at hgw9;omega
   ·omega
  have n2:¬(g=B\/ext U part3 0 g=2):=fun h=>by
   rcases h with h|h
   ·rw[h,pB]at hg9;omega
   ·omega
  have n3:¬(w.heap.size=B\/ext U part3 0 w.heap.size=2):=fun h=>by
   have h0:=(ext_old (part:=part3) (n:=0) hwU).trans hp3
   rcases h with h|h
   ·rw[<-h]at pB;omega
   ·omega
  have up:∀{k:Nat},k < U.heap.size->k < (U.alloc (Obj.cells (msgCells {m with src:=(i:Int),dst:=(j:Int),no:=(l.all.length:Int)+1}) 124)).heap.size:=fun h=>by simp;omega
  exact⟨_,rfl,rfl,⟨part',yv',by rw[HP.out];exact h5,(hm3.trans hm4).trans hm5⟩,h5.box.cell (o:=4) rfl,(hk5.cell (p:=⟨gw,i*8+2,none⟩) (up hgwU) n1).trans (cell_alloc _ a1),(hk5.cell (p:=⟨g,j,none⟩) (up hgU) n2).trans (cell_alloc _ a2),(hk5.cell (p:=⟨w.heap.size,0,none⟩) (up hwU) n3).trans (cell_alloc _ a3),(hk5.cell (p:=⟨w.heap.size,1,none⟩) (up hwU) n3).trans (cell_alloc _ a4),(hk5.cell (p:=⟨w.heap.size,2,none⟩) (up hwU) n3).trans (cell_alloc _ a5),(hk5.cell (p:=⟨w.heap.size,3,none⟩) (up hwU) n3).trans (cell_alloc _ a6),(hk5.cell (p:=⟨w.heap.size,4,none⟩) (up hwU) n3).trans (cell_alloc _ a7),(hk5.cell (p:=⟨w.heap.size,5,none⟩) (up hwU) n3).trans (cell_alloc _ a8),(hk5.cell (p:=⟨w.heap.size,6,none⟩) (up hwU) n3).trans (cell_alloc _ a9),(hk5.cell (p:=⟨w.heap.size,7,none⟩) (up hwU) n3).trans (cell_alloc _ a10),(hk5.cell (p:=⟨w.heap.size,8,none⟩) (up hwU) n3).trans (cell_alloc _ a11),(hk5.cell (p:=⟨w.heap.size,9,none⟩) (up hwU) n3).trans (cell_alloc _ a12),(hk5.cell (p:=⟨w.heap.size,10,none⟩) (up hwU) n3).trans (cell_alloc _ a13),(hk5.cell (p:=⟨w.heap.size,11,none⟩) (up hwU) n3).trans (cell_alloc _ a14),(hk5.cell (p:=⟨w.heap.size,12,none⟩) (up hwU) n3).trans (cell_alloc _ a15),(hk5.cell (p:=⟨w.heap.size,13,none⟩) (up hwU) n3).trans (cell_alloc _ a16),(hk5.cell (p:=⟨w.heap.size,14,none⟩) (up hwU) n3).trans (cell_alloc _ a17)⟩
 obtain⟨m9,hm9⟩:∃m9:MsgS,{m with src:=(i:Int),dst:=(j:Int),no:=(l.all.length:Int)+1}=m9:=⟨_,rfl⟩
 rw[hm9]at HSE HPU
 have HS1:Hid (Y.drew.cell? ⟨B,4,none⟩=some (.slice (some ⟨gw,0,none⟩) xs.length wc)/\Y.drew.cell? ⟨gw,i*8+2,none⟩=some (.slice (some ⟨g,0,none⟩) qs.length gc)/\Y.drew.cell? ⟨g,j,none⟩=some (.pointer (some ⟨q,0,none⟩))/\Y.drew.cell? ⟨w.heap.size,0,none⟩=some (.int .i64 (i:Int))/\Y.drew.cell? ⟨w.heap.size,1,none⟩=some (.int .i64 (j:Int))/\Y.drew.cell? ⟨w.heap.size,2,none⟩=some (.int .i64 m.no)/\Y.drew.cell? ⟨w.heap.size,3,none⟩=some (.int .i64 m.kind)/\Y.drew.cell? ⟨w.heap.size,4,none⟩=some (.string m.t.id)/\Y.drew.cell? ⟨w.heap.size,5,none⟩=some (.int .i64 m.t.kind)/\Y.drew.cell? ⟨w.heap.size,6,none⟩=some (.int .i64 m.t.arg)/\Y.drew.cell? ⟨w.heap.size,7,none⟩=some (.string m.v.1)/\Y.drew.cell? ⟨w.heap.size,8,none⟩=some (.int .i64 m.v.2)/\Y.drew.cell? ⟨w.heap.size,9,none⟩=some (.bool m.black)/\Y.drew.cell? ⟨w.heap.size,10,none⟩=some (.bool m.idle)/\Y.drew.cell? ⟨w.heap.size,11,none⟩=some (.int .i64 m.count)/\Y.drew.cell? ⟨w.heap.size,12,none⟩=some (.int .i64 m.round)/\Y.drew.cell? ⟨w.heap.size,13,none⟩=some (.int .i64 m.sent)/\Y.drew.cell? ⟨w.heap.size,14,none⟩=some (.int .i64 m.came)):=HS0.out Y (Kept.refl (fun _=>False) _) (fun g hg=>hg.elim)
 have HAL:Hid (∀(U:World) (o:Obj),(U.cell? ⟨B,4,none⟩=some (.slice (some ⟨gw,0,none⟩) xs.length wc)/\U.cell? ⟨gw,i*8+2,none⟩=some (.slice (some ⟨g,0,none⟩) qs.length gc)/\U.cell? ⟨g,j,none⟩=some (.pointer (some ⟨q,0,none⟩))/\U.cell? ⟨w.heap.size,0,none⟩=some (.int .i64 (i:Int))/\U.cell? ⟨w.heap.size,1,none⟩=some (.int .i64 (j:Int))/\U.cell? ⟨w.heap.size,2,none⟩=some (.int .i64 m.no)/\U.cell? ⟨w.heap.size,3,none⟩=some (.int .i64 m.kind)/\U.cell? ⟨w.heap.size,4,none⟩=some (.string m.t.id)/\U.cell? ⟨w.heap.size,5,none⟩=some (.int .i64 m.t.kind)/\U.cell? ⟨w.heap.size,6,none⟩=some (.int .i64 m.t.arg)/\U.cell? ⟨w.heap.size,7,none⟩=some (.string m.v.1)/\U.cell? ⟨w.heap.size,8,none⟩=some (.int .i64 m.v.2)/\U.cell? ⟨w.heap.size,9,none⟩=some (.bool m.black)/\U.cell? ⟨w.heap.size,10,none⟩=some (.bool m.idle)/\U.cell? ⟨w.heap.size,11,none⟩=some (.int .i64 m.count)/\U.cell? ⟨w.heap.size,12,none⟩=some (.int .i64 m.round)/\U.cell? ⟨w.heap.size,13,none⟩=some (.int .i64 m.sent)/\U.cell? ⟨w.heap.size,14,none⟩=some (.int .i64 m.came))->(U.alloc o).cell? ⟨B,4,none⟩=some (.slice (some ⟨gw,0,none⟩) xs.length wc)/\(U.alloc o).cell? ⟨gw,i*8+2,none⟩=some (.slice (some ⟨g,0,none⟩) qs.length gc)/\(U.alloc o).cell? ⟨g,j,none⟩=some (.pointer (some ⟨q,0,none⟩))/\(U.alloc o).cell? ⟨w.heap.size,0,none⟩=some (.int .i64 (i:Int))/\(U.alloc o).cell? ⟨w.heap.size,1,none⟩=some (.int .i64 (j:Int))/\(U.alloc o).cell? ⟨w.heap.size,2,none⟩=some (.int .i64 m.no)/\(U.alloc o).cell? ⟨w.heap.size,3,none⟩=some (.int .i64 m.kind)/\(U.alloc o).cell? ⟨w.heap.size,4,none⟩=some (.string m.t.id)/\(U.alloc o).cell? ⟨w.heap.size,5,none⟩=some (.int .i64 m.t.kind)/\(U.alloc o).cell? ⟨w.heap.size,6,none⟩=some (.int .i64 m.t.arg)/\(U.alloc o).cell? ⟨w.heap.size,7,none⟩=some (.string m.v.1)/\(U.alloc o).cell? ⟨w.heap.size,8,none⟩=some (.int .i64 m.v.2)/\(U.alloc o).cell? ⟨w.heap.size,9,none⟩=some (.bool m.black)/\(U.alloc o).cell? ⟨w.heap.size,10,none⟩=some (.bool m.idle)/\(U.alloc o).cell? ⟨w.heap.size,11,none⟩=some (.int .i64 m.count)/\(U.alloc o).cell? ⟨w.heap.size,12,none⟩=some (.int .i64 m.round)/\(U.alloc o).cell? ⟨w.heap.size,13,none⟩=some (.int .i64 m.sent)/\(U.alloc o).cell? ⟨w.heap.size,14,none⟩=some (.int .i64 m.came)):=fun U o h=>by
  obtain⟨a0,a1,a2,a3,a4,a5,a6,a7,a8,a9,a10,a11,a12,a13,a14,a15,a16,a17⟩:=h
  exact⟨cell_alloc o a0,cell_alloc o a1,cell_alloc o a2,cell_alloc o a3,cell_alloc o a4,cell_alloc o a5,cell_alloc o a6,cell_alloc o a7,cell_alloc o a8,cell_alloc o a9,cell_alloc o a10,cell_alloc o a11,cell_alloc o a12,cell_alloc o a13,cell_alloc o a14,cell_alloc o a15,cell_alloc o a16,cell_alloc o a17⟩
 clear h h2 hm2 hqr hql hqe hq hout hvf bY bZ gZ gY hm HP hm9
 go_enter Tryz.func165,Tryz.ntmps165
 go_wp2_with fail
 go_loopw [12] (fun iv wr=>(iv= .int .i64 0/\w=wr)\/(iv= .int .i64 1/\∃part' yv',XAtO part' wr B (postS s i j {m with src:=(i:Int),dst:=(j:Int)}) kv (.slice (some ⟨gw,0,none⟩) xs.length wc) yv' M xs/\XMoved part part' w wr)) (fun iv _=>1 - (intOf iv).toNat)
 case atStart=>exact .inl ⟨rfl,rfl⟩
 case round=>
  rename World=>wr
  rcases hrel with⟨rfl,rfl⟩|⟨rfl,h1⟩
  ·go_upto_region 4 with fail
   clear hZ hY z0 z1 f0 f1 c0 c1 c2 c3 c4 c5 c6 c7 c8 c9 c10 c11 c12 c13 c14
   go_region_held3 (fun U=>U.cell? ⟨B,4,none⟩=some (.slice (some ⟨gw,0,none⟩) xs.length wc)/\U.cell? ⟨gw,i*8+2,none⟩=some (.slice (some ⟨g,0,none⟩) qs.length gc)/\U.cell? ⟨g,j,none⟩=some (.pointer (some ⟨q,0,none⟩))/\U.cell? ⟨w.heap.size,0,none⟩=some (.int .i64 (i:Int))/\U.cell? ⟨w.heap.size,1,none⟩=some (.int .i64 (j:Int))/\U.cell? ⟨w.heap.size,2,none⟩=some (.int .i64 m.no)/\U.cell? ⟨w.heap.size,3,none⟩=some (.int .i64 m.kind)/\U.cell? ⟨w.heap.size,4,none⟩=some (.string m.t.id)/\U.cell? ⟨w.heap.size,5,none⟩=some (.int .i64 m.t.kind)/\U.cell? ⟨w.heap.size,6,none⟩=some (.int .i64 m.t.arg)/\U.cell? ⟨w.heap.size,7,none⟩=some (.string m.v.1)/\U.cell? ⟨w.heap.size,8,none⟩=some (.int .i64 m.v.2)/\U.cell? ⟨w.heap.size,9,none⟩=some (.bool m.black)/\U.cell? ⟨w.heap.size,10,none⟩=some (.bool m.idle)/\U.cell? ⟨w.heap.size,11,none⟩=some (.int .i64 m.count)/\U.cell? ⟨w.heap.size,12,none⟩=some (.int .i64 m.round)/\U.cell? ⟨w.heap.size,13,none⟩=some (.int .i64 m.sent)/\U.cell? ⟨w.heap.size,14,none⟩=some (.int .i64 m.came))
    (first|assumption|(exact HAL.out _ _ (by assumption))|(exact HS1.out)|trivial)
    (first
    |(go_at_call 192;refine(HSE.out _ ((Below.refl _ _).drew)).mono ?_;rintro e w3 ⟨v3,rfl,rfl,part3,h3,hm3,hp3,hs3⟩;have HX3:=hid_of h3;have HM3:=hid_of hm3;have HP3:=hid_of hp3;have HS3:=hid_of hs3;clear h3 hm3 hp3)
    |(go_at_call 153;refine(HPU.out part3 w3 HX3.out HM3.out HP3.out HS3.out).mono ?_;rintro e w5 ⟨v5,rfl,rfl,hres,hs5⟩;have HRES:=hid_of hres;clear hres))
   all_goals
    go_wp2_with fail
    go_roundw
    case rel=>exact .inr ⟨by go_num,HRES.out⟩
    case measure=>simp[intOf]
  ·have H1:=hid_of h1
   clear h1
   go_wp2_with fail
   go_end0
   exact⟨_,rfl,rfl,H1.out⟩
attribute [local go_sem] Oper.semAt_some
theorem again_calls(g o:Nat)(w:World):Calls Tryz.prog 152 #[.pointer (some ⟨g,o,none⟩)] w fun e w'=>e= .returned (.func (.func 183) #[] #[.pointer (some ⟨w.heap.size,0,none⟩)])/\w'=w.alloc (Obj.cells #[.pointer (some ⟨g,o,none⟩)] 213):=by
 go_enter Tryz.func152,Tryz.ntmps152
 go_wp2_with fail
 go_ret
 exact⟨rfl,rfl⟩
theorem oldestS_again(s:RunS)(l:LinkS)(h0:0<=l.known):againS s l=if(oldestS l).2=true then wayS s (oldestS l).1 else s:=by
 obtain⟨z,hz⟩:=Int.eq_ofNat_of_zero_le h0
 unfold againS oldestS LinkS.left
 rw[hz]
 simp only[Int.toNat_natCast]
 by_cases h:z < l.all.length
 ·rw[if_pos (by omega),List.drop_eq_getElem_cons h]
  simp[h]
 ·rw[if_neg (by omega),List.drop_eq_nil_of_le (by omega)]
  simp
theorem links_same{s:RunS}{k j:Nat}{ls:List LinkS}{l:LinkS}(hls:s.links[k]?= some ls)(hl:ls[j]?= some l):{s with links:=s.links.set k (ls.set j l)}=s:=by
 obtain⟨h1,rfl⟩:=List.getElem?_eq_some_iff.1 hl
 rw[List.set_getElem_self]
 obtain⟨h2,rfl⟩:=List.getElem?_eq_some_iff.1 hls
 rw[List.set_getElem_self]
set_option maxHeartbeats 8000000 in
set_option maxRecDepth 100000 in
theorem again1_calls(n l k Bq:Nat)(part:Nat->Nat)(w:World)(B M:Nat)(s:RunS)(kv yv:Value)(gw wc:Nat)(xs:List XW)(ls:List LinkS)(Z:Nat->Prop)(Rec:World->Prop)(h:XAtO part w B s kv (.slice (some ⟨gw,0,none⟩) xs.length wc) yv M xs)(hls:s.links[k]?= some ls)(hkl:k < xs.length)(hkn:∀l∈ls,0<=l.known)(hall:∀l∈ls,l.all.length<=100000000)(hy:s.way.length<=60)
  (hZ:∀b,Z b->b < w.heap.size/\part b=0) (hRec:∀A A',Rec A->Kept (fun b=>¬Z b) A A'->Rec A') (h0:Rec w) (hBq:BoxAt w Bq 213 #[.pointer (some ⟨gw,k*8,none⟩)]) (hZq:Z Bq)
  (hY:∀s' part' yv' m W1,XAtO part' W1 B s' kv (.slice (some ⟨gw,0,none⟩) xs.length wc) yv' M xs->XMoved part part' w W1->Rec W1->s'.way.length<=60->YieldAt Fence.wide (n - 1) Tryz.prog l #[msgV m] W1 fun e W'=>e= .returned (.bool true)/\∃part2 yv2,XAtO part2 W' B (wayS s' m) kv (.slice (some ⟨gw,0,none⟩) xs.length wc) yv2 M xs/\XMoved part part2 w W'/\Kept (fun b=>Z b->b=l) W1 W'/\Rec W') (hlq:l≠Bq) :
  CallsIn Fence.wide n Tryz.prog 183 (#[.func (.yield l) #[] #[]]++ #[.pointer (some ⟨Bq,0,none⟩)]) w fun e W'=>(∃v,e= .returned v)/\(∃part2 yv2,XAtO part2 W' B (ls.foldl againS s) kv (.slice (some ⟨gw,0,none⟩) xs.length wc) yv2 M xs/\XMoved part part2 w W')/\Rec W':=by
 obtain⟨x,hx⟩:∃x,xs[k]?= some x:=⟨_,List.getElem?_eq_getElem hkl⟩
 have hll:ls.length=xs.length:=by rw[h.lrow ls (List.mem_of_getElem? hls),h.wlen]
 obtain⟨g,gc,hvf⟩:∃g gc,x.outv= .slice (some ⟨g,0,none⟩) ls.length gc:=by
  obtain⟨qs,h1,h2,h3⟩:=h.lat k x ls hx hls
  obtain⟨g,c,h4,-,-⟩:=World.ownsRow.form h1.1 (by omega)
  exact⟨g,c,by rw[h4,h2]⟩
 have c1:w.cell? ⟨gw,k*8+2,none⟩=some (.slice (some ⟨g,0,none⟩) ls.length gc):=by
  have:=h.wrow.1.cells (g:=gw) rfl (k*8+2) _ (flat_get (sz:=8) (enc:=xwEnc) (fun _=>rfl) xs k x 2 _ hx rfl)
  rwa [addr_add,hvf]at this
 have q0:=hBq.cell (o:=0) rfl
 have hl5:ls.length<=5:=by rw[h.lrow ls (List.mem_of_getElem? hls)];exact h.five
 have HH:=hid_of h
 have HZ:=hid_of hZ
 have HRC:=hid_of hRec
 have HR0:=hid_of h0
 have HBQ:=hid_of hBq
 have HYY:=hid_of hY
 have HX:Hid (xs[k]?= some x):=hx
 have HLS:Hid (s.links[k]?= some ls):=hls
 have HVF:Hid (x.outv= .slice (some ⟨g,0,none⟩) ls.length gc):=hvf
 have HASIDE:Hid (∀part' wr b,XMoved part part' w wr->Z b->part' b=0):=fun part' wr b hm hb=>by
  rcases Nat.eq_zero_or_pos (part' b)with h|h
  ·exact h
  ·exact absurd (HZ.out b hb).2 (hm.old b (HZ.out b hb).1 (by omega))
 clear h hZ hRec h0 hBq hY hx hls hvf
 refine callsIn_of_wp Tryz.func183 rfl trivial ?_ rfl
 simp only[Tryz.ntmps183,List.size_toArray,List.length_cons,List.length_nil,Nat.reduceAdd,Nat.reduceSub,Array.replicate_succ,Array.replicate_zero,List.push_toArray,List.append_toArray,List.nil_append,List.cons_append]
 gi_wp2
 gi_loopw [12] (fun iv wr=>∃(j:Nat) (part':Nat->Nat) (yv':Value),j<=ls.length/\iv= .int .i64 j/\XAtO part' wr B ((ls.take j).foldl againS s) kv (.slice (some ⟨gw,0,none⟩) xs.length wc) yv' M xs/\XMoved part part' w wr/\Rec wr/\BoxAt wr Bq 213 #[.pointer (some ⟨gw,k*8,none⟩)]) (fun iv _=>ls.length - (intOf iv).toNat)
 case atStart=>exact⟨0,part,yv,Nat.zero_le _,rfl,HH.out,XMoved.refl _ _,HR0.out,HBQ.out⟩
 case round=>
  obtain⟨j,part',yv',hj,rfl,h,hm,hrc,hbq⟩:=hrel
  rename World=>wr
  obtain⟨y9,hy9,hy60⟩:=again_fold (ls.take j) s
  obtain⟨s',hs'⟩:∃s',(ls.take j).foldl againS s=s':=⟨_,rfl⟩
  rw[hs']at hy9 h
  have hlk:s'.links=s.links:=by rw[hy9]
  have hway:s'.way.length<=60:=by rw[hy9];exact hy60 hy
  have HM:=hid_of hm
  have HRW:=hid_of hrc
  have HBW:=hid_of hbq
  have HX':=hid_of h
  have HS':Hid ((ls.take j).foldl againS s=s'):=hs'
  have HLK:Hid (s'.links=s.links):=hlk
  have HWAY:Hid (s'.way.length<=60):=hway
  clear hm hrc hbq h hs' hy9 hy60 hlk hway c1 q0
  by_cases hlt:j < ls.length
  ·obtain⟨lk,hlk⟩:∃lk,ls[j]?= some lk:=⟨_,List.getElem?_eq_getElem hlt⟩
   have hmem:=List.mem_of_getElem? hlk
   have HNX:Hid ((ls.take (j+1)).foldl againS s=againS s' lk):=by
    show _=_
    rw[List.take_add_one,hlk,List.foldl_append,HS'.out];rfl
   obtain⟨qs,hqr,hql,hqe⟩:=HX'.out.lat k x ls HX.out (by rw[HLK.out];exact HLS.out)
   rw[HVF.out]at hqr
   obtain⟨oq,hoq⟩:∃q,qs[j]?= some q:=⟨_,List.getElem?_eq_getElem (by omega)⟩
   have hend:=hqe j oq lk hoq hlk
   have cj:wr.cell? ⟨g,j,none⟩=some (.pointer (oq.map (fun b=>(⟨b,0,none⟩:Addr)))):=by
    have:=hqr.1.cells (g:=g) rfl (j*1+0) _ (flat_get (sz:=1) (enc:=optEnc) (fun _=>rfl) qs j oq 0 _ hoq rfl)
    rw[addr_add]at this
    simpa using this
   have j1:(0:Int)<=(j:Int):=by omega
   have j2:(j:Int) < (ls.length:Int):=by omega
   have HKN:=hid_of (hkn lk hmem)
   have HALL:=hid_of (hall lk hmem)
   cases oq with
   |none=>
    have HAG:Hid (againS s' lk=s'):=by
     show _=_
     unfold againS
     rw[if_neg (by rw[hend.2];simp;exact HKN.out)]
    simp only[Option.map_none]at cj
    clear hqr hqe hend hlk
    gi_wp2
    go_roundw
    case rel=>exact⟨j+1,part',yv',by omega,by go_num,by rw[HNX.out,HAG.out];exact HX'.out,HM.out,HRW.out,HBW.out⟩
    case measure=>simp[intOf];omega
   |some q=>
    obtain⟨hjk,hout⟩:=hend
    simp only[Option.map_some]at cj
    have HQR:=hid_of hqr
    have HQE:=hid_of hqe
    have HOUT:Hid (OutAt (fun b=>part' b=100+10*k+j/\b < wr.heap.size) wr q lk):=hout.kept (Kept.refl (fun _=>False) wr) (fun b hb h=>⟨fun h=>h,h,hb⟩)
    have HLKJ:Hid (ls[j]?= some lk):=hlk
    have HOQ:Hid (qs[j]?= some (some q)):=hoq
    have HQL:Hid (qs.length=ls.length):=hql
    clear hqr hqe hout hlk hoq hql
    gi_wp2
    refine⟨trivial,fun h=>(by cases h),?_⟩
    refine callsIn_wide.2 ?_
    refine(oldest_out _ q lk wr HOUT.out HALL.out).mono ?_
    rintro e w2 ⟨v2,rfl,rfl,ho2,hk2'⟩
    have hk2:Kept (fun b=>part' b=100+10*k+j) wr w2:=hk2'.mono (fun b _ h=>h.1)
    obtain⟨h3,hm3⟩:=HX'.out.relink (l':=lk) HX.out (by rw[HLK.out];exact HLS.out) hjk (by rw[HVF.out];exact HQR.out) HQL.out HQE.out HOQ.out HLKJ.out (InLike.refl _) hk2 ho2
    rw[links_same (by rw[HLK.out];exact HLS.out) HLKJ.out]at h3
    obtain⟨part3,hp3⟩:∃p,p=ext wr part' (100+10*k+j):=⟨_,rfl⟩
    rw[<-hp3]at h3 hm3
    have hM3:=HM.out.trans hm3
    have hz3:Kept (fun b=>¬Z b) wr w2:=hk2.mono (fun b _ e hb=>by have:=HASIDE.out part' wr b HM.out hb;omega)
    have hr3:=HRC.out _ _ HRW.out hz3
    have hb3:=HBW.out.kept hz3 (fun h=>h hZq)
    have HX3:=hid_of h3
    have HM3:=hid_of hM3
    have HR3:=hid_of hr3
    have HB3:=hid_of hb3
    have HAG:=hid_of (oldestS_again s' lk HKN.out)
    obtain⟨om,hom⟩:∃om,(oldestS lk).1=om:=⟨_,rfl⟩
    obtain⟨ob,hob⟩:∃ob,(oldestS lk).2=ob:=⟨_,rfl⟩
    rw[hom,hob]at HAG
    rw[hom,hob]
    obtain⟨U,hU⟩:∃U,w2.alloc (Obj.cells (msgCells om) 124)=U:=⟨_,rfl⟩
    have gU:Below w2.heap.size w2 U:=by rw[<-hU];exact(Below.refl _ _).alloc (Nat.le_refl _) _
    have bU:BoxAt U w2.heap.size 124 (msgCells om):=by rw[<-hU];exact BoxAt.new w2 _ _
    obtain⟨h4,hm4⟩:=HX3.out.later gU
    have kU:Kept (fun b=>¬Z b) w2 U:=Kept.of_below gU (fun b h1 h2=>absurd h1 (by omega))
    have HX4:=hid_of h4
    have HM4:=hid_of (HM3.out.trans hm4)
    have HR4:=hid_of (HRC.out _ _ HR3.out kU)
    have HB4:=hid_of (HB3.out.kept kU (fun h=>h hZq))
    clear h3 hm3 hM3 hz3 hr3 hb3 hp3 ho2 hk2 hk2' hom hob h4 hm4 kU gU cj HOUT HQR HQE
    cases ob with
    |false=>
     have HAF:Hid (againS s' lk=s'):=HAG.out.trans (if_neg (by simp))
     clear bU
     gi_wp2
     refine⟨(fun f hf=>by cases hf),?_⟩
     gi_wp2
     go_roundw
     case rel=>exact⟨j+1,_,_,by omega,by go_num,by rw[HNX.out,HAF.out];exact HX4.out,HM4.out,HR4.out,HB4.out⟩
     case measure=>simp[intOf];omega
    |true=>
     have HAT:Hid (againS s' lk=wayS s' om):=HAG.out.trans (if_pos rfl)
     obtain⟨m0,m1,m2,m3,m4,m5,m6,m7,m8,m9,m10,m11,m12,m13,m14⟩:=cells15 bU
     obtain⟨fn,tmps,assign,body,hyy,hR⟩:=HYY.out s' _ _ om U HX4.out HM4.out HR4.out HWAY.out
     have HR:=hid_of hR
     clear hR bU
     gi_wp2
     refine⟨fun h=>(by cases h),?_⟩
     refine HR.out.mono ?_
     rintro e W4 ⟨rfl,part5,yv5,h5,hm5,hk5,hr5⟩
     have HX5:=hid_of h5
     have HM5:=hid_of hm5
     have HR5:=hid_of hr5
     have HB5:=hid_of (HB4.out.kept hk5 (fun h=>hlq (h hZq).symm))
     clear h5 hm5 hr5 hk5
     gi_wp2
     go_roundw
     case rel=>exact⟨j+1,part5,yv5,by omega,by go_num,by rw[HNX.out,HAT.out];exact HX5.out,HM5.out,HR5.out,HB5.out⟩
     case measure=>simp[intOf];omega
  ·obtain rfl:j=ls.length:=by omega
   gi_wp2
   go_end0
   refine⟨⟨_,rfl⟩,⟨part',yv',?_,HM.out⟩,HRW.out⟩
   have:=HS'.out
   rw[List.take_length]at this
   rw[this]
   exact HX'.out
end Go.Proofs.YtfanaanofjhlkaaGreatDoor
