import Derived.Test.YtfanaanofjhlkaaGreatDoorXToken
namespace Go.Proofs.YtfanaanofjhlkaaGreatDoor
open Go Go.RowKit
set_option maxHeartbeats 4000000 in
set_option maxRecDepth 100000 in
theorem report_calls(X:Nat->Prop)(gw k T:Nat)(r st cm room:Int)(l:List TaskS)(w:World)(h0:w.cell? ⟨gw,k*8,none⟩=some (.pointer (some ⟨T,0,none⟩)))(h4:w.cell? ⟨gw,k*8+4,none⟩=some (.int .i64 st))(h5:w.cell? ⟨gw,k*8+5,none⟩=some (.int .i64 cm))(ht:TaskListAt X w T room l)(hgw:gw < w.heap.size) :
  Calls Tryz.prog 164 #[.pointer (some ⟨gw,k*8,none⟩),.int .i64 r] w fun e w'=>∃v,e= .returned v/\(v= .agg (msgCells {msg0 with kind:=7,round:=r,sent:=st,came:=cm,idle:=decide (l.length=0)})/\Below w.heap.size w w'):=by
 obtain⟨V,hV⟩:∃V,w.alloc (Obj.cells (msgCells msg0) 124)=V:=⟨_,rfl⟩
 have gV:Below w.heap.size w V:=by rw[<-hV];exact(Below.refl _ _).alloc (Nat.le_refl _) _
 have bV:BoxAt V w.heap.size 124 (msgCells msg0):=by rw[<-hV];exact BoxAt.new w _ _
 obtain⟨eb,heb⟩:∃eb,decide (l.length=0)=eb:=⟨_,rfl⟩
 have HI:Hid (∀U,Below w.heap.size w U->Calls Tryz.prog 97 #[.pointer (some ⟨T,0,none⟩)] U fun e w'=>e= .returned (.bool eb)/\U=w'):=fun U hU=>by
  refine(idle_calls X T room l U (ht.kept (Kept.of_below hU (X:=fun b=>w.heap.size<=b) (fun _ _ h=>h)) (fun g hg h=>⟨by omega,h⟩))).mono ?_
  rintro e w' ⟨rfl,rfl⟩
  exact⟨by rw[heb],rfl⟩
 rw[heb]
 have v0:V.cell? ⟨gw,k*8,none⟩=some (.pointer (some ⟨T,0,none⟩)):=(gV.cell (p:=⟨gw,k*8,none⟩) hgw).trans h0
 have v4:V.cell? ⟨gw,k*8+4,none⟩=some (.int .i64 st):=(gV.cell (p:=⟨gw,k*8+4,none⟩) hgw).trans h4
 have v5:V.cell? ⟨gw,k*8+5,none⟩=some (.int .i64 cm):=(gV.cell (p:=⟨gw,k*8+5,none⟩) hgw).trans h5
 have HGV:=hid_of gV
 have HBV:=hid_of bV
 obtain⟨m0,m1,m2,m3,m4,m5,m6,m7,m8,m9,m10,m11,m12,m13,m14⟩:=cells15 bV
 have f0:=bV.frozen 0
 have f1:=bV.frozen 1
 have f2:=bV.frozen 2
 have f3:=bV.frozen 3
 have f4:=bV.frozen 4
 have f5:=bV.frozen 5
 have f6:=bV.frozen 6
 have f7:=bV.frozen 7
 have f8:=bV.frozen 8
 have f9:=bV.frozen 9
 have f10:=bV.frozen 10
 have f11:=bV.frozen 11
 have f12:=bV.frozen 12
 have f13:=bV.frozen 13
 have f14:=bV.frozen 14
 have bV0:BoxAt V w.heap.size 124 #[.int .i64 0,.int .i64 0,.int .i64 0,.int .i64 0,.string ⟨#[]⟩,.int .i64 0,.int .i64 0,.string ⟨#[]⟩,.int .i64 0,.bool false,.bool false,.int .i64 0,.int .i64 0,.int .i64 0,.int .i64 0]:=bV
 obtain⟨F0,hF0⟩:∃F,V.setCell ⟨w.heap.size,0,none⟩ (.int .i64 0)=F:=⟨_,rfl⟩
 have bF0:BoxAt F0 w.heap.size 124 #[.int .i64 0,.int .i64 0,.int .i64 0,.int .i64 0,.string ⟨#[]⟩,.int .i64 0,.int .i64 0,.string ⟨#[]⟩,.int .i64 0,.bool false,.bool false,.int .i64 0,.int .i64 0,.int .i64 0,.int .i64 0]:=by rw[<-hF0];exact bV0.setAt 0 _
 have gF0:Below w.heap.size w F0:=by rw[<-hF0];exact gV.setCell (p:=⟨w.heap.size,0,none⟩) (Nat.le_refl _) _
 obtain⟨F1,hF1⟩:∃F,F0.setCell ⟨w.heap.size,1,none⟩ (.int .i64 0)=F:=⟨_,rfl⟩
 have bF1:BoxAt F1 w.heap.size 124 #[.int .i64 0,.int .i64 0,.int .i64 0,.int .i64 0,.string ⟨#[]⟩,.int .i64 0,.int .i64 0,.string ⟨#[]⟩,.int .i64 0,.bool false,.bool false,.int .i64 0,.int .i64 0,.int .i64 0,.int .i64 0]:=by rw[<-hF1];exact bF0.setAt 1 _
 have gF1:Below w.heap.size w F1:=by rw[<-hF1];exact gF0.setCell (p:=⟨w.heap.size,1,none⟩) (Nat.le_refl _) _
 obtain⟨F2,hF2⟩:∃F,F1.setCell ⟨w.heap.size,2,none⟩ (.int .i64 0)=F:=⟨_,rfl⟩
 have bF2:BoxAt F2 w.heap.size 124 #[.int .i64 0,.int .i64 0,.int .i64 0,.int .i64 0,.string ⟨#[]⟩,.int .i64 0,.int .i64 0,.string ⟨#[]⟩,.int .i64 0,.bool false,.bool false,.int .i64 0,.int .i64 0,.int .i64 0,.int .i64 0]:=by rw[<-hF2];exact bF1.setAt 2 _
 have gF2:Below w.heap.size w F2:=by rw[<-hF2];exact gF1.setCell (p:=⟨w.heap.size,2,none⟩) (Nat.le_refl _) _
 obtain⟨F3,hF3⟩:∃F,F2.setCell ⟨w.heap.size,3,none⟩ (.int .i64 7)=F:=⟨_,rfl⟩
 have bF3:BoxAt F3 w.heap.size 124 #[.int .i64 0,.int .i64 0,.int .i64 0,.int .i64 7,.string ⟨#[]⟩,.int .i64 0,.int .i64 0,.string ⟨#[]⟩,.int .i64 0,.bool false,.bool false,.int .i64 0,.int .i64 0,.int .i64 0,.int .i64 0]:=by rw[<-hF3];exact bF2.setAt 3 _
 have gF3:Below w.heap.size w F3:=by rw[<-hF3];exact gF2.setCell (p:=⟨w.heap.size,3,none⟩) (Nat.le_refl _) _
 obtain⟨F4,hF4⟩:∃F,F3.setCell ⟨w.heap.size,4,none⟩ (.string ⟨#[]⟩)=F:=⟨_,rfl⟩
 have bF4:BoxAt F4 w.heap.size 124 #[.int .i64 0,.int .i64 0,.int .i64 0,.int .i64 7,.string ⟨#[]⟩,.int .i64 0,.int .i64 0,.string ⟨#[]⟩,.int .i64 0,.bool false,.bool false,.int .i64 0,.int .i64 0,.int .i64 0,.int .i64 0]:=by rw[<-hF4];exact bF3.setAt 4 _
 have gF4:Below w.heap.size w F4:=by rw[<-hF4];exact gF3.setCell (p:=⟨w.heap.size,4,none⟩) (Nat.le_refl _) _
 obtain⟨F5,hF5⟩:∃F,F4.setCell ⟨w.heap.size,5,none⟩ (.int .i64 0)=F:=⟨_,rfl⟩
 have bF5:BoxAt F5 w.heap.size 124 #[.int .i64 0,.int .i64 0,.int .i64 0,.int .i64 7,.string ⟨#[]⟩,.int .i64 0,.int .i64 0,.string ⟨#[]⟩,.int .i64 0,.bool false,.bool false,.int .i64 0,.int .i64 0,.int .i64 0,.int .i64 0]:=by rw[<-hF5];exact bF4.setAt 5 _
 have gF5:Below w.heap.size w F5:=by rw[<-hF5];exact gF4.setCell (p:=⟨w.heap.size,5,none⟩) (Nat.le_refl _) _
 obtain⟨F6,hF6⟩:∃F,F5.setCell ⟨w.heap.size,6,none⟩ (.int .i64 0)=F:=⟨_,rfl⟩
 have bF6:BoxAt F6 w.heap.size 124 #[.int .i64 0,.int .i64 0,.int .i64 0,.int .i64 7,.string ⟨#[]⟩,.int .i64 0,.int .i64 0,.string ⟨#[]⟩,.int .i64 0,.bool false,.bool false,.int .i64 0,.int .i64 0,.int .i64 0,.int .i64 0]:=by rw[<-hF6];exact bF5.setAt 6 _
 have gF6:Below w.heap.size w F6:=by rw[<-hF6];exact gF5.setCell (p:=⟨w.heap.size,6,none⟩) (Nat.le_refl _) _
 obtain⟨F7,hF7⟩:∃F,F6.setCell ⟨w.heap.size,7,none⟩ (.string ⟨#[]⟩)=F:=⟨_,rfl⟩
 have bF7:BoxAt F7 w.heap.size 124 #[.int .i64 0,.int .i64 0,.int .i64 0,.int .i64 7,.string ⟨#[]⟩,.int .i64 0,.int .i64 0,.string ⟨#[]⟩,.int .i64 0,.bool false,.bool false,.int .i64 0,.int .i64 0,.int .i64 0,.int .i64 0]:=by rw[<-hF7];exact bF6.setAt 7 _
 have gF7:Below w.heap.size w F7:=by rw[<-hF7];exact gF6.setCell (p:=⟨w.heap.size,7,none⟩) (Nat.le_refl _) _
 obtain⟨F8,hF8⟩:∃F,F7.setCell ⟨w.heap.size,8,none⟩ (.int .i64 0)=F:=⟨_,rfl⟩
 have bF8:BoxAt F8 w.heap.size 124 #[.int .i64 0,.int .i64 0,.int .i64 0,.int .i64 7,.string ⟨#[]⟩,.int .i64 0,.int .i64 0,.string ⟨#[]⟩,.int .i64 0,.bool false,.bool false,.int .i64 0,.int .i64 0,.int .i64 0,.int .i64 0]:=by rw[<-hF8];exact bF7.setAt 8 _
 have gF8:Below w.heap.size w F8:=by rw[<-hF8];exact gF7.setCell (p:=⟨w.heap.size,8,none⟩) (Nat.le_refl _) _
 obtain⟨F9,hF9⟩:∃F,F8.setCell ⟨w.heap.size,9,none⟩ (.bool false)=F:=⟨_,rfl⟩
 have bF9:BoxAt F9 w.heap.size 124 #[.int .i64 0,.int .i64 0,.int .i64 0,.int .i64 7,.string ⟨#[]⟩,.int .i64 0,.int .i64 0,.string ⟨#[]⟩,.int .i64 0,.bool false,.bool false,.int .i64 0,.int .i64 0,.int .i64 0,.int .i64 0]:=by rw[<-hF9];exact bF8.setAt 9 _
 have gF9:Below w.heap.size w F9:=by rw[<-hF9];exact gF8.setCell (p:=⟨w.heap.size,9,none⟩) (Nat.le_refl _) _
 obtain⟨F10,hF10⟩:∃F,F9.setCell ⟨w.heap.size,10,none⟩ (.bool eb)=F:=⟨_,rfl⟩
 have bF10:BoxAt F10 w.heap.size 124 #[.int .i64 0,.int .i64 0,.int .i64 0,.int .i64 7,.string ⟨#[]⟩,.int .i64 0,.int .i64 0,.string ⟨#[]⟩,.int .i64 0,.bool false,.bool eb,.int .i64 0,.int .i64 0,.int .i64 0,.int .i64 0]:=by rw[<-hF10];exact bF9.setAt 10 _
 have gF10:Below w.heap.size w F10:=by rw[<-hF10];exact gF9.setCell (p:=⟨w.heap.size,10,none⟩) (Nat.le_refl _) _
 obtain⟨F11,hF11⟩:∃F,F10.setCell ⟨w.heap.size,11,none⟩ (.int .i64 0)=F:=⟨_,rfl⟩
 have bF11:BoxAt F11 w.heap.size 124 #[.int .i64 0,.int .i64 0,.int .i64 0,.int .i64 7,.string ⟨#[]⟩,.int .i64 0,.int .i64 0,.string ⟨#[]⟩,.int .i64 0,.bool false,.bool eb,.int .i64 0,.int .i64 0,.int .i64 0,.int .i64 0]:=by rw[<-hF11];exact bF10.setAt 11 _
 have gF11:Below w.heap.size w F11:=by rw[<-hF11];exact gF10.setCell (p:=⟨w.heap.size,11,none⟩) (Nat.le_refl _) _
 obtain⟨F12,hF12⟩:∃F,F11.setCell ⟨w.heap.size,12,none⟩ (.int .i64 r)=F:=⟨_,rfl⟩
 have bF12:BoxAt F12 w.heap.size 124 #[.int .i64 0,.int .i64 0,.int .i64 0,.int .i64 7,.string ⟨#[]⟩,.int .i64 0,.int .i64 0,.string ⟨#[]⟩,.int .i64 0,.bool false,.bool eb,.int .i64 0,.int .i64 r,.int .i64 0,.int .i64 0]:=by rw[<-hF12];exact bF11.setAt 12 _
 have gF12:Below w.heap.size w F12:=by rw[<-hF12];exact gF11.setCell (p:=⟨w.heap.size,12,none⟩) (Nat.le_refl _) _
 obtain⟨F13,hF13⟩:∃F,F12.setCell ⟨w.heap.size,13,none⟩ (.int .i64 st)=F:=⟨_,rfl⟩
 have bF13:BoxAt F13 w.heap.size 124 #[.int .i64 0,.int .i64 0,.int .i64 0,.int .i64 7,.string ⟨#[]⟩,.int .i64 0,.int .i64 0,.string ⟨#[]⟩,.int .i64 0,.bool false,.bool eb,.int .i64 0,.int .i64 r,.int .i64 st,.int .i64 0]:=by rw[<-hF13];exact bF12.setAt 13 _
 have gF13:Below w.heap.size w F13:=by rw[<-hF13];exact gF12.setCell (p:=⟨w.heap.size,13,none⟩) (Nat.le_refl _) _
 obtain⟨F14,hF14⟩:∃F,F13.setCell ⟨w.heap.size,14,none⟩ (.int .i64 cm)=F:=⟨_,rfl⟩
 have bF14:BoxAt F14 w.heap.size 124 #[.int .i64 0,.int .i64 0,.int .i64 0,.int .i64 7,.string ⟨#[]⟩,.int .i64 0,.int .i64 0,.string ⟨#[]⟩,.int .i64 0,.bool false,.bool eb,.int .i64 0,.int .i64 r,.int .i64 st,.int .i64 cm]:=by rw[<-hF14];exact bF13.setAt 14 _
 have gF14:Below w.heap.size w F14:=by rw[<-hF14];exact gF13.setCell (p:=⟨w.heap.size,14,none⟩) (Nat.le_refl _) _
 have HGF:Hid (Below w.heap.size w F14.drew):=gF14.drew
 have HBF:Hid (BoxAt F14.drew w.heap.size 124 (msgCells {msg0 with kind:=7,round:=r,sent:=st,came:=cm,idle:=eb})):=bF14
 clear bV0 bF0 gF0 bF1 gF1 bF2 gF2 bF3 gF3 bF4 gF4 bF5 gF5 bF6 gF6 bF7 gF7 bF8 gF8 bF9 gF9 bF10 gF10 bF11 gF11 bF12 gF12 bF13 gF13 bF14 gF14
 have HF0:=hid_of hF0
 have HF1:=hid_of hF1
 have HF2:=hid_of hF2
 have HF3:=hid_of hF3
 have HF4:=hid_of hF4
 have HF5:=hid_of hF5
 have HF6:=hid_of hF6
 have HF7:=hid_of hF7
 have HF8:=hid_of hF8
 have HF9:=hid_of hF9
 have HF10:=hid_of hF10
 have HF11:=hid_of hF11
 have HF12:=hid_of hF12
 have HF13:=hid_of hF13
 have HF14:=hid_of hF14
 clear hF0 hF1 hF2 hF3 hF4 hF5 hF6 hF7 hF8 hF9 hF10 hF11 hF12 hF13 hF14
 simp only[msg0]at hV m0 m1 m2 m3 m4 m5 m6 m7 m8 m9 m10 m11 m12 m13 m14
 clear gV bV ht h0 h4 h5 heb
 go_enter Tryz.func164,Tryz.ntmps164
 go_upto_region 1 with fail
 try rw[hV]
 clear hV
 go_region_with (go_at_call 97;refine(HI.out _ (by first|exact HGV.out|exact HGV.out.drew)).mono ?_;rintro e w1 ⟨rfl,rfl⟩)
 all_goals
  go_wp2_with fail
  rw[HF0.out,HF1.out,HF2.out,HF3.out,HF4.out,HF5.out,HF6.out,HF7.out,HF8.out,HF9.out,HF10.out,HF11.out,HF12.out,HF13.out,HF14.out]
  clear m0 m1 m2 m3 m4 m5 m6 m7 m8 m9 m10 m11 m12 m13 m14 f0 f1 f2 f3 f4 f5 f6 f7 f8 f9 f10 f11 f12 f13 f14
  obtain⟨r0,r1,r2,r3,r4,r5,r6,r7,r8,r9,r10,r11,r12,r13,r14⟩:=cells15 HBF.out
  refine bodyPost_ret (v:= .agg (msgCells {msg0 with kind:=7,round:=r,sent:=st,came:=cm,idle:=eb})) (by simp[results,Tryz.results164,go_sem,r0,r1,r2,r3,r4,r5,r6,r7,r8,r9,r10,r11,r12,r13,r14]) rfl ⟨_,rfl,rfl,HGF.out⟩
set_option maxHeartbeats 4000000 in
set_option maxRecDepth 100000 in
theorem addTotals_calls(B:Nat)(cs:Array Value)(a c:Int)(b:Bool)(m:MsgS)(w:World)(hb:BoxAt w B 105 cs)(h9:cs[9]?= some (.int .i64 a))(h10:cs[10]?= some (.int .i64 c))(h11:cs[11]?= some (.bool b))(ha:0<=a+m.sent/\a+m.sent<=1000000000000000000)(hc:0<=c+m.came/\c+m.came<=1000000000000000000) :
  Calls Tryz.prog 191 #[.pointer (some ⟨B,9,none⟩),.agg (msgCells m)] w fun e w'=>∃v,e= .returned v/\(v= .tuple #[]/\BoxAt w' B 105 (((cs.setIfInBounds 9 (.int .i64 (a+m.sent))).setIfInBounds 10 (.int .i64 (c+m.came))).setIfInBounds 11 (.bool (b|| !m.idle)))/\Kept (·= B) w w'):=by
 obtain⟨Z,hZ⟩:∃Z,w.alloc (Obj.cells (msgCells m) 124)=Z:=⟨_,rfl⟩
 have gZ:Below w.heap.size w Z:=by rw[<-hZ];exact(Below.refl _ _).alloc (Nat.le_refl _) _
 have bZ:BoxAt Z w.heap.size 124 (msgCells m):=by rw[<-hZ];exact BoxAt.new w _ _
 have bB:=hb.below gZ hb.lt
 have hBl:=hb.lt
 have hne:B≠w.heap.size:=by omega
 have hne':w.heap.size≠B:=by omega
 have c9:=bB.cell h9
 have c10:=bB.cell h10
 have c11:=bB.cell h11
 have f9:=bB.frozen 9
 have f10:=bB.frozen 10
 have f11:=bB.frozen 11
 have d10:=bZ.cell (o:=10) rfl
 have d13:=bZ.cell (o:=13) rfl
 have d14:=bZ.cell (o:=14) rfl
 have w1:IntKind.i64.wrap (a+m.sent)=a+m.sent:=IntWalk.i64_in _ (by omega)
 have w2:IntKind.i64.wrap (c+m.came)=c+m.came:=IntWalk.i64_in _ (by omega)
 have HBB:=hid_of bB
 have HGZ:=hid_of gZ
 clear bB bZ gZ hb h9 h10 h11
 go_enter Tryz.func191,Tryz.ntmps191
 go_upto_region 1 with fail
 try rw[hZ]
 clear hZ
 go_region
 all_goals
  go_upto_region 2 with fail
  go_region
  all_goals
   cases b
   all_goals
    go_wp2_with fail
    go_end0
    refine⟨_,rfl,rfl,((HBB.out.setAt 9 _).setAt 10 _).setAt 11 _,?_⟩
    exact(((((Kept.of_below HGZ.out (X:=(·= B)) (fun b h1 h2=>by omega)).setCell (.inl (by rfl)) _).setCell (.inl (by rfl)) _).setCell (.inl (by rfl)) _).drew).drew
theorem answers_last{s:RunS}(h:s.answers≠ []):∃L a,s.answers=L++ [a]:=⟨s.answers.dropLast,s.answers.getLast h,(List.dropLast_concat_getLast h).symm⟩
theorem notedS_snoc{s:RunS}{L:List AnsS}{a:AnsS}(h:s.answers=L++ [a])(st cm:Int)(idle:Bool):notedS s st cm idle={s with answers:=L++ [⟨a.many+1,a.sent+st,a.came+cm,a.idle&&idle⟩]}:=by
 unfold notedS
 rw[h]
 simp
set_option maxHeartbeats 4000000 in
set_option maxRecDepth 100000 in
theorem note_x(m:MsgS)(b:Nat){part:Nat->Nat}{w:World}{B M:Nat}{s:RunS}{kv wv yv:Value}{xs:List XW}{L:List AnsS}{a:AnsS}(h:XAtO part w B s kv wv yv M xs)(ha:s.answers=L++ [a])(hb1:0<=a.many/\a.many<=1000000000)(hb2:0<=a.sent/\a.sent<=100000000000000000)(hb3:0<=a.came/\a.came<=100000000000000000)(hb4:0<=m.sent/\m.sent<=1000000000/\0<=m.came/\m.came<=1000000000)(hw5: -100<=s.workers/\s.workers<=100)(hm:BoxAt w b 124 (msgCells m)) :
  Calls Tryz.prog 163 #[.pointer (some ⟨B,7,none⟩),.slice (some ⟨b,0,none⟩) 1 1] w fun e w'=>∃v,e= .returned v/\(v= .tuple #[]/\∃part',XAtO part' w' B (notedS s m.sent m.came m.idle) kv wv yv M xs/\XMoved part part' w w'):=by
 obtain⟨Z,hZ⟩:∃Z,w.alloc (Obj.cells (msgCells m) 124)=Z:=⟨_,rfl⟩
 have hbZ:Below w.heap.size w Z:=by rw[<-hZ];exact(Below.refl _ _).alloc (Nat.le_refl _) _
 have bM:BoxAt Z w.heap.size 124 (msgCells m):=by rw[<-hZ];exact BoxAt.new w _ _
 have hBl:=h.box.lt
 have bR:=h.box.below hbZ hBl
 have hmiss:missA s.workers s.answers=s.workers - a.many:=by rw[ha];exact missA_snoc _ _ _
 have b8:Z.cell? ⟨B,8,none⟩=some (.int .i64 (s.workers - a.many)):=by rw[<-hmiss];exact bR.cell (o:=8) rfl
 have f8:=bR.frozen 8
 have w8:IntKind.i64.wrap (s.workers - a.many - 1)=s.workers - a.many - 1:=IntWalk.i64_in _ (by omega)
 obtain⟨Y,hY⟩:∃Y,Z.setCell ⟨B,8,none⟩ (.int .i64 (s.workers - a.many - 1))=Y:=⟨_,rfl⟩
 have kY:Kept (·= B) Z Y:=by rw[<-hY];exact(Kept.refl (·= B) Z).setCell (.inl (by rfl)) _
 have bY:BoxAt Y B 105 ((xrunCells s kv wv yv M).setIfInBounds 8 (.int .i64 (s.workers - a.many - 1))):=by rw[<-hY];exact bR.setAt 8 _
 have bMY:=bM.kept kY (by omega)
 have hlast:lastA s.answers=a:=by rw[ha];exact lastA_snoc _ _
 have e9:((xrunCells s kv wv yv M).setIfInBounds 8 (.int .i64 (s.workers - a.many - 1)))[9]?= some (.int .i64 a.sent):=by rw[Array.getElem?_setIfInBounds_ne (by omega),<-hlast];rfl
 have e10:((xrunCells s kv wv yv M).setIfInBounds 8 (.int .i64 (s.workers - a.many - 1)))[10]?= some (.int .i64 a.came):=by rw[Array.getElem?_setIfInBounds_ne (by omega),<-hlast];rfl
 have e11:((xrunCells s kv wv yv M).setIfInBounds 8 (.int .i64 (s.workers - a.many - 1)))[11]?= some (.bool (!a.idle)):=by rw[Array.getElem?_setIfInBounds_ne (by omega),<-hlast];rfl
 have HAD:Hid (∀U,(U=Y\/U=Y.drew)->Calls Tryz.prog 191 #[.pointer (some ⟨B,9,none⟩),.agg (msgCells m)] U fun e w'=>∃v,e= .returned v/\(v= .tuple #[]/\∃part',XAtO part' w' B (notedS s m.sent m.came m.idle) kv wv yv M xs/\XMoved part part' w w')):=fun U hU=>by
  have hUB:BoxAt U B 105 ((xrunCells s kv wv yv M).setIfInBounds 8 (.int .i64 (s.workers - a.many - 1))):=by rcases hU with rfl|rfl<;>exact bY
  have kU:Kept (·= B) w U:=by
   have k1:Kept (·= B) w Y:=(Kept.of_below hbZ (X:=(·= B)) (fun b h1 h2=>by omega)).trans kY
   rcases hU with rfl|rfl
   ·exact k1
   ·exact k1.drew
  refine(addTotals_calls B _ a.sent a.came (!a.idle) m U hUB e9 e10 e11 (by omega) (by omega)).mono ?_
  rintro e w' ⟨v,rfl,rfl,hb',hk'⟩
  refine⟨_,rfl,rfl,?_⟩
  have hbox:BoxAt w' B 105 (xrunCells {s with answers:=L++ [⟨a.many+1,a.sent+m.sent,a.came+m.came,a.idle&&m.idle⟩],done:=s.done,over:=s.over} kv wv yv M):=by
   have e1:(xrunCells {s with answers:=L++ [⟨a.many+1,a.sent+m.sent,a.came+m.came,a.idle&&m.idle⟩],done:=s.done,over:=s.over} kv wv yv M)=(((((xrunCells s kv wv yv M).setIfInBounds 8 (.int .i64 (s.workers - a.many - 1))).setIfInBounds 9 (.int .i64 (a.sent+m.sent))).setIfInBounds 10 (.int .i64 (a.came+m.came))).setIfInBounds 11 (.bool (!a.idle|| !m.idle))):=by
    unfold xrunCells
    dsimp only
    rw[ha]
    simp only[lastA_snoc,beforeA_snoc,missA_snoc,List.length_append,List.length_singleton,Bool.not_and]
    have:s.workers - (a.many+1)=s.workers - a.many - 1:=by omega
    rw[this]
    rfl
   rw[e1]
   exact hb'
  obtain⟨h1,h2⟩:=h.rebox (an:=L++ [⟨a.many+1,a.sent+m.sent,a.came+m.came,a.idle&&m.idle⟩]) (d:=s.done) (o:=s.over) (kU.trans hk') hbox
  rw[notedS_snoc ha]
  exact⟨_,h1,h2⟩
 obtain⟨c0,c1,c2,c3,c4,c5,c6,c7,c8,c9,c10,c11,c12,c13,c14⟩:=cells15 hm
 have HBMY:=hid_of bMY
 clear h bM bR hbZ kY bY bMY hm e9 e10 e11 hlast hmiss
 go_enter Tryz.func163,Tryz.ntmps163
 go_wp2_with fail
 go_loopw [8] (fun iv wr=>(iv= .int .i64 0/\w=wr)\/(iv= .int .i64 1/\∃part',XAtO part' wr B (notedS s m.sent m.came m.idle) kv wv yv M xs/\XMoved part part' w wr)) (fun iv _=>1 - (intOf iv).toNat)
 case atStart=>exact .inl ⟨rfl,rfl⟩
 case round=>
  rename World=>wr
  rcases hrel with⟨rfl,rfl⟩|⟨rfl,h1⟩
  ·go_upto_region 3 with fail
   try rw[hZ]
   clear hZ
   go_upto_region 4 with fail
   try rw[hY]
   clear hY b8 f8
   obtain⟨m0,m1,m2,m3,m4,m5,m6,m7,m8,m9,m10,m11,m12,m13,m14⟩:=cells15 HBMY.out
   clear c0 c1 c2 c3 c4 c5 c6 c7 c8 c9 c10 c11 c12 c13 c14
   go_still_tail 4,(by kernel_rfl)
   go_wp2_with (go_at_call 191;refine(HAD.out _ (by first|exact .inl rfl|exact .inr rfl)).mono ?_;rintro e w3 ⟨v3,rfl,rfl,hres⟩;have HRES:=hid_of hres;clear hres)
   go_roundw
   case rel=>exact .inr ⟨by go_num,HRES.out⟩
   case measure=>simp[intOf]
  ·have H1:=hid_of h1
   clear h1
   go_wp2_with fail
   go_end0
   exact⟨_,rfl,rfl,H1.out⟩
end Go.Proofs.YtfanaanofjhlkaaGreatDoor
