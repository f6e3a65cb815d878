import Derived.Test.YtfanaanofjhlkaaGreatDoorStoreM
namespace Go.Proofs.YtfanaanofjhlkaaGreatDoor
open Go Go.RowKit
theorem infoXW:(Tryz.prog.info? 119).map (fun i=>(i.zero,i.size,i.bytes))=some (some (.agg #[.pointer none,.bool false,.slice none 0 0,.slice none 0 0,.int .i64 0,.int .i64 0,.bool false,.pointer none]),8,96):=by kernel_rfl
structure XBorn(part:Nat->Nat)(W:World)(n:Nat)(room mode:Int)(i:Nat)(x:XW)(tl:List TaskS)(hs:Bool):Prop where
 notes:x.Notes worker0
 tasks:TaskListAt (fun b=>part b=10+i) W x.T room tl
 out:XLinksAt part i W x.outv (List.replicate n link0)
 ins:XInsAt part i W x.inv (List.replicate n (List.replicate n link0))
 tok:TokAt (fun b=>part b=20+i) W mode false {worker0 with has:=hs} x.tok
theorem XBorn.kept{part part':Nat->Nat}{Y:Nat->Prop}{W W':World}{n i:Nat}{room mode:Int}{x:XW}{tl:List TaskS}{hs:Bool}(h:XBorn part W n room mode i x tl hs)(k:Kept Y W W')(hx:∀g,g < W.heap.size->8<=part g->¬Y g/\part' g=part g):XBorn part' W' n room mode i x tl hs:=
 ⟨h.notes,h.tasks.kept k (fun g hg e=>⟨(hx g hg (by omega)).1,(hx g hg (by omega)).2.trans e⟩),h.out.kept k (fun g hg e=>hx g hg (by omega)),h.ins.kept k (fun g hg e=>hx g hg (by omega)),h.tok.kept k (fun g hg e=>⟨(hx g hg (by omega)).1,(hx g hg (by omega)).2.trans e⟩)⟩
theorem cells_born{cu:Array Value}{n k:Nat}{xs:List XW}{x:XW}(hcz:cu.size=n*8)(hxl:xs.length=k)(hlt:k < n)(hxc:∀(j:Nat) (x:XW) (i:Nat) (u:Value),xs[j]?= some x->(xwEnc x)[i]?= some u->cu[j*8+i]?= some u) :
  ∀(j:Nat) (y:XW) (i:Nat) (u:Value),(xs++ [x])[j]?= some y->(xwEnc y)[i]?= some u->((((((((cu.setIfInBounds (k*8) (.pointer (some ⟨x.T,0,none⟩))).setIfInBounds (k*8+1) (.bool x.asked)).setIfInBounds (k*8+2) x.outv).setIfInBounds (k*8+3) x.inv).setIfInBounds (k*8+4) (.int .i64 x.sent)).setIfInBounds (k*8+5) (.int .i64 x.came)).setIfInBounds (k*8+6) (.bool x.black)).setIfInBounds (k*8+7) (.pointer (x.tok.map (fun b=>⟨b,0,none⟩))))[j*8+i]?= some u:=by
 intro j y i u hy hu
 rcases get_snoc hy with⟨hj,hx'⟩|⟨hj,rfl⟩
 ·have h1:=hxc j y i u hx' hu
  have hi3:i < 8:=(List.getElem?_eq_some_iff.1 hu).1
  have hjk:j < k:=by omega
  rw[Array.getElem?_setIfInBounds_ne (by omega),Array.getElem?_setIfInBounds_ne (by omega),Array.getElem?_setIfInBounds_ne (by omega),Array.getElem?_setIfInBounds_ne (by omega),Array.getElem?_setIfInBounds_ne (by omega),Array.getElem?_setIfInBounds_ne (by omega),Array.getElem?_setIfInBounds_ne (by omega),Array.getElem?_setIfInBounds_ne (by omega)]
  exact h1
 ·rw[hxl]at hj
  subst hj
  match i,hu with
  |0,hu=>cases hu;rw[show j*8+0=j*8 from rfl,Array.getElem?_setIfInBounds_ne (by omega),Array.getElem?_setIfInBounds_ne (by omega),Array.getElem?_setIfInBounds_ne (by omega),Array.getElem?_setIfInBounds_ne (by omega),Array.getElem?_setIfInBounds_ne (by omega),Array.getElem?_setIfInBounds_ne (by omega),Array.getElem?_setIfInBounds_ne (by omega),Array.getElem?_setIfInBounds_self_of_lt (by omega)]
  |1,hu=>cases hu;rw[Array.getElem?_setIfInBounds_ne (by omega),Array.getElem?_setIfInBounds_ne (by omega),Array.getElem?_setIfInBounds_ne (by omega),Array.getElem?_setIfInBounds_ne (by omega),Array.getElem?_setIfInBounds_ne (by omega),Array.getElem?_setIfInBounds_ne (by omega),Array.getElem?_setIfInBounds_self_of_lt (by simp;omega)]
  |2,hu=>cases hu;rw[Array.getElem?_setIfInBounds_ne (by omega),Array.getElem?_setIfInBounds_ne (by omega),Array.getElem?_setIfInBounds_ne (by omega),Array.getElem?_setIfInBounds_ne (by omega),Array.getElem?_setIfInBounds_ne (by omega),Array.getElem?_setIfInBounds_self_of_lt (by simp;omega)]
  |3,hu=>cases hu;rw[Array.getElem?_setIfInBounds_ne (by omega),Array.getElem?_setIfInBounds_ne (by omega),Array.getElem?_setIfInBounds_ne (by omega),Array.getElem?_setIfInBounds_ne (by omega),Array.getElem?_setIfInBounds_self_of_lt (by simp;omega)]
  |4,hu=>cases hu;rw[Array.getElem?_setIfInBounds_ne (by omega),Array.getElem?_setIfInBounds_ne (by omega),Array.getElem?_setIfInBounds_ne (by omega),Array.getElem?_setIfInBounds_self_of_lt (by simp;omega)]
  |5,hu=>cases hu;rw[Array.getElem?_setIfInBounds_ne (by omega),Array.getElem?_setIfInBounds_ne (by omega),Array.getElem?_setIfInBounds_self_of_lt (by simp;omega)]
  |6,hu=>cases hu;rw[Array.getElem?_setIfInBounds_ne (by omega),Array.getElem?_setIfInBounds_self_of_lt (by simp;omega)]
  |7,hu=>cases hu;rw[Array.getElem?_setIfInBounds_self_of_lt (by simp;omega)]
  |(m+8),hu=>simp[xwEnc]at hu
theorem born_end{n:Nat}{room mode:Int}{t:TaskS}{wr W':World}{base m5 G T:Nat}{cu':Array Value}{part:Nat->Nat}{xs:List XW}{x0:XW}{tk:Option Nat}(hbase:base<=G)(hGr:G < wr.heap.size)(h5:wr.heap.size<=m5)(h6:m5<=W'.heap.size)(hn:0 < n)(hn5:n<=5)(hk:Kept (·= G) wr W')(hbox:BoxAt W' G 119 cu')(hcz:cu'.size=n*8)(hxl:xs.length=n)(hx0:xs[0]?= some x0)
  (hcells:∀j x i u,(xs.set 0 {x0 with T:=T,tok:=tk})[j]?= some x->(xwEnc x)[i]?= some u->cu'[j*8+i]?= some u)
  (hT:TaskListAt (fun b=>wr.heap.size<=b/\b < m5) W' T room [t]) (htk:TokAt (fun b=>m5<=b/\b < W'.heap.size) W' mode false {worker0 with has:=true} tk)
  (hpt:∀b,part b≠0->G < b/\8<=part b) (htl:∀i x,xs[i]?= some x->XBorn part wr n room mode i x [] false) :
  ∃(part:Nat->Nat) (g:Nat) (xs:List XW),(Value.slice (some ⟨G,0,none⟩) n n)=(.slice (some ⟨g,0,none⟩) n n)/\(∀b,part b≠0->base<=b/\b < W'.heap.size/\7<=part b)/\
   RowIn (fun b=>part b=7) 119 8 xwEnc W' (.slice (some ⟨g,0,none⟩) n n) xs/\xs.length=n/\(∀i x,xs[i]?= some x->XBorn part W' n room mode i x (if i=0 then [t]else []) (decide (i=0))):=by
 have hxl0:0 < xs.length:=(List.getElem?_eq_some_iff.1 hx0).1
 have hpn:∀g,g < wr.heap.size->8<=part g->¬g=G/\(fun b=>if b=G then 7 else if b < wr.heap.size then part b else if b < m5 then 10 else if b < W'.heap.size then 20 else 0) g=part g:=fun g hg h=>⟨fun h'=>by have:=hpt g (by omega);omega,(if_neg (by have:=hpt g (by omega);omega)).trans (if_pos hg)⟩
 refine⟨fun b=>if b=G then 7 else if b < wr.heap.size then part b else if b < m5 then 10 else if b < W'.heap.size then 20 else 0,G,xs.set 0 {x0 with T:=T,tok:=tk},rfl,fun b hb=> ?_,⟨?_,fun g e=> ?_⟩,by rw[List.length_set];exact hxl,fun i x hx=> ?_⟩
 ·dsimp only at hb ⊢
  by_cases h:b=G
  ·rw[if_pos h];exact⟨by omega,by omega,by omega⟩
  ·rw[if_neg h]at hb ⊢
   by_cases h':b < wr.heap.size
   ·rw[if_pos h']at hb ⊢
    have:=hpt b hb
    exact⟨by omega,by omega,by omega⟩
   ·rw[if_neg h']at hb ⊢
    by_cases h'':b < m5
    ·rw[if_pos h''];exact⟨by omega,by omega,by omega⟩
    ·rw[if_neg h'']at hb ⊢
     by_cases h3:b < W'.heap.size
     ·rw[if_pos h3];exact⟨by omega,by omega,by omega⟩
     ·rw[if_neg h3]at hb;exact absurd rfl hb
 ·have:=row_of_cells (base:=0) (n:=n) (sz:=8) (enc:=xwEnc) (by omega) (fun _=>rfl) hbox (Nat.zero_le _) hcz (by rw[List.length_set];exact hxl) (by unfold maxLen;omega) hcells
  rw[List.length_set,hxl]
  exact this
 ·simp[Value.ownBlock]at e
  exact if_pos e.symm
 ·cases i with
  |zero=>
   rw[List.getElem?_set_self hxl0]at hx
   cases hx
   have hB0:=(htl 0 x0 hx0).kept (part':=fun b=>if b=G then 7 else if b < wr.heap.size then part b else if b < m5 then 10 else if b < W'.heap.size then 20 else 0) hk hpn
   refine⟨⟨hB0.notes.asked,hB0.notes.sent,hB0.notes.came,hB0.notes.black⟩,hT.kept (Kept.refl (fun _=>False) W') (fun g _ h=>⟨fun h=>h,(if_neg (by omega)).trans ((if_neg (by omega)).trans (if_pos h.2))⟩),hB0.out,hB0.ins,htk.kept (Kept.refl (fun _=>False) W') (fun g _ h=>⟨fun h=>h,(if_neg (by omega)).trans ((if_neg (by omega)).trans ((if_neg (by omega)).trans (if_pos h.2)))⟩)⟩
  |succ i=>
   rw[List.getElem?_set_ne (by omega)]at hx
   rw[if_neg (by omega),show decide (i+1=0)=false from by simp]
   exact(htl (i+1) x hx).kept hk hpn
set_option maxHeartbeats 4000000 in
set_option maxRecDepth 100000 in
theorem newWorkers_calls(n:Nat)(room mode:Int)(t:TaskS)(w:World)(hn2:2<=n)(hn5:n<=5) :
  Calls Tryz.prog 49 #[.agg #[.int .i64 n,.int .i64 room,.int .i64 mode],.agg #[.string t.id,.int .i64 t.kind,.int .i64 t.arg]] w fun e w'=>∃(part:Nat->Nat) (g:Nat) (xs:List XW),e= .returned (.slice (some ⟨g,0,none⟩) n n)/\(∀b,part b≠0->w.heap.size<=b/\b < w'.heap.size/\7<=part b)/\
   RowIn (fun b=>part b=7) 119 8 xwEnc w' (.slice (some ⟨g,0,none⟩) n n) xs/\xs.length=n/\(∀i x,xs[i]?= some x->XBorn part w' n room mode i x (if i=0 then [t]else []) (decide (i=0)))/\Below w.heap.size w w':=by
 obtain⟨i0,hi0,hz0,hz1,hz2⟩:=info_parts infoXW
 obtain⟨V,hV⟩:∃V,(w.alloc (Obj.cells #[.int .i64 n,.int .i64 room,.int .i64 mode] 38)).alloc (Obj.cells #[.string t.id,.int .i64 t.kind,.int .i64 t.arg] 62)=V:=⟨_,rfl⟩
 have bC:BoxAt V w.heap.size 38 #[.int .i64 n,.int .i64 room,.int .i64 mode]:=by rw[<-hV];exact(BoxAt.new w _ _).alloc _
 have bT:BoxAt V (w.heap.size+1) 62 #[.string t.id,.int .i64 t.kind,.int .i64 t.arg]:=by
  rw[<-hV];have:=BoxAt.new (w.alloc (Obj.cells #[.int .i64 n,.int .i64 room,.int .i64 mode] 38)) 62 #[.string t.id,.int .i64 t.kind,.int .i64 t.arg]
  rw[World.size_alloc]at this;exact this
 have hbV:Below w.heap.size w V:=by rw[<-hV];exact((Below.refl _ _).alloc (Nat.le_refl _) _).alloc (by simp) _
 have sV:V.heap.size=w.heap.size+2:=by rw[<-hV];simp
 have c0:=bC.cell (o:=0) rfl
 have HBC:=hid_of bC
 have HBT:=hid_of bT
 have HBV:=hid_of hbV
 clear bC bT hbV
 go_enter Tryz.func49,Tryz.ntmps49
 go_wp2_with (at_make;refine wpList_make_full _ rfl _ _ 96 rfl V.heap.size 119 i0 _ 8 Tryz.underlying96 hi0 hz0 hz1 .i64 .i64 _ _ n rfl rfl (by simp) (by simp) (by rw[hz2];omega) (by unfold maxLen;omega) (Nat.le_refl _) ?_;intro w1 hown1 hgrow1)
 obtain⟨cur,hcur,hcn⟩:∃cur,BoxAt w1 V.heap.size 119 cur/\cur.size=n*8:=by
  rcases hown1.2 with⟨h0,_⟩|⟨g',cap',cur,h0,hb,hcur,hnc,hcm,hcs,htk⟩
  ·cases h0
  ·cases h0
   exact⟨cur,hcur,hcs⟩
 have hb1:Below V.heap.size V w1:=(Kept.grown hgrow1 (X:=fun _=>False) (fun r e=>by cases e)).below (Nat.le_refl _) (fun _ h=>h.elim)
 have HB1:=hid_of hb1
 obtain⟨G,hG⟩:∃G,w.heap.size+2=G:=⟨_,rfl⟩
 rw[sV,hG]at hcur
 rw[hG]
 have HCUR:=hid_of hcur
 have HCN:Hid (cur.size=n*8):=hcn
 have sz1:=hcur.lt
 have HC1:Hid (BoxAt w1 w.heap.size 38 #[.int .i64 n,.int .i64 room,.int .i64 mode]):=HBC.out.below hb1 HBC.out.lt
 have HT1:Hid (BoxAt w1 (w.heap.size+1) 62 #[.string t.id,.int .i64 t.kind,.int .i64 t.arg]):=HBT.out.below hb1 HBT.out.lt
 have HBW1:Hid (Below w.heap.size w w1):=HBV.out.trans (hb1.mono (by omega))
 clear hown1 hgrow1 hcur hb1 hcn c0 hV
 go_loopw [12] (fun iv wr=>∃(k:Nat) (part:Nat->Nat) (cur:Array Value) (xs:List XW),k<=n/\iv= .int .i64 k/\BoxAt wr G 119 cur/\cur.size=n*8/\xs.length=k/\(∀j x i u,xs[j]?= some x->(xwEnc x)[i]?= some u->cur[j*8+i]?= some u)/\(∀b,part b≠0->G < b/\8<=part b)/\(∀i x,xs[i]?= some x->XBorn part wr n room mode i x [] false)/\Kept (·= G) w1 wr) (fun iv _=>n - (intOf iv).toNat)
 case atStart=>exact⟨0,fun _=>0,cur,[],Nat.zero_le _,rfl,HCUR.out,HCN.out,rfl,(fun j x i u h=>by simp at h),(fun b h=>absurd rfl h),(fun i x h=>by simp at h),Kept.refl _ _⟩
 case round=>
  obtain⟨k,part,cu,xs,hk,rfl,hbox,hcz,hxl,hxc,hpt,htl,hkw⟩:=hrel
  rename World=>wr
  have HBOX:=hid_of hbox
  have HCZ:Hid (cu.size=n*8):=hcz
  have HXL:Hid (xs.length=k):=hxl
  have HXC:=hid_of hxc
  have HPT:=hid_of hpt
  have HTL:=hid_of htl
  have HKW:=hid_of hkw
  have szr:=hkw.size
  have HCr:Hid (BoxAt wr w.heap.size 38 #[.int .i64 n,.int .i64 room,.int .i64 mode]):=HC1.out.kept hkw (by omega)
  have HTr:Hid (BoxAt wr (w.heap.size+1) 62 #[.string t.id,.int .i64 t.kind,.int .i64 t.arg]):=HT1.out.kept hkw (by omega)
  have c0:=HCr.out.cell (o:=0) rfl
  have c1:=HCr.out.cell (o:=1) rfl
  clear hbox hcz hxl hxc hpt htl hkw
  by_cases hlt:k < n
  ·have j1:(0:Int)<=(k:Int):=by omega
   have j2:(k:Int) < (n:Int):=by omega
   have HNW:Hid (∀U,Below wr.heap.size wr U->Calls Tryz.prog 105 #[.int .i64 room,.slice none 0 0] U fun e w'=>∃v,e= .returned v/\∃T,v= .pointer (some ⟨T,0,none⟩)/\TaskListAt (fun b=>wr.heap.size<=b) w' T room []/\Below wr.heap.size wr w'):=fun U hU=>by
    refine(tasksNew_calls room (.slice none 0 0) [] U (ListAt.nil _ _ _) (by simp)).mono ?_
    rintro e w' ⟨T,tv,rfl,h1,h2,h3,h4⟩
    have:=hU.size
    exact⟨_,rfl,T,rfl,⟨tv,h1,by omega,ownsRow_base h3 (Nat.zero_le _),fun g e=>by have:=(h3.lt g e).1;omega⟩,hU.trans (h4.mono hU.size)⟩
   have HNL:Hid (∀U,Below wr.heap.size wr U->Calls Tryz.prog 106 #[.int .i64 k,.int .i64 n,.func (.func 107) #[] #[]] U fun e w'=>∃v,e= .returned v/\∃g partL,v= .slice (some ⟨g,0,none⟩) n n/\(∀b,partL b≠0->U.heap.size<=b/\(partL b=9\/(100+10*k<=partL b/\partL b < 100+10*k+n)))/\XLinksAt partL k w' (.slice (some ⟨g,0,none⟩) n n) (List.replicate n link0)/\Below U.heap.size U w'/\Below wr.heap.size wr w'):=fun U hU=>by
    refine(newLinks_calls k n U hn5 hlt).mono ?_
    rintro e w' ⟨g,partL,rfl,hpL,hL,h1⟩
    exact⟨_,rfl,g,partL,rfl,hpL,hL,h1,hU.trans (h1.mono hU.size)⟩
   have HNI:Hid (∀U,Below wr.heap.size wr U->Calls Tryz.prog 108 #[.int .i64 k,.int .i64 n,.func (.func 109) #[] #[]] U fun e w'=>∃v,e= .returned v/\∃g partL,v= .slice (some ⟨g,0,none⟩) n n/\(∀b,partL b≠0->U.heap.size<=b/\(partL b=8\/(200+10*k<=partL b/\partL b < 200+10*k+n)))/\XInsAt partL k w' (.slice (some ⟨g,0,none⟩) n n) (List.replicate n (List.replicate n link0))/\Below U.heap.size U w'/\Below wr.heap.size wr w'):=fun U hU=>by
    refine(newIns_calls k n U hn5 hlt).mono ?_
    rintro e w' ⟨g,partL,rfl,hpL,hL,h1⟩
    exact⟨_,rfl,g,partL,rfl,hpL,hL,h1,hU.trans (h1.mono hU.size)⟩
   go_upto_region 5 with fail
   go_region_law (first
    |(refine step_call2 (by rfl) 105 _ _ _ (by rfl) (.int .i64 room) (.slice none 0 0) (by rfl) (by rfl) (enters_of Tryz.func105 (by kernel_rfl) rfl) (HNW.out _ (by first|assumption|exact Below.refl _ _|exact(Below.refl _ _).drew|exact Below.drew (by assumption))) ?_;rintro v8 w8 ⟨T,rfl,ht8,hb8⟩;have hC8:=HCr.out.below hb8 HCr.out.lt;have d0:=hC8.cell (o:=0) rfl;have d1:=hC8.cell (o:=1) rfl)
    |(refine step_call3 (by rfl) 106 _ _ _ _ (by rfl) (.int .i64 k) (.int .i64 n) (.func (.func 107) #[] #[]) (by rfl) (by rfl) (by rfl) (enters_of Tryz.func106 (by kernel_rfl) rfl) (HNL.out _ (by first|assumption|exact Below.refl _ _|exact(Below.refl _ _).drew|exact Below.drew (by assumption))) ?_;rintro v9 w9 ⟨g9,partL,rfl,hpL,hL9,hU9,hb9⟩;have hC9:=HCr.out.below hb9 HCr.out.lt;have d2:=hC9.cell (o:=0) rfl;have d3:=hC9.cell (o:=1) rfl)
    |(refine step_call3 (by rfl) 108 _ _ _ _ (by rfl) (.int .i64 k) (.int .i64 n) (.func (.func 109) #[] #[]) (by rfl) (by rfl) (by rfl) (enters_of Tryz.func108 (by kernel_rfl) rfl) (HNI.out _ (by first|assumption|exact Below.refl _ _|exact(Below.refl _ _).drew|exact Below.drew (by assumption))) ?_;rintro vA wA ⟨gA,partI,rfl,hpI,hLA,hUA,hbA⟩;have hxA:=HBOX.out.below hbA HBOX.out.lt;obtain⟨o0,ho0⟩:=get_some (cs:=cu) (i:=k*8) (by rw[HCZ.out];omega);have y0:=hxA.cell ho0;have z0:=hxA.frozen (k*8);obtain⟨o1,ho1⟩:=get_some (cs:=cu) (i:=k*8+1) (by rw[HCZ.out];omega);have y1:=hxA.cell ho1;have z1:=hxA.frozen (k*8+1);obtain⟨o2,ho2⟩:=get_some (cs:=cu) (i:=k*8+2) (by rw[HCZ.out];omega);have y2:=hxA.cell ho2;have z2:=hxA.frozen (k*8+2);obtain⟨o3,ho3⟩:=get_some (cs:=cu) (i:=k*8+3) (by rw[HCZ.out];omega);have y3:=hxA.cell ho3;have z3:=hxA.frozen (k*8+3);obtain⟨o4,ho4⟩:=get_some (cs:=cu) (i:=k*8+4) (by rw[HCZ.out];omega);have y4:=hxA.cell ho4;have z4:=hxA.frozen (k*8+4);obtain⟨o5,ho5⟩:=get_some (cs:=cu) (i:=k*8+5) (by rw[HCZ.out];omega);have y5:=hxA.cell ho5;have z5:=hxA.frozen (k*8+5);obtain⟨o6,ho6⟩:=get_some (cs:=cu) (i:=k*8+6) (by rw[HCZ.out];omega);have y6:=hxA.cell ho6;have z6:=hxA.frozen (k*8+6);obtain⟨o7,ho7⟩:=get_some (cs:=cu) (i:=k*8+7) (by rw[HCZ.out];omega);have y7:=hxA.cell ho7;have z7:=hxA.frozen (k*8+7);clear ho0 ho1 ho2 ho3 ho4 ho5 ho6 ho7))
   all_goals
    go_wp2_with fail
    go_roundw
    case rel=>
     obtain⟨W9,hW9⟩:∃W9,(((((((wA.setCell ⟨G,k*8,none⟩ (.pointer (some ⟨T,0,none⟩))).setCell ⟨G,k*8+1,none⟩ (.bool false)).setCell ⟨G,k*8+2,none⟩ (.slice (some ⟨g9,0,none⟩) n n)).setCell ⟨G,k*8+3,none⟩ (.slice (some ⟨gA,0,none⟩) n n)).setCell ⟨G,k*8+4,none⟩ (.int .i64 0)).setCell ⟨G,k*8+5,none⟩ (.int .i64 0)).setCell ⟨G,k*8+6,none⟩ (.bool false)).setCell ⟨G,k*8+7,none⟩ (.pointer none)=W9:=⟨_,rfl⟩
     have hbox9:BoxAt W9 G 119 ((((((((cu.setIfInBounds (k*8) (.pointer (some ⟨T,0,none⟩))).setIfInBounds (k*8+1) (.bool false)).setIfInBounds (k*8+2) (.slice (some ⟨g9,0,none⟩) n n)).setIfInBounds (k*8+3) (.slice (some ⟨gA,0,none⟩) n n)).setIfInBounds (k*8+4) (.int .i64 0)).setIfInBounds (k*8+5) (.int .i64 0)).setIfInBounds (k*8+6) (.bool false)).setIfInBounds (k*8+7) (.pointer none)):=by rw[<-hW9];exact(((((((hxA.setAt _ _).setAt _ _).setAt _ _).setAt _ _).setAt _ _).setAt _ _).setAt _ _).setAt _ _
     have k99:Kept (·= G) wA W9:=by rw[<-hW9];exact((((((((Kept.refl _ _).setCell (.inl (by rfl)) _).setCell (.inl (by rfl)) _).setCell (.inl (by rfl)) _).setCell (.inl (by rfl)) _).setCell (.inl (by rfl)) _).setCell (.inl (by rfl)) _).setCell (.inl (by rfl)) _).setCell (.inl (by rfl)) _
     have kr9:Kept (·= G) wr W9:=(Kept.of_below hbA (X:=(·= G)) (fun b h1 h2=>by omega)).andThen k99 (fun b _ h=>h)
     have s8:=hb8.size
     have s9:=hU9.size
     have sA:=hUA.size
     have h8A:Below w8.heap.size w8 wA:=hU9.trans (hUA.mono s9)
     have hT9:TaskListAt (fun b=>wr.heap.size<=b/\b < w8.heap.size) wA T room []:=ht8.kept (Kept.of_below h8A (X:=fun b=>w8.heap.size<=b) (fun _ _ h=>h)) (fun g hg h=>⟨by omega,h,hg⟩)
     have hLA9:XLinksAt (fun b=>if b < w9.heap.size then partL b else 0) k wA (.slice (some ⟨g9,0,none⟩) n n) (List.replicate n link0):=hL9.kept (Kept.of_below hUA (X:=fun b=>w9.heap.size<=b) (fun _ _ h=>h)) (fun g hg h=>⟨by omega,if_pos hg⟩)
     have hGr:=HBOX.out.lt
     rw[hW9]
     refine⟨k+1,fun b=>if b < wr.heap.size then part b else if b < w8.heap.size then 10+k else if b < w9.heap.size then partL b else partI b,_,xs++ [⟨T,false,.slice (some ⟨g9,0,none⟩) n n,.slice (some ⟨gA,0,none⟩) n n,0,0,false,none⟩],by omega,by go_num,hbox9,by simp[HCZ.out],by rw[List.length_append,HXL.out];rfl,cells_born (x:=⟨T,false,.slice (some ⟨g9,0,none⟩) n n,.slice (some ⟨gA,0,none⟩) n n,0,0,false,none⟩) HCZ.out HXL.out hlt HXC.out,fun b hb=> ?_,fun i x hx=> ?_,HKW.out.trans kr9⟩
     ·dsimp only at hb ⊢
      by_cases h:b < wr.heap.size
      ·rw[if_pos h]at hb ⊢
       exact HPT.out b hb
      ·rw[if_neg h]at hb ⊢
       by_cases h8:b < w8.heap.size
       ·rw[if_pos h8];exact⟨by omega,by omega⟩
       ·rw[if_neg h8]at hb ⊢
        by_cases h9:b < w9.heap.size
        ·rw[if_pos h9]at hb ⊢
         have:=(hpL b hb).2
         exact⟨by omega,by omega⟩
        ·rw[if_neg h9]at hb ⊢
         have:=(hpI b hb).2
         exact⟨by omega,by omega⟩
     ·rcases get_snoc hx with⟨hj,hx'⟩|⟨hj,rfl⟩
      ·exact(HTL.out i x hx').kept kr9 (fun g hg h=>⟨fun h'=>by have:=HPT.out g (by omega);omega,if_pos hg⟩)
      ·rw[HXL.out]at hj
       subst hj
       refine⟨⟨rfl,rfl,rfl,rfl⟩,hT9.kept k99 (fun g hg h=>⟨fun h'=>by omega,(if_neg (by omega)).trans (if_pos h.2)⟩),hLA9.kept k99 (fun g hg h=> ?_),hLA.kept k99 (fun g hg h=> ?_),fun _=>rfl⟩
       ·have h9:g < w9.heap.size:=by
         by_cases e:g < w9.heap.size
         ·exact e
         ·rw[if_neg e]at h;omega
        rw[if_pos h9]at h
        have:=hpL g (by omega)
        exact⟨fun h'=>by omega,(if_neg (by omega)).trans ((if_neg (by omega)).trans ((if_pos h9).trans (if_pos h9).symm))⟩
       ·have:=hpI g (by omega)
        exact⟨fun h'=>by omega,(if_neg (by omega)).trans ((if_neg (by omega)).trans (if_neg (by omega)))⟩
    case measure=>simp[intOf];omega
  ·obtain rfl:n=k:=by omega
   have t0:=HTr.out.cell (o:=0) rfl
   have t1:=HTr.out.cell (o:=1) rfl
   have t2:=HTr.out.cell (o:=2) rfl
   obtain⟨w4,hw4⟩:∃w4,wr.alloc (Obj.cells #[.string t.id,.int .i64 t.kind,.int .i64 t.arg] 62)=w4:=⟨_,rfl⟩
   have hb4:Below wr.heap.size wr w4:=by rw[<-hw4];exact(Below.refl _ _).alloc (Nat.le_refl _) _
   have sz4:w4.heap.size=wr.heap.size+1:=by rw[<-hw4];simp
   have hL4:ListAt 3 taskEnc w4 (.slice (some ⟨wr.heap.size,0,none⟩) 1 1) [t]:=by
    have hb:=BoxAt.new wr 62 #[.string t.id,.int .i64 t.kind,.int .i64 t.arg]
    rw[hw4]at hb
    refine⟨_,_,rfl,fun j x hx=> ?_⟩
    cases j with
    |succ j=>simp at hx
    |zero=>
     cases hx
     refine⟨wr.heap.size,0,rfl,hb.lt,fun i u hi=> ?_⟩
     rw[show 0+0*3+i=i from by omega]
     match i,hi with
     |0,hi=>cases hi;exact hb.cell (o:=0) rfl
     |1,hi=>cases hi;exact hb.cell (o:=1) rfl
     |2,hi=>cases hi;exact hb.cell (o:=2) rfl
     |(m+3),hi=>simp[taskEnc]at hi
   have HNT:=hid_of (tasksNew_calls room (.slice (some ⟨wr.heap.size,0,none⟩) 1 1) [t] w4 hL4 (by simp))
   have HB4:=hid_of hb4
   clear hL4 hb4
   have hGr:=HBOX.out.lt
   have HCC:=hid_of HCr.out
   obtain⟨x0,hx0⟩:∃x,xs[0]?= some x:=⟨_,List.getElem?_eq_getElem (by have:=HXL.out;omega)⟩
   have HX0:Hid (xs[0]?= some x0):=hx0
   have hxl0:0 < xs.length:=(List.getElem?_eq_some_iff.1 hx0).1
   clear hx0
   have hne1:w.heap.size≠G:=by omega
   have hne2:G≠w.heap.size:=by omega
   have hsz:∀i,i < 8->i < cu.size:=fun i hi=>by rw[HCZ.out];omega
   by_cases hm:mode=1
   ·have hmb:(mode==1)=true:=by rw[hm];rfl
    have HM:Hid (mode=1):=hm
    clear hm
    go_upto_region 9 with(go_at_call 105;refine HNT.out.mono ?_;rintro e w5 ⟨T,tv,rfl,hT5,hT5l,hrow5,hb5⟩;have hx5:=(HBOX.out.below HB4.out hGr).below hb5 (by omega);obtain⟨o0,ho0⟩:=get_some (cs:=cu) (i:=0) (by rw[HCZ.out];omega);have y0:=hx5.cell ho0;have z0:=hx5.frozen 0;have c2:=((HCC.out.below HB4.out HCC.out.lt).below hb5 (by omega)).cell (o:=2) rfl;clear ho0)
    have hbw5:Below wr.heap.size wr w5:=HB4.out.trans (hb5.mono (by omega))
    have hsz5:=hbw5.size
    have k56:Kept (·= G) w5 (w5.setCell ⟨G,0,none⟩ (.pointer (some ⟨T,0,none⟩))):=(Kept.refl _ _).setCell (.inl (by rfl)) _
    obtain⟨w6,hw6⟩:∃w6,w5.setCell ⟨G,0,none⟩ (.pointer (some ⟨T,0,none⟩))=w6:=⟨_,rfl⟩
    have hx6:BoxAt w6 G 119 (cu.setIfInBounds 0 (.pointer (some ⟨T,0,none⟩))):=by rw[<-hw6];exact hx5.setAt 0 _
    rw[hw6]at k56
    rw[hw6]
    have s6:w6.heap.size=w5.heap.size:=by rw[<-hw6];simp
    have hx7:=hx6.alloc (Obj.cells #[.int .i64 0,.bool false,.bool false] 167)
    obtain⟨o7,ho7⟩:=get_some (cs:=cu.setIfInBounds 0 (.pointer (some ⟨T,0,none⟩))) (i:=7) (by simp[HCZ.out];omega)
    have y7:=hx7.cell ho7
    have z7:=hx7.frozen 7
    have HK56:=hid_of k56
    clear y0 z0 c2 hw6 hx5 k56 ho7
    go_wp2_with fail
    go_ret
    have k67:Kept (·= G) w6 ((w6.alloc (Obj.cells #[.int .i64 0,.bool false,.bool false] 167)).setCell ⟨G,7,none⟩ (.pointer (some ⟨w6.heap.size,0,none⟩))):=(Kept.alloc _ w6 _).setCell (.inl (by rfl)) _
    have kr7:Kept (·= G) wr ((w6.alloc (Obj.cells #[.int .i64 0,.bool false,.bool false] 167)).setCell ⟨G,7,none⟩ (.pointer (some ⟨w6.heap.size,0,none⟩))):=(Kept.of_below hbw5 (X:=(·= G)) (fun b h1 h2=>by omega)).andThen (HK56.out.trans k67) (fun b _ h=>h)
    obtain⟨w8,hw8⟩:∃w8,(w6.alloc (Obj.cells #[.int .i64 0,.bool false,.bool false] 167)).setCell ⟨G,7,none⟩ (.pointer (some ⟨w6.heap.size,0,none⟩))=w8:=⟨_,rfl⟩
    have hx8:BoxAt w8 G 119 ((cu.setIfInBounds 0 (.pointer (some ⟨T,0,none⟩))).setIfInBounds 7 (.pointer (some ⟨w6.heap.size,0,none⟩))):=by rw[<-hw8];exact hx7.setAt 7 _
    have ht8:BoxAt w8 w6.heap.size 167 #[.int .i64 0,.bool false,.bool false]:=by rw[<-hw8];exact(BoxAt.new w6 _ _).far ⟨G,7,none⟩ _ (by show w6.heap.size≠G;omega)
    have s8:w8.heap.size=w6.heap.size+1:=by rw[<-hw8];simp
    rw[hw8]at k67 kr7
    rw[<-s6,hw8]
    have hT8:TaskListAt (fun b=>wr.heap.size<=b/\b < w5.heap.size) w8 T room [t]:=⟨tv,(hT5.kept HK56.out (by omega)).kept k67 (by omega),⟨by omega,hT5.lt⟩,row_kept (row_kept (ownsRow_base hrow5 (Nat.zero_le _)) HK56.out (fun g e h=>by have:=(hrow5.lt g e).1;omega) (Nat.le_refl _)) k67 (fun g e h=>by have:=(hrow5.lt g e).1;omega) (Nat.le_refl _),fun g e=>⟨by have:=(hrow5.lt g e).1;omega,(hrow5.lt g e).2⟩⟩
    obtain⟨part9,g9,xs9,e9,p1,p2,p3,p4⟩:=born_end (base:=w.heap.size) (m5:=w5.heap.size) (tk:=some w6.heap.size) (by omega) hGr (by omega) (by omega) (by omega) hn5 kr7 hx8 (by simp[HCZ.out]) HXL.out HX0.out (fun j x i u hx hu=>by
     cases j with
     |zero=>
      rw[List.getElem?_set_self hxl0]at hx
      cases hx
      match i,hu with
      |0,hu=>cases hu;rw[Array.getElem?_setIfInBounds_ne (by omega),Array.getElem?_setIfInBounds_self_of_lt (hsz 0 (by omega))]
      |7,hu=>cases hu;rw[Array.getElem?_setIfInBounds_self_of_lt (by simp;exact hsz 7 (by omega))];rfl
      |1,hu=>rw[Array.getElem?_setIfInBounds_ne (by omega),Array.getElem?_setIfInBounds_ne (by omega)];exact HXC.out 0 x0 1 u HX0.out (by simpa[xwEnc]using hu)
      |2,hu=>rw[Array.getElem?_setIfInBounds_ne (by omega),Array.getElem?_setIfInBounds_ne (by omega)];exact HXC.out 0 x0 2 u HX0.out (by simpa[xwEnc]using hu)
      |3,hu=>rw[Array.getElem?_setIfInBounds_ne (by omega),Array.getElem?_setIfInBounds_ne (by omega)];exact HXC.out 0 x0 3 u HX0.out (by simpa[xwEnc]using hu)
      |4,hu=>rw[Array.getElem?_setIfInBounds_ne (by omega),Array.getElem?_setIfInBounds_ne (by omega)];exact HXC.out 0 x0 4 u HX0.out (by simpa[xwEnc]using hu)
      |5,hu=>rw[Array.getElem?_setIfInBounds_ne (by omega),Array.getElem?_setIfInBounds_ne (by omega)];exact HXC.out 0 x0 5 u HX0.out (by simpa[xwEnc]using hu)
      |6,hu=>rw[Array.getElem?_setIfInBounds_ne (by omega),Array.getElem?_setIfInBounds_ne (by omega)];exact HXC.out 0 x0 6 u HX0.out (by simpa[xwEnc]using hu)
      |(k+8),hu=>simp[xwEnc]at hu
     |succ j=>
      rw[List.getElem?_set_ne (by omega)]at hx
      rw[Array.getElem?_setIfInBounds_ne (by omega),Array.getElem?_setIfInBounds_ne (by omega)]
      exact HXC.out (j+1) x i u hx hu) hT8 ⟨⟨rfl,HM.out⟩,ht8,by omega,by omega⟩ HPT.out HTL.out
    cases e9
    exact⟨part9,G,xs9,rfl,p1,p2,p3,p4,HBW1.out.trans ((HKW.out.trans kr7).below (by have:=HBW1.out.size;omega) (fun b h=>by omega))⟩
   ·have hmb:(mode==1)=false:=by rw[beq_eq_false_iff_ne];exact hm
    have HM:Hid (mode≠1):=hm
    clear hm
    go_wp2_with (go_at_call 105;refine HNT.out.mono ?_;rintro e w5 ⟨T,tv,rfl,hT5,hT5l,hrow5,hb5⟩;have hx5:=(HBOX.out.below HB4.out hGr).below hb5 (by omega);obtain⟨o0,ho0⟩:=get_some (cs:=cu) (i:=0) (by rw[HCZ.out];omega);have y0:=hx5.cell ho0;have z0:=hx5.frozen 0;have c2:=((HCC.out.below HB4.out HCC.out.lt).below hb5 (by omega)).cell (o:=2) rfl;clear ho0)
    go_ret
    have hbw5:Below wr.heap.size wr w5:=HB4.out.trans (hb5.mono (by omega))
    have hsz5:=hbw5.size
    have k56:Kept (·= G) w5 (w5.setCell ⟨G,0,none⟩ (.pointer (some ⟨T,0,none⟩))):=(Kept.refl _ _).setCell (.inl (by rfl)) _
    obtain⟨w6,hw6⟩:∃w6,w5.setCell ⟨G,0,none⟩ (.pointer (some ⟨T,0,none⟩))=w6:=⟨_,rfl⟩
    have hx6:BoxAt w6 G 119 (cu.setIfInBounds 0 (.pointer (some ⟨T,0,none⟩))):=by rw[<-hw6];exact hx5.setAt 0 _
    rw[hw6]at k56
    rw[hw6]
    have s6:w6.heap.size=w5.heap.size:=by rw[<-hw6];simp
    have kr6:Kept (·= G) wr w6:=(Kept.of_below hbw5 (X:=(·= G)) (fun b h1 h2=>by omega)).andThen k56 (fun b _ h=>h)
    have hT6:TaskListAt (fun b=>wr.heap.size<=b/\b < w5.heap.size) w6 T room [t]:=⟨tv,hT5.kept k56 (by omega),⟨by omega,hT5.lt⟩,row_kept (ownsRow_base hrow5 (Nat.zero_le _)) k56 (fun g e h=>by have:=(hrow5.lt g e).1;omega) (Nat.le_refl _),fun g e=>⟨by have:=(hrow5.lt g e).1;omega,(hrow5.lt g e).2⟩⟩
    have hx0t:=(HTL.out 0 x0 HX0.out).tok
    have htn:x0.tok=none:=by
     cases hq:x0.tok with
     |none=>rfl
     |some q=>rw[hq]at hx0t;exact absurd hx0t.1.1 (by simp)
    obtain⟨part9,g9,xs9,e9,p1,p2,p3,p4⟩:=born_end (base:=w.heap.size) (m5:=w5.heap.size) (T:=T) (tk:=none) (mode:=mode) (by omega) hGr (by omega) (by omega) (by omega) hn5 kr6 hx6 (by simp[HCZ.out]) HXL.out HX0.out (fun j x i u hx hu=>by
     cases j with
     |zero=>
      rw[List.getElem?_set_self hxl0]at hx
      cases hx
      match i,hu with
      |0,hu=>cases hu;rw[Array.getElem?_setIfInBounds_self_of_lt (hsz 0 (by omega))]
      |(k+1),hu=>
       rw[Array.getElem?_setIfInBounds_ne (by omega)]
       refine HXC.out 0 x0 (k+1) u HX0.out ?_
       have e:xwEnc {x0 with T:=T,tok:=none}=(.pointer (some ⟨T,0,none⟩)) :: (xwEnc x0).tail:=by simp[xwEnc,htn]
       rw[e]at hu
       simpa[xwEnc]using hu
     |succ j=>
      rw[List.getElem?_set_ne (by omega)]at hx
      rw[Array.getElem?_setIfInBounds_ne (by omega)]
      exact HXC.out (j+1) x i u hx hu) hT6 (fun e=>absurd e HM.out) HPT.out HTL.out
    cases e9
    exact⟨part9,G,xs9,rfl,p1,p2,p3,p4,HBW1.out.trans ((HKW.out.trans kr6).below (by have:=HBW1.out.size;omega) (fun b h=>by omega))⟩
end Go.Proofs.YtfanaanofjhlkaaGreatDoor
