import Derived.Test.YtfanaanofjhlkaaGreatDoorXMsgs
import Derived.Test.YtfanaanofjhlkaaGreatDoorRefRing
import Derived.Test.YtfanaanofjhlkaaGreatDoorXPass
import Derived.Test.YtfanaanofjhlkaaGreatDoorXThing
import Derived.Test.YtfanaanofjhlkaaGreatDoorKeepTold
import Derived.Test.YtfanaanofjhlkaaGreatDoorXSteal2
import Derived.Test.YtfanaanofjhlkaaGreatDoorXCheck2
namespace Go.Proofs.YtfanaanofjhlkaaGreatDoor
open Go Go.RowKit
theorem eqlMsgs(a:Option Addr)(l c:Nat)(w:World):(binOp .eql 97 (.slice a l c) (.slice none 0 0)).run Tryz.prog w= .ok (.bool a.isNone) w:=run_eql_slice_nil w _ _ a l c Tryz.underlying97
attribute [local go_sem] eqlMsgs
set_option maxHeartbeats 1000000 in
set_option maxRecDepth 100000 in
theorem cloneM_calls(v:Value)(l:List MsgS)(w:World)(hv:ListAt 15 msgEnc w v l)(hl:l.length<=100000000) :
  Calls Tryz.prog 174 #[v] w fun e w'=>∃v',e= .returned v'/\w'.ownsRow w.heap.size 124 15 v' l.length (l.flatMap msgEnc)/\Below w.heap.size w w':=by
 obtain⟨i1,hi1,hy0,hy1,hy2⟩:=info_parts infoMessage
 obtain⟨a,cap,rfl,hc⟩:=hv
 cases a with
 |none=>
  have hl0:l=[]:=by
   cases l with
   |nil=>rfl
   |cons x r=>obtain⟨g,o,e,_⟩:=hc 0 x rfl;cases e
  subst hl0
  go_enter Tryz.func174,Tryz.ntmps174
  go_wp2_with fail
  go_ret
  exact⟨_,rfl,World.ownsRow_nil _ _ _ _,Below.refl _ _⟩
 |some ad=>
  have HN:Hid (∀j u,(l.flatMap msgEnc)[j]?= some u->∃b,(some ad:Option Addr)=some b/\(w.alloc (Obj.cells #[] 124)).cell? (b.add j)=some u):=fun j u hj=>by
   have hlt:j < l.length*15:=by rw[<-flat_length (sz:=15) (enc:=msgEnc) (fun _=>rfl) l];exact(List.getElem?_eq_some_iff.1 hj).1
   obtain⟨x,hx⟩:∃x,l[j / 15]?= some x:=⟨_,List.getElem?_eq_getElem (by omega)⟩
   obtain⟨u',hu'⟩:∃u',(msgEnc x)[j % 15]?= some u':=⟨_,List.getElem?_eq_getElem (by show j % 15 < 15;omega)⟩
   have h1:=flat_get (sz:=15) (enc:=msgEnc) (fun _=>rfl) l _ x _ u' hx hu'
   rw[show j / 15*15+j % 15=j from by omega,hj]at h1
   obtain⟨g,o,e,hg,hcc⟩:=hc _ x hx
   cases e
   have h2:=hcc _ u' hu'
   rw[Nat.add_assoc,show j / 15*15+j % 15=j from by omega]at h2
   cases h1
   have hadd:(⟨g,o,none⟩:Addr).add j=⟨g,o+j,none⟩:=by unfold Addr.add;split<;>simp_all
   exact⟨_,rfl,by rw[hadd];exact cell_alloc _ h2⟩
  have HE:Hid ((w.alloc (Obj.cells #[] 124)).ownsRow w.heap.size 124 15 (.slice (some ⟨w.heap.size,0,none⟩) 0 0) 0 []):=World.ownsRow_lit (base:=w.heap.size) (e:=124) (size:=15) w #[] 0 (Nat.le_refl _) (by unfold maxLen;omega) rfl
  have HL:Hid ((l.flatMap msgEnc).length=l.length*15):=flat_length (sz:=15) (enc:=msgEnc) (fun _=>rfl) l
  clear hc
  go_enter Tryz.func174,Tryz.ntmps174
  go_wp2_with (at_builtin;refine wpList_append_any rfl _ _ _ rfl w.heap.size 124 i1 _ 15 128 Tryz.underlying97 hi1 hy0 hy1 hy2 rfl (by omega) (.slice (some ⟨w.heap.size,0,none⟩) 0 0) 0 [] rfl HE.out (some ad) l.length cap (l.flatMap msgEnc) rfl HL.out HN.out (flat_one msgEnc_one _) (by unfold maxLen;omega) (by omega) (by simp) ?_;intro v3 w3 hown3 hgrow3;rw[Nat.zero_add,List.nil_append]at hown3;obtain⟨a3,c3,rfl⟩:=row_form hown3)
  go_ret
  refine⟨_,rfl,hown3,?_⟩
  exact((Below.refl _ _).alloc (Nat.le_refl _) _).trans ((Kept.grown hgrow3 (X:=fun b=>w.heap.size<=b) (fun r e=>by simp[Value.ownBlock]at e;omega)).below (by simp) (fun _ h=>h))
theorem copyM_calls(v:Value)(l:List MsgS)(w:World)(hv:ListAt 15 msgEnc w v l)(hl:l.length<=100000000) :
  Calls Tryz.prog 119 #[v] w fun e w'=>∃v',e= .returned v'/\w'.ownsRow w.heap.size 124 15 v' l.length (l.flatMap msgEnc)/\Below w.heap.size w w':=by
 have HC:=hid_of (cloneM_calls v l w hv hl)
 clear hv
 go_enter Tryz.func119,Tryz.ntmps119
 go_wp2_with (go_at_call 174;refine HC.out.mono ?_;rintro e w1 ⟨v1,rfl,hrow1,hb1⟩)
 go_ret
 exact⟨_,rfl,hrow1,hb1⟩
theorem inTurn_none(w:World):Calls Tryz.prog 95 #[.slice none 0 0] w fun e w'=>e= .returned (.int .i64 0)/\w=w':=by
 go_enter Tryz.func95,Tryz.ntmps95
 go_wp2_with fail
 go_loopw [8] (fun iv wr=>iv= .int .i64 0/\w=wr) (fun iv _=>0)
 case atStart=>exact⟨rfl,rfl⟩
 case round=>
  obtain⟨rfl,rfl⟩:=hrel
  go_wp2_with fail
  go_ret
  exact⟨rfl,rfl⟩
theorem x_messages_calls(F:Nat->Prop)(B:Nat)(s:RunS)(w:World)(hx:XOK F w B s)(hs:Shaped s) :
  Calls Tryz.prog 56 #[.pointer (some ⟨B,0,none⟩)] w fun e w'=>∃v,e= .returned (.tuple #[v,.int .i64 0])/\w'.ownsRow w.heap.size 124 15 v s.way.length (s.way.flatMap msgEnc)/\Below w.heap.size w w':=by
 obtain⟨part,-,kv,wv,yv,M,xs,h⟩:=hx
 have hL:ListAt 15 msgEnc w yv s.way:=list_of_row (sz:=15) (enc:=msgEnc) (fun _=>rfl) h.yrow.1 rfl
 have HC:=hid_of (copyM_calls yv s.way w hL (by have:=hs.way;omega))
 have HA:Hid (Calls Tryz.prog 45 #[.pointer (some ⟨B,0,none⟩),.slice none 0 0] w fun e w'=>∃r,e= .returned (.int .i64 r)/\(r=0/\w=w')):=ask_calls B (.slice none 0 0) w (fun r w'=>r=0/\w=w') ((inTurn_none w).mono fun e w' h=>⟨0,h.1,rfl,h.2⟩)
 obtain⟨ya,yc,hyf⟩:=row_form h.yrow.1
 subst hyf
 have b4:w.cell? ⟨B,5,none⟩=some (.slice ya s.way.length yc):=h.box.cell (o:=5) rfl
 clear h hL
 go_enter Tryz.func56,Tryz.ntmps56
 go_wp2_with (first
  |(go_at_call 45;refine HA.out.mono ?_;rintro e w4 ⟨r,rfl,rfl,rfl⟩)
  |(go_at_call 119;refine HC.out.mono ?_;rintro e w5 ⟨v5,rfl,hr5,hb5⟩))
 go_ret2
 exact⟨_,rfl,hr5,hb5⟩
end Go.Proofs.YtfanaanofjhlkaaGreatDoor
namespace Go.Proofs.YtfanaanofjhlkaaGreatDoor
open Go Go.RowKit Go.Maps Go.Sort
abbrev idv(v:ByteArray×Int):List UInt8:=v.1.data.toList
theorem mapOfV_snoc(L:List (ByteArray×Int))(v:ByteArray×Int):mapOfV (L++ [v])=(mapOfV L).put (keyL v.1) (elemD v.2):=by simp[mapOfV]
theorem keyV_inj{a b:ByteArray×Int}(h:keyL a.1=keyL b.1):idv a=idv b:=by simpa[keyL,idv]using h
theorem mapV_facts:∀n (l:List (ByteArray×Int)),l.length=n->
  Tidy (mapOfV l)/\(∀s,has (mapOfV l) (.string s)=true ↔ ∃t∈l,idv t=s)/\(l.Pairwise (fun a b=>idv a≠idv b)->∀t∈l,∀z,(mapOfV l).atKey (keyL t.1) z=elemD t.2)
 |0,l,h=>by
  obtain rfl:=List.length_eq_zero_iff.1 h
  exact⟨tidy_empty,fun s=>by simp[mapOfV,has_eq],fun _ t ht=>by cases ht⟩
 |n+1,l,h=>by
  obtain⟨l',t,rfl⟩:∃l' t,l=l'++ [t]:=⟨l.dropLast,l.getLast (by intro e;rw[e]at h;cases h),(List.dropLast_concat_getLast _).symm⟩
  simp at h
  obtain⟨h1,h2,h3⟩:=mapV_facts n l' h
  rw[mapOfV_snoc]
  refine⟨h1.put (keyL_lit _) _,fun s=> ?_,fun hp=> ?_⟩
  ·by_cases hs:idv t=s
   ·subst hs
    have:=has_put_same h1.isMap (keyL_lit t.1) (elemD t.2)
    exact⟨fun _=>⟨t,by simp,rfl⟩,fun _=>this⟩
   ·rw[has_put_other (k:=keyL t.1) (k':= .string s) (by intro e;simp[keyL]at e;exact hs e.symm),h2 s]
    constructor
    ·rintro⟨u,hu,e⟩;exact⟨u,by simp[hu],e⟩
    ·rintro⟨u,hu,e⟩
     rcases List.mem_append.1 hu with hu|hu
     ·exact⟨u,hu,e⟩
     ·simp at hu;subst hu;exact absurd e hs
  ·obtain⟨hp1,_,hp2⟩:=List.pairwise_append.1 hp
   have h5:=h3 hp1
   intro u hu z
   rcases List.mem_append.1 hu with hu|hu
   ·rw[atKey_put_other (by intro e;exact hp2 u hu t (by simp) (keyV_inj e)),h5 u hu]
   ·simp at hu;subst hu;exact atKey_put_same h1.isMap (keyL_lit _) _ _
theorem mapV_keys:∀n (l:List (ByteArray×Int)),l.length=n->∃es,mapOfV l= .map es/\∀p∈es,∃x,p.1= .string x
 |0,l,h=>by
  obtain rfl:=List.length_eq_zero_iff.1 h
  exact⟨[],rfl,fun p hp=>by cases hp⟩
 |n+1,l,h=>by
  obtain⟨l',t,rfl⟩:∃l' t,l=l'++ [t]:=⟨l.dropLast,l.getLast (by intro e;rw[e]at h;cases h),(List.dropLast_concat_getLast _).symm⟩
  simp at h
  obtain⟨es,he,hk⟩:=mapV_keys n l' h
  rw[mapOfV_snoc,he]
  refine⟨_,rfl,fun p hp=> ?_⟩
  rcases mem_insert_or hp with rfl|hp
  ·exact⟨_,rfl⟩
  ·exact hk p (List.mem_filter.1 hp).1
theorem sorted_vals{L vs:List (ByteArray×Int)}(hp:vs.Pairwise (fun a b=>idv a < idv b))(hL:L.Perm vs){ss:List (List UInt8)}(hs:ss.Perm (strKeys (mapOfV L))) :
  ss.length=vs.length/\valCells (mapOfV L) (ss.mergeSort (fun x y=>decide (x<=y)))=vs.flatMap valEnc:=by
 have hne':vs.Pairwise (fun a b=>idv a≠idv b):=hp.imp fun h e=>by rw[e]at h;exact List.lt_irrefl _ h
 have hne:L.Pairwise (fun a b=>idv a≠idv b):=hL.symm.pairwise hne' (fun h e=>h e.symm)
 obtain⟨h1,h2,h3⟩:=mapV_facts _ L rfl
 have h5:=h3 hne
 obtain⟨es,he,hes⟩:=h1
 have hk:∀p∈es,∃x,p.1= .string x:=by
  obtain⟨es',he',hk⟩:=mapV_keys _ L rfl
  rw[he]at he';cases he';exact hk
 have hperm:(L.map idv).Perm (strKeys (mapOfV L)):=by
  rw[he]
  refine perm_strKeys hes hk (List.pairwise_map.2 hne) fun x=> ?_
  rw[<-he,h2 x];simp
 have hsv:ss.Perm (vs.map idv):=(hs.trans hperm.symm).trans (hL.map idv)
 have hsort:ss.mergeSort (fun x y=>decide (x<=y))=vs.map idv:=by
  have e1:=mergeSort_of_perm hsv
  refine e1.trans ?_
  refine List.mergeSort_of_pairwise ?_
  exact List.pairwise_map.2 (hp.imp fun h=>by simpa[leB]using List.le_of_lt h)
 refine⟨by rw[hsv.length_eq];simp,?_⟩
 rw[hsort]
 unfold valCells
 rw[List.flatMap_map]
 refine flatMap_same fun t ht=> ?_
 have:valAt (mapOfV L) (idv t)=t.2:=by
  unfold valAt
  rw[show(Lit.string (idv t))=keyL t.1 from rfl,h5 t (hL.mem_iff.2 ht)];rfl
 rw[this]
 simp[encStr,idv,valEnc]
set_option maxHeartbeats 1000000 in
set_option maxRecDepth 100000 in
theorem x_announced_calls(F:Nat->Prop)(B:Nat)(s:RunS)(w:World)(hx:XOK F w B s)(hv:s.done=true->s.values.Pairwise (fun a b=>idv a < idv b)/\s.values.length<=90000000) :
  Calls Tryz.prog 20 #[.pointer (some ⟨B,0,none⟩)] w fun e w'=>∃v,e= .returned (.tuple #[v,.bool s.done,.int .i64 0])/\w'.ownsRow w.heap.size 92 2 v (announcedS s).length ((announcedS s).flatMap valEnc)/\Below w.heap.size w w':=by
 obtain⟨part,-,kv,wv,yv,M,xs,h⟩:=hx
 have HA:Hid (Calls Tryz.prog 45 #[.pointer (some ⟨B,0,none⟩),.slice none 0 0] w fun e w'=>∃r,e= .returned (.int .i64 r)/\(r=0/\w=w')):=ask_calls B (.slice none 0 0) w (fun r w'=>r=0/\w=w') ((inTurn_none w).mono fun e w' h=>⟨0,h.1,rfl,h.2⟩)
 have c6:w.cell? ⟨B,6,none⟩=some (.map (some M)):=h.box.cell (o:=6) rfl
 have c15:w.cell? ⟨B,15,none⟩=some (.bool s.done):=h.box.cell (o:=15) rfl
 obtain⟨D,hm,-,hk⟩:=h.vals
 clear h
 cases hd:s.done
 ·rw[hd]at c15
  have e0:announcedS s=[]:=by simp[announcedS,hd]
  rw[e0]
  clear hm hk hv hd
  go_enter Tryz.func20,Tryz.ntmps20
  go_wp2_with (go_at_call 45;refine HA.out.mono ?_;rintro e w1 ⟨r,rfl,rfl,rfl⟩)
  refine bodyPost_ret (v:= .tuple #[.slice none 0 0,.bool false,.int .i64 0]) (by simp[results,Tryz.results20,go_sem]) rfl ?_
  exact⟨_,rfl,World.ownsRow_nil _ _ _ _,Below.refl _ _⟩
 ·rw[hd]at c15
  obtain⟨hv1,hv2⟩:=hv hd
  have e0:announcedS s=s.values:=by simp[announcedS,hd]
  rw[e0]
  obtain⟨L,rfl,hL⟩:=hk.of
  have HL:Hid (Calls Tryz.prog 46 #[.map (some M)] w fun e w'=>∃v,e= .returned v/\w'.ownsRow w.heap.size 92 2 v s.values.length (s.values.flatMap valEnc)/\Below w.heap.size w w'):=by
   refine(list_calls M (mapOfV L) w hm (by have:=hk.size;omega)).mono ?_
   rintro e w' ⟨ss,hss,rfl,hrow,hb⟩
   obtain⟨q1,q2⟩:=sorted_vals hv1 hL hss
   rw[q2,q1]at hrow
   exact⟨_,by rw[q1],hrow,hb⟩
  clear hm hk hv hd hv1
  go_enter Tryz.func20,Tryz.ntmps20
  go_wp2_with (first
   |(go_at_call 45;refine HA.out.mono ?_;rintro e w1 ⟨r,rfl,rfl,rfl⟩)
   |(go_at_call 46;refine HL.out.mono ?_;rintro e w2 ⟨v2,rfl,hrow2,hb2⟩))
  refine bodyPost_ret (v:= .tuple #[v2,.bool true,.int .i64 0]) (by simp[results,Tryz.results20,go_sem]) rfl ?_
  exact⟨_,rfl,hrow2,hb2⟩
end Go.Proofs.YtfanaanofjhlkaaGreatDoor
namespace Go.Proofs.YtfanaanofjhlkaaGreatDoor
open Go Go.RowKit
theorem x_tick_calls(F:Nat->Prop)(B N:Nat)(s:RunS)(i:Int)(w:World)(hx:XOK F w B s)(hf:Fits s)(hs:Shaped s)(hN:Small N s)(hN':N<=90000000) :
  Calls Tryz.prog 40 #[.pointer (some ⟨B,0,none⟩),.int .i64 i] w (XGives F w B (tickS s i)):=by
 refine tick_opens (some ⟨B,0,none⟩) i w _ (fun W1 W2 W3 h1 h2 h3=> ?_)
 have g1:=held2_below w (some ⟨B,0,none⟩) i
 have g2:=held2_below W1 (some ⟨B,0,none⟩) i
 have a1:=held2_at w B i
 have a2:=held2_at W1 B i
 rw[h1]at g1 a1
 rw[h2]at g2 a2
 have g3:Below W2.heap.size W2 W3:=by rw[<-h3];exact(Below.refl _ _).alloc (Nat.le_refl _) _
 have bL:BoxAt W3 W2.heap.size 94 (([stepW 110 w]++ [stepH 151 W1]).map stepVal).toArray:=by rw[<-h3];exact BoxAt.new W2 _ _
 have z1:=g1.size
 have z2:=g2.size
 have k2:Below W1.heap.size W1 W3:=g2.trans (g3.mono z2)
 have hb:Below w.heap.size w W3:=g1.trans (k2.mono z1)
 have c1:=a1.below k2
 have c2:=a2.below g3
 clear a1 a2 h1 h2 h3 g1 g2 k2
 have hlow:=hx.low
 refine(change_tests F B W2.heap.size s W3 (hx.later hb) [stepW 110 w] [if i < 0\/s.workers<=i then 7 else 0] (stepH 151 W1) (tickS s i) w hb hx (by simp) (by simp) 94 bL ?over ?enter ?test ?bad ?last).mono (fun e w' h=>⟨⟨_,h.1⟩,h⟩)
 case over=>
  intro ho
  simp[tickS,workerE_halt ho,ho]
 case enter=>
  intro f hf' args W
  simp at hf'
  rcases hf' with rfl|rfl
  ·exact enters_of Tryz.func110 (by kernel_rfl) rfl args W
  ·exact enters_of Tryz.func151 (by kernel_rfl) rfl args W
 case test=>
  intro hd ho j f e hj he hp W hW
  match j,hj,he with
  |0,hj,he=>cases hj;cases he;exact isWorker1_calls F B _ _ s i W ((hx.later hb).later hW) hf (c1.below hW)
  |(n+1),hj,he=>simp at hj
 case bad=>
  intro hd ho j e he hne hp
  have wi:=workerE_run hd ho i
  match j,he with
  |0,he=>cases he;simp only[tickS,wi,if_pos hne]
  |(n+1),he=>simp at he
 case last=>
  intro hd ho hp W hW
  have p0:=hp 0 _ (by simp) rfl
  have wi:=workerE_run hd ho i
  rw[p0]at wi
  have hv:=if_zero (by omega) p0
  have hlen:=hs.len
  obtain⟨k,rfl⟩:=Int.eq_ofNat_of_zero_le (show 0<=i by omega)
  have hkl:k < s.W.length:=by omega
  obtain⟨ls,l,hls,-⟩:=hs.link hkl hkl
  have hmem:=List.mem_of_getElem? hls
  have hres:tickS s (k:Int)=(ls.foldl againS s,0):=by simp[tickS,wi,hls]
  rw[hres]
  have hbW:Below w.heap.size w W:=hb.trans (hW.mono hb.size)
  exact sendAgain1_calls _ B _ _ k s ls W (hlow.later hbW) hls (fun l hl=>hN.known ls hmem l hl) (fun l hl=>by have:=hN.all ls hmem l hl;omega) hs.way (c2.below hW) ⟨fun h=>by omega,fun h=>by omega⟩
theorem deliverS_ack{s:RunS}{k i j:Nat}{m:MsgS}(he:messageE s (k:Int)=0)(hm:s.way[k]?= some m)(hk:m.kind=0)(hs:m.src=i)(hd:m.dst=j):deliverS s (k:Int)=(setLink {s with way:=s.way.take k++s.way.drop (k+1)} j i (ackS (linkOf {s with way:=s.way.take k++s.way.drop (k+1)} j i) m.no),0)\/deliverS s (k:Int)=({s with way:=s.way.take k++s.way.drop (k+1)},0)/\ackS (linkOf {s with way:=s.way.take k++s.way.drop (k+1)} j i) m.no=linkOf {s with way:=s.way.take k++s.way.drop (k+1)} j i:=by
 unfold deliverS ackS
 rw[if_neg (by rw[he];simp)]
 dsimp only
 rw[Int.toNat_natCast,hm,Option.getD_some,if_pos hk,hs,hd,Int.toNat_natCast,Int.toNat_natCast]
 by_cases h:(linkOf {s with way:=s.way.take k++s.way.drop (k+1)} j i).known < m.no
 ·rw[if_pos h,if_pos h];exact .inl rfl
 ·rw[if_neg h,if_neg h];exact .inr ⟨rfl,rfl⟩
theorem deliverS_thing{s:RunS}{k i j:Nat}{m:MsgS}(he:messageE s (k:Int)=0)(hm:s.way[k]?= some m)(hk:m.kind≠0)(hs:m.src=i)(hd:m.dst=j):deliverS s (k:Int)=(wayS (thingS {s with way:=s.way.take k++s.way.drop (k+1)} i j m) {msg0 with src:=(j:Int),dst:=(i:Int),kind:=0,no:=(linkOf (thingS {s with way:=s.way.take k++s.way.drop (k+1)} i j m) i j).came},0):=by
 unfold deliverS thingS
 rw[if_neg (by rw[he];simp)]
 dsimp only
 rw[Int.toNat_natCast,hm,Option.getD_some,if_neg hk,hs,hd,Int.toNat_natCast,Int.toNat_natCast]
theorem setLink_same{s:RunS}{i j:Nat}(hl:s.links.length=s.W.length)(hr:∀ls∈s.links,ls.length=s.W.length)(hi:i < s.W.length)(hj:j < s.W.length):setLink s i j (linkOf s i j)=s:=by
 unfold setLink linkOf
 have hl':i < s.links.length:=by rw[hl];exact hi
 have hr':=hr _ (List.getElem_mem hl')
 rw[List.getElem?_eq_getElem hl']
 have hj':j < s.links[i].length:=by omega
 simp[List.getElem?_eq_getElem hj']
set_option maxHeartbeats 2000000 in
set_option maxRecDepth 100000 in
theorem deliver1_calls(F:Nat->Prop)(B Br Bw k:Nat)(m:MsgS)(N:Nat)(s:RunS)(w:World)(hx:XOK F w B s)(hf:Fine N s)(hN:N+5<=90000000)(hc:Calm s)(he:messageE s (k:Int)=0)(hm:s.way[k]?= some m)(hh:HeldAt w Br Bw B k)(hF:¬F Br/\¬F Bw) :
  Calls Tryz.prog 156 #[.pointer (some ⟨Br,0,none⟩),.pointer (some ⟨Bw,0,none⟩)] w (XGives F w B (deliverS s (k:Int))):=by
 obtain⟨part,hpF,kv,wv,yv,M,xs,h⟩:=hx
 have hw:=hf.ways m (List.mem_of_getElem? hm)
 have h60:=hf.w60
 obtain⟨i,hi⟩:∃i:Nat,m.src=(i:Int):=⟨m.src.toNat,by have:=hw.src;omega⟩
 obtain⟨j,hj⟩:∃j:Nat,m.dst=(j:Int):=⟨m.dst.toNat,by have:=hw.dst;omega⟩
 have hil:i < s.W.length:=by have:=hw.src;have:=hf.len;omega
 have hjl:j < s.W.length:=by have:=hw.dst;have:=hf.len;omega
 have hne:i≠j:=fun e=>hc.way m (List.mem_of_getElem? hm) (by rw[hi,hj,e])
 have hA:ArriveAt N {s with way:=s.way.take k++s.way.drop (k+1)} i j m:=⟨hf.unway k,hN,hc.unway k,hi,hj,hil,hjl,hne⟩
 have r0:=hh.1.cell (o:=0) rfl
 have i0:=hh.2.cell (o:=0) rfl
 have hpr:part Br=0:=by
  rcases Nat.eq_zero_or_pos (part Br)with h|h
  ·exact h
  ·exact absurd (hpF Br (by omega)) hF.1
 have HTK:Hid (∀U,Below w.heap.size w U->Calls Tryz.prog 158 #[.pointer (some ⟨B,5,none⟩),.int .i64 (k:Int)] U fun e w'=>∃v,e= .returned v/\(v= .agg (msgCells m)/\∃part' yv',XAtO part' w' B {s with way:=s.way.take k++s.way.drop (k+1)} kv wv yv' M xs/\XMoved part part' w w'/\w'.cell? ⟨Br,0,none⟩=some (.pointer (some ⟨B,0,none⟩)))):=fun U hU=>by
  obtain⟨h2,hm2⟩:=h.later hU
  refine(take_x k m h2 hm (by omega)).mono ?_
  rintro e w' ⟨v,rfl,rfl,part',yv',h3,hm3⟩
  have hmv:=hm2.trans hm3
  exact⟨_,rfl,rfl,part',yv',h3,hmv,(hmv.kept.cell (p:=⟨Br,0,none⟩) hh.1.lt (fun h=>h hpr)).trans r0⟩
 have HAR:Hid (∀(U:World) (part1:Nat->Nat) (yv1:Value),XAtO part1 U B {s with way:=s.way.take k++s.way.drop (k+1)} kv wv yv1 M xs->XMoved part part1 w U->Calls Tryz.prog 157 #[.pointer (some ⟨B,0,none⟩),.agg (msgCells m)] U fun e w'=>∃v,e= .returned v/\(v= .tuple #[]/\XGives F w B (deliverS s (k:Int)) (.returned (.int .i64 0)) w')):=fun U part1 yv1 h1 hm1=>by
  have fin:∀(r:RunS) (w':World) (part':Nat->Nat) (yv':Value) (xs':List XW),deliverS s (k:Int)=(r,0)->XAtO part' w' B r kv wv yv' M xs'->Moved part part' w w'->XGives F w B (deliverS s (k:Int)) (.returned (.int .i64 0)) w':=fun r w' part' yv' xs' e h2 hm2=>by
   obtain⟨h5,h6⟩:=hm2.okX h2 hpF
   rw[e]
   exact⟨rfl,h5,h6⟩
  by_cases hk:m.kind=0
  ·refine(arriveAck_x m i j h1 hA hk).mono ?_
   rintro e w' ⟨v,rfl,rfl,part',yv',xs',h2,hm2⟩
   refine⟨_,rfl,rfl,?_⟩
   rcases deliverS_ack he hm hk hi hj with e|⟨e,e2⟩
   ·exact fin _ w' part' yv' xs' e h2 (hm1.base.trans hm2)
   ·rw[e2,setLink_same hA.fine.llen hA.fine.lrow hA.hj hA.hi]at h2
    exact fin _ w' part' yv' xs' e h2 (hm1.base.trans hm2)
  ·obtain⟨n,hn,hn2⟩:=hw.sent hk
   rw[hi,hj,Int.toNat_natCast,Int.toNat_natCast]at hn2
   refine(arriveThing_x m i j h1 hA hk ⟨by omega,by
    have e:(m.no - 1).toNat=n:=by omega
    rw[e]
    exact hn2⟩).mono ?_
   rintro e w' ⟨v,rfl,rfl,part',yv',xs',h2,hm2⟩
   exact⟨_,rfl,rfl,fin _ w' part' yv' xs' (deliverS_thing he hm hk hi hj) h2 (hm1.base.trans hm2)⟩
 clear h hh hA
 go_enter Tryz.func156,Tryz.ntmps156
 go_upto_region 1 with fail
 go_region_law (first
  |(refine step_call2 (by rfl) 158 _ _ _ (by rfl) (.pointer (some ⟨B,5,none⟩)) (.int .i64 (k:Int)) (by rfl) (by rfl) (enters_of Tryz.func158 (by kernel_rfl) rfl) (HTK.out _ (by first|exact Below.refl _ _|exact(Below.refl _ _).drew)) ?_;rintro v8 w8 ⟨rfl,part8,yv8,h8,hm8,r8⟩;have H8:=hid_of h8;have HM8:=hid_of hm8;clear h8 hm8)
  |(refine step_call2 (by rfl) 157 _ _ _ (by rfl) (.pointer (some ⟨B,0,none⟩)) (.agg (msgCells m)) (by rfl) (by rfl) (enters_of Tryz.func157 (by kernel_rfl) rfl) (HAR.out _ part8 yv8 H8.out HM8.out) ?_;rintro v9 w9 ⟨rfl,hres⟩;have HRES:=hid_of hres;clear hres))
 all_goals
  go_wp2_with fail
  go_ret
  exact HRES.out
theorem deliverMk_calls(rp:Option Addr)(i:Int)(w:World):Calls Tryz.prog 91 #[.pointer rp,.int .i64 i] w fun e w'=>e= .returned (.func (.func 156) #[] #[.pointer (some ⟨w.heap.size,0,none⟩),.pointer (some ⟨w.heap.size+1,0,none⟩)])/\w'=held2 w rp i:=by
 go_enter Tryz.func91,Tryz.ntmps91
 go_wp2_with fail
 go_ret
 exact⟨rfl,rfl⟩
set_option maxHeartbeats 2000000 in
set_option maxRecDepth 100000 in
theorem deliver_opens(rp:Option Addr)(i:Int)(w:World)(R:Ending->World->Prop)
  (h:∀W1 W2 W3,held2 w rp i=W1->held2 W1 rp i=W2->W2.alloc (Obj.cells (([stepH 154 w]++ [stepH 156 W1]).map stepVal).toArray 94)=W3->Calls Tryz.prog 42 #[.pointer rp,.slice (some ⟨W2.heap.size,0,none⟩) 2 2] W3 fun e w'=>(∃r,e= .returned (.int .i64 r))/\R e w') :
  Calls Tryz.prog 41 #[.pointer rp,.int .i64 i] w R:=by
 obtain⟨W1,h1⟩:∃W1,held2 w rp i=W1:=⟨_,rfl⟩
 obtain⟨W2,h2⟩:∃W2,held2 W1 rp i=W2:=⟨_,rfl⟩
 obtain⟨W3,h3⟩:∃W3,W2.alloc (Obj.cells (([stepH 154 w]++ [stepH 156 W1]).map stepVal).toArray 94)=W3:=⟨_,rfl⟩
 have HC:=hid_of (h W1 W2 W3 h1 h2 h3)
 have H1:=hid_of h1
 have H2:=hid_of h2
 have H3:=hid_of h3
 clear h h1 h2 h3
 go_enter Tryz.func41,Tryz.ntmps41
 go_wp2_with (first
  |(go_at_call 90;refine(isMessage_calls rp i w).mono ?_;rintro e a1 ⟨rfl,hq⟩;obtain rfl:W1=a1:=H1.out.symm.trans hq.symm;clear hq)
  |(go_at_call 91;refine(deliverMk_calls rp i W1).mono ?_;rintro e a1 ⟨rfl,hq⟩;obtain rfl:W2=a1:=H2.out.symm.trans hq.symm;clear hq)
  |(go_at_call 42;refine Calls.at_world H3.out ?_;refine HC.out.mono ?_;rintro e a7 ⟨⟨r,rfl⟩,hr⟩))
 exact hr
theorem x_deliver_calls(F:Nat->Prop)(B N:Nat)(s:RunS)(i:Int)(w:World)(hx:XOK F w B s)(hf:Fine N s)(hN:N+5<=90000000)(hc:Calm s) :
  Calls Tryz.prog 41 #[.pointer (some ⟨B,0,none⟩),.int .i64 i] w (XGives F w B (deliverS s i)):=by
 refine deliver_opens (some ⟨B,0,none⟩) i w _ (fun W1 W2 W3 h1 h2 h3=> ?_)
 have g1:=held2_below w (some ⟨B,0,none⟩) i
 have g2:=held2_below W1 (some ⟨B,0,none⟩) i
 have a1:=held2_at w B i
 have a2:=held2_at W1 B i
 rw[h1]at g1 a1
 rw[h2]at g2 a2
 have g3:Below W2.heap.size W2 W3:=by rw[<-h3];exact(Below.refl _ _).alloc (Nat.le_refl _) _
 have bL:BoxAt W3 W2.heap.size 94 (([stepH 154 w]++ [stepH 156 W1]).map stepVal).toArray:=by rw[<-h3];exact BoxAt.new W2 _ _
 have z1:=g1.size
 have z2:=g2.size
 have k2:Below W1.heap.size W1 W3:=g2.trans (g3.mono z2)
 have hb:Below w.heap.size w W3:=g1.trans (k2.mono z1)
 have c1:=a1.below k2
 have c2:=a2.below g3
 clear a1 a2 h1 h2 h3 g1 g2 k2
 have hlow:=hx.low
 refine(change_tests F B W2.heap.size s W3 (hx.later hb) [stepH 154 w] [if i < 0\/(s.way.length:Int)<=i then 10 else 0] (stepH 156 W1) (deliverS s i) w hb hx (by simp) (by simp) 94 bL ?over ?enter ?test ?bad ?last).mono (fun e w' h=>⟨⟨_,h.1⟩,h⟩)
 case over=>
  intro ho
  simp[deliverS,messageE_halt ho,ho]
 case enter=>
  intro f hf' args W
  simp at hf'
  rcases hf' with rfl|rfl
  ·exact enters_of Tryz.func154 (by kernel_rfl) rfl args W
  ·exact enters_of Tryz.func156 (by kernel_rfl) rfl args W
 case test=>
  intro hd ho j f e hj he hp W hW
  match j,hj,he with
  |0,hj,he=>cases hj;cases he;exact isMessage1_calls F B _ _ s i W ((hx.later hb).later hW) (c1.below hW)
  |(n+1),hj,he=>simp at hj
 case bad=>
  intro hd ho j e he hne hp
  have wi:=messageE_run hd ho i
  match j,he with
  |0,he=>cases he;simp only[deliverS,wi,if_pos hne]
  |(n+1),he=>simp at he
 case last=>
  intro hd ho hp W hW
  have p0:=hp 0 _ (by simp) rfl
  have wi:=messageE_run hd ho i
  rw[p0]at wi
  obtain⟨q0,q1⟩:=messageE_in wi
  obtain⟨k,rfl⟩:=Int.eq_ofNat_of_zero_le q0
  obtain⟨m,hm⟩:∃m,s.way[k]?= some m:=⟨_,List.getElem?_eq_getElem (by omega)⟩
  have hbW:Below w.heap.size w W:=hb.trans (hW.mono hb.size)
  have h9:=deliver1_calls (fun b=>F b/\b < w.heap.size) B _ _ k m N s W (hlow.later hbW) hf hN hc wi hm (c2.below hW) ⟨fun h=>by omega,fun h=>by omega⟩
  exact h9
theorem told_sorted{N:Nat}{s:RunS}{did:List ByteArray}(hW:Whole N s)(hp:Play did s)(hd:s.done=true):s.values.Pairwise (fun a b=>idv a < idv b):=by
 rw[(hp.announced hW.fine hd).1]
 unfold pairsOf
 exact List.pairwise_map.2 (all_order hW.fine.prog)
theorem Whole.toks{N:Nat}{s:RunS}(hW:Whole N s)(hN:N<=90000000):∀x∈s.W,-100000000000000000<=x.token.count/\x.token.count<=100000000000000000:=fun x hx=>by
 have:=(hW.fine.works x hx).tok
 omega
theorem runCalls:RunCalls where
 tasks:=fun F B N s i w hx hW=>x_tasks_calls F B s i w hx hW.steady.fits
 messages:=fun F B N s w hx hW=>x_messages_calls F B s w hx hW.fine.shaped
 announced:=fun F B N did s w hx hW hN hp=>by
  refine(x_announced_calls F B s w hx (fun hd=>⟨told_sorted hW hp hd,by have:=hW.fine.vals;omega⟩)).mono fun e w' h=> ?_
  exact h
 work:=fun F B N s i w hx hW hN=>x_work_calls F B N s i w hx hW.steady.fits hW.fine.shaped hW.fine.small (by omega) hW.fine.known (by have:=hW.fine.vals;omega)
 steal:=fun F B N s i v w hx hW hN=>x_steal_calls F B N s i v w hx hW.steady.fits hW.fine.shaped hW.fine.small (by omega) hW.fine.known
 drop:=fun F B N s i w hx hW hN=>x_drop_calls F B s i w hx hW.fine.shaped
 twice:=fun F B N s i w hx hW hN=>x_twice_calls F B s i w hx hW.fine.shaped
 tick:=fun F B N s i w hx hW hN=>x_tick_calls F B N s i w hx hW.steady.fits hW.fine.shaped hW.fine.small (by omega)
 deliver:=fun F B N s i w hx hW hN=>x_deliver_calls F B N s i w hx hW.fine (by omega) hW.calm
 pass:=fun F B N s i w hx hW hN=>x_pass_calls F B N s i w hx hW.steady.fits hW.fine.shaped hW.fine.small (by omega) hW.fine.known (hW.toks (by omega))
 check:=fun F B N s w hx hW hN=>x_check_calls F B N s w hx ⟨hW.fine.shaped,hW.fine.small,by omega,hW.fine.known,hW.toks (by omega),by have:=hW.fine.alen;omega,fun L b e=>by have:=hW.sure.waves.many L b e;omega⟩
end Go.Proofs.YtfanaanofjhlkaaGreatDoor
