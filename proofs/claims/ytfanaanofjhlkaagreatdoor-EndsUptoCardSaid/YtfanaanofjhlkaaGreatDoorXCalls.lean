import Derived.Test.YtfanaanofjhlkaaGreatDoorXMsgs
import Derived.Test.YtfanaanofjhlkaaGreatDoorRefRing
import Derived.Test.YtfanaanofjhlkaaGreatDoorXTick
import Derived.Test.YtfanaanofjhlkaaGreatDoorXRound
import Derived.Test.YtfanaanofjhlkaaGreatDoorRefCheck
import Derived.Test.YtfanaanofjhlkaaGreatDoorXPass2
import Derived.Test.YtfanaanofjhlkaaGreatDoorKeepTold
import Derived.Test.YtfanaanofjhlkaaGreatDoorXSteal2
namespace Go.Proofs.YtfanaanofjhlkaaGreatDoor
open Go Go.RowKit
theorem eqlMsgs(a:Option Addr)(l c:Nat)(w:World):(binOp .eql 97 (.slice a l c) (.slice none 0 0)).run Tryz.prog w= .ok (.bool a.isNone) w:=run_eql_slice_nil w _ _ a l c Tryz.underlying97
attribute [local go_sem] eqlMsgs
set_option maxHeartbeats 1000000 in
set_option maxRecDepth 100000 in
theorem cloneM_calls(v:Value)(l:List MsgS)(w:World)(hv:ListAt 15 msgEnc w v l)(hl:l.length<=100000000) :
  Calls Tryz.prog 174 #[v] w fun e w'=>∃v',e= .returned v'/\w'.ownsRow w.heap.size 124 15 v' l.length (l.flatMap msgEnc)/\Below w.heap.size w w':=by
 obtain⟨i1,hi1,hy0,hy1,hy2⟩:=info_parts infoMessage
 obtain⟨a,cap,rfl,hc⟩:=hv
 cases a with
 |none=>
  have hl0:l=[]:=by
   cases l with
   |nil=>rfl
   |cons x r=>obtain⟨g,o,e,_⟩:=hc 0 x rfl;cases e
  subst hl0
  go_enter Tryz.func174,Tryz.ntmps174
  go_wp2_with fail
  go_ret
  exact⟨_,rfl,World.ownsRow_nil _ _ _ _,Below.refl _ _⟩
 |some ad=>
  have HN:Hid (∀j u,(l.flatMap msgEnc)[j]?= some u->∃b,(some ad:Option Addr)=some b/\(w.alloc (Obj.cells #[] 124)).cell? (b.add j)=some u):=fun j u hj=>by
   have hlt:j < l.length*15:=by rw[<-flat_length (sz:=15) (enc:=msgEnc) (fun _=>rfl) l];exact(List.getElem?_eq_some_iff.1 hj).1
   obtain⟨x,hx⟩:∃x,l[j / 15]?= some x:=⟨_,List.getElem?_eq_getElem (by omega)⟩
   obtain⟨u',hu'⟩:∃u',(msgEnc x)[j % 15]?= some u':=⟨_,List.getElem?_eq_getElem (by show j % 15 < 15;omega)⟩
   have h1:=flat_get (sz:=15) (enc:=msgEnc) (fun _=>rfl) l _ x _ u' hx hu'
   rw[show j / 15*15+j % 15=j from by omega,hj]at h1
   obtain⟨g,o,e,hg,hcc⟩:=hc _ x hx
   cases e
   have h2:=hcc _ u' hu'
   rw[Nat.add_assoc,show j / 15*15+j % 15=j from by omega]at h2
   cases h1
   have hadd:(⟨g,o,none⟩:Addr).add j=⟨g,o+j,none⟩:=by unfold Addr.add;split<;>simp_all
   exact⟨_,rfl,by rw[hadd];exact cell_alloc _ h2⟩
  have HE:Hid ((w.alloc (Obj.cells #[] 124)).ownsRow w.heap.size 124 15 (.slice (some ⟨w.heap.size,0,none⟩) 0 0) 0 []):=World.ownsRow_lit (base:=w.heap.size) (e:=124) (size:=15) w #[] 0 (Nat.le_refl _) (by unfold maxLen;omega) rfl
  have HL:Hid ((l.flatMap msgEnc).length=l.length*15):=flat_length (sz:=15) (enc:=msgEnc) (fun _=>rfl) l
  clear hc
  go_enter Tryz.func174,Tryz.ntmps174
  go_wp2_with (at_builtin;refine wpList_append_any rfl _ _ _ rfl w.heap.size 124 i1 _ 15 128 Tryz.underlying97 hi1 hy0 hy1 hy2 rfl (by omega) (.slice (some ⟨w.heap.size,0,none⟩) 0 0) 0 [] rfl HE.out (some ad) l.length cap (l.flatMap msgEnc) rfl HL.out HN.out (flat_one msgEnc_one _) (by unfold maxLen;omega) (by omega) (by simp) ?_;intro v3 w3 hown3 hgrow3;rw[Nat.zero_add,List.nil_append]at hown3;obtain⟨a3,c3,rfl⟩:=row_form hown3)
  go_ret
  refine⟨_,rfl,hown3,?_⟩
  exact((Below.refl _ _).alloc (Nat.le_refl _) _).trans ((Kept.grown hgrow3 (X:=fun b=>w.heap.size<=b) (fun r e=>by simp[Value.ownBlock]at e;omega)).below (by simp) (fun _ h=>h))
theorem copyM_calls(v:Value)(l:List MsgS)(w:World)(hv:ListAt 15 msgEnc w v l)(hl:l.length<=100000000) :
  Calls Tryz.prog 119 #[v] w fun e w'=>∃v',e= .returned v'/\w'.ownsRow w.heap.size 124 15 v' l.length (l.flatMap msgEnc)/\Below w.heap.size w w':=by
 have HC:=hid_of (cloneM_calls v l w hv hl)
 clear hv
 go_enter Tryz.func119,Tryz.ntmps119
 go_wp2_with (go_at_call 174;refine HC.out.mono ?_;rintro e w1 ⟨v1,rfl,hrow1,hb1⟩)
 go_ret
 exact⟨_,rfl,hrow1,hb1⟩
theorem inTurn_none(w:World):Calls Tryz.prog 95 #[.slice none 0 0] w fun e w'=>e= .returned (.int .i64 0)/\w=w':=by
 go_enter Tryz.func95,Tryz.ntmps95
 go_wp2_with fail
 go_loopw [8] (fun iv wr=>iv= .int .i64 0/\w=wr) (fun iv _=>0)
 case atStart=>exact⟨rfl,rfl⟩
 case round=>
  obtain⟨rfl,rfl⟩:=hrel
  go_wp2_with fail
  go_ret
  exact⟨rfl,rfl⟩
theorem x_messages_calls(F:Nat->Prop)(B:Nat)(s:RunS)(w:World)(hx:XOK F w B s)(hs:Shaped s) :
  Calls Tryz.prog 56 #[.pointer (some ⟨B,0,none⟩)] w fun e w'=>∃v,e= .returned (.tuple #[v,.int .i64 0])/\w'.ownsRow w.heap.size 124 15 v s.way.length (s.way.flatMap msgEnc)/\Below w.heap.size w w':=by
 obtain⟨part,-,kv,wv,yv,M,xs,h⟩:=hx
 have hL:ListAt 15 msgEnc w yv s.way:=list_of_row (sz:=15) (enc:=msgEnc) (fun _=>rfl) h.yrow.1 rfl
 have HC:=hid_of (copyM_calls yv s.way w hL (by have:=hs.way;omega))
 have HA:Hid (Calls Tryz.prog 45 #[.pointer (some ⟨B,0,none⟩),.slice none 0 0] w fun e w'=>∃r,e= .returned (.int .i64 r)/\(r=0/\w=w')):=ask_calls B (.slice none 0 0) w (fun r w'=>r=0/\w=w') ((inTurn_none w).mono fun e w' h=>⟨0,h.1,rfl,h.2⟩)
 obtain⟨ya,yc,hyf⟩:=row_form h.yrow.1
 subst hyf
 have b4:w.cell? ⟨B,5,none⟩=some (.slice ya s.way.length yc):=h.box.cell (o:=5) rfl
 clear h hL
 go_enter Tryz.func56,Tryz.ntmps56
 go_wp2_with (first
  |(go_at_call 45;refine HA.out.mono ?_;rintro e w4 ⟨r,rfl,rfl,rfl⟩)
  |(go_at_call 119;refine HC.out.mono ?_;rintro e w5 ⟨v5,rfl,hr5,hb5⟩))
 go_ret2
 exact⟨_,rfl,hr5,hb5⟩
end Go.Proofs.YtfanaanofjhlkaaGreatDoor
namespace Go.Proofs.YtfanaanofjhlkaaGreatDoor
open Go Go.RowKit Go.Maps Go.Sort
abbrev idv(v:ByteArray×Int):List UInt8:=v.1.data.toList
theorem mapOfV_snoc(L:List (ByteArray×Int))(v:ByteArray×Int):mapOfV (L++ [v])=(mapOfV L).put (keyL v.1) (elemD v.2):=by simp[mapOfV]
theorem keyV_inj{a b:ByteArray×Int}(h:keyL a.1=keyL b.1):idv a=idv b:=by simpa[keyL,idv]using h
theorem mapV_facts:∀n (l:List (ByteArray×Int)),l.length=n->
  Tidy (mapOfV l)/\(∀s,has (mapOfV l) (.string s)=true ↔ ∃t∈l,idv t=s)/\(l.Pairwise (fun a b=>idv a≠idv b)->∀t∈l,∀z,(mapOfV l).atKey (keyL t.1) z=elemD t.2)
 |0,l,h=>by
  obtain rfl:=List.length_eq_zero_iff.1 h
  exact⟨tidy_empty,fun s=>by simp[mapOfV,has_eq],fun _ t ht=>by cases ht⟩
 |n+1,l,h=>by
  obtain⟨l',t,rfl⟩:∃l' t,l=l'++ [t]:=⟨l.dropLast,l.getLast (by intro e;rw[e]at h;cases h),(List.dropLast_concat_getLast _).symm⟩
  simp at h
  obtain⟨h1,h2,h3⟩:=mapV_facts n l' h
  rw[mapOfV_snoc]
  refine⟨h1.put (keyL_lit _) _,fun s=> ?_,fun hp=> ?_⟩
  ·by_cases hs:idv t=s
   ·subst hs
    have:=has_put_same h1.isMap (keyL_lit t.1) (elemD t.2)
    exact⟨fun _=>⟨t,by simp,rfl⟩,fun _=>this⟩
   ·rw[has_put_other (k:=keyL t.1) (k':= .string s) (by intro e;simp[keyL]at e;exact hs e.symm),h2 s]
    constructor
    ·rintro⟨u,hu,e⟩;exact⟨u,by simp[hu],e⟩
    ·rintro⟨u,hu,e⟩
     rcases List.mem_append.1 hu with hu|hu
     ·exact⟨u,hu,e⟩
     ·simp at hu;subst hu;exact absurd e hs
  ·obtain⟨hp1,_,hp2⟩:=List.pairwise_append.1 hp
   have h5:=h3 hp1
   intro u hu z
   rcases List.mem_append.1 hu with hu|hu
   ·rw[atKey_put_other (by intro e;exact hp2 u hu t (by simp) (keyV_inj e)),h5 u hu]
   ·simp at hu;subst hu;exact atKey_put_same h1.isMap (keyL_lit _) _ _
theorem mapV_keys:∀n (l:List (ByteArray×Int)),l.length=n->∃es,mapOfV l= .map es/\∀p∈es,∃x,p.1= .string x
 |0,l,h=>by
  obtain rfl:=List.length_eq_zero_iff.1 h
  exact⟨[],rfl,fun p hp=>by cases hp⟩
 |n+1,l,h=>by
  obtain⟨l',t,rfl⟩:∃l' t,l=l'++ [t]:=⟨l.dropLast,l.getLast (by intro e;rw[e]at h;cases h),(List.dropLast_concat_getLast _).symm⟩
  simp at h
  obtain⟨es,he,hk⟩:=mapV_keys n l' h
  rw[mapOfV_snoc,he]
  refine⟨_,rfl,fun p hp=> ?_⟩
  rcases mem_insert_or hp with rfl|hp
  ·exact⟨_,rfl⟩
  ·exact hk p (List.mem_filter.1 hp).1
theorem sorted_vals{L vs:List (ByteArray×Int)}(hp:vs.Pairwise (fun a b=>idv a < idv b))(hL:L.Perm vs){ss:List (List UInt8)}(hs:ss.Perm (strKeys (mapOfV L))) :
  ss.length=vs.length/\valCells (mapOfV L) (ss.mergeSort (fun x y=>decide (x<=y)))=vs.flatMap valEnc:=by
 have hne':vs.Pairwise (fun a b=>idv a≠idv b):=hp.imp fun h e=>by rw[e]at h;exact List.lt_irrefl _ h
 have hne:L.Pairwise (fun a b=>idv a≠idv b):=hL.symm.pairwise hne' (fun h e=>h e.symm)
 obtain⟨h1,h2,h3⟩:=mapV_facts _ L rfl
 have h5:=h3 hne
 obtain⟨es,he,hes⟩:=h1
 have hk:∀p∈es,∃x,p.1= .string x:=by
  obtain⟨es',he',hk⟩:=mapV_keys _ L rfl
  rw[he]at he';cases he';exact hk
 have hperm:(L.map idv).Perm (strKeys (mapOfV L)):=by
  rw[he]
  refine perm_strKeys hes hk (List.pairwise_map.2 hne) fun x=> ?_
  rw[<-he,h2 x];simp
 have hsv:ss.Perm (vs.map idv):=(hs.trans hperm.symm).trans (hL.map idv)
 have hsort:ss.mergeSort (fun x y=>decide (x<=y))=vs.map idv:=by
  have e1:=mergeSort_of_perm hsv
  refine e1.trans ?_
  refine List.mergeSort_of_pairwise ?_
  exact List.pairwise_map.2 (hp.imp fun h=>by simpa[leB]using List.le_of_lt h)
 refine⟨by rw[hsv.length_eq];simp,?_⟩
 rw[hsort]
 unfold valCells
 rw[List.flatMap_map]
 refine flatMap_same fun t ht=> ?_
 have:valAt (mapOfV L) (idv t)=t.2:=by
  unfold valAt
  rw[show(Lit.string (idv t))=keyL t.1 from rfl,h5 t (hL.mem_iff.2 ht)];rfl
 rw[this]
 simp[encStr,idv,valEnc]
set_option maxHeartbeats 1000000 in
set_option maxRecDepth 100000 in
theorem x_announced_calls(F:Nat->Prop)(B:Nat)(s:RunS)(w:World)(hx:XOK F w B s)(hv:s.done=true->s.values.Pairwise (fun a b=>idv a < idv b)/\s.values.length<=90000000) :
  Calls Tryz.prog 20 #[.pointer (some ⟨B,0,none⟩)] w fun e w'=>∃v,e= .returned (.tuple #[v,.bool s.done,.int .i64 0])/\w'.ownsRow w.heap.size 92 2 v (announcedS s).length ((announcedS s).flatMap valEnc)/\Below w.heap.size w w':=by
 obtain⟨part,-,kv,wv,yv,M,xs,h⟩:=hx
 have HA:Hid (Calls Tryz.prog 45 #[.pointer (some ⟨B,0,none⟩),.slice none 0 0] w fun e w'=>∃r,e= .returned (.int .i64 r)/\(r=0/\w=w')):=ask_calls B (.slice none 0 0) w (fun r w'=>r=0/\w=w') ((inTurn_none w).mono fun e w' h=>⟨0,h.1,rfl,h.2⟩)
 have c6:w.cell? ⟨B,6,none⟩=some (.map (some M)):=h.box.cell (o:=6) rfl
 have c15:w.cell? ⟨B,15,none⟩=some (.bool s.done):=h.box.cell (o:=15) rfl
 obtain⟨D,hm,-,hk⟩:=h.vals
 clear h
 cases hd:s.done
 ·rw[hd]at c15
  have e0:announcedS s=[]:=by simp[announcedS,hd]
  rw[e0]
  clear hm hk hv hd
  go_enter Tryz.func20,Tryz.ntmps20
  go_wp2_with (go_at_call 45;refine HA.out.mono ?_;rintro e w1 ⟨r,rfl,rfl,rfl⟩)
  refine bodyPost_ret (v:= .tuple #[.slice none 0 0,.bool false,.int .i64 0]) (by simp[results,Tryz.results20,go_sem]) rfl ?_
  exact⟨_,rfl,World.ownsRow_nil _ _ _ _,Below.refl _ _⟩
 ·rw[hd]at c15
  obtain⟨hv1,hv2⟩:=hv hd
  have e0:announcedS s=s.values:=by simp[announcedS,hd]
  rw[e0]
  obtain⟨L,rfl,hL⟩:=hk.of
  have HL:Hid (Calls Tryz.prog 46 #[.map (some M)] w fun e w'=>∃v,e= .returned v/\w'.ownsRow w.heap.size 92 2 v s.values.length (s.values.flatMap valEnc)/\Below w.heap.size w w'):=by
   refine(list_calls M (mapOfV L) w hm (by have:=hk.size;omega)).mono ?_
   rintro e w' ⟨ss,hss,rfl,hrow,hb⟩
   obtain⟨q1,q2⟩:=sorted_vals hv1 hL hss
   rw[q2,q1]at hrow
   exact⟨_,by rw[q1],hrow,hb⟩
  clear hm hk hv hd hv1
  go_enter Tryz.func20,Tryz.ntmps20
  go_wp2_with (first
   |(go_at_call 45;refine HA.out.mono ?_;rintro e w1 ⟨r,rfl,rfl,rfl⟩)
   |(go_at_call 46;refine HL.out.mono ?_;rintro e w2 ⟨v2,rfl,hrow2,hb2⟩))
  refine bodyPost_ret (v:= .tuple #[v2,.bool true,.int .i64 0]) (by simp[results,Tryz.results20,go_sem]) rfl ?_
  exact⟨_,rfl,hrow2,hb2⟩
end Go.Proofs.YtfanaanofjhlkaaGreatDoor
namespace Go.Proofs.YtfanaanofjhlkaaGreatDoor
open Go Go.RowKit
theorem x_tick_calls(F:Nat->Prop)(B N:Nat)(s:RunS)(i:Int)(w:World)(hx:XOK F w B s)(hf:Fits s)(hs:Shaped s)(hN:Small N s)(hN':N<=90000000) :
  Calls Tryz.prog 40 #[.pointer (some ⟨B,0,none⟩),.int .i64 i] w (XGives F w B (tickS s i)):=by
 refine tick_opens (some ⟨B,0,none⟩) i w _ (fun W1 W2 W3 h1 h2 h3=> ?_)
 have g1:=held2_below w (some ⟨B,0,none⟩) i
 have g2:=held2_below W1 (some ⟨B,0,none⟩) i
 have a1:=held2_at w B i
 have a2:=held2_at W1 B i
 rw[h1]at g1 a1
 rw[h2]at g2 a2
 have g3:Below W2.heap.size W2 W3:=by rw[<-h3];exact(Below.refl _ _).alloc (Nat.le_refl _) _
 have bL:BoxAt W3 W2.heap.size 94 (([stepW 110 w]++ [stepH 151 W1]).map stepVal).toArray:=by rw[<-h3];exact BoxAt.new W2 _ _
 have z1:=g1.size
 have z2:=g2.size
 have k2:Below W1.heap.size W1 W3:=g2.trans (g3.mono z2)
 have hb:Below w.heap.size w W3:=g1.trans (k2.mono z1)
 have c1:=a1.below k2
 have c2:=a2.below g3
 clear a1 a2 h1 h2 h3 g1 g2 k2
 have hlow:=hx.low
 refine(change_tests F B W2.heap.size s W3 (hx.later hb) [stepW 110 w] [if i < 0\/s.workers<=i then 7 else 0] (stepH 151 W1) (tickS s i) w hb hx (by simp) (by simp) 94 bL ?over ?enter ?test ?bad ?last).mono (fun e w' h=>⟨⟨_,h.1⟩,h⟩)
 case over=>
  intro ho
  simp[tickS,workerE_halt ho,ho]
 case enter=>
  intro f hf' args W
  simp at hf'
  rcases hf' with rfl|rfl
  ·exact enters_of Tryz.func110 (by kernel_rfl) rfl args W
  ·exact enters_of Tryz.func151 (by kernel_rfl) rfl args W
 case test=>
  intro hd ho j f e hj he hp W hW
  match j,hj,he with
  |0,hj,he=>cases hj;cases he;exact isWorker1_calls F B _ _ s i W ((hx.later hb).later hW) hf (c1.below hW)
  |(n+1),hj,he=>simp at hj
 case bad=>
  intro hd ho j e he hne hp
  have wi:=workerE_run hd ho i
  match j,he with
  |0,he=>cases he;simp only[tickS,wi,if_pos hne]
  |(n+1),he=>simp at he
 case last=>
  intro hd ho hp W hW
  have p0:=hp 0 _ (by simp) rfl
  have wi:=workerE_run hd ho i
  rw[p0]at wi
  have hv:=if_zero (by omega) p0
  have hlen:=hs.len
  obtain⟨k,rfl⟩:=Int.eq_ofNat_of_zero_le (show 0<=i by omega)
  have hkl:k < s.W.length:=by omega
  obtain⟨ls,l,hls,-⟩:=hs.link hkl hkl
  have hmem:=List.mem_of_getElem? hls
  have hres:tickS s (k:Int)=(ls.foldl againS s,0):=by simp[tickS,wi,hls]
  rw[hres]
  have hbW:Below w.heap.size w W:=hb.trans (hW.mono hb.size)
  exact sendAgain1_calls _ B _ _ k s ls W (hlow.later hbW) hls (fun l hl=>hN.known ls hmem l hl) (fun l hl=>by have:=hN.all ls hmem l hl;omega) hs.way (c2.below hW) ⟨fun h=>by omega,fun h=>by omega⟩
theorem open_miss{s:RunS}(hm:∀L b,s.answers=L++ [b]->b.many<=s.workers):(missA s.workers s.answers==0)= !openB s:=by
 by_cases h:s.answers=[]
 ·unfold missA openB
  simp[h]
 ·obtain⟨L,a,ha⟩:=answers_last h
  have h1:=hm L a ha
  have h2:openB s=decide (a.many < s.workers):=by unfold openB;rw[ha];simp
  have h3:missA s.workers s.answers=s.workers - a.many:=by rw[ha];exact missA_snoc _ _ _
  rw[h2,h3,Bool.eq_iff_iff]
  simp
  omega
theorem twice_show{s:RunS}:twiceB s=(decide ((2:Int)<=(s.answers.length:Int))&&((beforeA s.answers).sent==(beforeA s.answers).came)&&((lastA s.answers).sent==(lastA s.answers).came)&&((lastA s.answers).sent==(beforeA s.answers).sent)&&(lastA s.answers).idle):=by
 by_cases h:s.answers=[]
 ·simp[twiceB,h]
 ·obtain⟨L,b,hb⟩:=answers_last h
  by_cases h':L=[]
  ·subst h'
   simp[twiceB,hb]
  ·obtain⟨K,a,ha⟩:∃K a,L=K++ [a]:=⟨L.dropLast,L.getLast h',(List.dropLast_concat_getLast h').symm⟩
   subst ha
   have e1:lastA s.answers=b:=by rw[hb];exact lastA_snoc _ _
   have e2:beforeA s.answers=a:=by rw[hb,beforeA_snoc];exact lastA_snoc _ _
   have e3:twiceB s=alikeB a b:=by unfold twiceB;rw[hb];simp
   have e4:decide ((2:Int)<=(s.answers.length:Int))=true:=by rw[hb];simp;omega
   have e5:(b.sent==a.sent)=(a.sent==b.sent):=by rw[Bool.eq_iff_iff];simp;exact eq_comm
   rw[e1,e2,e3,e4,e5]
   unfold alikeB
   simp
theorem answered_calls(B:Nat)(cs:Array Value)(n:Int)(w:World)(hb:BoxAt w B 105 cs)(h8:cs[8]?= some (.int .i64 n)):Calls Tryz.prog 160 #[.pointer (some ⟨B,7,none⟩)] w fun e w'=>e= .returned (.bool (n==0))/\w=w':=by
 have c8:=hb.cell h8
 clear hb h8
 go_enter Tryz.func160,Tryz.ntmps160
 go_wp2_with fail
 go_ret
 exact⟨rfl,rfl⟩
theorem even_calls(B o:Nat)(a b:Int)(w:World)(h0:w.cell? ⟨B,o,none⟩=some (.int .i64 a))(h1:w.cell? ⟨B,o+1,none⟩=some (.int .i64 b)):Calls Tryz.prog 190 #[.pointer (some ⟨B,o,none⟩)] w fun e w'=>e= .returned (.bool (a==b))/\Below w.heap.size w w':=by
 go_enter Tryz.func190,Tryz.ntmps190
 go_upto_region 1 with fail
 go_quiet (fail)
 go_wp2_with fail
 go_ret
 exact⟨rfl,below_drewN (Below.refl _ _) _⟩
set_option maxHeartbeats 2000000 in
set_option maxRecDepth 100000 in
theorem showEnd_calls(B:Nat)(cs:Array Value)(n ls lc bs bc:Int)(lb:Bool)(w:World)(hb:BoxAt w B 105 cs)(h7:cs[7]?= some (.int .i64 n))(h9:cs[9]?= some (.int .i64 ls))(h10:cs[10]?= some (.int .i64 lc))(h11:cs[11]?= some (.bool lb))(h12:cs[12]?= some (.int .i64 bs))(h13:cs[13]?= some (.int .i64 bc)) :
  Calls Tryz.prog 161 #[.pointer (some ⟨B,7,none⟩)] w fun e w'=>e= .returned (.bool (decide ((2:Int)<=n)&&(bs==bc)&&(ls==lc)&&(ls==bs)&& !lb))/\Below w.heap.size w w':=by
 have c9:=hb.cell h9
 have c12:=hb.cell h12
 obtain⟨sm,hsm⟩:∃sm,(ls==bs)=sm:=⟨_,rfl⟩
 obtain⟨e1,he1⟩:∃e1,(bs==bc)=e1:=⟨_,rfl⟩
 obtain⟨e2,he2⟩:∃e2,(ls==lc)=e2:=⟨_,rfl⟩
 have HC:Hid (∀U,Below w.heap.size w U->U.cell? ⟨B,7,none⟩=some (.int .i64 n)/\U.cell? ⟨B,9,none⟩=some (.int .i64 ls)/\U.cell? ⟨B,10,none⟩=some (.int .i64 lc)/\U.cell? ⟨B,11,none⟩=some (.bool lb)/\U.cell? ⟨B,12,none⟩=some (.int .i64 bs)/\U.cell? ⟨B,13,none⟩=some (.int .i64 bc)):=fun U hU=>by
  have h:=hb.below hU hb.lt
  exact⟨h.cell h7,h.cell h9,h.cell h10,h.cell h11,h.cell h12,h.cell h13⟩
 have HE:Hid (∀U o,Below w.heap.size w U->(o=12\/o=9)->Calls Tryz.prog 190 #[.pointer (some ⟨B,o,none⟩)] U fun e w'=>e= .returned (.bool (if o=12 then e1 else e2))/\Below w.heap.size w w'):=fun U o hU ho=>by
  obtain⟨-,q2,q3,-,q5,q6⟩:=HC.out U hU
  rcases ho with rfl|rfl
  ·refine(even_calls B 12 bs bc U q5 q6).mono ?_
   rintro e w' ⟨rfl,h⟩
   exact⟨by rw[he1,if_pos rfl],hU.trans (h.mono hU.size)⟩
  ·refine(even_calls B 9 ls lc U q2 q3).mono ?_
   rintro e w' ⟨rfl,h⟩
   exact⟨by rw[he2,if_neg (by omega)],hU.trans (h.mono hU.size)⟩
 obtain⟨gg,hgg⟩:∃gg,decide ((2:Int)<=n)=gg:=⟨_,rfl⟩
 rw[hsm,he1,he2,hgg]
 clear hb h7 h9 h10 h11 h12 h13 he1 he2
 go_enter Tryz.func161,Tryz.ntmps161
 go_upto_region 1 with fail
 go_quiet (fail)
 obtain⟨U,hU⟩:∃U,w.drewN nq=U:=⟨_,rfl⟩
 have gU:Below w.heap.size w U:=by rw[<-hU];exact below_drewN (Below.refl _ _) _
 rw[hU]
 clear hU c9 c12
 have HGU:=hid_of gU
 obtain⟨q1,q2,q3,q4,q5,q6⟩:=HC.out U gU
 clear gU
 cases gg
 ·have hn':n < 2:=by have:=of_decide_eq_false hgg;omega
  have hn2:¬(2:Int)<=n:=of_decide_eq_false hgg
  go_wp2_with fail
  go_ret
  exact⟨by simp,HGU.out⟩
 ·have hn:(2:Int)<=n:=of_decide_eq_true hgg
  cases e1
  ·go_wp2_with (go_at_call 190;first|(refine(HE.out _ _ HB1.out (.inr rfl)).mono ?_;rintro e w2 ⟨he,hb2⟩;rw[if_neg (by omega)]at he;subst he;obtain⟨s1,s2,s3,s4,s5,s6⟩:=HC.out w2 hb2;have HB2:=hid_of hb2;clear hb2)|(refine(HE.out _ _ HGU.out (.inl rfl)).mono ?_;rintro e w1 ⟨he,hb1⟩;rw[if_pos rfl]at he;subst he;obtain⟨r1,r2,r3,r4,r5,r6⟩:=HC.out w1 hb1;have HB1:=hid_of hb1;clear hb1))
   go_ret
   exact⟨by simp,HB1.out⟩
  ·cases e2
   ·go_wp2_with (go_at_call 190;first|(refine(HE.out _ _ HB1.out (.inr rfl)).mono ?_;rintro e w2 ⟨he,hb2⟩;rw[if_neg (by omega)]at he;subst he;obtain⟨s1,s2,s3,s4,s5,s6⟩:=HC.out w2 hb2;have HB2:=hid_of hb2;clear hb2)|(refine(HE.out _ _ HGU.out (.inl rfl)).mono ?_;rintro e w1 ⟨he,hb1⟩;rw[if_pos rfl]at he;subst he;obtain⟨r1,r2,r3,r4,r5,r6⟩:=HC.out w1 hb1;have HB1:=hid_of hb1;clear hb1))
    go_ret
    exact⟨by simp,HB2.out⟩
   ·cases sm
    all_goals
     go_wp2_with (go_at_call 190;first|(refine(HE.out _ _ HB1.out (.inr rfl)).mono ?_;rintro e w2 ⟨he,hb2⟩;rw[if_neg (by omega)]at he;subst he;obtain⟨s1,s2,s3,s4,s5,s6⟩:=HC.out w2 hb2;have HB2:=hid_of hb2;clear hb2)|(refine(HE.out _ _ HGU.out (.inl rfl)).mono ?_;rintro e w1 ⟨he,hb1⟩;rw[if_pos rfl]at he;subst he;obtain⟨r1,r2,r3,r4,r5,r6⟩:=HC.out w1 hb1;have HB1:=hid_of hb1;clear hb1))
     go_ret
     exact⟨by simp,HB2.out⟩
set_option maxHeartbeats 1000000 in
set_option maxRecDepth 100000 in
theorem begin_x(n:Nat){part:Nat->Nat}{w:World}{B M:Nat}{s:RunS}{kv wv yv:Value}{xs:List XW}(h:XAtO part w B s kv wv yv M xs)(hn:(n:Int)=s.workers)(hl:s.answers.length<=1000000000) :
  Calls Tryz.prog 162 #[.pointer (some ⟨B,7,none⟩),.int .i64 (n:Int)] w fun e w'=>∃v,e= .returned v/\(v= .int .i64 ((s.answers.length:Int)+1)/\∃part',XAtO part' w' B {s with answers:=s.answers++ [⟨0,0,0,true⟩]} kv wv yv M xs/\XMoved part part' w w'/\Kept (·= B) w w'):=by
 have hb:=h.box
 obtain⟨ls,hls⟩:∃q,(lastA s.answers).sent=q:=⟨_,rfl⟩
 obtain⟨lc,hlc⟩:∃q,(lastA s.answers).came=q:=⟨_,rfl⟩
 obtain⟨lb,hlb⟩:∃q,(!(lastA s.answers).idle)=q:=⟨_,rfl⟩
 obtain⟨an,han⟩:∃q,(s.answers.length:Int)=q:=⟨_,rfl⟩
 have c7:w.cell? ⟨B,7,none⟩=some (.int .i64 an):=by rw[<-han];exact hb.cell (o:=7) rfl
 have c8:=hb.cell (o:=8) rfl
 have c9:w.cell? ⟨B,9,none⟩=some (.int .i64 ls):=by rw[<-hls];exact hb.cell (o:=9) rfl
 have c10:w.cell? ⟨B,10,none⟩=some (.int .i64 lc):=by rw[<-hlc];exact hb.cell (o:=10) rfl
 have c11:w.cell? ⟨B,11,none⟩=some (.bool lb):=by rw[<-hlb];exact hb.cell (o:=11) rfl
 have c12:=hb.cell (o:=12) rfl
 have c13:=hb.cell (o:=13) rfl
 have c14:=hb.cell (o:=14) rfl
 have f7:=hb.frozen 7
 have f8:=hb.frozen 8
 have f9:=hb.frozen 9
 have f10:=hb.frozen 10
 have f11:=hb.frozen 11
 have f12:=hb.frozen 12
 have f13:=hb.frozen 13
 have f14:=hb.frozen 14
 have hwr:IntKind.i64.wrap (an+1)=an+1:=IntWalk.i64_in _ (by omega)
 have hb0:BoxAt w B 105 #[kv,.int .i64 s.kind,.int .i64 s.arg,.int .i64 s.mode,wv,yv,.map (some M),.int .i64 an,.int .i64 (missA s.workers s.answers),.int .i64 ls,.int .i64 lc,.bool lb,.int .i64 (beforeA s.answers).sent,.int .i64 (beforeA s.answers).came,.bool (!(beforeA s.answers).idle),.bool s.done,.bool s.over]:=by rw[<-han,<-hls,<-hlc,<-hlb];exact hb
 obtain⟨Y7,hY7⟩:∃Y,w.setCell ⟨B,7,none⟩ (.int .i64 (an+1))=Y:=⟨_,rfl⟩
 have hb7:BoxAt Y7 B 105 #[kv,.int .i64 s.kind,.int .i64 s.arg,.int .i64 s.mode,wv,yv,.map (some M),.int .i64 (an+1),.int .i64 (missA s.workers s.answers),.int .i64 ls,.int .i64 lc,.bool lb,.int .i64 (beforeA s.answers).sent,.int .i64 (beforeA s.answers).came,.bool (!(beforeA s.answers).idle),.bool s.done,.bool s.over]:=by rw[<-hY7];exact hb0.setAt 7 _
 have kY7:Kept (·= B) w Y7:=by rw[<-hY7];exact(Kept.refl (·= B) w).setCell (.inl (by rfl)) _
 obtain⟨Y8,hY8⟩:∃Y,Y7.setCell ⟨B,8,none⟩ (.int .i64 (n:Int))=Y:=⟨_,rfl⟩
 have hb8:BoxAt Y8 B 105 #[kv,.int .i64 s.kind,.int .i64 s.arg,.int .i64 s.mode,wv,yv,.map (some M),.int .i64 (an+1),.int .i64 (n:Int),.int .i64 ls,.int .i64 lc,.bool lb,.int .i64 (beforeA s.answers).sent,.int .i64 (beforeA s.answers).came,.bool (!(beforeA s.answers).idle),.bool s.done,.bool s.over]:=by rw[<-hY8];exact hb7.setAt 8 _
 have kY8:Kept (·= B) w Y8:=by rw[<-hY8];exact kY7.setCell (.inl (by rfl)) _
 obtain⟨Y9,hY9⟩:∃Y,Y8.setCell ⟨B,9,none⟩ (.int .i64 0)=Y:=⟨_,rfl⟩
 have hb9:BoxAt Y9 B 105 #[kv,.int .i64 s.kind,.int .i64 s.arg,.int .i64 s.mode,wv,yv,.map (some M),.int .i64 (an+1),.int .i64 (n:Int),.int .i64 0,.int .i64 lc,.bool lb,.int .i64 (beforeA s.answers).sent,.int .i64 (beforeA s.answers).came,.bool (!(beforeA s.answers).idle),.bool s.done,.bool s.over]:=by rw[<-hY9];exact hb8.setAt 9 _
 have kY9:Kept (·= B) w Y9:=by rw[<-hY9];exact kY8.setCell (.inl (by rfl)) _
 obtain⟨Y10,hY10⟩:∃Y,Y9.setCell ⟨B,10,none⟩ (.int .i64 0)=Y:=⟨_,rfl⟩
 have hb10:BoxAt Y10 B 105 #[kv,.int .i64 s.kind,.int .i64 s.arg,.int .i64 s.mode,wv,yv,.map (some M),.int .i64 (an+1),.int .i64 (n:Int),.int .i64 0,.int .i64 0,.bool lb,.int .i64 (beforeA s.answers).sent,.int .i64 (beforeA s.answers).came,.bool (!(beforeA s.answers).idle),.bool s.done,.bool s.over]:=by rw[<-hY10];exact hb9.setAt 10 _
 have kY10:Kept (·= B) w Y10:=by rw[<-hY10];exact kY9.setCell (.inl (by rfl)) _
 obtain⟨Y11,hY11⟩:∃Y,Y10.setCell ⟨B,11,none⟩ (.bool false)=Y:=⟨_,rfl⟩
 have hb11:BoxAt Y11 B 105 #[kv,.int .i64 s.kind,.int .i64 s.arg,.int .i64 s.mode,wv,yv,.map (some M),.int .i64 (an+1),.int .i64 (n:Int),.int .i64 0,.int .i64 0,.bool false,.int .i64 (beforeA s.answers).sent,.int .i64 (beforeA s.answers).came,.bool (!(beforeA s.answers).idle),.bool s.done,.bool s.over]:=by rw[<-hY11];exact hb10.setAt 11 _
 have kY11:Kept (·= B) w Y11:=by rw[<-hY11];exact kY10.setCell (.inl (by rfl)) _
 obtain⟨Y12,hY12⟩:∃Y,Y11.setCell ⟨B,12,none⟩ (.int .i64 ls)=Y:=⟨_,rfl⟩
 have hb12:BoxAt Y12 B 105 #[kv,.int .i64 s.kind,.int .i64 s.arg,.int .i64 s.mode,wv,yv,.map (some M),.int .i64 (an+1),.int .i64 (n:Int),.int .i64 0,.int .i64 0,.bool false,.int .i64 ls,.int .i64 (beforeA s.answers).came,.bool (!(beforeA s.answers).idle),.bool s.done,.bool s.over]:=by rw[<-hY12];exact hb11.setAt 12 _
 have kY12:Kept (·= B) w Y12:=by rw[<-hY12];exact kY11.setCell (.inl (by rfl)) _
 obtain⟨Y13,hY13⟩:∃Y,Y12.setCell ⟨B,13,none⟩ (.int .i64 lc)=Y:=⟨_,rfl⟩
 have hb13:BoxAt Y13 B 105 #[kv,.int .i64 s.kind,.int .i64 s.arg,.int .i64 s.mode,wv,yv,.map (some M),.int .i64 (an+1),.int .i64 (n:Int),.int .i64 0,.int .i64 0,.bool false,.int .i64 ls,.int .i64 lc,.bool (!(beforeA s.answers).idle),.bool s.done,.bool s.over]:=by rw[<-hY13];exact hb12.setAt 13 _
 have kY13:Kept (·= B) w Y13:=by rw[<-hY13];exact kY12.setCell (.inl (by rfl)) _
 obtain⟨Y14,hY14⟩:∃Y,Y13.setCell ⟨B,14,none⟩ (.bool lb)=Y:=⟨_,rfl⟩
 have hb14:BoxAt Y14 B 105 #[kv,.int .i64 s.kind,.int .i64 s.arg,.int .i64 s.mode,wv,yv,.map (some M),.int .i64 (an+1),.int .i64 (n:Int),.int .i64 0,.int .i64 0,.bool false,.int .i64 ls,.int .i64 lc,.bool lb,.bool s.done,.bool s.over]:=by rw[<-hY14];exact hb13.setAt 14 _
 have kY14:Kept (·= B) w Y14:=by rw[<-hY14];exact kY13.setCell (.inl (by rfl)) _
 have e1:(xrunCells {s with answers:=s.answers++ [⟨0,0,0,true⟩],done:=s.done,over:=s.over} kv wv yv M)= #[kv,.int .i64 s.kind,.int .i64 s.arg,.int .i64 s.mode,wv,yv,.map (some M),.int .i64 (an+1),.int .i64 (n:Int),.int .i64 0,.int .i64 0,.bool false,.int .i64 ls,.int .i64 lc,.bool lb,.bool s.done,.bool s.over]:=by
  unfold xrunCells
  dsimp only
  have q1:(((s.answers++ [(⟨0,0,0,true⟩:AnsS)]).length:Nat):Int)=an+1:=by rw[List.length_append,List.length_singleton];omega
  have q2:missA s.workers (s.answers++ [⟨0,0,0,true⟩])=(n:Int):=by rw[missA_snoc];show s.workers - 0=_;omega
  rw[q1,q2,lastA_snoc,beforeA_snoc,hls,hlc,hlb]
  rfl
 have hbox:BoxAt Y14 B 105 (xrunCells {s with answers:=s.answers++ [⟨0,0,0,true⟩],done:=s.done,over:=s.over} kv wv yv M):=by rw[e1];exact hb14
 obtain⟨h1,h2⟩:=h.rebox (an:=s.answers++ [⟨0,0,0,true⟩]) (d:=s.done) (o:=s.over) kY14 hbox
 have H1:=hid_of h1
 have H2:=hid_of h2
 have HK:=hid_of kY14
 have HN:Hid ((n:Int)=s.workers):=hn
 clear hn
 have HY7:=hid_of hY7
 have HY8:=hid_of hY8
 have HY9:=hid_of hY9
 have HY10:=hid_of hY10
 have HY11:=hid_of hY11
 have HY12:=hid_of hY12
 have HY13:=hid_of hY13
 have HY14:=hid_of hY14
 rw[han]
 clear h hb hb0 h1 h2 hbox hls hlc hlb e1 hb7 kY7 hY7 hb8 kY8 hY8 hb9 kY9 hY9 hb10 kY10 hY10 hb11 kY11 hY11 hb12 kY12 hY12 hb13 kY13 hY13 hb14 kY14 hY14
 go_enter Tryz.func162,Tryz.ntmps162
 go_wp2_with fail
 go_ret
 rw[HY7.out,HY8.out,HY9.out,HY10.out,HY11.out,HY12.out,HY13.out,HY14.out]
 exact⟨_,rfl,rfl,_,H1.out,H2.out,HK.out⟩
theorem Known.rest{s s':RunS}(h:Known s)(e:s'.links=s.links):Known s':=by unfold Known at *;rw[e];exact h
theorem known_fold{s:RunS}(n:Int)(h:Known s):∀(l:List Nat),Known (l.foldl (waveS n) s):=by
 intro l
 induction l generalizing s with
 |nil=>exact h
 |cons k l ih=>rw[List.foldl_cons];exact ih (h.send _)
theorem isAnswered_calls(F:Nat->Prop)(B:Nat)(s:RunS)(w:World)(hx:XOK F w B s)(hm:∀L b,s.answers=L++ [b]->b.many<=s.workers):Calls Tryz.prog 99 #[.pointer (some ⟨B,0,none⟩)] w fun e w'=>e= .returned (.int .i64 (if openB s=true then 9 else 0))/\Below w.heap.size w w':=by
 obtain⟨part,-,kv,wv,yv,M,xs,h⟩:=hx
 have HA:=hid_of (answered_calls B _ (missA s.workers s.answers) w h.box rfl)
 rw[open_miss hm]at HA
 obtain⟨ob,hob⟩:∃ob,openB s=ob:=⟨_,rfl⟩
 rw[hob]at HA ⊢
 clear h hob
 go_enter Tryz.func99,Tryz.ntmps99
 cases ob
 all_goals
  go_wp2_with (go_at_call 160;refine HA.out.mono ?_;rintro e w1 ⟨rfl,rfl⟩)
  go_ret
  exact⟨rfl,Below.refl _ _⟩
set_option maxHeartbeats 2000000 in
set_option maxRecDepth 100000 in
theorem checkRounds_calls(F:Nat->Prop)(B N:Nat)(s:RunS)(x:WorkerS)(w:World)(hx:XOK F w B s)(hx0:s.W[0]?= some x)(hx1:x.tasks=[])(hs:Shaped s)(hN:Small N s)(hN':N+10<=90000000)(hkn:Known s)(hL:s.answers.length<=90000000) :
  Calls Tryz.prog 100 #[.pointer (some ⟨B,0,none⟩)] w (XGives F w B (if twiceB s=true then({s with done:=true},0)else((List.range' 1 (s.W.length - 1)).foldl (waveS (s.answers.length+1)) (notedS {s with answers:=s.answers++ [⟨0,0,0,true⟩]} x.sent x.came true),0))):=by
 obtain⟨part,hpF,kv,wv,yv,M,xs,h⟩:=hx
 have hlen:=hs.len
 have h2:=hs.two
 have h5:=hs.five
 have hway:=hs.way
 have hxl:=h.wlen
 obtain⟨xw,hxw⟩:∃xw,xs[0]?= some xw:=⟨_,List.getElem?_eq_getElem (by omega)⟩
 obtain⟨gw,wc,hwf,-,hgw⟩:=World.ownsRow.form h.wrow.1 (by omega)
 subst hwf
 have b3:w.cell? ⟨B,4,none⟩=some (.slice (some ⟨gw,0,none⟩) xs.length wc):=h.box.cell (o:=4) rfl
 have hxm:=List.mem_of_getElem? hx0
 have hsent:=hN.sent x hxm
 have hgot:=hN.got x hxm
 have HSE:=hid_of (showEnd_calls B _ (s.answers.length:Int) (lastA s.answers).sent (lastA s.answers).came (beforeA s.answers).sent (beforeA s.answers).came (!(lastA s.answers).idle) w h.box rfl rfl rfl rfl rfl rfl)
 rw[Bool.not_not,<-twice_show]at HSE
 obtain⟨tw,htw⟩:∃tw,twiceB s=tw:=⟨_,rfl⟩
 rw[htw]at HSE ⊢
 have HH:=hid_of h
 have HPF:=hid_of hpF
 cases tw
 ·
  have HB2:Hid (∀U,Below w.heap.size w U->Calls Tryz.prog 162 #[.pointer (some ⟨B,7,none⟩),.int .i64 (xs.length:Int)] U fun e w'=>∃v,e= .returned v/\(v= .int .i64 ((s.answers.length:Int)+1)/\∃part',XAtO part' w' B {s with answers:=s.answers++ [⟨0,0,0,true⟩]} kv (.slice (some ⟨gw,0,none⟩) xs.length wc) yv M xs/\XMoved part part' w w')):=fun U hU=>by
   obtain⟨h3,hm3⟩:=HH.out.later hU
   refine(begin_x xs.length h3 (by omega) (by omega)).mono ?_
   rintro e w' ⟨v,rfl,rfl,part',h4,hm4,-⟩
   exact⟨_,rfl,rfl,part',h4,hm3.trans hm4⟩
  have HRP:Hid (∀U part1,XAtO part1 U B {s with answers:=s.answers++ [⟨0,0,0,true⟩]} kv (.slice (some ⟨gw,0,none⟩) xs.length wc) yv M xs->XMoved part part1 w U->∀r,Calls Tryz.prog 164 #[.pointer (some ⟨gw,0,none⟩),.int .i64 r] U fun e w'=>∃v,e= .returned v/\(v= .agg (msgCells {msg0 with kind:=7,round:=r,sent:=x.sent,came:=x.came,idle:=true})/\∃part8,XAtO part8 w' B {s with answers:=s.answers++ [⟨0,0,0,true⟩]} kv (.slice (some ⟨gw,0,none⟩) xs.length wc) yv M xs/\XMoved part part8 w w'/\w'.cell? ⟨B,4,none⟩=some (.slice (some ⟨gw,0,none⟩) xs.length wc))):=fun U part1 h7 hm7 r=>by
   have hx7:=h7.wat 0 xw x hxw hx0
   have q0:U.cell? ⟨gw,0*8,none⟩=some (.pointer (some ⟨xw.T,0,none⟩)):=h7.xcell hxw 0 _ rfl
   have q:=report_calls _ gw 0 xw.T r x.sent x.came s.room x.tasks U q0 (by rw[<-hx7.1.sent];exact h7.xcell hxw 4 _ rfl) (by rw[<-hx7.1.came];exact h7.xcell hxw 5 _ rfl) hx7.2 (h7.wrow.1.lt gw rfl).2
   rw[hx1]at q
   refine q.mono ?_
   rintro e w' ⟨v,rfl,rfl,hb8⟩
   obtain⟨h8,hm8⟩:=h7.later hb8
   exact⟨_,rfl,rfl,_,h8,hm7.trans hm8,h8.box.cell (o:=4) rfl⟩
  have HNT:Hid (∀U part8 r bb,XAtO part8 U B {s with answers:=s.answers++ [⟨0,0,0,true⟩]} kv (.slice (some ⟨gw,0,none⟩) xs.length wc) yv M xs->XMoved part part8 w U->bb=U.heap.size->Calls Tryz.prog 163 #[.pointer (some ⟨B,7,none⟩),.slice (some ⟨bb,0,none⟩) 1 1] (U.alloc (Obj.cells (msgCells {msg0 with kind:=7,round:=r,sent:=x.sent,came:=x.came,idle:=true}) 124)) fun e w'=>∃v,e= .returned v/\(v= .tuple #[]/\∃part9,XAtO part9 w' B (notedS {s with answers:=s.answers++ [⟨0,0,0,true⟩]} x.sent x.came true) kv (.slice (some ⟨gw,0,none⟩) xs.length wc) yv M xs/\XMoved part part9 w w'/\w'.cell? ⟨B,4,none⟩=some (.slice (some ⟨gw,0,none⟩) xs.length wc))):=fun U part8 r bb h8 hm8 hbb=>by
   subst hbb
   obtain⟨h9,hm9⟩:=h8.later ((Below.refl U.heap.size U).alloc (Nat.le_refl _) (Obj.cells (msgCells {msg0 with kind:=7,round:=r,sent:=x.sent,came:=x.came,idle:=true}) 124))
   refine(note_x {msg0 with kind:=7,round:=r,sent:=x.sent,came:=x.came,idle:=true} U.heap.size h9 (L:=s.answers) (a:=⟨0,0,0,true⟩) rfl (by simp) (by simp) (by simp) ⟨hsent.1,by show x.sent<=_;omega,hgot.1,by show x.came<=_;omega⟩ (by show -100<=s.workers/\s.workers<=100;omega) (BoxAt.new U _ _)).mono ?_
   rintro e w' ⟨v,rfl,rfl,part9,h10,hm10⟩
   exact⟨_,rfl,rfl,part9,h10,(hm8.trans hm9).trans hm10,h10.box.cell (o:=4) rfl⟩
  have HRES:Hid ((if false=true then(({s with done:=true}:RunS),(0:Int))else((List.range' 1 (s.W.length - 1)).foldl (waveS (s.answers.length+1)) (notedS {s with answers:=s.answers++ [⟨0,0,0,true⟩]} x.sent x.came true),0))=((List.range' 1 (s.W.length - 1)).foldl (waveS (s.answers.length+1)) (notedS {s with answers:=s.answers++ [⟨0,0,0,true⟩]} x.sent x.came true),0)):=by show _=_;simp
  rw[HRES.out]
  obtain⟨s2,hs2⟩:∃s2,notedS {s with answers:=s.answers++ [⟨0,0,0,true⟩]} x.sent x.came true=s2:=⟨_,rfl⟩
  rw[hs2]at HNT ⊢
  have e2:s2={s with answers:=s.answers++ [⟨0+1,0+x.sent,0+x.came,true&&true⟩]}:=by rw[<-hs2,notedS_snoc (L:=s.answers) (a:=⟨0,0,0,true⟩) rfl]
  have H2S:Hid (Shaped s2/\Small N s2/\Known s2/\s2.W=s.W):=by
   rw[e2]
   exact⟨⟨hs.len,hs.two,hs.five,hs.llen,hs.lrow,hs.way⟩,⟨hN.all,hN.known,hN.came,hN.kept,hN.sent,hN.got⟩,hkn.rest rfl,rfl⟩
  obtain⟨rn,hrn⟩:∃rn,(s.answers.length:Int)+1=rn:=⟨_,rfl⟩
  rw[hrn]at HB2 ⊢
  simp only[msg0]at HRP HNT
  have HXL:Hid (xs.length=s.W.length):=hxl
  have hW2:2<=s.W.length/\s.W.length<=5:=by omega
  have n1:(0:Int) < (xs.length:Int):=by omega
  have n2:0 < xs.length:=by omega
  have n3:¬xs.length=0:=by omega
  clear h hs2 e2 hrn hsent hgot hxm hxl hlen
  go_enter Tryz.func100,Tryz.ntmps100
  go_upto_region 4 with(go_at_call 161;refine HSE.out.mono ?_;rintro e w1 ⟨rfl,hb1⟩)
  have c3:w1.cell? ⟨B,4,none⟩=some (.slice (some ⟨gw,0,none⟩) xs.length wc):=(HH.out.box.below hb1 HH.out.box.lt).cell (o:=4) rfl
  have HG1:=hid_of hb1
  clear hb1 b3
  go_still_tail 8,(by kernel_rfl)
  go_upto_region 5 with(go_at_call 162;refine(HB2.out _ (by first|exact HG1.out|exact HG1.out.drew)).mono ?_;rintro e w2 ⟨v2,rfl,rfl,part2,h2',hm2⟩)
  have c4:w2.cell? ⟨B,4,none⟩=some (.slice (some ⟨gw,0,none⟩) xs.length wc):=h2'.box.cell (o:=4) rfl
  have H2':=hid_of h2'
  have HM2:=hid_of hm2
  have HD2:=hid_of (h2'.later ((Below.refl w2.heap.size w2).drew))
  clear h2' hm2 c3
  go_region_law (first
   |(refine step_call2 (by rfl) 164 _ _ _ (by rfl) (.pointer (some ⟨gw,0,none⟩)) (.int .i64 rn) (by rfl) (by rfl) (enters_of Tryz.func164 (by kernel_rfl) rfl) (HRP.out _ _ HD2.out.1 (HM2.out.trans HD2.out.2) rn) ?_;rintro v8 w8 ⟨rfl,part8,h8,hm8,c8⟩;have H8:=hid_of h8;have HM8:=hid_of hm8;clear h8 hm8)
   |(refine step_call2 (by rfl) 163 _ _ _ (by rfl) (.pointer (some ⟨B,7,none⟩)) (.slice (some ⟨w8.heap.size,0,none⟩) 1 1) (by rfl) (by rfl) (enters_of Tryz.func163 (by kernel_rfl) rfl) (HNT.out w8 part8 rn _ H8.out HM8.out rfl) ?_;rintro v9 w9 ⟨rfl,part9,h9,hm9,c9⟩;have H9:=hid_of h9;have HM9:=hid_of hm9;clear h9 hm9))
  all_goals
   clear c4 c8
   obtain⟨h2s,h2n,h2k,h2w⟩:=H2S.out
   have H2S':Hid (Shaped s2):=h2s
   have H2N:=hid_of h2n
   have H2K:=hid_of h2k
   have H2W:=hid_of h2w
   clear h2s h2n h2k h2w
   go_wp2_with fail
   go_loopw [4] (fun iv wr=>∃(q:Nat) (part':Nat->Nat) (yv':Value) (xs':List XW),iv= .int .i64 ((q+1:Nat):Int)/\q+1<=s.W.length/\XAtO part' wr B ((List.range' 1 q).foldl (waveS rn) s2) kv (.slice (some ⟨gw,0,none⟩) xs.length wc) yv' M xs'/\XMoved part part' w wr) (fun iv _=>s.W.length - (intOf iv).toNat)
   case atStart=>exact⟨0,part9,yv,xs,by simp,by omega,H9.out,HM9.out⟩
   case round=>
    obtain⟨q,part',yv',xs',rfl,hq,hx',hmv'⟩:=hrel
    rename World=>wr
    obtain⟨s',hs'⟩:∃s',(List.range' 1 q).foldl (waveS rn) s2=s':=⟨_,rfl⟩
    have hf:=waves_fold rn H2S'.out H2N.out (List.range' 1 q)
    have hk:=known_fold rn H2K.out (List.range' 1 q)
    have hle:(List.range' 1 q).length=q:=List.length_range' ..
    rw[hs',hle]at hf
    rw[hs']at hk hx'
    have hW:s'.W.length=s.W.length:=by rw[<-hx'.wlen,hx'.xlen,HXL.out]
    have d3:wr.cell? ⟨B,4,none⟩=some (.slice (some ⟨gw,0,none⟩) xs.length wc):=hx'.box.cell (o:=4) rfl
    have HX':=hid_of hx'
    have HMV:=hid_of hmv'
    by_cases hlt:q+1 < s.W.length
    ·have HNX:Hid ((List.range' 1 (q+1)).foldl (waveS rn) s2=sendS s' {msg0 with src:=0,dst:=((q+1:Nat):Int),kind:=6,round:=rn}):=by
      show _=_
      rw[List.range'_1_concat,List.foldl_append,hs',Nat.add_comm 1 q]
      rfl
     obtain⟨ls,hls⟩:∃ls,s'.links[0]?= some ls:=⟨_,List.getElem?_eq_getElem (by rw[hf.1.llen];omega)⟩
     have hlm:=List.mem_of_getElem? hls
     obtain⟨l,hl⟩:∃l,ls[q+1]?= some l:=⟨_,List.getElem?_eq_getElem (by rw[hf.1.lrow ls hlm];omega)⟩
     have hlmm:=List.mem_of_getElem? hl
     have hall:=hf.2.1.all ls hlm l hlmm
     have hknl:=hk ls hlm l hlmm
     have hwy:=hf.1.way
     have HSD:Hid (∀(U:World) (bb:Nat),U=wr.alloc (Obj.cells (msgCells {msg0 with kind:=6,round:=rn}) 124)->bb=wr.heap.size->Calls Tryz.prog 165 #[.pointer (some ⟨B,0,none⟩),.int .i64 0,.int .i64 ((q+1:Nat):Int),.slice (some ⟨bb,0,none⟩) 1 1] U fun e w'=>∃v,e= .returned v/\(v= .tuple #[]/\∃part9 yv9 xs9,XAtO part9 w' B ((List.range' 1 (q+1)).foldl (waveS rn) s2) kv (.slice (some ⟨gw,0,none⟩) xs.length wc) yv9 M xs9/\XMoved part part9 w w')):=fun U bb hU hbb=>by
      subst hU hbb
      obtain⟨h9,hm9⟩:=HX'.out.later ((Below.refl wr.heap.size wr).alloc (Nat.le_refl _) (Obj.cells (msgCells {msg0 with kind:=6,round:=rn}) 124))
      have q9:=send_x 0 (q+1) {msg0 with kind:=6,round:=rn} wr.heap.size h9 hls hl (by omega) hknl (by omega) (by omega) (BoxAt.new wr _ _)
      refine q9.mono ?_
      rintro e w' ⟨v,rfl,rfl,part',yv9,h10,hm10⟩
      refine⟨_,rfl,rfl,part',yv9,xs',?_,(HMV.out.trans hm9).trans hm10⟩
      rw[HNX.out,sendS_post _ 0 (q+1) _ (by simp) rfl rfl]
      exact h10
     simp only[msg0]at HSD
     have l1:((q+1:Nat):Int) < (xs.length:Int):=by have:=HXL.out;omega
     clear hx' hmv' hf hk hls hl hall hknl hs'
     go_wp2_with (go_at_call 165;refine(HSD.out _ _ rfl rfl).mono ?_;rintro e w3 ⟨v3,rfl,rfl,part3,yv3,xs3,h3,hm3⟩;have H3:=hid_of h3;have HM3:=hid_of hm3;clear h3 hm3)
     go_roundw
     case rel=>exact⟨q+1,part3,yv3,xs3,by go_num,by omega,H3.out,HM3.out⟩
     case measure=>simp[intOf];omega
    ·have l1:¬((q+1:Nat):Int) < (xs.length:Int):=by have:=HXL.out;omega
     have hqe:q=s.W.length - 1:=by omega
     have HSS:Hid ((List.range' 1 (s.W.length - 1)).foldl (waveS rn) s2=s'):=by show _=_;rw[<-hqe];exact hs'
     clear hx' hmv' hf hk hs'
     go_wp2_with fail
     go_ret
     rw[HSS.out]
     obtain⟨h5,h6⟩:=HMV.out.okX HX'.out HPF.out
     exact⟨rfl,h5,h6⟩
 ·
  have HRES:Hid ((if true=true then(({s with done:=true}:RunS),(0:Int))else((List.range' 1 (s.W.length - 1)).foldl (waveS (s.answers.length+1)) (notedS {s with answers:=s.answers++ [⟨0,0,0,true⟩]} x.sent x.came true),0))=({s with done:=true},0)):=by show _=_;simp
  rw[HRES.out]
  clear h
  go_enter Tryz.func100,Tryz.ntmps100
  go_upto_region 2 with(go_at_call 161;refine HSE.out.mono ?_;rintro e w1 ⟨rfl,hb1⟩)
  obtain⟨h3,hm3⟩:=HH.out.later hb1
  have c15:=h3.box.cell (o:=15) rfl
  have f15:=h3.box.frozen 15
  have H3:=hid_of h3
  have HM3:=hid_of hm3
  clear h3 hm3 hb1
  go_wp2_with fail
  go_ret
  have k4:Kept (·= B) w1 (w1.setCell ⟨B,15,none⟩ (.bool true)):=(Kept.refl (·= B) w1).setCell (.inl (by rfl)) _
  obtain⟨h4,hm4⟩:=H3.out.rebox (an:=s.answers) (d:=true) (o:=s.over) k4 (H3.out.box.setAt 15 _)
  obtain⟨h5,h6⟩:=(HM3.out.trans hm4).okX h4 HPF.out
  exact⟨rfl,h5,h6⟩
theorem showsEnd_calls(cnt:Int)(b r:Bool)(w:World):Calls Tryz.prog 159 #[.agg #[.int .i64 cnt,.bool b,.bool r]] w fun e w'=>e= .returned (.bool (r&& !b&&(cnt==0)))/\Below w.heap.size w w':=by
 cases r<;>cases b
 all_goals
  go_enter Tryz.func159,Tryz.ntmps159
  go_wp2_with fail
  go_ret
  exact⟨by simp,(Below.refl _ _).alloc (Nat.le_refl _) _⟩
theorem round_shows(s:RunS)(x:WorkerS):((0==0&&s.around)&& !(x.token.black||x.black)&&(x.token.count+(x.sent - x.came)==0))=roundB s x:=by
 have e:x.token.count+(x.sent - x.came)=x.token.count+x.sent - x.came:=by omega
 unfold roundB
 rw[e]
 cases s.around<;>cases x.token.black<;>cases x.black<;>simp
set_option maxHeartbeats 2000000 in
set_option maxRecDepth 100000 in
theorem checkToken_calls(F:Nat->Prop)(B N:Nat)(s:RunS)(x:WorkerS)(w:World)(hx:XOK F w B s)(hk:s.W[0]?= some x)(hm:s.mode=1)(hhas:x.has=true)(hs:Shaped s)(hN:Small N s)(hN':N<=90000000)(hkn:Known s)(hcn: -100000000000000000<=x.token.count/\x.token.count<=100000000000000000) :
  Calls Tryz.prog 98 #[.pointer (some ⟨B,0,none⟩)] w (XGives F w B (if roundB s x=true then({s with done:=true},0)else(sendS {s with W:=s.W.set 0 {x with black:=false,has:=false}} {msg0 with src:=0,dst:=s.workers - 1,kind:=5},0))):=by
 obtain⟨part,hpF,kv,wv,yv,M,xs,h⟩:=hx
 have hlen:=hs.len
 have h2:=hs.two
 have h5:=hs.five
 have hway:=hs.way
 have hxl:=h.wlen
 obtain⟨xw,hxw⟩:∃xw,xs[0]?= some xw:=⟨_,List.getElem?_eq_getElem (by omega)⟩
 obtain⟨gw,wc,hwf,-,hgw⟩:=World.ownsRow.form h.wrow.1 (by omega)
 subst hwf
 have b3:w.cell? ⟨B,4,none⟩=some (.slice (some ⟨gw,0,none⟩) xs.length wc):=h.box.cell (o:=4) rfl
 have hxm:=List.mem_of_getElem? hk
 have hsent:=hN.sent x hxm
 have hgot:=hN.got x hxm
 obtain⟨ls,hls⟩:∃ls,s.links[0]?= some ls:=⟨_,List.getElem?_eq_getElem (by rw[hs.llen];omega)⟩
 have hlm:=List.mem_of_getElem? hls
 obtain⟨l,hl⟩:∃l,ls[s.W.length - 1]?= some l:=⟨_,List.getElem?_eq_getElem (by rw[hs.lrow ls hlm];omega)⟩
 have hlmm:=List.mem_of_getElem? hl
 have hall:=hN.all ls hlm l hlmm
 have hknl:=hkn ls hlm l hlmm
 have HTD:=hid_of (told_x h hxw hk hm hhas (by omega) (by omega) hcn)
 have HSE:Hid (∀U,Calls Tryz.prog 159 #[.agg #[.int .i64 (x.token.count+(x.sent - x.came)),.bool (x.token.black||x.black),.bool (0==0&&s.around)]] U fun e w'=>e= .returned (.bool (roundB s x))/\Below U.heap.size U w'):=fun U=>by
  rw[<-round_shows s x]
  exact showsEnd_calls _ _ _ U
 obtain⟨tc,htc⟩:∃tc,x.token.count+(x.sent - x.came)=tc:=⟨_,rfl⟩
 obtain⟨tb,htb⟩:∃tb,(x.token.black||x.black)=tb:=⟨_,rfl⟩
 obtain⟨tr,htr⟩:∃tr,((0:Nat)==0&&s.around)=tr:=⟨_,rfl⟩
 rw[htc,htb,htr]at HTD
 rw[htc,htb,htr]at HSE
 obtain⟨rb,hrb⟩:∃rb,roundB s x=rb:=⟨_,rfl⟩
 rw[hrb]at HSE ⊢
 have HD:Hid (∀U,Below w.heap.size w U->Calls Tryz.prog 149 #[.pointer (some ⟨B,0,none⟩),.int .i64 0,.int .i64 ((xs.length:Int) - 1),.agg #[.int .i64 0,.bool false,.bool false]] U fun e w'=>∃v,e= .returned v/\(v= .tuple #[]/\XGives F w B (sendS {s with W:=s.W.set 0 {x with black:=false,has:=false}} {msg0 with src:=0,dst:=s.workers - 1,kind:=5},0) (.returned (.int .i64 0)) w')):=fun U hU=>by
  obtain⟨h7,hm7⟩:=h.later hU
  have hd:(xs.length:Int) - 1=((s.W.length - 1:Nat):Int):=by omega
  have hd2:s.workers - 1=((s.W.length - 1:Nat):Int):=by omega
  rw[hd]
  have q:=sendToken_x 0 (s.W.length - 1) 0 false false h7 hk hls hl (by omega) hknl (by omega) (by omega)
  refine q.mono ?_
  rintro e w' ⟨v,rfl,rfl,part',yv',xs',h8,hm8⟩
  obtain⟨h9,h10⟩:=(hm7.trans hm8).okX h8 hpF
  refine⟨_,rfl,rfl,rfl,?_,h10⟩
  rw[hd2]
  exact h9
 have HH:=hid_of h
 have HPF:=hid_of hpF
 have kw:IntKind.i64.wrap ((xs.length:Int) - 1)=(xs.length:Int) - 1:=IntWalk.i64_in _ (by omega)
 have n1:(0:Int) < (xs.length:Int):=by omega
 have n2:0 < xs.length:=by omega
 have n3:¬xs.length=0:=by omega
 have n4:1<=xs.length:=by omega
 clear h hxl hlen htc htb htr hrb hls hl hall hknl
 cases rb
 ·have HRES:Hid ((if false=true then(({s with done:=true}:RunS),(0:Int))else(sendS {s with W:=s.W.set 0 {x with black:=false,has:=false}} {msg0 with src:=0,dst:=s.workers - 1,kind:=5},0))=(sendS {s with W:=s.W.set 0 {x with black:=false,has:=false}} {msg0 with src:=0,dst:=s.workers - 1,kind:=5},0)):=by show _=_;simp
  rw[HRES.out]
  go_enter Tryz.func98,Tryz.ntmps98
  go_upto_region 4 with(first
   |(go_at_call 150;refine HTD.out.mono ?_;rintro e w1 ⟨v1,rfl,rfl,hb1⟩;have HB1:=hid_of hb1;clear hb1)
   |(go_at_call 159;refine(HSE.out _).mono ?_;rintro e w2 ⟨rfl,hb2⟩;have HB2:=hid_of hb2;clear hb2))
  have gb:Below w.heap.size w w2:=HB1.out.trans (HB2.out.mono HB1.out.size)
  have c3:w2.cell? ⟨B,4,none⟩=some (.slice (some ⟨gw,0,none⟩) xs.length wc):=(HH.out.box.below gb HH.out.box.lt).cell (o:=4) rfl
  have HGB:=hid_of gb
  clear gb b3
  go_wp2_with (go_at_call 149;refine(HD.out _ HGB.out).mono ?_;rintro e w3 ⟨v3,rfl,rfl,hres⟩;have HR3:=hid_of hres;clear hres)
  go_ret
  exact HR3.out
 ·have HRES:Hid ((if true=true then(({s with done:=true}:RunS),(0:Int))else(sendS {s with W:=s.W.set 0 {x with black:=false,has:=false}} {msg0 with src:=0,dst:=s.workers - 1,kind:=5},0))=({s with done:=true},0)):=by show _=_;simp
  rw[HRES.out]
  go_enter Tryz.func98,Tryz.ntmps98
  go_upto_region 2 with(first
   |(go_at_call 150;refine HTD.out.mono ?_;rintro e w1 ⟨v1,rfl,rfl,hb1⟩;have HB1:=hid_of hb1;clear hb1)
   |(go_at_call 159;refine(HSE.out _).mono ?_;rintro e w2 ⟨rfl,hb2⟩;have HB2:=hid_of hb2;clear hb2))
  obtain⟨h3,hm3⟩:=HH.out.later (HB1.out.trans (HB2.out.mono HB1.out.size))
  have c15:=h3.box.cell (o:=15) rfl
  have f15:=h3.box.frozen 15
  have H3:=hid_of h3
  have HM3:=hid_of hm3
  clear h3 hm3
  go_wp2_with fail
  go_ret
  have k4:Kept (·= B) w2 (w2.setCell ⟨B,15,none⟩ (.bool true)):=(Kept.refl (·= B) w2).setCell (.inl (by rfl)) _
  obtain⟨h4,hm4⟩:=H3.out.rebox (an:=s.answers) (d:=true) (o:=s.over) k4 (H3.out.box.setAt 15 _)
  obtain⟨h5,h6⟩:=(HM3.out.trans hm4).okX h4 HPF.out
  exact⟨rfl,h5,h6⟩
structure CheckAt(N:Nat)(s:RunS):Prop where
 shape:Shaped s
 small:Small N s
 le:N+10<=90000000
 known:Known s
 toks:∀x∈s.W,-100000000000000000<=x.token.count/\x.token.count<=100000000000000000
 few:s.answers.length<=90000000
 many:∀L b,s.answers=L++ [b]->b.many<=s.workers
set_option maxHeartbeats 2000000 in
set_option maxRecDepth 100000 in
theorem check1_calls(F:Nat->Prop)(B N:Nat)(s:RunS)(x:WorkerS)(w:World)(hx:XOK F w B s)(hC:CheckAt N s)(hk:s.W[0]?= some x)(ht:x.tasks=[]) :
  Calls Tryz.prog 44 #[.pointer (some ⟨B,0,none⟩)] w (XGives F w B (if s.mode=1 then ringS s else wavesS s)):=by
 have hle:=hC.le
 have hxm:=List.mem_of_getElem? hk
 have hlow:=hx.low
 have same:∀(r:Int) W,Below w.heap.size w W->XGives F w B (s,r) (.returned (.int .i64 r)) W:=fun r W hb=>⟨rfl,(hx.later hb).mono (fun b _ h=> .inl h),Kept.of_below hb (fun b h1 h2=>by omega)⟩
 have up:∀(res:RunS×Int) W,Below w.heap.size w W->∀e w',XGives (fun b=>F b/\b < w.heap.size) W B res e w'->∃r,e= .returned (.int .i64 r)/\XGives F w B res (.returned (.int .i64 r)) w':=fun res W hb e w' hg=>by
  obtain⟨rfl,g2,g3⟩:=hg
  have z:=hb.size
  refine⟨_,rfl,rfl,g2.mono (fun b _ h=> ?_),(Kept.of_below hb (X:=F) (fun b h1 h2=>by omega)).andThen g3 (fun b _ h=>h.1)⟩
  rcases h with h|h
  ·exact .inl h.1
  ·exact .inr (by omega)
 obtain⟨part,-,kv,wv,yv,M,xs,h⟩:=hx
 have b3:w.cell? ⟨B,3,none⟩=some (.int .i64 s.mode):=h.box.cell (o:=3) rfl
 clear h
 by_cases hm:s.mode=1
 ·have hmb:(s.mode==1)=true:=by rw[hm];rfl
  obtain⟨W1,hW1⟩:∃W1,held2 w (some ⟨B,0,none⟩) 0=W1:=⟨_,rfl⟩
  obtain⟨W2,hW2⟩:∃W2,W1.alloc (Obj.cells (([stepH 147 w]++ [((98,#[.pointer (some ⟨B,0,none⟩)],#[]):StepV)]).map stepVal).toArray 94)=W2:=⟨_,rfl⟩
  have g1:=held2_below w (some ⟨B,0,none⟩) 0
  have a1:=held2_at w B 0
  rw[hW1]at g1 a1
  have g2:Below W1.heap.size W1 W2:=by rw[<-hW2];exact(Below.refl _ _).alloc (Nat.le_refl _) _
  have bL:BoxAt W2 W1.heap.size 94 (([stepH 147 w]++ [((98,#[.pointer (some ⟨B,0,none⟩)],#[]):StepV)]).map stepVal).toArray:=by rw[<-hW2];exact BoxAt.new W1 _ _
  have gb:Below w.heap.size w W2:=g1.trans (g2.mono g1.size)
  have c1:=a1.below g2
  have key:Calls Tryz.prog 95 #[.slice (some ⟨W1.heap.size,0,none⟩) 2 2] W2 fun e w'=>∃r,e= .returned (.int .i64 r)/\XGives F w B (ringS s) (.returned (.int .i64 r)) w':=by
   refine(inTurn_tests W1.heap.size [stepH 147 w] [if s.mode=1/\x.has=true then 0 else 9] (98,#[.pointer (some ⟨B,0,none⟩)],#[]) W2 (fun r w'=>XGives F w B (ringS s) (.returned (.int .i64 r)) w') (by simp) (by simp) 94 bL ?_ ?_ ?_ ?_)
   ·intro f hf' args W
    simp at hf'
    rcases hf' with rfl|rfl
    ·exact enters_of Tryz.func147 (by kernel_rfl) rfl args W
    ·exact enters_of Tryz.func98 (by kernel_rfl) rfl args W
   ·intro j f e hj he hp W hW
    match j,hj,he with
    |0,hj,he=>cases hj;cases he;exact hasToken1_calls _ B _ _ 0 s x W (hlow.later (gb.trans (hW.mono gb.size))) hk (c1.below hW)
    |(n+1),hj,he=>simp at hj
   ·intro j e he hne hp W hW
    match j,he with
    |0,he=>
     cases he
     have hq:¬(s.mode=1/\x.has=true):=fun q=>by rw[if_pos q]at hne;exact absurd rfl hne
     have hres:ringS s=(s,9):=by
      unfold ringS
      rw[hk]
      dsimp only
      rw[if_pos]
      cases hh:x.has
      ·exact .inl rfl
      ·exact absurd ⟨hm,hh⟩ hq
     rw[if_neg hq,hres]
     exact same 9 W (gb.trans (hW.mono gb.size))
    |(n+1),he=>simp at he
   ·intro hp W hW
    have p0:=hp 0 _ (by simp) rfl
    have q0:s.mode=1/\x.has=true:=by
     by_cases h:s.mode=1/\x.has=true
     ·exact h
     ·rw[if_neg h]at p0;exact absurd p0 (by omega)
    have hres:ringS s=if roundB s x=true then({s with done:=true},0)else(sendS {s with W:=s.W.set 0 {x with black:=false,has:=false}} {msg0 with src:=0,dst:=s.workers - 1,kind:=5},0):=by
     unfold ringS
     rw[hk]
     dsimp only
     rw[if_neg]
     rintro(h|h)
     ·rw[q0.2]at h;cases h
     ·exact h ht
    have gW:=gb.trans (hW.mono gb.size)
    rw[hres]
    exact(checkToken_calls _ B N s x W (hlow.later gW) hk hm q0.2 hC.shape hC.small (by omega) hC.known (hC.toks x hxm)).mono (fun e w' hg=>up _ W gW e w' hg)
  have HKEY:=hid_of key
  have H1:=hid_of hW1
  have H2:=hid_of hW2
  rw[if_pos hm]
  obtain⟨res,hres⟩:∃res,ringS s=res:=⟨_,rfl⟩
  rw[hres]at HKEY ⊢
  clear key hW1 hW2 g1 a1 g2 bL gb c1 hm same up hlow
  go_enter Tryz.func44,Tryz.ntmps44
  go_wp2_with (first
   |(go_at_call 87;refine(hasToken_calls (some ⟨B,0,none⟩) 0 w).mono ?_;rintro e a1 ⟨rfl,hq⟩;obtain rfl:W1=a1:=H1.out.symm.trans hq.symm;clear hq)
   |(go_at_call 95;refine Calls.at_world H2.out ?_;refine HKEY.out.mono ?_;rintro e a7 ⟨r,rfl,hr⟩))
  go_ret
  exact hr
 ·have hmb:(s.mode==1)=false:=by rw[beq_eq_false_iff_ne];exact hm
  obtain⟨W2,hW2⟩:∃W2,w.alloc (Obj.cells (([((99,#[.pointer (some ⟨B,0,none⟩)],#[]):StepV)]++ [((100,#[.pointer (some ⟨B,0,none⟩)],#[]):StepV)]).map stepVal).toArray 94)=W2:=⟨_,rfl⟩
  have gb:Below w.heap.size w W2:=by rw[<-hW2];exact(Below.refl _ _).alloc (Nat.le_refl _) _
  have bL:BoxAt W2 w.heap.size 94 (([((99,#[.pointer (some ⟨B,0,none⟩)],#[]):StepV)]++ [((100,#[.pointer (some ⟨B,0,none⟩)],#[]):StepV)]).map stepVal).toArray:=by rw[<-hW2];exact BoxAt.new w _ _
  have key:Calls Tryz.prog 95 #[.slice (some ⟨w.heap.size,0,none⟩) 2 2] W2 fun e w'=>∃r,e= .returned (.int .i64 r)/\XGives F w B (wavesS s) (.returned (.int .i64 r)) w':=by
   refine(inTurn_tests w.heap.size [(99,#[.pointer (some ⟨B,0,none⟩)],#[])] [if openB s=true then 9 else 0] (100,#[.pointer (some ⟨B,0,none⟩)],#[]) W2 (fun r w'=>XGives F w B (wavesS s) (.returned (.int .i64 r)) w') (by simp) (by simp) 94 bL ?_ ?_ ?_ ?_)
   ·intro f hf' args W
    simp at hf'
    rcases hf' with rfl|rfl
    ·exact enters_of Tryz.func99 (by kernel_rfl) rfl args W
    ·exact enters_of Tryz.func100 (by kernel_rfl) rfl args W
   ·intro j f e hj he hp W hW
    match j,hj,he with
    |0,hj,he=>cases hj;cases he;exact isAnswered_calls _ B s W (hlow.later (gb.trans (hW.mono gb.size))) hC.many
    |(n+1),hj,he=>simp at hj
   ·intro j e he hne hp W hW
    match j,he with
    |0,he=>
     cases he
     have hq:openB s=true:=by
      by_cases h:openB s=true
      ·exact h
      ·rw[if_neg h]at hne;exact absurd rfl hne
     have hres:wavesS s=(s,9):=by
      unfold wavesS
      rw[hk]
      dsimp only
      rw[if_pos (.inr hq)]
     rw[if_pos hq,hres]
     exact same 9 W (gb.trans (hW.mono gb.size))
    |(n+1),he=>simp at he
   ·intro hp W hW
    have p0:=if_zero (by omega) (hp 0 _ (by simp) rfl)
    have hres:wavesS s=if twiceB s=true then({s with done:=true},0)else((List.range' 1 (s.W.length - 1)).foldl (waveS (s.answers.length+1)) (notedS {s with answers:=s.answers++ [⟨0,0,0,true⟩]} x.sent x.came true),0):=by
     unfold wavesS
     rw[hk]
     dsimp only
     rw[if_neg]
     rintro(h|h)
     ·exact h ht
     ·exact p0 h
    have gW:=gb.trans (hW.mono gb.size)
    rw[hres]
    exact(checkRounds_calls _ B N s x W (hlow.later gW) hk ht hC.shape hC.small hle hC.known hC.few).mono (fun e w' hg=>up _ W gW e w' hg)
  have HKEY:=hid_of key
  have H2:=hid_of hW2
  rw[if_neg hm]
  obtain⟨res,hres⟩:∃res,wavesS s=res:=⟨_,rfl⟩
  rw[hres]at HKEY ⊢
  clear key hW2 bL gb hm same up hlow
  go_enter Tryz.func44,Tryz.ntmps44
  go_wp2_with (go_at_call 95;refine Calls.at_world H2.out ?_;refine HKEY.out.mono ?_;rintro e a7 ⟨r,rfl,hr⟩)
  go_ret
  exact hr
set_option maxHeartbeats 2000000 in
set_option maxRecDepth 100000 in
theorem check_opens(rp:Option Addr)(w:World)(R:Ending->World->Prop)
  (h:∀W1 W2,held2 w rp 0=W1->W1.alloc (Obj.cells (([stepH 96 w]++ [((44,#[.pointer rp],#[]):StepV)]).map stepVal).toArray 94)=W2->Calls Tryz.prog 42 #[.pointer rp,.slice (some ⟨W1.heap.size,0,none⟩) 2 2] W2 fun e w'=>(∃r,e= .returned (.int .i64 r))/\R e w') :
  Calls Tryz.prog 19 #[.pointer rp] w R:=by
 obtain⟨W1,h1⟩:∃W1,held2 w rp 0=W1:=⟨_,rfl⟩
 obtain⟨W2,h2⟩:∃W2,W1.alloc (Obj.cells (([stepH 96 w]++ [((44,#[.pointer rp],#[]):StepV)]).map stepVal).toArray 94)=W2:=⟨_,rfl⟩
 have HC:=hid_of (h W1 W2 h1 h2)
 have H1:=hid_of h1
 have H2:=hid_of h2
 clear h h1 h2
 go_enter Tryz.func19,Tryz.ntmps19
 go_wp2_with (first
  |(go_at_call 43;refine(isIdle_calls rp 0 w).mono ?_;rintro e a1 ⟨rfl,hq⟩;obtain rfl:W1=a1:=H1.out.symm.trans hq.symm;clear hq)
  |(go_at_call 42;refine Calls.at_world H2.out ?_;refine HC.out.mono ?_;rintro e a7 ⟨⟨r,rfl⟩,hr⟩))
 exact hr
theorem x_check_calls(F:Nat->Prop)(B N:Nat)(s:RunS)(w:World)(hx:XOK F w B s)(hC:CheckAt N s) :
  Calls Tryz.prog 19 #[.pointer (some ⟨B,0,none⟩)] w (XGives F w B (checkS s)):=by
 refine check_opens (some ⟨B,0,none⟩) w _ (fun W1 W2 h1 h2=> ?_)
 have g1:=held2_below w (some ⟨B,0,none⟩) 0
 have a1:=held2_at w B 0
 rw[h1]at g1 a1
 have g2:Below W1.heap.size W1 W2:=by rw[<-h2];exact(Below.refl _ _).alloc (Nat.le_refl _) _
 have bL:BoxAt W2 W1.heap.size 94 (([stepH 96 w]++ [((44,#[.pointer (some ⟨B,0,none⟩)],#[]):StepV)]).map stepVal).toArray:=by rw[<-h2];exact BoxAt.new W1 _ _
 have z1:=g1.size
 have hb:Below w.heap.size w W2:=g1.trans (g2.mono z1)
 have c1:=a1.below g2
 clear a1 h1 h2
 have hlow:=hx.low
 have hlen:=hC.shape.len
 have h2w:=hC.shape.two
 obtain⟨x,hk⟩:∃x,s.W[0]?= some x:=⟨_,List.getElem?_eq_getElem (by omega)⟩
 refine(change_tests F B W1.heap.size s W2 (hx.later hb) [stepH 96 w] [if x.tasks.length=0 then 0 else 9] (44,#[.pointer (some ⟨B,0,none⟩)],#[]) (checkS s) w hb hx (by simp) (by simp) 94 bL ?over ?enter ?test ?bad ?last).mono (fun e w' h=>⟨⟨_,h.1⟩,h⟩)
 case over=>
  intro ho
  simp[checkS,ho]
 case enter=>
  intro f hf' args W
  simp at hf'
  rcases hf' with rfl|rfl
  ·exact enters_of Tryz.func96 (by kernel_rfl) rfl args W
  ·exact enters_of Tryz.func44 (by kernel_rfl) rfl args W
 case test=>
  intro hd ho j f e hj he hp W hW
  match j,hj,he with
  |0,hj,he=>cases hj;cases he;exact isIdle1_calls F B _ _ 0 s x W ((hx.later hb).later hW) hk (c1.below hW)
  |(n+1),hj,he=>simp at hj
 case bad=>
  intro hd ho j e he hne hp
  have h0:startE s=0:=by simp[startE,hd,ho]
  match j,he with
  |0,he=>
   cases he
   have ht:x.tasks≠ []:=fun h=>by rw[h]at hne;simp at hne
   have ht':¬x.tasks.length=0:=fun h=>ht (List.length_eq_zero_iff.1 h)
   rw[if_neg ht']
   unfold checkS
   rw[if_neg (by rw[h0];simp)]
   split
   ·unfold ringS
    rw[hk]
    dsimp only
    rw[if_pos (.inr ht)]
   ·unfold wavesS
    rw[hk]
    dsimp only
    rw[if_pos (.inl ht)]
  |(n+1),he=>simp at he
 case last=>
  intro hd ho hp W hW
  have h0:startE s=0:=by simp[startE,hd,ho]
  have p0:=hp 0 _ (by simp) rfl
  have q0:x.tasks=[]:=by
   by_cases h:x.tasks.length=0
   ·exact List.length_eq_zero_iff.1 h
   ·rw[if_neg h]at p0;exact absurd p0 (by omega)
  have hres:checkS s=if s.mode=1 then ringS s else wavesS s:=by
   unfold checkS
   rw[if_neg (by rw[h0];simp)]
  rw[hres]
  have hbW:Below w.heap.size w W:=hb.trans (hW.mono hb.size)
  exact check1_calls _ B N s x W (hlow.later hbW) hC hk q0
theorem told_sorted{N:Nat}{s:RunS}{did:List ByteArray}(hW:Whole N s)(hp:Play did s)(hd:s.done=true):s.values.Pairwise (fun a b=>idv a < idv b):=by
 rw[(hp.announced hW.fine hd).1]
 unfold pairsOf
 exact List.pairwise_map.2 (all_order hW.fine.prog)
theorem Whole.toks{N:Nat}{s:RunS}(hW:Whole N s)(hN:N<=90000000):∀x∈s.W,-100000000000000000<=x.token.count/\x.token.count<=100000000000000000:=fun x hx=>by
 have:=(hW.fine.works x hx).tok
 omega
theorem runCalls:RunCalls where
 tasks:=fun F B N s i w hx hW=>x_tasks_calls F B s i w hx hW.steady.fits
 messages:=fun F B N s w hx hW=>x_messages_calls F B s w hx hW.fine.shaped
 announced:=fun F B N did s w hx hW hN hp=>by
  refine(x_announced_calls F B s w hx (fun hd=>⟨told_sorted hW hp hd,by have:=hW.fine.vals;omega⟩)).mono fun e w' h=> ?_
  exact h
 work:=fun F B N s i w hx hW hN=>x_work_calls F B N s i w hx hW.steady.fits hW.fine.shaped hW.fine.small (by omega) hW.fine.known (by have:=hW.fine.vals;omega)
 steal:=fun F B N s i v w hx hW hN=>x_steal_calls F B N s i v w hx hW.steady.fits hW.fine.shaped hW.fine.small (by omega) hW.fine.known
 drop:=fun F B N s i w hx hW hN=>x_drop_calls F B s i w hx hW.fine.shaped
 twice:=fun F B N s i w hx hW hN=>x_twice_calls F B s i w hx hW.fine.shaped
 tick:=fun F B N s i w hx hW hN=>x_tick_calls F B N s i w hx hW.steady.fits hW.fine.shaped hW.fine.small (by omega)
 deliver:=fun F B N s i w hx hW hN=>x_deliver_calls F B N s i w hx hW.fine (by omega) hW.calm
 pass:=fun F B N s i w hx hW hN=>x_pass_calls F B N s i w hx hW.steady.fits hW.fine.shaped hW.fine.small (by omega) hW.fine.known (hW.toks (by omega))
 check:=fun F B N s w hx hW hN=>x_check_calls F B N s w hx ⟨hW.fine.shaped,hW.fine.small,by omega,hW.fine.known,hW.toks (by omega),by have:=hW.fine.alen;omega,fun L b e=>by have:=hW.sure.waves.many L b e;omega⟩
end Go.Proofs.YtfanaanofjhlkaaGreatDoor
