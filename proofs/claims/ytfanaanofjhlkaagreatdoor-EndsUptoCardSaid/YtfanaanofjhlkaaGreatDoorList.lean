import Derived.Test.YtfanaanofjhlkaaGreatDoorTasks
import Derived.Maps.OwnSet
import Derived.Maps.OwnIn
import Derived.Shelf.SlGeneric
import Derived.Shelf.SlIter.Nil
import Derived.Shelf.SortM.Plain
import Derived.Shelf.SortM.SortNone
import Derived.Ground.GgzProg
import Derived.Ground.SlgmProg
import Derived.Test.YtfanaanofjhlkaaGreatDoorProg
import Derived.WalkSmall
namespace Go.Proofs.YtfanaanofjhlkaaGreatDoor
open Go Go.RowKit Go.Maps Go.WideMaps
theorem strKeyed:Keyed Tryz.prog 9:=string_keyed Tryz.underlying9
theorem zeroInt(w:World):(zeroValue 3).run Tryz.prog w= .ok (.int .i64 0) w:=by kernel_rfl
def MapIs(W:World)(M:Nat)(D:DataW Unit):Prop:=W.ownsMap Tryz.prog 9 (plainElem Tryz.prog 3) M (Maps.size D) D
def keyL(id:ByteArray):Lit:= .string id.data.toList
def elemD(v:Int):DataW Unit:= .lit (.int .i64 v)
theorem mapIs_of{W:World}{M n:Nat}{D:DataW Unit}(h:W.ownsMap Tryz.prog 9 (plainElem Tryz.prog 3) M n D):MapIs W M D:=by
 obtain⟨es,clock,hb,hf,hs,hD⟩:=h
 refine⟨es,clock,hb,hf,?_,hD⟩
 rw[hD]
 show es.size<=List.length _
 rw[length_sorted];simp
theorem MapIs.lt{W:World}{M:Nat}{D:DataW Unit}(h:MapIs W M D):M < W.heap.size:=World.ownsMap.lt h
theorem MapIs.kept{X:Nat->Prop}{W W':World}{M:Nat}{D:DataW Unit}(h:MapIs W M D)(k:Kept X W W')(hx:¬X M):MapIs W' M D:=by
 obtain⟨es,clock,hb,hf,hs,hD⟩:=h
 exact⟨es,clock,k.heap hb hx,hf,hs,hD⟩
theorem MapIs.below{n:Nat}{W W':World}{M:Nat}{D:DataW Unit}(h:MapIs W M D)(k:Below n W W')(hx:M < n):MapIs W' M D:=
 h.kept (X:=fun k=>n<=k) (Kept.of_below k (fun _ _ h=>h)) (by omega)
set_option maxHeartbeats 1000000 in
theorem keep_calls(M b o:Nat)(D:DataW Unit)(id:ByteArray)(v:Int)(w:World)(hm:MapIs w M D)(hn:Maps.size D < 100000000)(hid:id.size<=100000000)(hv:(Lit.int .i64 v).wf=true)
  (c0:w.cell? ⟨b,o,none⟩=some (.string id)) (c1:w.cell? ⟨b,o+1,none⟩=some (.int .i64 v)) (hb:b < w.heap.size) :
  Calls Tryz.prog 84 #[.map (some M),.slice (some ⟨b,o,none⟩) 1 1] w fun e w'=>(∃u,e= .returned u)/\MapIs w' M (D.put (keyL id) (elemD v))/\Kept (·= M) w w':=by
 have hMl:=hm.lt
 have hkey:keyOf Tryz.prog 9 (.string id)=some (keyL id):=keyOf_string_mk Tryz.underlying9 (by unfold maxLen;omega)
 go_enter Tryz.func84,Tryz.ntmps84
 go_wp2
 go_loopw [8] (fun i wr=>(i= .int .i64 0/\wr=w)\/(i= .int .i64 1/\MapIs wr M (D.put (keyL id) (elemD v))/\Kept (·= M) w wr)) (fun i _=>1 - (intOf i).toNat)
 case atStart=>exact .inl ⟨rfl,rfl⟩
 case round=>
  rcases hrel with⟨rfl,rfl⟩|⟨rfl,hm1,hk1⟩
  ·have hown:=(World.ownsMap.alloc (show wr.ownsMap Tryz.prog 9 (plainElem Tryz.prog 3) M (Maps.size D) D from hm) (.cells #[.string id,.int .i64 v] 92))
   go_wp2_with (first
    |(at_mapUpdate;refine wpList_mapUpdate_own _ rfl _ _ _ 99 rfl 9 3 strKeyed Tryz.underlying99 _ M (Maps.size D) _ rfl hown (by unfold maxLen;omega) _ _ _ rfl rfl hkey _ [] (plainElem_int Tryz.underlying3 hv) ?_)
    |go_in)
   intro w1 hown1 hgrow1
   go_wp2
   go_roundw
   case rel=>exact .inr ⟨rfl,mapIs_of hown1,(Kept.alloc _ _ _).trans (Kept.grown hgrow1 (fun r e=>by cases e;rfl))⟩
   case measure=>simp[intOf]
  ·go_wp2
   go_end0
   exact⟨⟨_,rfl⟩,hm1,hk1⟩
end Go.Proofs.YtfanaanofjhlkaaGreatDoor
namespace Go.Proofs
open Go.Shelf
def Tryz.keys102_ren:Go.Shelf.Ren:=⟨fun|7=>102|10=>168|n=>n,fun|23=>99|26=>9|3=>3|28=>151|0=>0|27=>150|33=>204|4=>4|n=>n,fun|n=>n⟩
theorem Tryz.keys102:Go.Proofs.SlLaysZ.n7 Tryz.prog Tryz.keys102_ren:={
 mixed:=by kernel_rfl
 f7:=⟨Tryz.f102.name,by decide,Tryz.func102.trans (congrArg some (by kernel_rfl))⟩
 f10:=⟨Tryz.f168.name,by decide,Tryz.func168.trans (congrArg some (by kernel_rfl))⟩
 t0:=Tryz.underlying0
 a0:=Tryz.isAgg0
 z0:=Tryz.sizeOf0
 v0:=Tryz.zeroValue0
 t4:=Tryz.underlying4
 a4:=Tryz.isAgg4
 z4:=Tryz.sizeOf4
 v4:=Tryz.zeroValue4
 t23:=Tryz.underlying99
 a23:=Tryz.isAgg99
 z23:=Tryz.sizeOf99
 v23:=Tryz.zeroValue99
 t26:=Tryz.underlying9
 a26:=Tryz.isAgg9
 z26:=Tryz.sizeOf9
 v26:=Tryz.zeroValue9
 t27:=Tryz.underlying150
 a27:=Tryz.isAgg150
 z27:=Tryz.sizeOf150
 v27:=Tryz.zeroValue150
 t28:=Tryz.underlying151
 a28:=Tryz.isAgg151
 z28:=Tryz.sizeOf151
 v28:=Tryz.zeroValue151
 t33:=Tryz.underlying204
 a33:=Tryz.isAgg204
 z33:=Tryz.sizeOf204
 v33:=Tryz.zeroValue204}
def Tryz.sorted101_ren:Go.Shelf.Ren:=⟨fun|6=>101|8=>166|9=>167|11=>193|13=>195|12=>194|23=>215|24=>216|14=>206|15=>207|16=>208|17=>209|18=>210|19=>211|20=>212|21=>213|22=>214|25=>221|26=>222|27=>223|28=>224|29=>225|30=>226|31=>232|n=>n,fun|26=>9|28=>151|24=>43|0=>0|3=>3|37=>227|48=>243|50=>245|4=>4|40=>235|39=>234|45=>240|5=>5|9=>9|51=>247|55=>251|57=>258|58=>259|33=>204|n=>n,fun|n=>n⟩
theorem Tryz.sorted101:Go.Proofs.SlLaysZ.n6 Tryz.prog Tryz.sorted101_ren:={
 mixed:=by kernel_rfl
 f6:=⟨Tryz.f101.name,by decide,Tryz.func101.trans (congrArg some (by kernel_rfl))⟩
 f8:=⟨Tryz.f166.name,by decide,Tryz.func166.trans (congrArg some (by kernel_rfl))⟩
 f11:=⟨Tryz.f193.name,by decide,Tryz.func193.trans (congrArg some (by kernel_rfl))⟩
 t0:=Tryz.underlying0
 a0:=Tryz.isAgg0
 z0:=Tryz.sizeOf0
 v0:=Tryz.zeroValue0
 t24:=Tryz.underlying43
 a24:=Tryz.isAgg43
 z24:=Tryz.sizeOf43
 v24:=Tryz.zeroValue43
 t26:=Tryz.underlying9
 a26:=Tryz.isAgg9
 z26:=Tryz.sizeOf9
 v26:=Tryz.zeroValue9
 t28:=Tryz.underlying151
 a28:=Tryz.isAgg151
 z28:=Tryz.sizeOf151
 v28:=Tryz.zeroValue151
 i26:=by kernel_rfl}
def Tryz.sort167_ren:Go.Shelf.Ren:=⟨fun|6=>167|8=>195|9=>194|19=>215|20=>216|21=>206|22=>207|23=>208|24=>209|25=>210|26=>211|27=>212|28=>213|29=>214|36=>221|31=>222|32=>223|37=>224|38=>225|39=>226|41=>232|n=>n,fun|27=>43|29=>9|3=>3|32=>227|26=>43|0=>0|44=>243|46=>245|4=>4|36=>235|35=>234|41=>240|5=>5|9=>9|53=>247|57=>251|63=>258|64=>259|n=>n,fun|n=>n⟩
theorem Tryz.sort167:Go.Proofs.SlLaysM.n6 Tryz.prog Tryz.sort167_ren:={
 mixed:=by kernel_rfl
 f6:=⟨Tryz.f167.name,by decide,Tryz.func167.trans (congrArg some (by kernel_rfl))⟩
 f8:=Tryz.func195.trans (congrArg some (by kernel_rfl))
 f9:=⟨Tryz.f194.name,by decide,Tryz.func194.trans (congrArg some (by kernel_rfl))⟩
 f19:=Tryz.func215.trans (congrArg some (by kernel_rfl))
 f20:=Tryz.func216.trans (congrArg some (by kernel_rfl))
 f21:=⟨Tryz.f206.name,by decide,Tryz.func206.trans (congrArg some (by kernel_rfl))⟩
 f22:=⟨Tryz.f207.name,by decide,Tryz.func207.trans (congrArg some (by kernel_rfl))⟩
 f23:=⟨Tryz.f208.name,by decide,Tryz.func208.trans (congrArg some (by kernel_rfl))⟩
 f24:=⟨Tryz.f209.name,by decide,Tryz.func209.trans (congrArg some (by kernel_rfl))⟩
 f25:=⟨Tryz.f210.name,by decide,Tryz.func210.trans (congrArg some (by kernel_rfl))⟩
 f26:=⟨Tryz.f211.name,by decide,Tryz.func211.trans (congrArg some (by kernel_rfl))⟩
 f27:=⟨Tryz.f212.name,by decide,Tryz.func212.trans (congrArg some (by kernel_rfl))⟩
 f28:=⟨Tryz.f213.name,by decide,Tryz.func213.trans (congrArg some (by kernel_rfl))⟩
 f29:=⟨Tryz.f214.name,by decide,Tryz.func214.trans (congrArg some (by kernel_rfl))⟩
 f31:=Tryz.func222.trans (congrArg some (by kernel_rfl))
 f32:=Tryz.func223.trans (congrArg some (by kernel_rfl))
 f36:=⟨Tryz.f221.name,by decide,Tryz.func221.trans (congrArg some (by kernel_rfl))⟩
 f37:=⟨Tryz.f224.name,by decide,Tryz.func224.trans (congrArg some (by kernel_rfl))⟩
 f38:=⟨Tryz.f225.name,by decide,Tryz.func225.trans (congrArg some (by kernel_rfl))⟩
 f39:=⟨Tryz.f226.name,by decide,Tryz.func226.trans (congrArg some (by kernel_rfl))⟩
 f41:=⟨Tryz.f232.name,by decide,Tryz.func232.trans (congrArg some (by kernel_rfl))⟩
 t0:=Tryz.underlying0
 a0:=Tryz.isAgg0
 z0:=Tryz.sizeOf0
 v0:=Tryz.zeroValue0
 t3:=Tryz.underlying3
 a3:=Tryz.isAgg3
 z3:=Tryz.sizeOf3
 v3:=Tryz.zeroValue3
 t4:=Tryz.underlying4
 a4:=Tryz.isAgg4
 z4:=Tryz.sizeOf4
 v4:=Tryz.zeroValue4
 t5:=Tryz.underlying5
 a5:=Tryz.isAgg5
 z5:=Tryz.sizeOf5
 v5:=Tryz.zeroValue5
 t9:=Tryz.underlying9
 a9:=Tryz.isAgg9
 z9:=Tryz.sizeOf9
 v9:=Tryz.zeroValue9
 t26:=Tryz.underlying43
 a26:=Tryz.isAgg43
 z26:=Tryz.sizeOf43
 v26:=Tryz.zeroValue43
 t27:=Tryz.underlying43
 a27:=Tryz.isAgg43
 z27:=Tryz.sizeOf43
 v27:=Tryz.zeroValue43
 t29:=Tryz.underlying9
 a29:=Tryz.isAgg9
 z29:=Tryz.sizeOf9
 v29:=Tryz.zeroValue9
 t32:=Tryz.underlying227
 a32:=Tryz.isAgg227
 z32:=Tryz.sizeOf227
 v32:=Tryz.zeroValue227
 t35:=Tryz.underlying234
 a35:=Tryz.isAgg234
 z35:=Tryz.sizeOf234
 v35:=Tryz.zeroValue234
 t36:=Tryz.underlying235
 a36:=Tryz.isAgg235
 z36:=Tryz.sizeOf235
 v36:=Tryz.zeroValue235
 t41:=Tryz.underlying240
 a41:=Tryz.isAgg240
 z41:=Tryz.sizeOf240
 v41:=Tryz.zeroValue240
 t44:=Tryz.underlying243
 a44:=Tryz.isAgg243
 z44:=Tryz.sizeOf243
 v44:=Tryz.zeroValue243
 t46:=Tryz.underlying245
 a46:=Tryz.isAgg245
 z46:=Tryz.sizeOf245
 v46:=Tryz.zeroValue245
 t53:=Tryz.underlying247
 a53:=Tryz.isAgg247
 z53:=Tryz.sizeOf247
 v53:=Tryz.zeroValue247
 t57:=Tryz.underlying251
 a57:=Tryz.isAgg251
 z57:=Tryz.sizeOf251
 v57:=Tryz.zeroValue251
 t63:=Tryz.underlying258
 a63:=Tryz.isAgg258
 z63:=Tryz.sizeOf258
 v63:=Tryz.zeroValue258
 t64:=Tryz.underlying259
 a64:=Tryz.isAgg259
 z64:=Tryz.sizeOf259
 v64:=Tryz.zeroValue259}
end Go.Proofs
namespace Go.Proofs
open Go.RowKit Go.Maps Go.Sort Go.Shelf
theorem Tryz.sorts101(m:Nat):AnyZ.SortsIn Tryz.prog Tryz.sorted101_ren Fence.wide m:=
 ⟨fun blk off cap ss W hH hblk hsz=>callsIn_wide.2 (AnyM.slices_Sort_string Tryz.sort167 blk off cap ss W hH hblk hsz),
  fun p cap W=>callsIn_wide.2 (AnyM.slices_Sort_string_none Tryz.sort167 p cap W)⟩
theorem Tryz.maps_Keys_102(mb:Option Nat)(W:World):CallsIn Fence.wide 5 Tryz.prog 102 #[.map mb] W fun e w'=>e= .returned (.func (.func 168) #[] #[.pointer (some ⟨W.heap.size,0,none⟩)])/\w'=W.alloc (.cells #[.map mb] 99):=
 AnyZ.keys_in Tryz.keys102 Fence.wide 5 trivial rfl mb W
set_option maxHeartbeats 1000000 in
theorem Tryz.slices_Sorted_keys_101_102{H:Type}(b nn:Nat)(D0:DataW H)(R:Value->Option (DataW H×List MemPlace))(w:World)(hown:w.ownsMap Tryz.prog 9 R b nn D0)(hmax:Maps.size D0<=maxLen)(hbytes:Maps.size D0*16<=140737488355328) :
  CallsIn Fence.wide 5 Tryz.prog 101 #[.func (.func 168) #[] #[.pointer (some ⟨w.heap.size,0,none⟩)]] (w.alloc (.cells #[.map (some b)] 99)) fun e w'=>∃(v:Value) (ss:List (List UInt8)),e= .returned v/\ss.Perm (strKeys D0)/\
   w'.ownsRow (w.alloc (.cells #[.map (some b)] 99)).heap.size 9 1 v ss.length ((ss.mergeSort (fun x y=>decide (x<=y))).map encStr)/\(v= .slice none 0 0 ↔ ss=[])/\Below (w.alloc (.cells #[.map (some b)] 99)).heap.size (w.alloc (.cells #[.map (some b)] 99)) w':=by
 have hbl:=hown.lt
 have hseq:SeqGives Fence.wide 2 Tryz.prog 168 #[.pointer (some ⟨w.heap.size,0,none⟩)] encStr (fun ss=>ss.Perm (strKeys D0)) (Maps.size D0) (w.alloc (.cells #[.map (some b)] 99)):=
  AnyZ.keys_gives (ρ:=Tryz.keys102_ren) {Tryz.keys102 with} Fence.wide _ trivial rfl (by omega) w.heap.size b nn D0 _ (by simp) (by simp) (by
   obtain⟨es,clock,hb,Ft,hs,hD⟩:=hown
   exact⟨es,clock,(Below.heap_alloc _ _ b hbl).trans hb,Ft,hs,hD⟩)
 exact AnyZ.sorted_in Tryz.sorted101 Fence.wide 5 trivial trivial trivial trivial rfl (by omega) (Tryz.sorts101 _) (enters_of Tryz.func167 (by kernel_rfl) rfl) 168 #[.pointer (some ⟨w.heap.size,0,none⟩)] trivial (enters_of Tryz.func168 (by kernel_rfl) rfl) _ _ hmax hbytes _ hseq
end Go.Proofs
namespace Go.Proofs.YtfanaanofjhlkaaGreatDoor
open Go Go.RowKit Go.Maps Go.WideMaps Go.Sort
theorem infoValue:(Tryz.prog.info? 92).map (fun i=>(i.zero,i.size,i.bytes))=some (some (.agg #[.string ⟨#[]⟩,.int .i64 0]),2,24):=by kernel_rfl
def valAt(D:DataW Unit)(s:List UInt8):Int:=match D.atKey (.string s) (.lit (.int .i64 0))with
 | .lit (.int _ c)=>c
 |_=>0
def valCells(D:DataW Unit)(l:List (List UInt8)):List Value:=l.flatMap fun s=>[encStr s,.int .i64 (valAt D s)]
theorem valCells_take(D:DataW Unit)(l:List (List UInt8))(k:Nat)(s:List UInt8)(h:l[k]?= some s):valCells D (l.take (k+1))=valCells D (l.take k)++ [encStr s,.int .i64 (valAt D s)]:=by
 have hk:=(List.getElem?_eq_some_iff.1 h).1
 have he:=(List.getElem?_eq_some_iff.1 h).2
 rw[List.take_succ_eq_append_getElem hk,he]
 simp[valCells]
theorem addr_add(g k:Nat):(⟨g,0,none⟩:Addr).add k=⟨g,k,none⟩:=by
 unfold Addr.add
 split
 ·rename_i h;rw[h]
 ·simp
theorem row_strings{W:World}{base e n:Nat}{v:Value}{S:List (List UInt8)}(h:W.ownsRow base e 1 v n (S.map encStr)) :
  ∃ad cap,v= .slice ad n cap/\∀(k:Nat) (s:List UInt8),S[k]?= some s->∃g,ad=some ⟨g,0,none⟩/\base<=g/\g < W.heap.size/\W.cell? ⟨g,k,none⟩=some (.string ⟨s.toArray⟩):=by
 have h1:=h.1
 rcases h.2 with⟨rfl,h0⟩|⟨g,cap,cur,rfl,hg,hgb,_⟩
 ·subst h0
  refine⟨none,0,rfl,fun k s hs=> ?_⟩
  simp at h1
  subst h1
  simp at hs
 ·refine⟨_,cap,rfl,fun k s hs=>⟨g,rfl,hg,(Array.getElem?_eq_some_iff.1 hgb).1,?_⟩⟩
  have:=h.cells (g:=g) rfl k (encStr s) (by simp[hs])
  rwa [addr_add]at this
theorem row_kept{X:Nat->Prop}{W W':World}{base base' e size n:Nat}{v:Value}{xs:List Value}(h:W.ownsRow base e size v n xs)(hb:Kept X W W')(hv:∀g,v.ownBlock=some g->¬X g)(hB:base'<=base):W'.ownsRow base' e size v n xs:=by
 obtain⟨h1,⟨rfl,h0⟩|⟨g,cap,cur,rfl,hg,hgb,hr⟩⟩:=h
 ·exact⟨h1,.inl ⟨rfl,h0⟩⟩
 ·exact⟨h1,.inr ⟨g,cap,cur,rfl,Nat.le_trans hB hg,hb.heap hgb (hv g rfl),hr⟩⟩
theorem row_below{W W':World}{base e size n m:Nat}{v:Value}{xs:List Value}(h:W.ownsRow base e size v n xs)(hb:Below m W W')(hv:∀g,v.ownBlock=some g->g < m):W'.ownsRow base e size v n xs:=by
 obtain⟨h1,⟨rfl,h0⟩|⟨g,cap,cur,rfl,hg,hgb,hr⟩⟩:=h
 ·exact⟨h1,.inl ⟨rfl,h0⟩⟩
 ·exact⟨h1,.inr ⟨g,cap,cur,rfl,hg,(hb.block g (hv g rfl)).trans hgb,hr⟩⟩
set_option maxHeartbeats 2000000 in
set_option maxRecDepth 100000 in
theorem list_calls(M:Nat)(D:DataW Unit)(w:World)(hm:MapIs w M D)(hn:Maps.size D<=100000000) :
  Calls Tryz.prog 46 #[.map (some M)] w fun e w'=>∃ss:List (List UInt8),ss.Perm (strKeys D)/\e= .returned (.slice (some ⟨w.heap.size,0,none⟩) ss.length ss.length)/\
   w'.ownsRow w.heap.size 92 2 (.slice (some ⟨w.heap.size,0,none⟩) ss.length ss.length) ss.length (valCells D (ss.mergeSort (fun x y=>decide (x<=y))))/\Below w.heap.size w w':=by
 have hMl:=hm.lt
 have hlen:=World.ownsMap.len (show w.ownsMap Tryz.prog 9 (plainElem Tryz.prog 3) M (Maps.size D) D from hm) Tryz.underlying99 3
 obtain⟨i0,hi,hz0,hz1,hz2⟩:=info_parts infoValue
 go_enter Tryz.func46,Tryz.ntmps46
 go_wp2_with (first
  |(at_make;refine wpList_make_own _ rfl _ _ 42 rfl w.heap.size 92 i0 _ 2 Tryz.underlying42 hi hz0 hz1 .i64 .i64 _ (Maps.size D) rfl rfl rfl (by rw[hz2];omega) (by unfold maxLen;omega) (Nat.le_refl _) ?_)
  |go_in)
 intro w1 hown1 hgrow1
 have hm1:MapIs w1 M D:=hm.kept (X:=fun _=>False) (Kept.grown hgrow1 (fun r e=>by cases e)) (fun h=>h)
 have hb1:Below w.heap.size w w1:=(Below.refl _ w).grown hgrow1 (Nat.le_refl _) (fun k e=>by cases e)
 clear hlen
 go_wp2_with (first
  |(go_at_call 102;refine(callsIn_wide.1 (Tryz.maps_Keys_102 _ _)).mono ?_;rintro e w' ⟨rfl,rfl⟩)
  |(go_at_call 101;refine(callsIn_wide.1 (Tryz.slices_Sorted_keys_101_102 M _ D _ w1 hm1 (by unfold maxLen;omega) (by omega))).mono ?_;rintro e w2 ⟨v,ss,rfl,hS,hrow,hnil,hb2⟩;obtain⟨ad,cp,rfl,hcs⟩:=row_strings hrow))
 have HSS:Hid (ss.length=Maps.size D):=by
  show ss.length=Maps.size D
  rw[hS.length_eq];cases D<;>simp[strKeys,Maps.size]
 have hle:ss.length<=Maps.size D:=Nat.le_of_eq HSS.out
 have hS2:(ss.mergeSort (fun x y=>decide (x<=y))).length=ss.length:=List.length_mergeSort _
 have hSle:∀s∈ss.mergeSort (fun x y=>decide (x<=y)),s.length<=maxLen:=fun s h=>
  strKeys_le (show w1.ownsMap Tryz.prog 9 (plainElem Tryz.prog 3) M (Maps.size D) D from hm1) Tryz.underlying9 s (hS.mem_iff.1 (List.mem_mergeSort.1 h))
 obtain⟨S,hSd⟩:∃S,ss.mergeSort (fun x y=>decide (x<=y))=S:=⟨_,rfl⟩
 rw[hSd]at hcs hS2 hSle
 have HSD:Hid (ss.mergeSort (fun x y=>decide (x<=y))=S):=hSd
 have hlS:ss.length<=S.length:=by omega
 clear hSd hS2 hrow hnil
 have hB2:Below w1.heap.size w1 w2:=((Below.refl _ w1).alloc (Nat.le_refl _) _).trans (hb2.mono (by simp))
 have hs1:=hb1.size
 have hw1:w.heap.size < w1.heap.size:=(hown1.lt _ rfl).2
 go_loopw [3,13] (fun l i wr=>∃k:Nat,k<=ss.length/\i= .int .i64 k/\l= .slice (some ⟨w.heap.size,0,none⟩) k (Maps.size D)/\wr.ownsRow w.heap.size 92 2 (.slice (some ⟨w.heap.size,0,none⟩) k (Maps.size D)) k (valCells D (S.take k))/\Kept (·= w.heap.size) w2 wr) (fun _ i _=>ss.length - (intOf i).toNat)
 case atStart=>exact⟨0,Nat.zero_le _,rfl,rfl,row_below hown1 hB2 (by simp[Value.ownBlock];omega),Kept.refl _ _⟩
 case round=>
  obtain⟨k,hk,rfl,rfl,hrowk,hkw⟩:=hrel
  have hM2:MapIs wr M D:=(hm1.below hB2 (by omega)).kept hkw (by omega)
  by_cases hlt:k < ss.length
  ·obtain⟨s,hs⟩:∃s,S[k]?= some s:=⟨_,List.getElem?_eq_getElem (by omega)⟩
   obtain⟨g,rfl,hg1,hg2,cs⟩:=hcs k s hs
   simp only[World.size_alloc]at hg1
   have ck:=(hkw.cell (p:=⟨g,k,none⟩) hg2 (by simp;omega)).trans cs
   have hkey:keyOf Tryz.prog 9 (.string ⟨s.toArray⟩)=some (.string s):=by
    have:=keyOf_string_mk (k:=9) Tryz.underlying9 (s:=⟨s.toArray⟩) (by simpa[ByteArray.size]using hSle s (List.mem_of_getElem? hs))
    simpa using this
   obtain⟨c,hrun,hat,hwc⟩:=World.ownsMap.lookup_int (show wr.ownsMap Tryz.prog 9 (plainElem Tryz.prog 3) M (Maps.size D) D from hM2) strKeyed Tryz.underlying99 Tryz.underlying3 (zeroInt _) hkey
   have HV:Hid (valAt D s=c):=by simp[Hid,valAt,hat]
   have HT:Hid (valCells D (S.take (k+1))=valCells D (S.take k)++ [encStr s,.int .i64 (valAt D s)]):=valCells_take D S k s hs
   clear hat hcs
   go_wp2_with (first
    |(at_builtin;refine wpList_append_fits _ rfl _ _ 42 rfl w.heap.size 92 i0 2 Tryz.underlying42 hi hz1 w.heap.size k (Maps.size D) _ rfl (hrowk.alloc _) ⟨wr.heap.size,0,none⟩ 1 1 [.string ⟨s.toArray⟩,.int .i64 c] rfl rfl (cell_two_new _ _ _ _) (fun x hx=>by simp at hx;rcases hx with rfl|rfl<;>rfl) (by omega) ?_;intro w3 hown3 hgrow3)
    |go_in)
   go_roundw
   case rel=>exact⟨k+1,by omega,by go_num,rfl,by rw[HT.out,HV.out];exact hown3,(hkw.trans (Kept.alloc _ _ _)).trans (Kept.grown hgrow3 (fun r e=>by cases e;rfl))⟩
   case measure=>simp[intOf];omega
  ·obtain rfl:k=ss.length:=by omega
   go_wp2_with fail
   go_ret
   have hT:S.take ss.length=S:=List.take_of_length_le (by rw[<-HSD.out,List.length_mergeSort];exact Nat.le_refl _)
   rw[hT,<-HSS.out]at hrowk
   refine⟨ss,hS,?_,?_,?_⟩
   ·rw[<-HSS.out];rfl
   ·rw[HSD.out];exact hrowk
   ·exact(hb1.trans (hB2.mono hs1)).trans (hkw.below (by have:=hB2.size;omega) (fun k e=>by omega))
end Go.Proofs.YtfanaanofjhlkaaGreatDoor
