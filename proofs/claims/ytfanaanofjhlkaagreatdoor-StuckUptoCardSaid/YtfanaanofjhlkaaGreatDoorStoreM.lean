import Derived.Test.YtfanaanofjhlkaaGreatDoorRefNew2
import Derived.Lib.LazyBuf
import Derived.Test.YtfanaanofjhlkaaGreatDoorRefWork
import Derived.Maps.OwnSet
import Derived.Maps.OwnIn
import Derived.Conc.SmallLaws
import Derived.RangeFuncNested
import Derived.Lib.SliceRun
namespace Go.Proofs.YtfanaanofjhlkaaGreatDoor
open Go Go.RowKit
theorem eqlKids(a:Option Addr)(l c:Nat)(w:World):(binOp .eql 54 (.slice a l c) (.slice none 0 0)).run Tryz.prog w= .ok (.bool a.isNone) w:=run_eql_slice_nil w _ _ a l c Tryz.underlying54
theorem eqlKinds(a:Option Addr)(l c:Nat)(w:World):(binOp .eql 39 (.slice a l c) (.slice none 0 0)).run Tryz.prog w= .ok (.bool a.isNone) w:=run_eql_slice_nil w _ _ a l c Tryz.underlying39
theorem eqlTasks(a:Option Addr)(l c:Nat)(w:World):(binOp .eql 58 (.slice a l c) (.slice none 0 0)).run Tryz.prog w= .ok (.bool a.isNone) w:=run_eql_slice_nil w _ _ a l c Tryz.underlying58
attribute [local go_sem] eqlKids eqlKinds eqlTasks
def kidEnc(c:KidS):List Value:=[.int .i64 c.kind,.int .i64 c.less]
def kindEnc(p:KindS×Value):List Value:=[.int .i64 p.1.A,.int .i64 p.1.B,p.2]
theorem kidEnc_one(x:KidS):∀u∈kidEnc x,u.oneCell'=true:=by simp[kidEnc,Value.oneCell']
theorem kinds_list{ok:Nat->Prop}{W:World}{v:Value}{ks:List KindS}(h:KindsAt ok W v ks):∃l:List (KindS×Value),l.map Prod.fst=ks/\ListAt 3 kindEnc W v l/\∀p∈l,KidsAt ok W p.2 p.1.kids:=by
 obtain⟨a,cap,rfl,hc⟩:=h
 have key:∀n,n<=ks.length->∃l:List (KindS×Value),l.map Prod.fst=ks.take n/\(∀j x,l[j]?= some x->∃g o,a=some ⟨g,o,none⟩/\g < W.heap.size/\∀i u,(kindEnc x)[i]?= some u->W.cell? ⟨g,o+j*3+i,none⟩=some u)/\∀p∈l,KidsAt ok W p.2 p.1.kids:=by
  intro n
  induction n with
  |zero=>exact fun _=>⟨[],by simp,by simp,by simp⟩
  |succ n ih=>
   intro hn
   obtain⟨l,h1,h2,h3⟩:=ih (by omega)
   have hl:l.length=n:=by have:=congrArg List.length h1;simp at this;omega
   obtain⟨c,hcc⟩:∃c,ks[n]?= some c:=⟨_,List.getElem?_eq_getElem (by omega)⟩
   obtain⟨b,o,kv,ha,hok,hb,c0,c1,c2,hk⟩:=hc n c hcc
   refine⟨l++ [(c,kv)],?_,fun j x hx=> ?_,fun p hp=> ?_⟩
   ·rw[List.map_append,h1,List.take_add_one,hcc];rfl
   ·rcases get_snoc hx with⟨_,hx'⟩|⟨hj,rfl⟩
    ·exact h2 j x hx'
    ·rw[hl]at hj
     subst hj
     refine⟨b,o,ha,hb,fun i u hi=> ?_⟩
     match i,hi with
     |0,hi=>cases hi;exact c0
     |1,hi=>cases hi;exact c1
     |2,hi=>cases hi;exact c2
     |(m+3),hi=>simp[kindEnc]at hi
   ·rcases List.mem_append.1 hp with h|h
    ·exact h3 p h
    ·simp only[List.mem_singleton]at h
     subst h
     exact hk
 obtain⟨l,h1,h2,h3⟩:=key ks.length (Nat.le_refl _)
 rw[List.take_length]at h1
 have hl:l.length=ks.length:=by rw[<-h1];simp
 exact⟨l,h1,⟨a,cap,by rw[hl],h2⟩,h3⟩
theorem kids_list{ok:Nat->Prop}{W:World}{v:Value}{l:List KidS}(h:KidsAt ok W v l):ListAt 2 kidEnc W v l:=by
 obtain⟨a,cap,rfl,hc⟩:=h
 refine⟨a,cap,rfl,fun j x hx=> ?_⟩
 obtain⟨b,o,ha,hok,hb,c0,c1⟩:=hc j x hx
 refine⟨b,o,ha,hb,fun i u hi=> ?_⟩
 match i,hi with
 |0,hi=>cases hi;exact c0
 |1,hi=>cases hi;exact c1
 |(m+2),hi=>simp[kidEnc]at hi
set_option maxHeartbeats 1000000 in
set_option maxRecDepth 100000 in
theorem cloneD_calls(v:Value)(l:List KidS)(w:World)(hv:ListAt 2 kidEnc w v l)(hl:l.length<=100000000) :
  Calls Tryz.prog 104 #[v] w fun e w'=>∃v',e= .returned v'/\w'.ownsRow w.heap.size 53 2 v' l.length (l.flatMap kidEnc)/\Below w.heap.size w w':=by
 obtain⟨i1,hi1,hy0,hy1,hy2⟩:=info_parts infoKid
 obtain⟨a,cap,rfl,hc⟩:=hv
 cases a with
 |none=>
  have hl0:l=[]:=by
   cases l with
   |nil=>rfl
   |cons x r=>obtain⟨g,o,e,_⟩:=hc 0 x rfl;cases e
  subst hl0
  go_enter Tryz.func104,Tryz.ntmps104
  go_wp2_with fail
  go_ret
  exact⟨_,rfl,World.ownsRow_nil _ _ _ _,Below.refl _ _⟩
 |some ad=>
  have HN:Hid (∀j u,(l.flatMap kidEnc)[j]?= some u->∃b,(some ad:Option Addr)=some b/\(w.alloc (Obj.cells #[] 53)).cell? (b.add j)=some u):=fun j u hj=>by
   have hlt:j < l.length*2:=by rw[<-flat_length (sz:=2) (enc:=kidEnc) (fun _=>rfl) l];exact(List.getElem?_eq_some_iff.1 hj).1
   obtain⟨x,hx⟩:∃x,l[j / 2]?= some x:=⟨_,List.getElem?_eq_getElem (by omega)⟩
   obtain⟨u',hu'⟩:∃u',(kidEnc x)[j % 2]?= some u':=⟨_,List.getElem?_eq_getElem (by show j % 2 < 2;omega)⟩
   have h1:=flat_get (sz:=2) (enc:=kidEnc) (fun _=>rfl) l _ x _ u' hx hu'
   rw[show j / 2*2+j % 2=j from by omega,hj]at h1
   obtain⟨g,o,e,hg,hcc⟩:=hc _ x hx
   cases e
   have h2:=hcc _ u' hu'
   rw[Nat.add_assoc,show j / 2*2+j % 2=j from by omega]at h2
   cases h1
   have hadd:(⟨g,o,none⟩:Addr).add j=⟨g,o+j,none⟩:=by unfold Addr.add;split<;>simp_all
   exact⟨_,rfl,by rw[hadd];exact cell_alloc _ h2⟩
  have HE:Hid ((w.alloc (Obj.cells #[] 53)).ownsRow w.heap.size 53 2 (.slice (some ⟨w.heap.size,0,none⟩) 0 0) 0 []):=World.ownsRow_lit (base:=w.heap.size) (e:=53) (size:=2) w #[] 0 (Nat.le_refl _) (by unfold maxLen;omega) rfl
  have HL:Hid ((l.flatMap kidEnc).length=l.length*2):=flat_length (sz:=2) (enc:=kidEnc) (fun _=>rfl) l
  clear hc
  go_enter Tryz.func104,Tryz.ntmps104
  go_wp2_with (at_builtin;refine wpList_append_any rfl _ _ _ rfl w.heap.size 53 i1 _ 2 16 Tryz.underlying54 hi1 hy0 hy1 hy2 rfl (by omega) (.slice (some ⟨w.heap.size,0,none⟩) 0 0) 0 [] rfl HE.out (some ad) l.length cap (l.flatMap kidEnc) rfl HL.out HN.out (flat_one kidEnc_one _) (by unfold maxLen;omega) (by omega) (by simp) ?_;intro v3 w3 hown3 hgrow3;rw[Nat.zero_add,List.nil_append]at hown3;obtain⟨a3,c3,rfl⟩:=row_form hown3)
  go_ret
  refine⟨_,rfl,hown3,?_⟩
  exact((Below.refl _ _).alloc (Nat.le_refl _) _).trans ((Kept.grown hgrow3 (X:=fun b=>w.heap.size<=b) (fun r e=>by simp[Value.ownBlock]at e;omega)).below (by simp) (fun _ h=>h))
set_option maxHeartbeats 1000000 in
set_option maxRecDepth 100000 in
theorem cloneT_calls(v:Value)(l:List TaskS)(w:World)(hv:ListAt 3 taskEnc w v l)(hl:l.length<=100000000) :
  Calls Tryz.prog 169 #[v] w fun e w'=>∃v',e= .returned v'/\w'.ownsRow w.heap.size 62 3 v' l.length (l.flatMap taskEnc)/\Below w.heap.size w w':=by
 obtain⟨i1,hi1,hy0,hy1,hy2⟩:=info_parts infoTask
 obtain⟨a,cap,rfl,hc⟩:=hv
 cases a with
 |none=>
  have hl0:l=[]:=by
   cases l with
   |nil=>rfl
   |cons x r=>obtain⟨g,o,e,_⟩:=hc 0 x rfl;cases e
  subst hl0
  go_enter Tryz.func169,Tryz.ntmps169
  go_wp2_with fail
  go_ret
  exact⟨_,rfl,World.ownsRow_nil _ _ _ _,Below.refl _ _⟩
 |some ad=>
  have HN:Hid (∀j u,(l.flatMap taskEnc)[j]?= some u->∃b,(some ad:Option Addr)=some b/\(w.alloc (Obj.cells #[] 62)).cell? (b.add j)=some u):=fun j u hj=>by
   have hlt:j < l.length*3:=by rw[<-flat_length (sz:=3) (enc:=taskEnc) (fun _=>rfl) l];exact(List.getElem?_eq_some_iff.1 hj).1
   obtain⟨x,hx⟩:∃x,l[j / 3]?= some x:=⟨_,List.getElem?_eq_getElem (by omega)⟩
   obtain⟨u',hu'⟩:∃u',(taskEnc x)[j % 3]?= some u':=⟨_,List.getElem?_eq_getElem (by show j % 3 < 3;omega)⟩
   have h1:=flat_get (sz:=3) (enc:=taskEnc) (fun _=>rfl) l _ x _ u' hx hu'
   rw[show j / 3*3+j % 3=j from by omega,hj]at h1
   obtain⟨g,o,e,hg,hcc⟩:=hc _ x hx
   cases e
   have h2:=hcc _ u' hu'
   rw[Nat.add_assoc,show j / 3*3+j % 3=j from by omega]at h2
   cases h1
   have hadd:(⟨g,o,none⟩:Addr).add j=⟨g,o+j,none⟩:=by unfold Addr.add;split<;>simp_all
   exact⟨_,rfl,by rw[hadd];exact cell_alloc _ h2⟩
  have HE:Hid ((w.alloc (Obj.cells #[] 62)).ownsRow w.heap.size 62 3 (.slice (some ⟨w.heap.size,0,none⟩) 0 0) 0 []):=World.ownsRow_lit (base:=w.heap.size) (e:=62) (size:=3) w #[] 0 (Nat.le_refl _) (by unfold maxLen;omega) rfl
  have HL:Hid ((l.flatMap taskEnc).length=l.length*3):=flat_length (sz:=3) (enc:=taskEnc) (fun _=>rfl) l
  clear hc
  go_enter Tryz.func169,Tryz.ntmps169
  go_wp2_with (at_builtin;refine wpList_append_any rfl _ _ _ rfl w.heap.size 62 i1 _ 3 32 Tryz.underlying58 hi1 hy0 hy1 hy2 rfl (by omega) (.slice (some ⟨w.heap.size,0,none⟩) 0 0) 0 [] rfl HE.out (some ad) l.length cap (l.flatMap taskEnc) rfl HL.out HN.out (flat_one taskEnc_one _) (by unfold maxLen;omega) (by omega) (by simp) ?_;intro v3 w3 hown3 hgrow3;rw[Nat.zero_add,List.nil_append]at hown3;obtain⟨a3,c3,rfl⟩:=row_form hown3)
  go_ret
  refine⟨_,rfl,hown3,?_⟩
  exact((Below.refl _ _).alloc (Nat.le_refl _) _).trans ((Kept.grown hgrow3 (X:=fun b=>w.heap.size<=b) (fun r e=>by simp[Value.ownBlock]at e;omega)).below (by simp) (fun _ h=>h))
set_option maxHeartbeats 1000000 in
set_option maxRecDepth 100000 in
theorem cloneK_calls(v:Value)(l:List (KindS×Value))(w:World)(hv:ListAt 3 kindEnc w v l)(hl:l.length<=100000000)(h1:∀p∈l,p.2.oneCell'=true) :
  Calls Tryz.prog 103 #[v] w fun e w'=>∃v',e= .returned v'/\w'.ownsRow w.heap.size 56 3 v' l.length (l.flatMap kindEnc)/\Below w.heap.size w w':=by
 obtain⟨i1,hi1,hy0,hy1,hy2⟩:=info_parts infoKind
 obtain⟨a,cap,rfl,hc⟩:=hv
 cases a with
 |none=>
  have hl0:l=[]:=by
   cases l with
   |nil=>rfl
   |cons x r=>obtain⟨g,o,e,_⟩:=hc 0 x rfl;cases e
  subst hl0
  go_enter Tryz.func103,Tryz.ntmps103
  go_wp2_with fail
  go_ret
  exact⟨_,rfl,World.ownsRow_nil _ _ _ _,Below.refl _ _⟩
 |some ad=>
  have HN:Hid (∀j u,(l.flatMap kindEnc)[j]?= some u->∃b,(some ad:Option Addr)=some b/\(w.alloc (Obj.cells #[] 56)).cell? (b.add j)=some u):=fun j u hj=>by
   have hlt:j < l.length*3:=by rw[<-flat_length (sz:=3) (enc:=kindEnc) (fun _=>rfl) l];exact(List.getElem?_eq_some_iff.1 hj).1
   obtain⟨x,hx⟩:∃x,l[j / 3]?= some x:=⟨_,List.getElem?_eq_getElem (by omega)⟩
   obtain⟨u',hu'⟩:∃u',(kindEnc x)[j % 3]?= some u':=⟨_,List.getElem?_eq_getElem (by show j % 3 < 3;omega)⟩
   have h1:=flat_get (sz:=3) (enc:=kindEnc) (fun _=>rfl) l _ x _ u' hx hu'
   rw[show j / 3*3+j % 3=j from by omega,hj]at h1
   obtain⟨g,o,e,hg,hcc⟩:=hc _ x hx
   cases e
   have h2:=hcc _ u' hu'
   rw[Nat.add_assoc,show j / 3*3+j % 3=j from by omega]at h2
   cases h1
   have hadd:(⟨g,o,none⟩:Addr).add j=⟨g,o+j,none⟩:=by unfold Addr.add;split<;>simp_all
   exact⟨_,rfl,by rw[hadd];exact cell_alloc _ h2⟩
  have HE:Hid ((w.alloc (Obj.cells #[] 56)).ownsRow w.heap.size 56 3 (.slice (some ⟨w.heap.size,0,none⟩) 0 0) 0 []):=World.ownsRow_lit (base:=w.heap.size) (e:=56) (size:=3) w #[] 0 (Nat.le_refl _) (by unfold maxLen;omega) rfl
  have HL:Hid ((l.flatMap kindEnc).length=l.length*3):=flat_length (sz:=3) (enc:=kindEnc) (fun _=>rfl) l
  have H1:Hid (∀u∈l.flatMap kindEnc,u.oneCell'=true):=fun u hu=>by
   obtain⟨x,hx,hux⟩:=List.mem_flatMap.1 hu
   simp[kindEnc]at hux
   rcases hux with rfl|rfl|rfl
   ·rfl
   ·rfl
   ·exact h1 x hx
  clear hc
  go_enter Tryz.func103,Tryz.ntmps103
  go_wp2_with (at_builtin;refine wpList_append_any rfl _ _ _ rfl w.heap.size 56 i1 _ 3 40 Tryz.underlying39 hi1 hy0 hy1 hy2 rfl (by omega) (.slice (some ⟨w.heap.size,0,none⟩) 0 0) 0 [] rfl HE.out (some ad) l.length cap (l.flatMap kindEnc) rfl HL.out HN.out H1.out (by unfold maxLen;omega) (by omega) (by simp) ?_;intro v3 w3 hown3 hgrow3;rw[Nat.zero_add,List.nil_append]at hown3;obtain⟨a3,c3,rfl⟩:=row_form hown3)
  go_ret
  refine⟨_,rfl,hown3,?_⟩
  exact((Below.refl _ _).alloc (Nat.le_refl _) _).trans ((Kept.grown hgrow3 (X:=fun b=>w.heap.size<=b) (fun r e=>by simp[Value.ownBlock]at e;omega)).below (by simp) (fun _ h=>h))
set_option maxHeartbeats 1000000 in
set_option maxRecDepth 100000 in
theorem isConfig_calls(workers room mode:Int)(w:World) :
  Calls Tryz.prog 47 #[.agg #[.int .i64 workers,.int .i64 room,.int .i64 mode]] w fun e w'=>e= .returned (.bool (cfgB workers room mode))/\Below w.heap.size w w':=by
 have hcfg:cfgB workers room mode=((decide (2<=workers)&&decide (workers<=5))&&(decide (1<=room)&&decide (room<=20))&&((mode==1)||(mode==2))):=by
  have e1:decide (mode=1)=(mode==1):=by rw[Bool.eq_iff_iff];simp
  have e2:decide (mode=2)=(mode==2):=by rw[Bool.eq_iff_iff];simp
  unfold cfgB
  rw[e1,e2]
  simp[Bool.and_assoc]
 obtain⟨V,hV⟩:∃V,w.alloc (Obj.cells #[.int .i64 workers,.int .i64 room,.int .i64 mode] 38)=V:=⟨_,rfl⟩
 have hb:Below w.heap.size w V:=by rw[<-hV];exact(Below.refl _ _).alloc (Nat.le_refl _) _
 have bC:BoxAt V w.heap.size 38 #[.int .i64 workers,.int .i64 room,.int .i64 mode]:=by rw[<-hV];exact BoxAt.new w _ _
 have c0:=bC.cell (o:=0) rfl
 have c1:=bC.cell (o:=1) rfl
 have c2:=bC.cell (o:=2) rfl
 have HB:=hid_of hb
 obtain⟨res,hres⟩:∃res,cfgB workers room mode=res:=⟨_,rfl⟩
 rw[hres]
 rw[hres]at hcfg
 have HC:=hid_of hcfg
 clear hb hcfg bC hres
 go_enter Tryz.func47,Tryz.ntmps47
 go_upto_region 1 with fail
 clear hV
 go_cut [3] (fun b wx=>b= .bool (decide (2<=workers)&&decide (workers<=5))/\V=wx)
 case first=>
  by_cases h1:2<=workers
  ·by_cases h2:workers<=5
   ·go_wp2_with fail
    go_meet
    case rel=>exact⟨by rw[decide_eq_true h1,decide_eq_true h2];rfl,rfl⟩
   ·go_wp2_with fail
    go_meet
    case rel=>exact⟨by rw[decide_eq_true h1,decide_eq_false (show¬workers<=5 by omega)];rfl,rfl⟩
  ·go_wp2_with fail
   go_meet
   case rel=>exact⟨by rw[decide_eq_false (show¬2<=workers by omega)];rfl,rfl⟩
 case rest=>
  obtain⟨rfl,rfl⟩:=hcut
  obtain⟨x1,hx1⟩:∃x1,(decide (2<=workers)&&decide (workers<=5))=x1:=⟨_,rfl⟩
  rw[hx1]at HC ⊢
  clear hx1
  go_upto_region 2 with fail
  go_cut [4] (fun b wx=>b= .bool (decide (1<=room)&&decide (room<=20))/\V=wx)
  case first=>
   by_cases h1:1<=room
   ·by_cases h2:room<=20
    ·go_wp2_with fail
     go_meet
     case rel=>exact⟨by rw[decide_eq_true h1,decide_eq_true h2];rfl,rfl⟩
    ·go_wp2_with fail
     go_meet
     case rel=>exact⟨by rw[decide_eq_true h1,decide_eq_false (show¬room<=20 by omega)];rfl,rfl⟩
   ·go_wp2_with fail
    go_meet
    case rel=>exact⟨by rw[decide_eq_false (show¬1<=room by omega)];rfl,rfl⟩
  case rest=>
   obtain⟨rfl,rfl⟩:=hcut
   obtain⟨x2,hx2⟩:∃x2,(decide (1<=room)&&decide (room<=20))=x2:=⟨_,rfl⟩
   rw[hx2]at HC ⊢
   clear hx2
   go_upto_region 3 with fail
   go_cut [5] (fun b wx=>b= .bool ((mode==1)||(mode==2))/\V=wx)
   case first=>
    cases h1:(mode==1)
    ·go_wp2_with fail
     go_meet
     case rel=>exact⟨by rw[h1];rfl,rfl⟩
    ·go_wp2_with fail
     go_meet
     case rel=>exact⟨by rw[h1];rfl,rfl⟩
   case rest=>
    obtain⟨rfl,rfl⟩:=hcut
    obtain⟨x3,hx3⟩:∃x3,((mode==1)||(mode==2))=x3:=⟨_,rfl⟩
    rw[hx3]at HC ⊢
    clear hx3
    cases x1<;>cases x2
    all_goals
     go_wp2_with fail
     go_ret
     refine⟨?_,HB.out⟩
     rw[HC.out]
     rfl
end Go.Proofs.YtfanaanofjhlkaaGreatDoor
namespace Go.Proofs.YtfanaanofjhlkaaGreatDoor
open Go Go.RowKit Go.Maps Go.WideMaps
theorem intKeyed:Keyed Tryz.prog 3:=int_keyed Tryz.underlying3
def heldElem(v:Value):Option (DataW Value×List MemPlace):=some (.held v,[])
def numL(n:Int):Lit:= .int .i64 n
def InMap(W:World)(M:Nat)(came:Int)(kept:List Int)(all:List MsgS):Prop:=
 ∃D:DataW Value,W.ownsMap Tryz.prog 3 heldElem M (Maps.size D) D/\Maps.size D<=kept.length/\(∀n,Maps.has D (numL n)=decide (came < n/\n∈kept))/\
  ∀n,came < n->n∈kept->∃m,all[(n - 1).toNat]?= some m/\∀z,D.atKey (numL n) z= .held (.agg (msgCells m))
theorem InMap.lt{W:World}{M:Nat}{came:Int}{kept:List Int}{all:List MsgS}(h:InMap W M came kept all):M < W.heap.size:=by
 obtain⟨D,h,_⟩:=h
 exact World.ownsMap.lt h
theorem InMap.kept{Y:Nat->Prop}{W W':World}{M:Nat}{came:Int}{kp:List Int}{all:List MsgS}(h:InMap W M came kp all)(k:Kept Y W W')(hM:¬Y M):InMap W' M came kp all:=by
 obtain⟨D,⟨es,clock,hb,hf⟩,h2⟩:=h
 exact⟨D,⟨es,clock,k.heap hb hM,hf⟩,h2⟩
theorem InMap.more{W:World}{M:Nat}{came:Int}{kept:List Int}{all:List MsgS}(h:InMap W M came kept all)(L:List MsgS):InMap W M came kept (all++L):=by
 obtain⟨D,h1,h2,h3,h4⟩:=h
 refine⟨D,h1,h2,h3,fun n hn hk=> ?_⟩
 obtain⟨m,hm,hz⟩:=h4 n hn hk
 exact⟨m,by rw[List.getElem?_append_left (List.getElem?_eq_some_iff.1 hm).1];exact hm,hz⟩
theorem ownsMap_size{W:World}{M n:Nat}{D:DataW Value}(h:W.ownsMap Tryz.prog 3 heldElem M n D):W.ownsMap Tryz.prog 3 heldElem M (Maps.size D) D:=by
 obtain⟨es,clock,hb,hf,hs,hD⟩:=h
 refine⟨es,clock,hb,hf,?_,hD⟩
 rw[hD]
 show es.size<=List.length _
 rw[length_sorted];simp
theorem numL_key(n:Int):WideAt.IsKeyLit (numL n):=trivial
theorem numL_ne{a b:Int}(h:a≠b):numL a≠numL b:=fun e=>h (by cases e;rfl)
theorem InMap.new(W:World):InMap (W.alloc (.map #[] 0)) W.heap.size 0 [] []:=
 ⟨.map [],World.ownsMap_made W _ _ _,by simp[Maps.size],fun n=>by simp[Maps.has],fun n _ h=>by simp at h⟩
theorem InMap.put{W W':World}{M N:Nat}{came:Int}{kept:List Int}{all:List MsgS}{m:MsgS}{n:Int}{D:DataW Value}(h1:W.ownsMap Tryz.prog 3 heldElem M (Maps.size D) D)(h2:Maps.size D<=kept.length)(h3:∀n,Maps.has D (numL n)=decide (came < n/\n∈kept))
  (h4:∀n,came < n->n∈kept->∃m,all[(n - 1).toNat]?= some m/\∀z,D.atKey (numL n) z= .held (.agg (msgCells m))) (h:W'.ownsMap Tryz.prog 3 heldElem M N (D.put (numL n) (.held (.agg (msgCells m))))) (hn:came < n) (hm:all[(n - 1).toNat]?= some m) :
  InMap W' M came (if kept.any (·== n)=true then kept else kept++ [n]) all:=by
 have ht:=h1.tidy intKeyed
 have hany:kept.any (·== n)=true ↔ n∈kept:=by simp
 have hmem:∀k,k∈(if kept.any (·== n)=true then kept else kept++ [n]) ↔ k∈kept\/k=n:=fun k=>by
  split
  ·rename_i e
   exact⟨.inl,fun h=>by rcases h with h|rfl;exact h;exact hany.1 e⟩
  ·simp
 refine⟨_,ownsMap_size h,?_,fun k=> ?_,fun k hk hkk=> ?_⟩
 ·rw[size_put ht,h3]
  by_cases e:n∈kept
  ·rw[if_pos (by simp[hn,e]),if_pos (hany.2 e)];exact h2
  ·rw[if_neg (by simp[e]),if_neg (fun e'=>e (hany.1 e')),List.length_append];simpa using h2
 ·by_cases e:k=n
  ·subst e
   rw[has_put_same ht.isMap (numL_key _)]
   exact(decide_eq_true ⟨hn,(hmem k).2 (.inr rfl)⟩).symm
  ·rw[has_put_other (numL_ne e),h3 k]
   simp only[hmem,e,or_false]
 ·by_cases e:k=n
  ·subst e
   exact⟨m,hm,fun z=>atKey_put_same ht.isMap (numL_key _) _ _⟩
  ·obtain⟨m',h5,h6⟩:=h4 k hk (by rcases (hmem k).1 hkk with h|h;exact h;exact absurd h e)
   exact⟨m',h5,fun z=>by rw[atKey_put_other (numL_ne e)];exact h6 z⟩
theorem InMap.step{W W':World}{M N:Nat}{came:Int}{kept:List Int}{all:List MsgS}{D:DataW Value}(h1:W.ownsMap Tryz.prog 3 heldElem M (Maps.size D) D)(h2:Maps.size D<=kept.length)(h3:∀n,Maps.has D (numL n)=decide (came < n/\n∈kept))
  (h4:∀n,came < n->n∈kept->∃m,all[(n - 1).toNat]?= some m/\∀z,D.atKey (numL n) z= .held (.agg (msgCells m))) (h:W'.ownsMap Tryz.prog 3 heldElem M N (D.del (numL (came+1)))) :
  InMap W' M (came+1) kept all:=by
 have ht:=h1.tidy intKeyed
 refine⟨_,ownsMap_size h,?_,fun k=> ?_,fun k hk hkk=> ?_⟩
 ·have:=size_del (k:=numL (came+1)) ht;omega
 ·by_cases e:k=came+1
  ·subst e
   rw[has_del_same]
   simp
  ·rw[has_del_other (numL_ne e),h3 k]
   have:came < k ↔ came+1 < k:=by omega
   simp only[this]
 ·obtain⟨m',h5,h6⟩:=h4 k (by omega) hkk
  exact⟨m',h5,fun z=>by rw[atKey_del_other (numL_ne (by omega))];exact h6 z⟩
end Go.Proofs.YtfanaanofjhlkaaGreatDoor
namespace Go.Proofs.YtfanaanofjhlkaaGreatDoor
open Go Go.RowKit
structure XW where
 T:Nat
 asked:Bool
 outv:Value
 inv:Value
 sent:Int
 came:Int
 black:Bool
 tok:Option Nat
def xwEnc(x:XW):List Value:=[.pointer (some ⟨x.T,0,none⟩),.bool x.asked,x.outv,x.inv,.int .i64 x.sent,.int .i64 x.came,.bool x.black,.pointer (x.tok.map (fun b=>⟨b,0,none⟩))]
structure XW.Notes(x:XW)(y:WorkerS):Prop where
 asked:x.asked=y.asked
 sent:x.sent=y.sent
 came:x.came=y.came
 black:x.black=y.black
def TokAt(X:Nat->Prop)(W:World)(mode:Int)(b:Bool)(y:WorkerS):Option Nat->Prop
 |none=>mode=1->y.has=false
 |some q=>(y.has=true/\mode=1)/\BoxAt W q 167 #[.int .i64 y.token.count,.bool y.token.black,.bool b]/\X q
theorem TokAt.kept{X X' Y:Nat->Prop}{W W':World}{mode:Int}{b:Bool}{y:WorkerS}{q:Option Nat}(h:TokAt X W mode b y q)(k:Kept Y W W')(hx:∀g,g < W.heap.size->X g->¬Y g/\X' g):TokAt X' W' mode b y q:=by
 cases q with
 |none=>exact h
 |some q=>exact⟨h.1,h.2.1.kept k (hx q h.2.1.lt h.2.2).1,(hx q h.2.1.lt h.2.2).2⟩
theorem TokAt.like{X:Nat->Prop}{W:World}{mode:Int}{b:Bool}{y y':WorkerS}{q:Option Nat}(h:TokAt X W mode b y q)(h1:y'.has=y.has)(h2:y'.token=y.token):TokAt X W mode b y' q:=by
 cases q with
 |none=>exact fun e=>h1.trans (h e)
 |some q=>exact⟨⟨h1.trans h.1.1,h.1.2⟩,by rw[h2];exact h.2.1,h.2.2⟩
def TaskListAt(X:Nat->Prop)(W:World)(T:Nat)(room:Int)(l:List TaskS):Prop:=
 ∃tv,BoxAt W T 175 #[tv,.int .i64 room]/\X T/\RowIn X 62 3 taskEnc W tv l
theorem TaskListAt.kept{X X' Y:Nat->Prop}{W W':World}{T:Nat}{room:Int}{l:List TaskS}(h:TaskListAt X W T room l)(k:Kept Y W W')(hx:∀g,g < W.heap.size->X g->¬Y g/\X' g):TaskListAt X' W' T room l:=by
 obtain⟨tv,h1,h2,h3⟩:=h
 exact⟨tv,h1.kept k (hx T h1.lt h2).1,(hx T h1.lt h2).2,h3.kept k hx⟩
def ChanAt(W:World)(c cap:Nat)(l:List MsgS):Prop:=∃s r,W.heap[c]?= some (.chan cap (l.map (fun m=>Value.agg (msgCells m))).toArray false s r false)
theorem ChanAt.kept{Y:Nat->Prop}{W W':World}{c cap:Nat}{l:List MsgS}(h:ChanAt W c cap l)(k:Kept Y W W')(hc:¬Y c):ChanAt W' c cap l:=by
 obtain⟨s,r,h⟩:=h
 exact⟨s,r,k.heap h hc⟩
theorem ChanAt.lt{W:World}{c cap:Nat}{l:List MsgS}(h:ChanAt W c cap l):c < W.heap.size:=by
 obtain⟨s,r,h⟩:=h
 exact(Array.getElem?_eq_some_iff.1 h).1
def LinkS.left(l:LinkS):List MsgS:=l.all.drop l.known.toNat
def OutAt(X:Nat->Prop)(W:World)(q:Nat)(l:LinkS):Prop:=
 ∃c cap,BoxAt W q 159 #[.int .i64 (l.all.length:Int),.chan (some c)]/\X q/\ChanAt W c cap l.left/\X c/\4<=cap/\cap<=4+2*l.all.length/\l.left.length<=cap
theorem OutAt.kept{X X' Y:Nat->Prop}{W W':World}{q:Nat}{l:LinkS}(h:OutAt X W q l)(k:Kept Y W W')(hx:∀g,g < W.heap.size->X g->¬Y g/\X' g):OutAt X' W' q l:=by
 obtain⟨c,cap,h1,h2,h3,h4,h5⟩:=h
 exact⟨c,cap,h1.kept k (hx q h1.lt h2).1,(hx q h1.lt h2).2,h3.kept k (hx c h3.lt h4).1,(hx c h3.lt h4).2,h5⟩
def optEnc(q:Option Nat):List Value:=[.pointer (q.map (fun b=>⟨b,0,none⟩))]
def EndAt(part:Nat->Nat)(i j:Nat)(W:World)(l:LinkS):Option Nat->Prop
 |none=>j=i/\l.all=[]
 |some q=>j≠i/\OutAt (fun b=>part b=100+10*i+j) W q l
def XLinksAt(part:Nat->Nat)(i:Nat)(W:World)(v:Value)(ls:List LinkS):Prop:=
 ∃qs:List (Option Nat),RowIn (fun b=>part b=9) 206 1 optEnc W v qs/\qs.length=ls.length/\∀j q l,qs[j]?= some q->ls[j]?= some l->EndAt part i j W l q
theorem EndAt.kept{part part':Nat->Nat}{Y:Nat->Prop}{i j:Nat}{W W':World}{l:LinkS}{q:Option Nat}(h:EndAt part i j W l q)(k:Kept Y W W')(hx:∀g,g < W.heap.size->part g=100+10*i+j->¬Y g/\part' g=100+10*i+j):EndAt part' i j W' l q:=by
 cases q with
 |none=>exact h
 |some q=>exact⟨h.1,h.2.kept k hx⟩
theorem XLinksAt.kept{part part':Nat->Nat}{Y:Nat->Prop}{i:Nat}{W W':World}{v:Value}{ls:List LinkS}(h:XLinksAt part i W v ls)(k:Kept Y W W')(hx:∀g,g < W.heap.size->part g=9\/(100+10*i<=part g/\part g < 100+10*i+ls.length)->¬Y g/\part' g=part g):XLinksAt part' i W' v ls:=by
 obtain⟨qs,h1,h2,h3⟩:=h
 refine⟨qs,h1.kept k (fun g hg e=>⟨(hx g hg (.inl e)).1,(hx g hg (.inl e)).2.trans e⟩),h2,fun j q l hq hl=>(h3 j q l hq hl).kept k (fun g hg e=> ?_)⟩
 have hj:=(List.getElem?_eq_some_iff.1 hl).1
 exact⟨(hx g hg (.inr (by omega))).1,(hx g hg (.inr (by omega))).2.trans e⟩
def InAt(X:Nat->Prop)(W:World)(q:Nat)(l:LinkS):Prop:=
 ∃M,BoxAt W q 164 #[.int .i64 l.came,.map (some M)]/\X q/\InMap W M l.came l.kept l.all/\X M
theorem InAt.kept{X X' Y:Nat->Prop}{W W':World}{q:Nat}{l:LinkS}(h:InAt X W q l)(k:Kept Y W W')(hx:∀g,g < W.heap.size->X g->¬Y g/\X' g):InAt X' W' q l:=by
 obtain⟨M,h1,h2,h3,h4⟩:=h
 exact⟨M,h1.kept k (hx q h1.lt h2).1,(hx q h1.lt h2).2,h3.kept k (hx M h3.lt h4).1,(hx M h3.lt h4).2⟩
structure InLike(l l':LinkS):Prop where
 came:l'.came=l.came
 kept:l'.kept=l.kept
 all:∃L,l'.all=l.all++L
theorem InLike.refl(l:LinkS):InLike l l:=⟨rfl,rfl,[],by simp⟩
theorem InAt.like{X:Nat->Prop}{W:World}{q:Nat}{l l':LinkS}(h:InAt X W q l)(hl:InLike l l'):InAt X W q l':=by
 obtain⟨M,h1,h2,h3,h4⟩:=h
 obtain⟨L,hL⟩:=hl.all
 exact⟨M,by rw[hl.came];exact h1,h2,by rw[hl.came,hl.kept,hL];exact h3.more L,h4⟩
def InEndAt(part:Nat->Nat)(i j:Nat)(W:World)(l:LinkS):Option Nat->Prop
 |none=>j=i
 |some q=>j≠i/\InAt (fun b=>part b=200+10*i+j) W q l
theorem InEndAt.kept{part part':Nat->Nat}{Y:Nat->Prop}{i j:Nat}{W W':World}{l:LinkS}{q:Option Nat}(h:InEndAt part i j W l q)(k:Kept Y W W')(hx:∀g,g < W.heap.size->part g=200+10*i+j->¬Y g/\part' g=200+10*i+j):InEndAt part' i j W' l q:=by
 cases q with
 |none=>exact h
 |some q=>exact⟨h.1,h.2.kept k hx⟩
theorem InEndAt.like{part:Nat->Nat}{i j:Nat}{W:World}{l l':LinkS}{q:Option Nat}(h:InEndAt part i j W l q)(hl:InLike l l'):InEndAt part i j W l' q:=by
 cases q with
 |none=>exact h
 |some q=>exact⟨h.1,h.2.like hl⟩
def XInsAt(part:Nat->Nat)(i:Nat)(W:World)(v:Value)(links:List (List LinkS)):Prop:=
 ∃qs:List (Option Nat),RowIn (fun b=>part b=8) 207 1 optEnc W v qs/\qs.length=links.length/\∀j q ls l,qs[j]?= some q->links[j]?= some ls->ls[i]?= some l->InEndAt part i j W l q
theorem XInsAt.kept{part part':Nat->Nat}{Y:Nat->Prop}{i:Nat}{W W':World}{v:Value}{ls:List (List LinkS)}(h:XInsAt part i W v ls)(k:Kept Y W W')(hx:∀g,g < W.heap.size->part g=8\/(200+10*i<=part g/\part g < 200+10*i+ls.length)->¬Y g/\part' g=part g):XInsAt part' i W' v ls:=by
 obtain⟨qs,h1,h2,h3⟩:=h
 refine⟨qs,h1.kept k (fun g hg e=>⟨(hx g hg (.inl e)).1,(hx g hg (.inl e)).2.trans e⟩),h2,fun j q row l hq hr hl=>(h3 j q row l hq hr hl).kept k (fun g hg e=> ?_)⟩
 have hj:=(List.getElem?_eq_some_iff.1 hr).1
 exact⟨(hx g hg (.inr (by omega))).1,(hx g hg (.inr (by omega))).2.trans e⟩
def ans0:AnsS:=⟨0,0,0,true⟩
def lastA(l:List AnsS):AnsS:=l.getLast?.getD ans0
def beforeA(l:List AnsS):AnsS:=l.dropLast.getLast?.getD ans0
def missA(n:Int)(l:List AnsS):Int:=if l.length=0 then 0 else n - (lastA l).many
abbrev xrunCells(s:RunS)(kv wv yv:Value)(M:Nat):Array Value:=#[kv,.int .i64 s.kind,.int .i64 s.arg,.int .i64 s.mode,wv,yv,.map (some M),.int .i64 (s.answers.length:Int),.int .i64 (missA s.workers s.answers),.int .i64 (lastA s.answers).sent,.int .i64 (lastA s.answers).came,.bool (!(lastA s.answers).idle),.int .i64 (beforeA s.answers).sent,.int .i64 (beforeA s.answers).came,.bool (!(beforeA s.answers).idle),.bool s.done,.bool s.over]
def mapOfV(L:List (ByteArray×Int)):DataW Unit:=L.foldl (fun D v=>D.put (keyL v.1) (elemD v.2)) (.map [])
structure Keeps(D:DataW Unit)(vs:List (ByteArray×Int)):Prop where
 size:Maps.size D<=vs.length
 of:∃L,D=mapOfV L/\L.Perm vs
theorem Keeps.nil:Keeps (.map []) []:=⟨Nat.le_refl _,[],rfl,List.Perm.refl _⟩
theorem Keeps.put{D:DataW Unit}{vs:List (ByteArray×Int)}(h:Keeps D vs)(ht:Maps.Tidy D)(v:ByteArray×Int):Keeps (D.put (keyL v.1) (elemD v.2)) (putS vs v):=by
 obtain⟨L,rfl,hL⟩:=h.of
 refine⟨?_,L++ [v],by simp[mapOfV],?_⟩
 ·have:=h.size
  rw[Maps.size_put ht,putS_length]
  split<;>omega
 ·exact(List.perm_append_comm.trans (hL.cons v)).trans (putS_perm vs v).symm
def KeptAt(part:Nat->Nat)(W:World)(M:Nat)(vs:List (ByteArray×Int)):Prop:=∃D:DataW Unit,MapIs W M D/\part M=3/\Keeps D vs
theorem KeptAt.lt{part:Nat->Nat}{W:World}{M:Nat}{vs:List (ByteArray×Int)}(h:KeptAt part W M vs):M < W.heap.size:=by
 obtain⟨D,h,_⟩:=h
 exact h.lt
theorem KeptAt.is{part:Nat->Nat}{W:World}{M:Nat}{vs:List (ByteArray×Int)}(h:KeptAt part W M vs):part M=3:=by
 obtain⟨D,_,h,_⟩:=h
 exact h
theorem KeptAt.kept{part part':Nat->Nat}{Y:Nat->Prop}{W W':World}{M:Nat}{vs:List (ByteArray×Int)}(h:KeptAt part W M vs)(k:Kept Y W W')(hY:¬Y M)(hp:part' M=part M):KeptAt part' W' M vs:=by
 obtain⟨D,h1,h2,h3⟩:=h
 exact⟨D,h1.kept k hY,hp.trans h2,h3⟩
structure XAtO(part:Nat->Nat)(W:World)(B:Nat)(s:RunS)(kv wv yv:Value)(M:Nat)(xs:List XW):Prop where
 box:BoxAt W B 105 (xrunCells s kv wv yv M)
 pB:part B=1
 kinds:KindsAt (fun b=>part b=6) W kv s.ks
 wrow:RowIn (fun b=>part b=7) 119 8 xwEnc W wv xs
 wlen:xs.length=s.W.length
 wat:∀i x y,xs[i]?= some x->s.W[i]?= some y->x.Notes y/\TaskListAt (fun b=>part b=10+i) W x.T s.room y.tasks
 llen:s.links.length=s.W.length
 lrow:∀ls∈s.links,ls.length=s.W.length
 five:s.W.length<=5
 lat:∀i x ls,xs[i]?= some x->s.links[i]?= some ls->XLinksAt part i W x.outv ls
 iat:∀i x,xs[i]?= some x->XInsAt part i W x.inv s.links
 yrow:RowIn (fun b=>part b=2) 124 15 msgEnc W yv s.way
 vals:KeptAt part W M s.values
 tat:∀i x y,xs[i]?= some x->s.W[i]?= some y->TokAt (fun b=>part b=20+i) W s.mode (i==0&&s.around) y x.tok
def XAt(part:Nat->Nat)(W:World)(B:Nat)(s:RunS):Prop:=∃kv wv yv M xs,XAtO part W B s kv wv yv M xs
structure XRest(n:Nat)(part':Nat->Nat)(W':World)(s:RunS)(kv wv yv:Value)(M:Nat)(xs:List XW):Prop where
 kinds:n≠6->KindsAt (fun b=>part' b=6) W' kv s.ks
 wrow:n≠7->RowIn (fun b=>part' b=7) 119 8 xwEnc W' wv xs
 wat:∀i x y,n≠10+i->xs[i]?= some x->s.W[i]?= some y->x.Notes y/\TaskListAt (fun b=>part' b=10+i) W' x.T s.room y.tasks
 lat:∀i x ls,n≠9->n < 100+10*i\/100+10*i+ls.length<=n->xs[i]?= some x->s.links[i]?= some ls->XLinksAt part' i W' x.outv ls
 iat:∀i x,n≠8->n < 200+10*i\/200+10*i+s.links.length<=n->xs[i]?= some x->XInsAt part' i W' x.inv s.links
 yrow:n≠2->RowIn (fun b=>part' b=2) 124 15 msgEnc W' yv s.way
 vals:n≠3->KeptAt part' W' M s.values
 tat:∀i x y,n≠20+i->xs[i]?= some x->s.W[i]?= some y->TokAt (fun b=>part' b=20+i) W' s.mode (i==0&&s.around) y x.tok
theorem XAtO.rest{part part':Nat->Nat}{Y:Nat->Prop}{W W':World}{B M:Nat}{s:RunS}{kv wv yv:Value}{xs:List XW}(h:XAtO part W B s kv wv yv M xs)(n:Nat)(k:Kept Y W W')(hp:∀g,g < W.heap.size->part' g=part g)(hY:∀g,g < W.heap.size->Y g->part g=1\/part g=n):XRest n part' W' s kv wv yv M xs:=by
 have hg:∀t,t≠1->n≠t->∀g,g < W.heap.size->part g=t->¬Y g/\part' g=t:=fun t h1 hn g hl e=>⟨fun hy=>by have:=hY g hl hy;omega,(hp g hl).trans e⟩
 refine⟨fun hn=> ?_,fun hn=>h.wrow.kept k (hg 7 (by omega) hn),fun i x y hn hx hy=>⟨(h.wat i x y hx hy).1,(h.wat i x y hx hy).2.kept k (hg _ (by omega) hn)⟩,fun i x ls h9 hn hx hl=>(h.lat i x ls hx hl).kept k (fun g hl e=> ?_),fun i x h8 hn hx=>(h.iat i x hx).kept k (fun g hl e=> ?_),fun hn=>h.yrow.kept k (hg 2 (by omega) hn),fun hn=>h.vals.kept k (hg 3 (by omega) hn M h.vals.lt h.vals.is).1 (hp M h.vals.lt),fun i x y hn hx hy=>(h.tat i x y hx hy).kept k (hg _ (by omega) hn)⟩
 ·exact(h.kinds.below.kept k (fun b hb=>(hg 6 (by omega) hn b hb.2 hb.1).1)).mono' (fun b hb=>(hg 6 (by omega) hn b hb.2 hb.1).2)
 ·exact⟨fun hy=>by have:=hY g hl hy;omega,hp g hl⟩
 ·exact⟨fun hy=>by have:=hY g hl hy;omega,hp g hl⟩
theorem XAtO.kept{part part':Nat->Nat}{Y:Nat->Prop}{W W':World}{B M:Nat}{s:RunS}{kv wv yv:Value}{xs:List XW}(h:XAtO part W B s kv wv yv M xs)(k:Kept Y W W')(hx:∀g,g < W.heap.size->part g≠0->¬Y g/\part' g=part g):XAtO part' W' B s kv wv yv M xs:=by
 have hg:∀(n:Nat),n≠0->∀g,g < W.heap.size->part g=n->¬Y g/\part' g=n:=fun n hn g hl e=>⟨(hx g hl (by omega)).1,(hx g hl (by omega)).2.trans e⟩
 refine⟨h.box.kept k (hg 1 (by omega) B h.box.lt h.pB).1,(hg 1 (by omega) B h.box.lt h.pB).2,?_,h.wrow.kept k (hg 7 (by omega)),h.wlen,fun i x y hx hy=>⟨(h.wat i x y hx hy).1,(h.wat i x y hx hy).2.kept k (hg _ (by omega))⟩,h.llen,h.lrow,h.five,fun i x ls h1 h2=>(h.lat i x ls h1 h2).kept k (fun g hl e=>hx g hl (by omega)),fun i x h1=>(h.iat i x h1).kept k (fun g hl e=>hx g hl (by omega)),h.yrow.kept k (hg 2 (by omega)),h.vals.kept k (hg 3 (by omega) M h.vals.lt h.vals.is).1 ((hg 3 (by omega) M h.vals.lt h.vals.is).2.trans h.vals.is.symm),fun i x y hx hy=>(h.tat i x y hx hy).kept k (hg _ (by omega))⟩
 exact(h.kinds.below.kept k (fun b hb=>(hg 6 (by omega) b hb.2 hb.1).1)).mono' (fun b hb=>(hg 6 (by omega) b hb.2 hb.1).2)
theorem XAt.kept{part part':Nat->Nat}{Y:Nat->Prop}{W W':World}{B:Nat}{s:RunS}(h:XAt part W B s)(k:Kept Y W W')(hx:∀g,g < W.heap.size->part g≠0->¬Y g/\part' g=part g):XAt part' W' B s:=by
 obtain⟨kv,wv,yv,M,xs,h⟩:=h
 exact⟨kv,wv,yv,M,xs,h.kept k hx⟩
def XOK(F:Nat->Prop)(W:World)(B:Nat)(s:RunS):Prop:=∃part:Nat->Nat,(∀b,part b≠0->F b)/\XAt part W B s
theorem XOK.kept{F F' Y:Nat->Prop}{W W':World}{B:Nat}{s:RunS}(h:XOK F W B s)(k:Kept Y W W')(hx:∀g,g < W.heap.size->F g->¬Y g/\F' g):XOK F' W' B s:=by
 obtain⟨part,h1,h2⟩:=h
 refine⟨fun b=>if b < W.heap.size then part b else 0,fun b hb=> ?_,h2.kept k (fun g hl hp=>⟨(hx g hl (h1 g hp)).1,by simp[hl]⟩)⟩
 by_cases hl:b < W.heap.size
 ·exact(hx b hl (h1 b (by simpa[hl]using hb))).2
 ·simp[hl]at hb
theorem XOK.later{F:Nat->Prop}{W W':World}{B:Nat}{s:RunS}(h:XOK F W B s)(hk:Below W.heap.size W W'):XOK F W' B s:=
 h.kept (Kept.of_below hk (X:=fun b=>W.heap.size<=b) (fun _ _ h=>h)) (fun g hl hF=>⟨by omega,hF⟩)
theorem boxAt_at(W:World)(t:TypeId)(cs:Array Value)(g:Nat)(h:W.heap.size=g):BoxAt (W.alloc (.cells cs t)) g t cs:=by subst h;exact BoxAt.new W t cs
theorem row_of_cells{α:Type}{sz t base n g:Nat}{enc:α->List Value}{W:World}{cur:Array Value}{xs:List α}(hsz:0 < sz)(he:∀x,(enc x).length=sz)(hb:BoxAt W g t cur)(hg:base<=g)(hcs:cur.size=n*sz)(hx:xs.length=n)(hn:n<=maxLen)
  (hc:∀j x i u,xs[j]?= some x->(enc x)[i]?= some u->cur[j*sz+i]?= some u):W.ownsRow base t sz (.slice (some ⟨g,0,none⟩) n n) n (xs.flatMap enc):=by
 have hl:(xs.flatMap enc).length=n*sz:=by rw[flat_length he,hx]
 have hcur:cur.toList=xs.flatMap enc:=by
  refine List.ext_getElem? fun i=> ?_
  rcases Nat.lt_or_ge i (n*sz)with hi|hi
  ·have h1:i / sz < n:=(Nat.div_lt_iff_lt_mul hsz).2 hi
   have h2:i % sz < sz:=Nat.mod_lt _ hsz
   have e:i / sz*sz+i % sz=i:=by rw[Nat.mul_comm];exact Nat.div_add_mod _ _
   obtain⟨x,hxx⟩:∃x,xs[i / sz]?= some x:=⟨_,List.getElem?_eq_getElem (by omega)⟩
   obtain⟨u,hu⟩:∃u,(enc x)[i % sz]?= some u:=⟨_,List.getElem?_eq_getElem (by rw[he];exact h2)⟩
   have h3:=hc _ x _ u hxx hu
   have h4:=flat_get he xs _ x _ u hxx hu
   rw[e]at h3 h4
   rw[h4,Array.getElem?_toList,h3]
  ·rw[List.getElem?_eq_none (by rw[Array.length_toList,hcs];exact hi),List.getElem?_eq_none (by omega)]
 refine⟨hl,.inr ⟨g,n,cur,rfl,hg,hb,Nat.le_refl _,hn,hcs,?_⟩⟩
 rw[hcur,<-hl,List.take_length]
set_option maxHeartbeats 1000000 in
theorem tasksNew_calls(room:Int)(v:Value)(l:List TaskS)(w:World)(hv:ListAt 3 taskEnc w v l)(hl:l.length<=100000000) :
  Calls Tryz.prog 105 #[.int .i64 room,v] w fun e w'=>∃T tv,e= .returned (.pointer (some ⟨T,0,none⟩))/\BoxAt w' T 175 #[tv,.int .i64 room]/\w.heap.size<=T/\w'.ownsRow w.heap.size 62 3 tv l.length (l.flatMap taskEnc)/\Below w.heap.size w w':=by
 have HC:=hid_of (cloneT_calls v l w hv hl)
 obtain⟨va,vc,rfl,-⟩:=hv
 go_enter Tryz.func105,Tryz.ntmps105
 go_wp2_with (go_at_call 169;refine HC.out.mono ?_;rintro e w1 ⟨v1,rfl,hrow1,hb1⟩;obtain⟨a1,c1,rfl⟩:=row_form hrow1)
 go_ret
 exact⟨w1.heap.size,_,rfl,BoxAt.new w1 _ _,hb1.size,row_kept hrow1 (Kept.alloc _ _ _) (fun _ _ h=>h) (Nat.le_refl _),hb1.alloc hb1.size _⟩
theorem mkChan(w:World):(Instr.makeChan 157 (.int .i64 4)).run Tryz.prog w= .ok (.chan (some w.heap.size)) (w.alloc (.chan 4 #[] false 0 0 false)):=by
 have hi:=infoMessage
 cases h:Tryz.prog.info? 124 with
 |none=>rw[h]at hi;cases hi
 |some i=>
  rw[h]at hi
  simp at hi
  exact Conc.run_makeChan Tryz.underlying157 h .i64 4 (by omega) (by rw[hi.2.2];omega)
attribute [local go_sem] mkChan
theorem chan_new(W:World)(cap:Nat):ChanAt (W.alloc (.chan cap #[] false 0 0 false)) W.heap.size cap []:=⟨0,0,World.alloc_heap_new W _⟩
theorem ChanAt.below{W W':World}{c cap:Nat}{l:List MsgS}(h:ChanAt W c cap l)(hb:Below W.heap.size W W'):ChanAt W' c cap l:=h.kept (Kept.of_below hb (X:=fun b=>W.heap.size<=b) (fun _ _ h=>h)) (by have:=h.lt;omega)
set_option maxHeartbeats 1000000 in
set_option maxRecDepth 100000 in
theorem newOut_calls(w:World):Calls Tryz.prog 107 #[] w fun e w'=>∃T,e= .returned (.pointer (some ⟨T,0,none⟩))/\OutAt (fun b=>w.heap.size<=b) w' T link0/\Below w.heap.size w w':=by
 go_enter Tryz.func107,Tryz.ntmps107
 go_wp2_with fail
 go_ret
 refine⟨_,rfl,⟨w.heap.size,4,?_,?_,(chan_new w 4).below ((Below.refl _ _).alloc (Nat.le_refl _) _),Nat.le_refl _,by omega,by simp[link0],by simp[link0,LinkS.left]⟩,((Below.refl _ _).alloc (Nat.le_refl _) _).alloc (by simp) _⟩
 ·exact boxAt_at _ _ _ _ (by simp)
 ·simp
set_option maxHeartbeats 1000000 in
set_option maxRecDepth 100000 in
theorem newIn_calls(w:World):Calls Tryz.prog 109 #[] w fun e w'=>∃T,e= .returned (.pointer (some ⟨T,0,none⟩))/\InAt (fun b=>w.heap.size<=b) w' T link0/\Below w.heap.size w w':=by
 have hmm:= @run_makeMap Tryz.prog
 go_enter Tryz.func109,Tryz.ntmps109
 go_wp2_with fail
 go_ret
 refine⟨_,rfl,⟨w.heap.size,?_,?_,(InMap.new w).kept (Kept.alloc (fun _=>False) _ _) (fun h=>h),Nat.le_refl _⟩,((Below.refl _ _).alloc (Nat.le_refl _) _).alloc (by simp) _⟩
 ·exact boxAt_at _ _ _ _ (by simp)
 ·simp
end Go.Proofs.YtfanaanofjhlkaaGreatDoor
namespace Go.Proofs.YtfanaanofjhlkaaGreatDoor
open Go Go.RowKit
theorem infoPOut:(Tryz.prog.info? 206).map (fun i=>(i.zero,i.size,i.bytes))=some (some (.pointer none),1,8):=by kernel_rfl
set_option maxHeartbeats 1000000 in
set_option maxRecDepth 100000 in
theorem newLinks_calls(i n:Nat)(w:World)(hn:n<=5)(hi:i < n) :
  Calls Tryz.prog 106 #[.int .i64 i,.int .i64 n,.func (.func 107) #[] #[]] w fun e w'=>∃(g:Nat) (part:Nat->Nat),e= .returned (.slice (some ⟨g,0,none⟩) n n)/\(∀b,part b≠0->w.heap.size<=b/\(part b=9\/(100+10*i<=part b/\part b < 100+10*i+n)))/\XLinksAt part i w' (.slice (some ⟨g,0,none⟩) n n) (List.replicate n link0)/\Below w.heap.size w w':=by
 obtain⟨i0,hi0,hz0,hz1,hz2⟩:=info_parts infoPOut
 go_enter Tryz.func106,Tryz.ntmps106
 go_wp2_with (at_make;refine wpList_make_full _ rfl _ _ 115 rfl w.heap.size 206 i0 _ 1 Tryz.underlying115 hi0 hz0 hz1 .i64 .i64 _ _ n rfl rfl (by simp) (by simp) (by rw[hz2];omega) (by unfold maxLen;omega) (Nat.le_refl _) ?_;intro w1 hown1 hgrow1)
 obtain⟨cur,hcur,hcn,hc0⟩:∃cur,BoxAt w1 w.heap.size 206 cur/\cur.size=n/\∀j,j < n->cur[j]?= some (Value.pointer none):=by
  rcases hown1.2 with⟨h0,_⟩|⟨g',cap',cur,h0,hb,hcur,hnc,hcm,hcs,htk⟩
  ·cases h0
  ·cases h0
   have hsz:cur.size=n:=by rw[hcs];omega
   refine⟨cur,hcur,hsz,fun j hj=> ?_⟩
   have h1:=congrArg (fun l=>l[j]?) htk
   simp only[List.getElem?_take,show j < n*1 by omega,if_true,Array.getElem?_toList]at h1
   rw[h1]
   simp[madeCells,Value.cells,hj,Nat.mod_one]
 have hb1:Below w.heap.size w w1:=(Kept.grown hgrow1 (X:=fun _=>False) (fun r e=>by cases e)).below (Nat.le_refl _) (fun _ h=>h.elim)
 have HCUR:=hid_of hcur
 have HB1:=hid_of hb1
 have hCN:Hid (cur.size=n):=hcn
 have HC0:=hid_of hc0
 have hls:=hcur.lt
 clear hown1 hgrow1 hcur hb1 hcn hc0
 go_loopw [13] (fun iv wr=>∃(k:Nat) (cur:Array Value) (part:Nat->Nat) (qs:List (Option Nat)),k<=n/\iv= .int .i64 k/\BoxAt wr w.heap.size 206 cur/\cur.size=n/\(∀j,k<=j->j < n->cur[j]?= some (Value.pointer none))/\qs.length=k/\(∀(j:Nat) (q:Option Nat),qs[j]?= some q->cur[j]?= some (Value.pointer (q.map (fun b=>(⟨b,0,none⟩:Addr)))))/\
  (∀b,part b≠0->w.heap.size < b/\100+10*i<=part b/\part b < 100+10*i+n)/\(∀j q,qs[j]?= some q->EndAt part i j wr link0 q)/\Below w.heap.size w wr) (fun iv _=>n - (intOf iv).toNat)
 case atStart=>exact⟨0,cur,fun _=>0,[],Nat.zero_le _,rfl,HCUR.out,hCN.out,(fun j _ h=>HC0.out j h),rfl,(fun j q h=>by simp at h),(fun b h=>absurd rfl h),(fun j q h=>by simp at h),HB1.out⟩
 case round=>
  obtain⟨k,cu,part,qs,hk,rfl,hbox,hcz,hc0,hql,hqc,hpt,hqe,hbw⟩:=hrel
  rename World=>wr
  have HBOX:=hid_of hbox
  have HBW:=hid_of hbw
  have HCZ:Hid (cu.size=n):=hcz
  have HQ0:=hid_of hc0
  have HQL:Hid (qs.length=k):=hql
  have HQC:=hid_of hqc
  have HPT:=hid_of hpt
  have HQE:=hid_of hqe
  have hsz:=hbw.size
  have hlt0:=hbox.lt
  clear hbox hbw hcz hc0 hql hqc hpt hqe
  by_cases hlt:k < n
  ·have j1:(0:Int)<=(k:Int):=by omega
   have j2:(k:Int) < (n:Int):=by omega
   have HV0:=hid_of (HQ0.out k (Nat.le_refl _) hlt)
   by_cases hki:k=i
   ·have hne:((k:Int) != (i:Int))=false:=by simp[hki]
    have HKI:Hid (k=i):=hki
    clear hki
    go_wp2_with fail
    go_roundw
    case rel=>
     refine⟨k+1,cu,part,qs++ [none],by omega,by go_num,HBOX.out,HCZ.out,(fun j h1 h2=>HQ0.out j (by omega) h2),by rw[List.length_append,HQL.out];rfl,fun j q hq=> ?_,HPT.out,fun j q hq=> ?_,HBW.out⟩
     ·rcases get_snoc hq with⟨_,hq'⟩|⟨hj,rfl⟩
      ·exact HQC.out j q hq'
      ·rw[HQL.out]at hj;subst hj;exact HV0.out
     ·rcases get_snoc hq with⟨_,hq'⟩|⟨hj,rfl⟩
      ·exact HQE.out j q hq'
      ·rw[HQL.out]at hj;subst hj;exact⟨HKI.out,rfl⟩
    case measure=>simp[intOf];omega
   ·have hne:((k:Int) != (i:Int))=true:=by simp;omega
    have HKI:Hid (k≠i):=hki
    clear hki
    go_wp2_with (go_at_call 107;refine(newOut_calls wr).mono ?_;rintro e w2 ⟨T,rfl,hT2,hb2⟩;have hbx2:=HBOX.out.below hb2 hlt0;have y0:=hbx2.cell HV0.out;have z0:=hbx2.frozen k)
    go_roundw
    case rel=>
     have k23:Kept (·= w.heap.size) w2 (w2.setCell ⟨w.heap.size,k,none⟩ (.pointer (some ⟨T,0,none⟩))):=(Kept.refl _ _).setCell (.inl (by rfl)) _
     have kr3:Kept (·= w.heap.size) wr (w2.setCell ⟨w.heap.size,k,none⟩ (.pointer (some ⟨T,0,none⟩))):=(Kept.of_below hb2 (X:=(·= w.heap.size)) (fun b h1 h2=>by omega)).andThen k23 (fun b _ h=>h)
     refine⟨k+1,_,fun b=>if b < wr.heap.size then part b else 100+10*i+k,qs++ [some T],by omega,by go_num,hbx2.setAt k _,by simp[HCZ.out],fun j h1 h2=> ?_,by rw[List.length_append,HQL.out];rfl,fun j q hq=> ?_,fun b hb=> ?_,fun j q hq=> ?_,?_⟩
     ·rw[Array.getElem?_setIfInBounds_ne (by omega)];exact HQ0.out j (by omega) h2
     ·rcases get_snoc hq with⟨hj,hq'⟩|⟨hj,rfl⟩
      ·rw[HQL.out]at hj
       rw[Array.getElem?_setIfInBounds_ne (by omega)];exact HQC.out j q hq'
      ·rw[HQL.out]at hj;subst hj
       rw[Array.getElem?_setIfInBounds_self_of_lt (by rw[HCZ.out];exact hlt)];rfl
     ·dsimp only at hb ⊢
      by_cases h:b < wr.heap.size
      ·rw[if_pos h]at hb ⊢;exact HPT.out b hb
      ·rw[if_neg h];exact⟨by omega,by omega,by omega⟩
     ·rcases get_snoc hq with⟨hj,hq'⟩|⟨hj,rfl⟩
      ·exact(HQE.out j q hq').kept kr3 (fun g hg h=>⟨fun h'=>by have:=HPT.out g (by omega);omega,(if_pos hg).trans h⟩)
      ·rw[HQL.out]at hj;subst hj
       exact⟨HKI.out,hT2.kept k23 (fun g hg h=>⟨fun h'=>by omega,if_neg (by omega)⟩)⟩
     ·exact(HBW.out.trans (hb2.mono hsz)).setCell (Nat.le_refl _) _
    case measure=>simp[intOf];omega
  ·obtain rfl:n=k:=by omega
   go_wp2_with fail
   go_ret
   refine⟨_,fun b=>if b=w.heap.size then 9 else part b,rfl,fun b hb=> ?_,⟨qs,⟨?_,fun g e=> ?_⟩,by rw[HQL.out];simp,fun j q l hq hl=> ?_⟩,HBW.out⟩
   ·dsimp only at hb ⊢
    by_cases h:b=w.heap.size
    ·rw[if_pos h];exact⟨by omega,.inl rfl⟩
    ·rw[if_neg h]at hb ⊢
     have:=HPT.out b hb
     exact⟨by omega,.inr this.2⟩
   ·have:=row_of_cells (base:=0) (n:=n) (sz:=1) (enc:=optEnc) (xs:=qs) (by omega) (fun _=>rfl) HBOX.out (Nat.zero_le _) (by rw[HCZ.out];omega) HQL.out (by unfold maxLen;omega) (fun j x i' u hx hu=>by
     match i',hu with
     |0,hu=>cases hu;simpa using HQC.out j x hx
     |(m+1),hu=>simp[optEnc]at hu)
    rw[HQL.out]
    exact this
   ·simp[Value.ownBlock]at e
    exact if_pos e.symm
   ·rw[replicate_get hl]
    exact(HQE.out j q hq).kept (Kept.refl (fun _=>False) _) (fun g hg h=>⟨fun h=>h,(if_neg (by have:=HPT.out g (by omega);omega)).trans h⟩)
theorem infoPIn:(Tryz.prog.info? 207).map (fun i=>(i.zero,i.size,i.bytes))=some (some (.pointer none),1,8):=by kernel_rfl
set_option maxHeartbeats 1000000 in
set_option maxRecDepth 100000 in
theorem newIns_calls(i n:Nat)(w:World)(hn:n<=5)(hi:i < n) :
  Calls Tryz.prog 108 #[.int .i64 i,.int .i64 n,.func (.func 109) #[] #[]] w fun e w'=>∃(g:Nat) (part:Nat->Nat),e= .returned (.slice (some ⟨g,0,none⟩) n n)/\(∀b,part b≠0->w.heap.size<=b/\(part b=8\/(200+10*i<=part b/\part b < 200+10*i+n)))/\XInsAt part i w' (.slice (some ⟨g,0,none⟩) n n) (List.replicate n (List.replicate n link0))/\Below w.heap.size w w':=by
 obtain⟨i0,hi0,hz0,hz1,hz2⟩:=info_parts infoPIn
 go_enter Tryz.func108,Tryz.ntmps108
 go_wp2_with (at_make;refine wpList_make_full _ rfl _ _ 116 rfl w.heap.size 207 i0 _ 1 Tryz.underlying116 hi0 hz0 hz1 .i64 .i64 _ _ n rfl rfl (by simp) (by simp) (by rw[hz2];omega) (by unfold maxLen;omega) (Nat.le_refl _) ?_;intro w1 hown1 hgrow1)
 obtain⟨cur,hcur,hcn,hc0⟩:∃cur,BoxAt w1 w.heap.size 207 cur/\cur.size=n/\∀j,j < n->cur[j]?= some (Value.pointer none):=by
  rcases hown1.2 with⟨h0,_⟩|⟨g',cap',cur,h0,hb,hcur,hnc,hcm,hcs,htk⟩
  ·cases h0
  ·cases h0
   have hsz:cur.size=n:=by rw[hcs];omega
   refine⟨cur,hcur,hsz,fun j hj=> ?_⟩
   have h1:=congrArg (fun l=>l[j]?) htk
   simp only[List.getElem?_take,show j < n*1 by omega,if_true,Array.getElem?_toList]at h1
   rw[h1]
   simp[madeCells,Value.cells,hj,Nat.mod_one]
 have hb1:Below w.heap.size w w1:=(Kept.grown hgrow1 (X:=fun _=>False) (fun r e=>by cases e)).below (Nat.le_refl _) (fun _ h=>h.elim)
 have HCUR:=hid_of hcur
 have HB1:=hid_of hb1
 have hCN:Hid (cur.size=n):=hcn
 have HC0:=hid_of hc0
 have hls:=hcur.lt
 clear hown1 hgrow1 hcur hb1 hcn hc0
 go_loopw [13] (fun iv wr=>∃(k:Nat) (cur:Array Value) (part:Nat->Nat) (qs:List (Option Nat)),k<=n/\iv= .int .i64 k/\BoxAt wr w.heap.size 207 cur/\cur.size=n/\(∀j,k<=j->j < n->cur[j]?= some (Value.pointer none))/\qs.length=k/\(∀(j:Nat) (q:Option Nat),qs[j]?= some q->cur[j]?= some (Value.pointer (q.map (fun b=>(⟨b,0,none⟩:Addr)))))/\
  (∀b,part b≠0->w.heap.size < b/\200+10*i<=part b/\part b < 200+10*i+n)/\(∀j q,qs[j]?= some q->InEndAt part i j wr link0 q)/\Below w.heap.size w wr) (fun iv _=>n - (intOf iv).toNat)
 case atStart=>exact⟨0,cur,fun _=>0,[],Nat.zero_le _,rfl,HCUR.out,hCN.out,(fun j _ h=>HC0.out j h),rfl,(fun j q h=>by simp at h),(fun b h=>absurd rfl h),(fun j q h=>by simp at h),HB1.out⟩
 case round=>
  obtain⟨k,cu,part,qs,hk,rfl,hbox,hcz,hc0,hql,hqc,hpt,hqe,hbw⟩:=hrel
  rename World=>wr
  have HBOX:=hid_of hbox
  have HBW:=hid_of hbw
  have HCZ:Hid (cu.size=n):=hcz
  have HQ0:=hid_of hc0
  have HQL:Hid (qs.length=k):=hql
  have HQC:=hid_of hqc
  have HPT:=hid_of hpt
  have HQE:=hid_of hqe
  have hsz:=hbw.size
  have hlt0:=hbox.lt
  clear hbox hbw hcz hc0 hql hqc hpt hqe
  by_cases hlt:k < n
  ·have j1:(0:Int)<=(k:Int):=by omega
   have j2:(k:Int) < (n:Int):=by omega
   have HV0:=hid_of (HQ0.out k (Nat.le_refl _) hlt)
   by_cases hki:k=i
   ·have hne:((k:Int) != (i:Int))=false:=by simp[hki]
    have HKI:Hid (k=i):=hki
    clear hki
    go_wp2_with fail
    go_roundw
    case rel=>
     refine⟨k+1,cu,part,qs++ [none],by omega,by go_num,HBOX.out,HCZ.out,(fun j h1 h2=>HQ0.out j (by omega) h2),by rw[List.length_append,HQL.out];rfl,fun j q hq=> ?_,HPT.out,fun j q hq=> ?_,HBW.out⟩
     ·rcases get_snoc hq with⟨_,hq'⟩|⟨hj,rfl⟩
      ·exact HQC.out j q hq'
      ·rw[HQL.out]at hj;subst hj;exact HV0.out
     ·rcases get_snoc hq with⟨_,hq'⟩|⟨hj,rfl⟩
      ·exact HQE.out j q hq'
      ·rw[HQL.out]at hj;subst hj;exact HKI.out
    case measure=>simp[intOf];omega
   ·have hne:((k:Int) != (i:Int))=true:=by simp;omega
    have HKI:Hid (k≠i):=hki
    clear hki
    go_wp2_with (go_at_call 109;refine(newIn_calls wr).mono ?_;rintro e w2 ⟨T,rfl,hT2,hb2⟩;have hbx2:=HBOX.out.below hb2 hlt0;have y0:=hbx2.cell HV0.out;have z0:=hbx2.frozen k)
    go_roundw
    case rel=>
     have k23:Kept (·= w.heap.size) w2 (w2.setCell ⟨w.heap.size,k,none⟩ (.pointer (some ⟨T,0,none⟩))):=(Kept.refl _ _).setCell (.inl (by rfl)) _
     have kr3:Kept (·= w.heap.size) wr (w2.setCell ⟨w.heap.size,k,none⟩ (.pointer (some ⟨T,0,none⟩))):=(Kept.of_below hb2 (X:=(·= w.heap.size)) (fun b h1 h2=>by omega)).andThen k23 (fun b _ h=>h)
     refine⟨k+1,_,fun b=>if b < wr.heap.size then part b else 200+10*i+k,qs++ [some T],by omega,by go_num,hbx2.setAt k _,by simp[HCZ.out],fun j h1 h2=> ?_,by rw[List.length_append,HQL.out];rfl,fun j q hq=> ?_,fun b hb=> ?_,fun j q hq=> ?_,?_⟩
     ·rw[Array.getElem?_setIfInBounds_ne (by omega)];exact HQ0.out j (by omega) h2
     ·rcases get_snoc hq with⟨hj,hq'⟩|⟨hj,rfl⟩
      ·rw[HQL.out]at hj
       rw[Array.getElem?_setIfInBounds_ne (by omega)];exact HQC.out j q hq'
      ·rw[HQL.out]at hj;subst hj
       rw[Array.getElem?_setIfInBounds_self_of_lt (by rw[HCZ.out];exact hlt)];rfl
     ·dsimp only at hb ⊢
      by_cases h:b < wr.heap.size
      ·rw[if_pos h]at hb ⊢;exact HPT.out b hb
      ·rw[if_neg h];exact⟨by omega,by omega,by omega⟩
     ·rcases get_snoc hq with⟨hj,hq'⟩|⟨hj,rfl⟩
      ·exact(HQE.out j q hq').kept kr3 (fun g hg h=>⟨fun h'=>by have:=HPT.out g (by omega);omega,(if_pos hg).trans h⟩)
      ·rw[HQL.out]at hj;subst hj
       exact⟨HKI.out,hT2.kept k23 (fun g hg h=>⟨fun h'=>by omega,if_neg (by omega)⟩)⟩
     ·exact(HBW.out.trans (hb2.mono hsz)).setCell (Nat.le_refl _) _
    case measure=>simp[intOf];omega
  ·obtain rfl:n=k:=by omega
   go_wp2_with fail
   go_ret
   refine⟨_,fun b=>if b=w.heap.size then 8 else part b,rfl,fun b hb=> ?_,⟨qs,⟨?_,fun g e=> ?_⟩,by rw[HQL.out];simp,fun j q row l hq hr hl=> ?_⟩,HBW.out⟩
   ·dsimp only at hb ⊢
    by_cases h:b=w.heap.size
    ·rw[if_pos h];exact⟨by omega,.inl rfl⟩
    ·rw[if_neg h]at hb ⊢
     have:=HPT.out b hb
     exact⟨by omega,.inr this.2⟩
   ·have:=row_of_cells (base:=0) (n:=n) (sz:=1) (enc:=optEnc) (xs:=qs) (by omega) (fun _=>rfl) HBOX.out (Nat.zero_le _) (by rw[HCZ.out];omega) HQL.out (by unfold maxLen;omega) (fun j x i' u hx hu=>by
     match i',hu with
     |0,hu=>cases hu;simpa using HQC.out j x hx
     |(m+1),hu=>simp[optEnc]at hu)
    rw[HQL.out]
    exact this
   ·simp[Value.ownBlock]at e
    exact if_pos e.symm
   ·rw[replicate_get hr]at hl
    rw[replicate_get hl]
    exact(HQE.out j q hq).kept (Kept.refl (fun _=>False) _) (fun g hg h=>⟨fun h=>h,(if_neg (by have:=HPT.out g (by omega);omega)).trans h⟩)
theorem kinds_set(l:List (KindS×Value)):∀(k:Nat) (c:KindS) (o v:Value),l[k]?= some (c,o)->(l.flatMap kindEnc).set (k*3+2) v=(l.set k (c,v)).flatMap kindEnc:=by
 induction l with
 |nil=>intro k c o v h;simp at h
 |cons x r ih=>
  intro k c o v h
  cases k with
  |zero=>simp at h;subst h;rfl
  |succ k=>
   have h':=ih k c o v (by simpa using h)
   rw[List.flatMap_cons,List.set_cons_succ,List.flatMap_cons,<-h']
   show List.set ([.int .i64 x.1.A,.int .i64 x.1.B,x.2]++r.flatMap kindEnc) _ _=_
   rw[List.set_append_right _ _ (by simp;omega)]
   congr 2
   simp;omega
theorem row_raise{W:World}{base e size n g cap:Nat}{xs:List Value}(h:W.ownsRow 0 e size (.slice (some ⟨g,0,none⟩) n cap) n xs)(hb:base<=g):W.ownsRow base e size (.slice (some ⟨g,0,none⟩) n cap) n xs:=by
 obtain⟨h1,h2⟩:=h
 rcases h2 with⟨h0,_⟩|⟨g',cap',cur,h0,_,h3⟩
 ·cases h0
 ·cases h0
  exact⟨h1,.inr ⟨g,cap,cur,rfl,hb,h3⟩⟩
theorem step_call1{P:Program}{ops:Array Oper}{o:Oper}{a:Act}{w:World}{K:Act->World->Prop}{Q:Exit->Act->World->Prop}{E:Prop}{R:Value->World->Prop}
  (hg:o.guard=none) (f:Nat) (x:Operand) (tys:Array TypeId) (hop:o.op=Op.call {callee:=Callee.value (Operand.func f),args:=#[x],argTypes:=tys}) (v1:Value) (hx:a.eval x=v1)
  (he:∀args w,(callFunc f args).run P w= .ok (.enter f args) w) (hc:Calls P f #[v1] w fun e w'=>∃v,e= .returned v/\R v w') (hK:∀v w',R v w'->K (a.put o.dst v) w') :
  if Region.wanted o (yielded ops a.tmps)=true then Oper.wp P o a w K Q else E:=by
 have hw:Region.wanted o (yielded ops a.tmps)=true:=by simp[Region.wanted,hg]
 rw[if_pos hw]
 have hf:a.eval (Operand.func f)= .func (.func f) #[] #[]:=rfl
 unfold Oper.wp execOp
 simp only[hop,resolve,invoke,hf,Sem.run_bind,List.map_toArray,List.map_cons,List.map_nil,hx]
 simp[Deferred.ofValue,he,go_sem]
 refine hc.mono ?_
 rintro e w' ⟨v,rfl,hR⟩
 exact hK v w' hR
theorem step_call3{P:Program}{ops:Array Oper}{o:Oper}{a:Act}{w:World}{K:Act->World->Prop}{Q:Exit->Act->World->Prop}{E:Prop}{R:Value->World->Prop}
  (hg:o.guard=none) (f:Nat) (x y z:Operand) (tys:Array TypeId) (hop:o.op=Op.call {callee:=Callee.value (Operand.func f),args:=#[x,y,z],argTypes:=tys}) (v1 v2 v3:Value) (hx:a.eval x=v1) (hy:a.eval y=v2) (hz:a.eval z=v3)
  (he:∀args w,(callFunc f args).run P w= .ok (.enter f args) w) (hc:Calls P f #[v1,v2,v3] w fun e w'=>∃v,e= .returned v/\R v w') (hK:∀v w',R v w'->K (a.put o.dst v) w') :
  if Region.wanted o (yielded ops a.tmps)=true then Oper.wp P o a w K Q else E:=by
 have hw:Region.wanted o (yielded ops a.tmps)=true:=by simp[Region.wanted,hg]
 rw[if_pos hw]
 have hf:a.eval (Operand.func f)= .func (.func f) #[] #[]:=rfl
 unfold Oper.wp execOp
 simp only[hop,resolve,invoke,hf,Sem.run_bind,List.map_toArray,List.map_cons,List.map_nil,hx,hy,hz]
 simp[Deferred.ofValue,he,go_sem]
 refine hc.mono ?_
 rintro e w' ⟨v,rfl,hR⟩
 exact hK v w' hR
theorem row_frozen{W:World}{base e size n g cap:Nat}{xs:List Value}(h:W.ownsRow base e size (.slice (some ⟨g,0,none⟩) n cap) n xs)(o:Nat):W.frozen? ⟨g,o,none⟩=false:=by
 rcases h.2 with⟨h0,_⟩|⟨g',cap',cur,h0,hb,hcur,_⟩
 ·cases h0
 ·cases h0
  exact BoxAt.frozen hcur o
set_option maxHeartbeats 4000000 in
set_option maxRecDepth 100000 in
theorem copy_calls(a:Option Addr)(cap:Nat)(kind arg:Int)(ks:List KindS)(w:World)(hk:KindsAt (fun _=>True) w (.slice a ks.length cap) ks)(hprog:progB ks kind arg=true) :
  Calls Tryz.prog 48 #[.agg #[.slice a ks.length cap,.int .i64 kind,.int .i64 arg]] w fun e w'=>∃a' c',e= .returned (.agg #[.slice a' ks.length c',.int .i64 kind,.int .i64 arg])/\KindsAt (fun b=>w.heap.size<=b) w' (.slice a' ks.length c') ks/\Below w.heap.size w w':=by
 have hlen5:ks.length<=5:=by simp[progB,rangeB]at hprog;omega
 have HKL:Hid (∀k∈ks,k.kids.length<=3):=fun k hk=>by
  simp[progB]at hprog
  have:=hprog.1.1.2 k hk
  simp[kindB]at this
  exact this.1.2
 obtain⟨V,hV⟩:∃V,(w.alloc (Obj.cells #[.slice a ks.length cap,.int .i64 kind,.int .i64 arg] 41)).alloc (Obj.cells #[.slice none 0 0,.int .i64 0,.int .i64 0] 41)=V:=⟨_,rfl⟩
 have bP:BoxAt V w.heap.size 41 #[.slice a ks.length cap,.int .i64 kind,.int .i64 arg]:=by rw[<-hV];exact(BoxAt.new w _ _).alloc _
 have bZ:BoxAt V (w.heap.size+1) 41 #[.slice none 0 0,.int .i64 0,.int .i64 0]:=by
  rw[<-hV];have:=BoxAt.new (w.alloc (Obj.cells #[.slice a ks.length cap,.int .i64 kind,.int .i64 arg] 41)) 41 #[.slice none 0 0,.int .i64 0,.int .i64 0]
  rw[World.size_alloc]at this;exact this
 have hbV:Below w.heap.size w V:=by rw[<-hV];exact((Below.refl _ _).alloc (Nat.le_refl _) _).alloc (by simp) _
 have sV:V.heap.size=w.heap.size+2:=by rw[<-hV];simp
 have kV:KindsAt (fun b=>b < w.heap.size) V (.slice a ks.length cap) ks:=(hk.below.kept (Kept.of_below hbV (X:=fun b=>w.heap.size<=b) (fun _ _ h=>h)) (fun b h1 h2=>by omega)).mono' (fun _ h=>h.2)
 obtain⟨l0,hl0,hla,hlk⟩:=kinds_list kV
 have hll:l0.length=ks.length:=by rw[<-hl0];simp
 have HCK:=hid_of (cloneK_calls (.slice a ks.length cap) l0 V hla (by omega) (fun p hp=>by obtain⟨a',c',e,_⟩:=hlk p hp;rw[e];rfl))
 rw[hll]at HCK
 have p0:=bP.cell (o:=0) rfl
 have HBP:=hid_of bP
 have HBZ:=hid_of bZ
 have HBV:=hid_of hbV
 have HL0:Hid (l0.map Prod.fst=ks):=hl0
 have HLK:=hid_of hlk
 have HLL0:Hid (l0.length=ks.length):=hll
 clear bP bZ hbV kV hk hl0 hla hlk hprog hll
 go_enter Tryz.func48,Tryz.ntmps48
 go_upto_region 2 with(go_at_call 103;refine HCK.out.mono ?_;rintro e w1 ⟨v1,rfl,hrow1,hb1⟩;obtain⟨a1,c1,rfl⟩:=row_form hrow1;have hP1:=HBP.out.below hb1 HBP.out.lt;have x0:=hP1.cell (o:=0) rfl;have f0:=hP1.frozen 0)
 obtain⟨w2,hw2⟩:∃w2,w1.setCell ⟨w.heap.size,0,none⟩ (.slice a1 ks.length c1)=w2:=⟨_,rfl⟩
 have k12:Kept (·= w.heap.size) w1 w2:=by rw[<-hw2];exact(Kept.refl _ _).setCell (.inl (by rfl)) _
 have HP2:Hid (BoxAt w2 w.heap.size 41 #[.slice a1 ks.length c1,.int .i64 kind,.int .i64 arg]):=by rw[<-hw2];exact hP1.setAt 0 _
 have hs1:=hb1.size
 have hs2:=k12.size
 have HZ2:Hid (BoxAt w2 (w.heap.size+1) 41 #[.slice none 0 0,.int .i64 0,.int .i64 0]):=(HBZ.out.below hb1 HBZ.out.lt).kept k12 (by omega)
 have HROW2:Hid (w2.ownsRow V.heap.size 56 3 (.slice a1 ks.length c1) ks.length (l0.flatMap kindEnc)):=row_kept hrow1 k12 (fun g e h=>by subst h;exact row_ne hrow1 hP1 (by decide) e) (Nat.le_refl _)
 have HB2:Hid (Below w.heap.size w w2):=(HBV.out.trans (hb1.mono (by omega))).trans (k12.below (by omega) (fun b h=>by omega))
 have HLK2:Hid (∀p∈l0,KidsAt (fun b=>b < w.heap.size) w2 p.2 p.1.kids):=fun p hp=>((HLK.out p hp).kept (Kept.of_below hb1 (X:=fun b=>V.heap.size<=b) (fun _ _ h=>h)) (fun b h1 h2=>by omega)).kept k12 (fun b h1 h2=>by omega)
 rw[hw2]
 clear hw2 hrow1 hb1 hP1 x0 f0 k12 p0 hV
 have x0:=HP2.out.cell (o:=0) rfl
 go_wp2_with fail
 go_loopw [11] (fun iv wr=>∃(k:Nat) (l:List (KindS×Value)),k<=ks.length/\iv= .int .i64 k/\l.map Prod.fst=ks/\wr.ownsRow V.heap.size 56 3 (.slice a1 ks.length c1) ks.length (l.flatMap kindEnc)/\(∀j p,l[j]?= some p->(j < k->wr.ownsRow V.heap.size 53 2 p.2 p.1.kids.length (kidCells p.1.kids))/\(k<=j->KidsAt (fun b=>b < w.heap.size) wr p.2 p.1.kids))/\Kept (fun b=>V.heap.size<=b) w2 wr) (fun iv _=>ks.length - (intOf iv).toNat)
 case atStart=>exact⟨0,l0,Nat.zero_le _,rfl,HL0.out,HROW2.out,fun j p hp=>⟨fun h=>absurd h (by omega),fun _=>HLK2.out p (List.mem_of_getElem? hp)⟩,Kept.refl _ _⟩
 case round=>
  obtain⟨k,l,hk,rfl,hlm,hrow,hkd,hkw⟩:=hrel
  rename World=>wr
  have HROW:=hid_of hrow
  have HKD:=hid_of hkd
  have HKW:=hid_of hkw
  have HLM:Hid (l.map Prod.fst=ks):=hlm
  have hsr:=hkw.size
  have HPr:Hid (BoxAt wr w.heap.size 41 #[.slice a1 ks.length c1,.int .i64 kind,.int .i64 arg]):=HP2.out.kept hkw (by omega)
  have HZr:Hid (BoxAt wr (w.heap.size+1) 41 #[.slice none 0 0,.int .i64 0,.int .i64 0]):=HZ2.out.kept hkw (by omega)
  have HLL:Hid (l.length=ks.length):=by show _=_;rw[<-hlm];simp
  have y0:=HPr.out.cell (o:=0) rfl
  clear x0 hrow hkd hkw hlm
  by_cases hlt:k < ks.length
  ·obtain⟨pr,hpr⟩:∃p,l[k]?= some p:=⟨_,List.getElem?_eq_getElem (by rw[HLL.out];exact hlt)⟩
   obtain⟨c,kv⟩:=pr
   have hka:=(HKD.out k _ hpr).2 (Nat.le_refl _)
   have hcm:c∈ks:=by rw[<-HLM.out];exact List.mem_map.2 ⟨_,List.mem_of_getElem? hpr,rfl⟩
   have hc3:c.kids.length<=3:=HKL.out c hcm
   have HPRK:Hid (l[k]?= some (c,kv)):=hpr
   have HCD:Hid (∀U,Below wr.heap.size wr U->Calls Tryz.prog 104 #[kv] U fun e w'=>∃v,e= .returned v/\(w'.ownsRow V.heap.size 53 2 v c.kids.length (c.kids.flatMap kidEnc)/\Below wr.heap.size wr w')):=fun U hU=>by
    refine(cloneD_calls kv c.kids U ((kids_list hka).below hU (Nat.le_refl _)) (by omega)).mono ?_
    rintro e w' ⟨v',rfl,h1,h2⟩
    exact⟨v',rfl,ownsRow_base h1 (by have:=hU.size;omega),hU.trans (h2.mono hU.size)⟩
   obtain⟨ka,kc,hkf,-⟩:=hka
   dsimp only at hkf
   subst hkf
   obtain⟨g,cp,hgf,hg1,hg2⟩:=World.ownsRow.form HROW.out (by omega)
   cases hgf
   have e2:wr.cell? ⟨g,k*3+2,none⟩=some (.slice ka c.kids.length kc):=by
    have:=HROW.out.cells (g:=g) rfl (k*3+2) _ (flat_get (sz:=3) (enc:=kindEnc) (fun _=>rfl) l k _ 2 _ hpr rfl)
    rwa [addr_add]at this
   have j1:(0:Int)<=(k:Int):=by omega
   have j2:(k:Int) < (ks.length:Int):=by omega
   clear hpr hcm
   go_upto_region 5 with fail
   go_region_law (refine step_call1 (by rfl) 104 _ _ (by rfl) (.slice ka c.kids.length kc) (by rfl) (enters_of Tryz.func104 (by kernel_rfl) rfl) (HCD.out _ (by first|assumption|exact Below.refl _ _|exact(Below.refl _ _).drew|exact Below.drew (by assumption))) ?_;rintro v9 w9 ⟨hr9,hb9⟩;obtain⟨a9,c9,rfl⟩:=row_form hr9;have hP9:=HPr.out.below hb9 HPr.out.lt;have u0:=hP9.cell (o:=0) rfl;have hrw9:=row_below HROW.out hb9 (fun g e=>(HROW.out.lt g e).2);have u2:w9.cell? ⟨g,k*3+2,none⟩=some (.slice ka c.kids.length kc):=(hb9.cell (p:=⟨g,k*3+2,none⟩) hg2).trans e2;have u3:w9.frozen? ⟨g,k*3+2,none⟩=false:=row_frozen hrw9 _)
   all_goals
    go_wp2_with fail
    go_roundw
    case rel=>
     have k9:Kept (fun b=>V.heap.size<=b) wr (w9.setCell ⟨g,k*3+2,none⟩ (.slice a9 c.kids.length c9)):=(Kept.of_below hb9 (X:=fun b=>V.heap.size<=b) (fun b h1 h2=>by omega)).trans ((Kept.refl _ _).setCell (.inl hg1) _)
     have ks9:Kept (·= g) w9 (w9.setCell ⟨g,k*3+2,none⟩ (.slice a9 c.kids.length c9)):=(Kept.refl _ _).setCell (.inl (by rfl)) _
     have hkid:∀(u:Value) (d:List KidS),w9.ownsRow V.heap.size 53 2 u d.length (kidCells d)->(w9.setCell ⟨g,k*3+2,none⟩ (.slice a9 c.kids.length c9)).ownsRow V.heap.size 53 2 u d.length (kidCells d):=fun u d h=>row_kept h ks9 (fun g' e h'=>by
      subst h'
      obtain⟨cs1,h1⟩:=row_obj h e
      obtain⟨cs2,h2⟩:=row_obj hrw9 (g:=g') rfl
      have:=h1.symm.trans h2
      simp at this) (Nat.le_refl _)
     refine⟨k+1,l.set k (c,.slice a9 c.kids.length c9),by omega,by go_num,?_,?_,fun j p hp=> ?_,HKW.out.trans k9⟩
     ·have hcc:(l.map Prod.fst)[k]?= some c:=by rw[List.getElem?_map,HPRK.out];rfl
      rw[List.map_set]
      refine Eq.trans ?_ HLM.out
      refine List.ext_getElem? fun i=> ?_
      by_cases h:k=i
      ·subst h
       rw[hcc,List.getElem?_set_self (by rw[List.length_map,HLL.out];exact hlt)]
      ·rw[List.getElem?_set_ne h]
     ·rw[<-kinds_set l k c _ _ HPRK.out]
      exact row_raise (row_putAll (e:=56) (sz:=3) (n:=ks.length) (g:=g) [.slice a9 c.kids.length c9] (l.flatMap kindEnc) (k*3+2) w9 (ownsRow_base hrw9 (Nat.zero_le _)) (by show k*3+2+1<=ks.length*3;omega)) hg1
     ·by_cases h:k=j
      ·subst h
       rw[List.getElem?_set_self (by rw[HLL.out];exact hlt)]at hp
       cases hp
       exact⟨fun _=>hkid _ _ hr9,fun h=>absurd h (by omega)⟩
      ·rw[List.getElem?_set_ne h]at hp
       refine⟨fun hj=>hkid _ _ (row_below ((HKD.out j p hp).1 (by omega)) hb9 (fun g' e=>(((HKD.out j p hp).1 (by omega)).lt g' e).2)),fun hj=>((HKD.out j p hp).2 (by omega)).kept k9 (fun b h1 h2=>by omega)⟩
    case measure=>simp[intOf];omega
  ·obtain rfl:k=ks.length:=by omega
   have p0:=HPr.out.cell (o:=0) rfl
   have p1:=HPr.out.cell (o:=1) rfl
   have p2:=HPr.out.cell (o:=2) rfl
   have z0:=HZr.out.cell (o:=0) rfl
   have z1:=HZr.out.cell (o:=1) rfl
   have z2:=HZr.out.cell (o:=2) rfl
   have f0:=HZr.out.frozen 0
   have f1:=HZr.out.frozen 1
   have f2:=HZr.out.frozen 2
   go_wp2_with fail
   have kz:Kept (·= w.heap.size+1) wr (((wr.setCell ⟨w.heap.size+1,0,none⟩ (.slice a1 ks.length c1)).setCell ⟨w.heap.size+1,1,none⟩ (.int .i64 kind)).setCell ⟨w.heap.size+1,2,none⟩ (.int .i64 arg)):=(((Kept.refl _ _).setCell (.inl (by rfl)) _).setCell (.inl (by rfl)) _).setCell (.inl (by rfl)) _
   have hbz:=((HZr.out.setAt 0 (.slice a1 ks.length c1)).setAt 1 (.int .i64 kind)).setAt 2 (.int .i64 arg)
   have r0:=hbz.cell (o:=0) rfl
   have r1:=hbz.cell (o:=1) rfl
   have r2:=hbz.cell (o:=2) rfl
   refine bodyPost_ret (v:= .agg #[.slice a1 ks.length c1,.int .i64 kind,.int .i64 arg]) (by simp[results,Tryz.results48,go_sem,r0,r1,r2]) rfl ⟨_,_,rfl,?_,?_⟩
   ·have hKR:KindsRow wr V.heap.size (.slice a1 ks.length c1) l:=⟨by rw[HLL.out];exact HROW.out,fun p hp=>by
     obtain⟨j,hj⟩:=List.mem_iff_getElem?.1 hp
     have hjl:=(List.getElem?_eq_some_iff.1 hj).1
     exact(HKD.out j p hj).1 (by have:=HLL.out;omega)⟩
    have h:=hKR.at
    rw[HLM.out]at h
    exact(h.kept kz (fun b h1 h2=>by omega)).mono' (fun b hb=>by omega)
   ·exact(HB2.out.trans (HKW.out.below (by omega) (fun b h=>by omega))).trans (kz.below (by omega) (fun b h=>by omega))
theorem box_setAll{g t:Nat}:∀(us:List Value) (o:Nat) (W:World) (cs:Array Value),BoxAt W g t cs->∃cs',BoxAt (putAll W g o us) g t cs'/\cs'.toList=setAll cs.toList o us
 |[],_,_,cs,h=>⟨cs,h,rfl⟩
 |u :: r,o,W,cs,h=>by
  obtain⟨cs',h1,h2⟩:=box_setAll r (o+1) _ _ (h.setAt o u)
  refine⟨cs',h1,?_⟩
  rw[h2,setAll,Array.toList_setIfInBounds]
theorem box_putAll{g t:Nat}{W:World}{cs:Array Value}(us:List Value)(h:BoxAt W g t cs)(hn:us.length=cs.size):BoxAt (putAll W g 0 us) g t us.toArray:=by
 obtain⟨cs',h1,h2⟩:=box_setAll us 0 W cs h
 have e:setAll cs.toList 0 us=us:=by
  refine List.ext_getElem? fun i=> ?_
  rcases Nat.lt_or_ge i us.length with hi|hi
  ·have:=setAll_in us cs.toList 0 i hi (by have:=Array.length_toList (xs:=cs);omega)
   rwa [Nat.zero_add]at this
  ·rw[List.getElem?_eq_none (by rw[setAll_length,Array.length_toList];omega),List.getElem?_eq_none hi]
 rw[e]at h2
 have:cs'=us.toArray:=by rw[<-h2]
 rw[<-this]
 exact h1
theorem store_msg(b:Nat)(cs:Array Value)(W:World)(hb:BoxAt W b 124 cs)(h15:cs.size=15)(m:MsgS):(storeVar 124 ⟨b,0,none⟩ (.agg (msgCells m))).run Tryz.prog W= .ok () (W.setCells b 0 (msgEnc m)):=by
 obtain⟨iM,hiM,hzM0,hzM1,hzM2⟩:=info_parts infoMessage
 have hst:=run_storeCells_cells (P:=Tryz.prog) b 0 (msgEnc m) 0 W (fun j hj=>by
  have hj':j < 15:=by simpa[msgEnc]using hj
  obtain⟨v,hv⟩:=get_some (cs:=cs) (i:=j) (by omega)
  have:=hb.cell hv
  simp[this]) (fun j hj=>by simpa using hb.frozen j) (fun v hv=>msgEnc_one m v hv)
 simp only[Nat.add_zero]at hst
 have hc:(Value.agg (msgCells m)).cells.toList=msgEnc m:=rfl
 have hs:(Value.agg (msgCells m)).cells.size=15:=rfl
 simp[storeVar,sizeOf,typeInfo,hiM,hzM1,hs,hc,hst]
theorem store_op(a:Act)(o:Oper)(x y:Operand)(ho:o.op=Op.store 124 x y)(b:Nat)(cs:Array Value)(W:World)(hb:BoxAt W b 124 cs)(h15:cs.size=15)(m:MsgS)(hx:a.eval x= .pointer (some ⟨b,0,none⟩))(hy:a.eval y=Value.agg (msgCells m)):(execOp a.eval o).run Tryz.prog W= .ok .skip (W.setCells b 0 (msgEnc m)):=by
 simp[execOp,ho,hx,hy,Instr.storeAt,Instr.sureAddr,store_msg b cs W hb h15 m]
theorem putAll_setCells:∀(us:List Value) (g o:Nat) (W:World),W.setCells g o us=putAll W g o us
 |[],_,_,_=>rfl
 |_ :: r,g,o,_=>putAll_setCells r g (o+1) _
theorem semAt_wide(ρ:Operand->Value)(o:Oper):Oper.semAt Fence.wide.round ρ o=execOp ρ o:=by
 show Oper.semAt none ρ o=_
 unfold Oper.semAt
 cases o.op<;>rfl
section
variable {F:Fence} {n:Nat} {P:Program} {ops:Array Oper} {Q:Exit->Act->World->Prop} {i:Nat} {rest:List Nat} {o:Oper} {a:Act} {w w':World}
theorem wpOpsIn_value{v:Value}(ho:ops[i]?= some o)(hw:Region.wanted o (yielded ops a.tmps)=true)(hab:o.about P w a.eval=none)(hr:(o.semAt F.round a.eval).run P w= .ok (.value v) w')(h:wpOpsIn F n P ops Q rest (a.put o.dst v) w'):wpOpsIn F n P ops Q (i :: rest) a w:=by
 simp only[wpOpsIn,ho,hw,if_true,Oper.wpIn,hab,hr,Oper.uponIn_value]
 exact⟨(fun f hf=>by cases hf),h⟩
theorem wpOpsIn_skip(ho:ops[i]?= some o)(hw:Region.wanted o (yielded ops a.tmps)=true)(hab:o.about P w a.eval=none)(hr:(o.semAt F.round a.eval).run P w= .ok .skip w')(h:wpOpsIn F n P ops Q rest (a.put o.dst undef) w'):wpOpsIn F n P ops Q (i :: rest) a w:=by
 simp only[wpOpsIn,ho,hw,if_true,Oper.wpIn,hab,hr,Oper.uponIn_skip]
 exact⟨(fun f hf=>by cases hf),h⟩
end
end Go.Proofs.YtfanaanofjhlkaaGreatDoor
