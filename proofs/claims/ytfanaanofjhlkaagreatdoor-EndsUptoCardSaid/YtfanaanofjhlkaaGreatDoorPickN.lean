import Derived.Test.YtfanaanofjhlkaaGreatDoorTasks
import Derived.Test.YtfanaanofjhlkaaGreatDoorList
import Derived.Stop.RegionWithIn
import Derived.Deep.RegionLaw
import Derived.Laws.OwnMore
import Derived.Deep.DeepCutAuto
import Derived.Deep.AppendLies
import Derived.Laws.StructEq
namespace Go.Proofs.YtfanaanofjhlkaaGreatDoor
open Go Go.RowKit Go.Maps Go.Sort
def mapOf(ks:List KindS)(l:List TaskS):DataW Unit:=l.foldl (fun D t=>D.put (keyL t.id) (elemD (valueOf ks t))) (.map [])
theorem mapOf_snoc(ks:List KindS)(l:List TaskS)(t:TaskS):mapOf ks (l++ [t])=(mapOf ks l).put (keyL t.id) (elemD (valueOf ks t)):=by simp[mapOf]
theorem keyL_inj{a b:TaskS}(h:keyL a.id=keyL b.id):idl a=idl b:=by simpa[keyL,idl]using h
theorem keyL_lit(id:ByteArray):WideAt.IsKeyLit (keyL id):=trivial
theorem mapOf_facts(ks:List KindS):∀n (l:List TaskS),l.length=n->
  Tidy (mapOf ks l)/\(∀s,has (mapOf ks l) (.string s)=true ↔ ∃t∈l,idl t=s)/\(l.Pairwise (fun a b=>idl a≠idl b)->Maps.size (mapOf ks l)=l.length/\∀t∈l,∀z,(mapOf ks l).atKey (keyL t.id) z=elemD (valueOf ks t))
 |0,l,h=>by
  obtain rfl:=List.length_eq_zero_iff.1 h
  exact⟨tidy_empty,fun s=>by simp[mapOf,has_eq],fun _=>⟨rfl,fun t ht=>by cases ht⟩⟩
 |n+1,l,h=>by
  obtain⟨l',t,rfl⟩:∃l' t,l=l'++ [t]:=⟨l.dropLast,l.getLast (by intro e;rw[e]at h;cases h),(List.dropLast_concat_getLast _).symm⟩
  simp at h
  obtain⟨h1,h2,h3⟩:=mapOf_facts ks n l' h
  rw[mapOf_snoc]
  refine⟨h1.put (keyL_lit _) _,fun s=> ?_,fun hp=> ?_⟩
  ·by_cases hs:idl t=s
   ·subst hs
    have:=has_put_same h1.isMap (keyL_lit t.id) (elemD (valueOf ks t))
    exact⟨fun _=>⟨t,by simp,rfl⟩,fun _=>this⟩
   ·rw[has_put_other (k:=keyL t.id) (k':= .string s) (by intro e;simp[keyL]at e;exact hs e.symm),h2 s]
    constructor
    ·rintro⟨u,hu,e⟩;exact⟨u,by simp[hu],e⟩
    ·rintro⟨u,hu,e⟩
     rcases List.mem_append.1 hu with hu|hu
     ·exact⟨u,hu,e⟩
     ·simp at hu;subst hu;exact absurd e hs
  ·obtain⟨hp1,_,hp2⟩:=List.pairwise_append.1 hp
   obtain⟨h4,h5⟩:=h3 hp1
   have hno:has (mapOf ks l') (keyL t.id)=false:=by
    cases hh:has (mapOf ks l') (keyL t.id)
    ·rfl
    ·obtain⟨u,hu,e⟩:=(h2 _).1 hh
     exact absurd e (hp2 u hu t (by simp))
   refine⟨by rw[size_put h1,hno];simp[h4],fun u hu z=> ?_⟩
   rcases List.mem_append.1 hu with hu|hu
   ·rw[atKey_put_other (by intro e;exact hp2 u hu t (by simp) (keyL_inj e)),h5 u hu]
   ·simp at hu;subst hu;exact atKey_put_same h1.isMap (keyL_lit _) _ _
theorem mem_insert_or{x p:Lit×DataW Unit}:∀{l:List (Lit×DataW Unit)},p∈DataW.insert x l->p=x\/p∈l
 |[],h=>by simp[DataW.insert]at h;exact .inl h
 |y :: r,h=>by
  unfold DataW.insert at h
  split at h
  ·exact List.mem_cons.1 h
  ·rcases List.mem_cons.1 h with rfl|h
   ·exact .inr (by simp)
   ·exact(mem_insert_or h).imp id (fun h=>by simp[h])
theorem mapOf_keys(ks:List KindS):∀n (l:List TaskS),l.length=n->∃es,mapOf ks l= .map es/\∀p∈es,∃x,p.1= .string x
 |0,l,h=>by
  obtain rfl:=List.length_eq_zero_iff.1 h
  exact⟨[],rfl,fun p hp=>by cases hp⟩
 |n+1,l,h=>by
  obtain⟨l',t,rfl⟩:∃l' t,l=l'++ [t]:=⟨l.dropLast,l.getLast (by intro e;rw[e]at h;cases h),(List.dropLast_concat_getLast _).symm⟩
  simp at h
  obtain⟨es,he,hk⟩:=mapOf_keys ks n l' h
  rw[mapOf_snoc,he]
  refine⟨_,rfl,fun p hp=> ?_⟩
  rcases mem_insert_or hp with rfl|hp
  ·exact⟨_,rfl⟩
  ·exact hk p (List.mem_filter.1 hp).1
theorem mapOf_size_le(ks:List KindS)(l:List TaskS)(t:TaskS):Maps.size (mapOf ks (l++ [t]))<=Maps.size (mapOf ks l)+1:=by
 rw[mapOf_snoc,size_put (mapOf_facts ks _ l rfl).1];split<;>omega
def taskCells(ks:List KindS)(l:List TaskS):List Value:=l.flatMap fun t=>[.string t.id,.int .i64 (valueOf ks t)]
theorem flatMap_same{α β:Type}{f g:α->List β}:∀{l:List α},(∀t∈l,f t=g t)->l.flatMap f=l.flatMap g
 |[],_=>rfl
 |a :: r,h=>by rw[List.flatMap_cons,List.flatMap_cons,h a (by simp),flatMap_same fun t ht=>h t (by simp[ht])]
theorem sorted_keys(ks:List KindS)(l:List TaskS)(hp:l.Pairwise (fun a b=>idl a < idl b)){ss:List (List UInt8)}(hs:ss.Perm (strKeys (mapOf ks l))) :
  ss.length=l.length/\valCells (mapOf ks l) (ss.mergeSort (fun x y=>decide (x<=y)))=taskCells ks l:=by
 have hne:l.Pairwise (fun a b=>idl a≠idl b):=hp.imp fun h e=>by rw[e]at h;exact List.lt_irrefl _ h
 obtain⟨h1,h2,h3⟩:=mapOf_facts ks _ l rfl
 obtain⟨h4,h5⟩:=h3 hne
 obtain⟨es,he,hes⟩:=h1
 have hk:∀p∈es,∃x,p.1= .string x:=by
  obtain⟨es',he',hk⟩:=mapOf_keys ks _ l rfl
  rw[he]at he';cases he';exact hk
 have hperm:(l.map idl).Perm (strKeys (mapOf ks l)):=by
  rw[he]
  refine perm_strKeys hes hk (List.pairwise_map.2 hne) fun x=> ?_
  rw[<-he,h2 x];simp
 have hsort:ss.mergeSort (fun x y=>decide (x<=y))=l.map idl:=by
  have e1:=mergeSort_of_perm (hs.trans hperm.symm)
  refine e1.trans ?_
  refine List.mergeSort_of_pairwise ?_
  exact List.pairwise_map.2 (hp.imp fun h=>by simpa[leB]using List.le_of_lt h)
 refine⟨by rw[(hs.trans hperm.symm).length_eq];simp,?_⟩
 rw[hsort]
 unfold valCells taskCells
 rw[List.flatMap_map]
 refine flatMap_same fun t ht=> ?_
 have:valAt (mapOf ks l) (idl t)=valueOf ks t:=by
  unfold valAt
  rw[show(Lit.string (idl t))=keyL t.id from rfl,h5 t ht];rfl
 rw[this]
 simp[encStr,idl]
theorem kids_le(ks:List KindS)(kind arg:Int)(hp:progB ks kind arg=true)(k:Int):(kindAt ks k).kids.length<=3:=by
 unfold kindAt
 cases h:ks[k.toNat]? with
 |none=>simp
 |some c=>
  simp[progB]at hp
  have:=hp.1.1.2 c (List.mem_of_getElem? h)
  simp[kindB]at this
  exact this.1.2
theorem all_order{ks:List KindS}{kind arg:Int}(hp:progB ks kind arg=true):(allTasks ks kind arg).Pairwise (fun a b=>idl a < idl b):=(tree_order ks (kids_le ks kind arg hp) _ _).1
theorem tree_good{ks:List KindS}{kind arg:Int}(hp:progB ks kind arg=true):∀(f:Nat) (t:TaskS),Good ks t->∀u∈tree ks f t,Good ks u
 |0,t,h,u,hu=>by simp[tree]at hu;subst hu;exact h
 |f+1,t,h,u,hu=>by
  rcases List.mem_cons.1 hu with rfl|hu
  ·exact h
  ·obtain⟨c,hc,hu⟩:=List.mem_flatMap.1 hu
   exact tree_good hp f c (good_child hp h hc).1 u hu
def unfoldS(ks:List KindS)(kind arg:Int):Int×List TaskS:=
 if progB ks kind arg=true then(if(allTasks ks kind arg).length<=200 then(0,allTasks ks kind arg)else(4,[]))else(3,[])
end Go.Proofs.YtfanaanofjhlkaaGreatDoor
namespace Go.Proofs.YtfanaanofjhlkaaGreatDoor
open Go Go.RowKit Go.Shelf Go.Maps
attribute [local go_sem] Oper.semAt_some
theorem valueOf_wf{ks:List KindS}{kind arg:Int}(hp:progB ks kind arg=true){t:TaskS}(hG:Good ks t):(Lit.int .i64 (valueOf ks t)).wf=true:=by
 obtain⟨h0,h1,h2,h3⟩:=hG
 obtain⟨j,hj⟩:=Int.eq_ofNat_of_zero_le h0
 have hjl:j < ks.length:=by omega
 have hk:kindAt ks t.kind=ks[j]:=by simp[kindAt,hj,hjl]
 have hkb:kindB ks.length ks[j]=true:=by
  simp[progB]at hp
  exact hp.1.1.2 _ (List.getElem_mem hjl)
 have hA: -1000<=ks[j].A/\ks[j].A<=1000:=by simp[kindB,rangeB]at hkb;omega
 have hB: -1000<=ks[j].B/\ks[j].B<=1000:=by simp[kindB,rangeB]at hkb;omega
 have m1:=Int.mul_le_mul_of_nonneg_right hA.1 h2
 have m2:=Int.mul_le_mul_of_nonneg_right hA.2 h2
 unfold valueOf
 rw[hk]
 have hmin:IntKind.i64.min= -9223372036854775808:=rfl
 simp[Lit.wf]
 omega
set_option maxHeartbeats 2000000 in
set_option maxRecDepth 100000 in
theorem unfold_calls(a:Option Addr)(cap:Nat)(kind arg:Int)(ks:List KindS)(w:World)(hk:KindsAt (fun _=>True) w (.slice a ks.length cap) ks)(hl:ks.length<=9223372036854775806)(hl2:∀k∈ks,k.kids.length<=9223372036854775806) :
  Calls Tryz.prog 35 #[.agg #[.slice a ks.length cap,.int .i64 kind,.int .i64 arg]] w fun e w'=>∃v,e= .returned (.tuple #[v,.int .i64 (unfoldS ks kind arg).1])/\
   w'.ownsRow w.heap.size 92 2 v (unfoldS ks kind arg).2.length (taskCells ks (unfoldS ks kind arg).2)/\Below w.heap.size w w':=by
 refine(callsIn_wide (n:=5)).1 ?_
 refine callsIn_of_wp_marks Tryz.func35 rfl trivial ?_ rfl
 simp only[Tryz.ntmps35,List.size_toArray,List.length_cons,List.length_nil,Nat.reduceAdd,Nat.reduceSub,Array.replicate_succ,Array.replicate_zero,List.push_toArray,List.append_toArray,List.nil_append,List.cons_append]
 gi_wp2_with fail
 obtain⟨V,hV⟩:∃V,(((w.alloc (Obj.cells #[Value.slice a ks.length cap,Value.int IntKind.i64 kind,Value.int IntKind.i64 arg] 41)).alloc (Obj.cells #[Value.slice none 0 0] 42)).alloc (Obj.cells #[Value.int IntKind.i64 0] 46))=V:=⟨_,rfl⟩
 have hbV:Below w.heap.size w V:=by
  rw[<-hV];exact(((Below.refl _ _).alloc (Nat.le_refl _) _).alloc (by simp) _).alloc (by simp;omega) _
 have v1:BoxAt V w.heap.size 41 #[Value.slice a ks.length cap,Value.int IntKind.i64 kind,Value.int IntKind.i64 arg]:=by
  rw[<-hV];exact((BoxAt.new w _ _).alloc _).alloc _
 have v2:BoxAt V (w.heap.size+1) 42 #[Value.slice none 0 0]:=by
  rw[<-hV];have:=(BoxAt.new (w.alloc (Obj.cells #[Value.slice a ks.length cap,Value.int IntKind.i64 kind,Value.int IntKind.i64 arg] 41)) 42 #[Value.slice none 0 0]).alloc (Obj.cells #[Value.int IntKind.i64 0] 46)
  simpa only[World.size_alloc]using this
 have v3:BoxAt V (w.heap.size+1+1) 46 #[Value.int IntKind.i64 0]:=by
  rw[<-hV];have:=BoxAt.new ((w.alloc (Obj.cells #[Value.slice a ks.length cap,Value.int IntKind.i64 kind,Value.int IntKind.i64 arg] 41)).alloc (Obj.cells #[Value.slice none 0 0] 42)) 46 #[Value.int IntKind.i64 0]
  simpa only[World.size_alloc]using this
 have sV:V.heap.size=w.heap.size+3:=by rw[<-hV];simp
 rw[hV]
 clear hV
 refine⟨trivial,?_⟩
 have kV:=hk.below.kept (Kept.of_below (X:=fun k=>w.heap.size<=k) hbV (fun _ _ h=>h)) (fun b h=>by omega)
 refine(callsIn_wide.2 (isProgram_calls (.slice a ks.length cap) kind arg ks _ V kV hl hl2)).mono ?_
 rintro e w1 ⟨rfl,hb1⟩
 have u1:=v1.below hb1 (by omega)
 have u2:=v2.below hb1 (by omega)
 have u3:=v3.below hb1 (by omega)
 have q0:=u1.cell (o:=0) rfl
 have q1:=u1.cell (o:=1) rfl
 have q2:=u1.cell (o:=2) rfl
 have r2:=u2.cell (o:=0) rfl
 have r3:=u3.cell (o:=0) rfl
 have g2:=u2.frozen 0
 have g3:=u3.frozen 0
 have hsz1:=hb1.size
 by_cases hprog:progB ks kind arg=true
 case neg=>
  have hp':progB ks kind arg=false:=by simpa using hprog
  gi_wp2_with fail
  have hnil:(Value.slice none 0 0)=(Value.slice none 0 0):=rfl
  have s2:BoxAt ((w1.setCell ⟨w.heap.size+1,0,none⟩ (.slice none 0 0)).setCell ⟨w.heap.size+1+1,0,none⟩ (.int .i64 3)) (w.heap.size+1) 42 #[.slice none 0 0]:=
   Boxed.other (Boxed.set (.slice none 0 0) u2) (by omega) _
  have s3:BoxAt ((w1.setCell ⟨w.heap.size+1,0,none⟩ (.slice none 0 0)).setCell ⟨w.heap.size+1+1,0,none⟩ (.int .i64 3)) (w.heap.size+1+1) 46 #[.int .i64 3]:=
   Boxed.set (.int .i64 3) (Boxed.other u3 (by omega) (.slice none 0 0))
  have t2:=s2.cell (o:=0) rfl
  have t3:=s3.cell (o:=0) rfl
  refine⟨.tuple #[.slice none 0 0,.int .i64 3],by simp[results,Tryz.f35,go_sem,t2,t3],.slice none 0 0,?_,?_,?_⟩
  ·simp[unfoldS,hp']
  ·simp only[unfoldS,hp',Bool.false_eq_true,↓reduceIte];exact World.ownsRow_nil _ _ _ _
  ·exact(((hbV.trans (hb1.mono (by omega))).setCell (p:=⟨w.heap.size+1,0,none⟩) (by simp) _)).setCell (p:=⟨w.heap.size+1+1,0,none⟩) (by simp;omega) _
 have q0':=fun o1 o2=>cell_alloc o2 (cell_alloc o1 q0)
 have q1':=fun o1 o2=>cell_alloc o2 (cell_alloc o1 q1)
 have q2':=fun o1 o2=>cell_alloc o2 (cell_alloc o1 q2)
 have hmm:= @run_makeMap Tryz.prog
 have hfT:Fence.wide.fn 83:=trivial
 gi_wp2_with ((try refine⟨fun h=>(by cases h),?_⟩);gi_at_call 83;refine(tasks_in Fence.wide _ trivial rfl _ _ _ _ _ _).mono ?_;rintro e w' ⟨rfl,rfl⟩)
 obtain⟨Z,hZ⟩:∃Z,(((w1.alloc (Obj.map #[] 0)).alloc (Obj.cells #[Value.map (some w1.heap.size)] 99)).alloc (Obj.cells #[Value.slice a ks.length cap,Value.int IntKind.i64 kind,Value.int IntKind.i64 arg] 41))=Z:=⟨_,rfl⟩
 have sZ:Z.heap.size=w1.heap.size+3:=by rw[<-hZ];simp
 have hbZ:Below w1.heap.size w1 Z:=by
  rw[<-hZ];exact(((Below.refl _ _).alloc (Nat.le_refl _) _).alloc (by simp) _).alloc (by simp;omega) _
 have zm:MapIs Z w1.heap.size (mapOf ks []):=by
  rw[<-hZ];exact mapIs_of (((World.ownsMap_made w1 Tryz.prog 9 (plainElem Tryz.prog 3)).alloc _).alloc _)
 have za:BoxAt Z (w1.heap.size+1) 99 #[Value.map (some w1.heap.size)]:=by
  rw[<-hZ];have:=(BoxAt.new (w1.alloc (Obj.map #[] 0)) 99 #[Value.map (some w1.heap.size)]).alloc (Obj.cells #[Value.slice a ks.length cap,Value.int IntKind.i64 kind,Value.int IntKind.i64 arg] 41)
  simpa only[World.size_alloc]using this
 have zq:BoxAt Z (w1.heap.size+1+1) 41 #[Value.slice a ks.length cap,Value.int IntKind.i64 kind,Value.int IntKind.i64 arg]:=by
  rw[<-hZ];have:=BoxAt.new ((w1.alloc (Obj.map #[] 0)).alloc (Obj.cells #[Value.map (some w1.heap.size)] 99)) 41 #[Value.slice a ks.length cap,Value.int IntKind.i64 kind,Value.int IntKind.i64 arg]
  simpa only[World.size_alloc]using this
 rw[hZ]
 clear hZ q0' q1' q2' hmm q0 q1 q2 r2 r3 g2 g3
 have z1:=u1.below hbZ (by omega)
 have z2:=u2.below hbZ (by omega)
 have z3:=u3.below hbZ (by omega)
 have hbwZ:Below w.heap.size w Z:=(hbV.trans (hb1.mono (by omega))).trans (hbZ.mono (by omega))
 have kZ:KindsAt (fun b=>True/\b < w.heap.size) Z (.slice a ks.length cap) ks:=hk.below.kept (Kept.of_below (X:=fun k=>w.heap.size<=k) hbwZ (fun _ _ h=>h)) (fun b h=>by omega)
 have hseq:∀Y,Below Z.heap.size Z Y->Y.heap.size=Z.heap.size+2->SeqX Fence.wide (5 - 1) Tryz.prog 144 #[.pointer (some ⟨w1.heap.size+1+1,0,none⟩)] (fun t:GoodT ks=>#[taskV t.1]) (fun k=>k=w1.heap.size\/k=Z.heap.size+1)
   (fun xs=>xs.map Subtype.val=allTasks ks kind arg) (fun pre=>pre.map Subtype.val <+: allTasks ks kind arg) Y:=fun Y hbY sY=>by
  refine tasks1_seq (5 - 1) (w1.heap.size+1+1) _ (fun b=>True/\b < w.heap.size) a cap kind arg ks Y (zq.below hbY (by omega)) (kZ.kept (Kept.of_below (X:=fun k=>Z.heap.size<=k) hbY (fun _ _ h=>h)) (fun b h=>by omega)) ?_ ?_ hprog
  ·rintro k (h|h)<;>omega
  ·rintro b h (h'|h')<;>omega
 have HO:=all_order hprog
 refine range_law (F:=Fence.wide) (n:=5) (w:=Z) rfl (fun h=>(by cases h)) (gf:=144) (lb:=#[.pointer (some ⟨w1.heap.size+1+1,0,none⟩)]) (by rfl) trivial (enters_of Tryz.func144 (by kernel_rfl) rfl)
  (·= w1.heap.size) (fun k h=>by omega) hseq (fun _=>by rfl)
  (fun pre U=>MapIs U w1.heap.size (mapOf ks (pre.map Subtype.val))/\Maps.size (mapOf ks (pre.map Subtype.val))<=200/\Kept (·= w1.heap.size) Z U)
  (fun c pre U=>c= .ret/\(∃pre1 x,pre.map Subtype.val=pre1++ [x]/\Maps.size (mapOf ks pre1)=200)/\BoxAt U (w.heap.size+1) 42 #[.slice none 0 0]/\BoxAt U (w.heap.size+1+1) 46 #[.int .i64 4]/\Below w.heap.size w U)
  (fun s A A' h hb=>⟨h.1.below hb (by omega),h.2.1,h.2.2.later hb (Nat.le_refl _)⟩)
  (fun c s A A' h hb=>⟨h.1,h.2.1,h.2.2.1.below hb (by omega),h.2.2.2.1.below hb (by omega),h.2.2.2.2.trans (hb.mono (by omega))⟩)
  ⟨zm,by simp[mapOf,Maps.size],Kept.refl _ _⟩
  (fun pre c a' U=>∃Bx,Z.heap.size+2<=Bx/\BoxAt U Bx 62 #[.string c.1.id,.int .i64 c.1.kind,.int .i64 c.1.arg]/\a'=Act.mk #[Value.agg #[Value.slice a ks.length cap,Value.int IntKind.i64 kind,Value.int IntKind.i64 arg],
     Value.pointer (some {block:=w.heap.size,off:=0}),
     Value.pointer (some {block:=w.heap.size+1,off:=0}),
     Value.pointer (some {block:=w.heap.size+1+1,off:=0}),
     Value.pointer (some {block:=w1.heap.size+1,off:=0}),Value.pointer (some {block:=Bx,off:=0}),
     Value.agg #[Value.slice a ks.length cap,Value.int IntKind.i64 kind,Value.int IntKind.i64 arg],
     Value.bool true,Value.bool false,Value.map (some w1.heap.size),
     Value.agg #[Value.slice a ks.length cap,Value.int IntKind.i64 kind,Value.int IntKind.i64 arg],
     Value.func (Fn.func 144) #[] #[Value.pointer (some {block:=w1.heap.size+1+1,off:=0})],
     Value.agg #[.string c.1.id,.int .i64 c.1.kind,.int .i64 c.1.arg],undef,
     undef,undef,undef,undef,undef,undef,undef,undef,undef,undef] [])
  (fun pre c a' A A' h hk=>by
   obtain⟨Bx,e1,e2,e3⟩:=h
   exact⟨Bx,e1,e2.kept hk (by omega),e3⟩) ?assign ?body ?done ?stop
 case assign=>
  rintro l' pre' ⟨⟨id',k',x'⟩,hmem⟩ U K ⟨hmU,hsU,hkU⟩ hszU hK
  simp only[taskV]
  gi_wp2
  exact hK _ _ (Kept.alloc _ _ _) ⟨hmU.kept (Kept.alloc (fun _=>False) _ _) (fun h=>h),hsU,hkU.trans (Kept.alloc _ _ _)⟩ ⟨U.heap.size,hszU,BoxAt.new U _ _,rfl⟩
 case body=>
  rintro l' pre' ⟨⟨id',k',x'⟩,hmem⟩ a' U ⟨hmU,hsU,hkU⟩ ⟨Bx,hBx,bX,rfl⟩ hszU
  simp only at bX
  have ya:=za.kept hkU (by omega)
  have y1:=z1.kept hkU (by omega)
  have y2:=z2.kept hkU (by omega)
  have y3:=z3.kept hkU (by omega)
  have ca:=ya.cell (o:=0) rfl
  obtain⟨L,hL⟩:∃L,pre'.map Subtype.val=L:=⟨_,rfl⟩
  rw[hL]at hmU hsU
  have HLL:Hid (pre'.map Subtype.val=L):=hL
  clear hL
  have hlen:=World.ownsMap.len (show U.ownsMap Tryz.prog 9 (plainElem Tryz.prog 3) w1.heap.size (Maps.size (mapOf ks L)) (mapOf ks L)from hmU) Tryz.underlying99 3
  have hbU:Below w.heap.size w U:=hbwZ.trans (hkU.below (by omega) (fun k e=>by omega))
  by_cases h200:Maps.size (mapOf ks L)=200
  ·have ht:((Maps.size (mapOf ks L):Int)==200)=true:=by rw[h200];rfl
   have c2:=y2.cell (o:=0) rfl
   have f2:=y2.frozen 0
   have c3:=y3.cell (o:=0) rfl
   have f3:=y3.frozen 0
   have H2:Hid (Maps.size (mapOf ks L)=200):=h200
   clear h200
   gi_wp2
   refine⟨(((Kept.refl _ U).setCell (.inl (by simp;omega)) _)).setCell (.inl (by simp;omega)) _,rfl,⟨L,⟨id',k',x'⟩,by rw[<-HLL.out];simp,H2.out⟩,Boxed.other (Boxed.set _ y2) (by omega) _,Boxed.set _ (Boxed.other y3 (by omega) _),?_⟩
   exact(hbU.setCell (p:=⟨w.heap.size+1,0,none⟩) (by simp) _).setCell (p:=⟨w.heap.size+1+1,0,none⟩) (by simp;omega) _
  ·have ht:((Maps.size (mapOf ks L):Int)==200)=false:=by rw[beq_eq_false_iff_ne];omega
   have p0:=y1.cell (o:=0) rfl
   have p1:=y1.cell (o:=1) rfl
   have p2:=y1.cell (o:=2) rfl
   have x0:=bX.cell (o:=0) rfl
   have x1:=bX.cell (o:=1) rfl
   have x2:=bX.cell (o:=2) rfl
   have hG:=hmem
   obtain⟨g0,g1,g2,g3⟩:=hmem
   simp only at g0 g1 g2 g3
   have kU:KindsAt (fun b=>True/\b < w.heap.size) U (.slice a ks.length cap) ks:=kZ.kept hkU (fun b h=>by omega)
   have HV:Hid (∀U',Below U.heap.size U U'->Calls Tryz.prog 85 #[.agg #[.slice a ks.length cap,.int .i64 kind,.int .i64 arg],.agg #[.string id',.int .i64 k',.int .i64 x']] U' fun e w'=>
     e= .returned (.agg #[.string id',.int .i64 (valueOf ks ⟨id',k',x'⟩)])/\Below U.heap.size U w'/\w'.cell? ⟨w1.heap.size+1,0,none⟩=some (.map (some w1.heap.size))/\(∀o,(w'.alloc o).cell? ⟨w1.heap.size+1,0,none⟩=some (.map (some w1.heap.size)))/\(∀o,Below U.heap.size U (w'.alloc o))):=fun U' hU'=>by
    refine(value_calls (.slice a ks.length cap) kind arg ks ⟨id',k',x'⟩ _ U' (kU.kept (Kept.of_below (X:=fun k=>U.heap.size<=k) hU' (fun _ _ h=>h)) (fun b h=>by omega)) hprog g0 g1 g2 (by dsimp only;omega)).mono ?_
    rintro e w' ⟨rfl,hb⟩
    have hb':=hU'.trans (hb.mono hU'.size)
    have hc:=(hb'.cell (p:=⟨w1.heap.size+1,0,none⟩) (by simp;omega)).trans ca
    exact⟨rfl,hb',hc,fun o=>cell_alloc o hc,fun o=>hb'.alloc hb'.size o⟩
   have HKp:Hid (∀(U':World) (b:Nat),Below U.heap.size U U'->U'.cell? ⟨b,0,none⟩=some (.string id')->U'.cell? ⟨b,1,none⟩=some (.int .i64 (valueOf ks ⟨id',k',x'⟩))->b < U'.heap.size->Calls Tryz.prog 84 #[.map (some w1.heap.size),.slice (some ⟨b,0,none⟩) 1 1] U' fun e w'=>
     ∃u,e= .returned u/\MapIs w' w1.heap.size (mapOf ks (L++ [⟨id',k',x'⟩]))/\Kept (·= w1.heap.size) U w'):=fun U' b hU' c0 c1 hb=>by
    refine(keep_calls w1.heap.size b 0 (mapOf ks L) id' (valueOf ks ⟨id',k',x'⟩) U' (hmU.below hU' (by omega)) (by omega) (by omega) (valueOf_wf hprog hG) c0 c1 hb).mono ?_
    rintro e w' ⟨⟨u,rfl⟩,h1,h2⟩
    exact⟨u,rfl,by rw[mapOf_snoc];exact h1,(Kept.of_below hU' (fun k h h'=>by omega)).trans h2⟩
   have hfV:Fence.wide.fn 85:=trivial
   have hfK:Fence.wide.fn 84:=trivial
   have hd:Below U.heap.size U U.drew:=(Below.refl _ _).drew
   gi_wp2
   gi_region_with (first
    |((try refine⟨fun h=>(by cases h),?_⟩);gi_at_call 85;refine(CallsIn.inRound l' (callsIn_wide.2 (HV.out _ (by assumption)))).mono ?_;rintro e w' ⟨rfl,hb5,c5,c6,hb6⟩)
    |((try refine⟨fun h=>(by cases h),?_⟩);gi_at_call 84;refine(CallsIn.inRound l' (callsIn_wide.2 (HKp.out _ _ (by first|assumption|exact hb6 _) (by simp) (by simp) (by simp)))).mono ?_;rintro e w' ⟨u,rfl,hm5,hk5⟩))
   all_goals
    gi_wp2
    have he:(pre'++ [(⟨⟨id',k',x'⟩,hG⟩:GoodT ks)]).map Subtype.val=L++ [⟨id',k',x'⟩]:=by rw[List.map_append,HLL.out];rfl
    refine⟨hk5,?_⟩
    show MapIs _ _ (mapOf ks ((pre'++ [(⟨⟨id',k',x'⟩,hG⟩:GoodT ks)]).map Subtype.val))/\Maps.size (mapOf ks ((pre'++ [(⟨⟨id',k',x'⟩,hG⟩:GoodT ks)]).map Subtype.val))<=200/\_
    rw[he]
    exact⟨hm5,by have:=mapOf_size_le ks L ⟨id',k',x'⟩;omega,hkU.trans hk5⟩
 case done=>
  rintro Dd xs U hD hS ⟨hmU,hsU,hkU⟩ hK
  rw[hS]at hmU hsU
  have hne:(allTasks ks kind arg).Pairwise (fun a b=>idl a≠idl b):=HO.imp fun h e=>by rw[e]at h;exact List.lt_irrefl _ h
  have hlen:=((mapOf_facts ks _ (allTasks ks kind arg) rfl).2.2 hne).1
  have hle:(allTasks ks kind arg).length<=200:=by omega
  have ya:=za.kept hkU (by omega)
  have y2:=z2.kept hkU (by omega)
  have y3:=z3.kept hkU (by omega)
  have ca:=ya.cell (o:=0) rfl
  have hbU:Below w.heap.size w U:=hbwZ.trans (hkU.below (by omega) (fun k e=>by omega))
  have hDs:=(Array.getElem?_eq_some_iff.1 hK).1
  have HL:Hid (Calls Tryz.prog 46 #[.map (some w1.heap.size)] U fun e w'=>e= .returned (.slice (some ⟨U.heap.size,0,none⟩) (allTasks ks kind arg).length (allTasks ks kind arg).length)/\
    w'.ownsRow U.heap.size 92 2 (.slice (some ⟨U.heap.size,0,none⟩) (allTasks ks kind arg).length (allTasks ks kind arg).length) (allTasks ks kind arg).length (taskCells ks (allTasks ks kind arg))/\Below U.heap.size U w'/\
    w'.cell? ⟨w.heap.size+1,0,none⟩=some (.slice none 0 0)/\w'.frozen? ⟨w.heap.size+1,0,none⟩=false/\w'.cell? ⟨w.heap.size+1+1,0,none⟩=some (.int .i64 0)/\w'.frozen? ⟨w.heap.size+1+1,0,none⟩=false/\BoxAt w' (w.heap.size+1) 42 #[Value.slice none 0 0]/\BoxAt w' (w.heap.size+1+1) 46 #[Value.int IntKind.i64 0]):=by
   refine(list_calls _ _ _ hmU (by omega)).mono ?_
   rintro e w' ⟨ss,hss,rfl,hrow,hb⟩
   obtain⟨h1,h2⟩:=sorted_keys ks (allTasks ks kind arg) HO hss
   rw[h1,h2]at hrow
   rw[h1]
   have x2:=y2.below hb y2.lt
   have x3:=y3.below hb y3.lt
   exact⟨rfl,hrow,hb,x2.cell (o:=0) rfl,x2.frozen 0,x3.cell (o:=0) rfl,x3.frozen 0,x2,x3⟩
  have HU:Hid (unfoldS ks kind arg=(0,allTasks ks kind arg)):=by simp[Hid,unfoldS,hprog,hle]
  have hfL:Fence.wide.fn 46:=trivial
  gi_wp2_with ((try refine⟨fun h=>(by cases h),?_⟩);gi_at_call 46;refine(callsIn_wide.2 HL.out).mono ?_;rintro e U1 ⟨rfl,hrow,hb2,c2,f2,c3,f3,x2,x3⟩)
  obtain⟨T,hT⟩:∃T,((U1.setCell {block:=w.heap.size+1,off:=0} (Value.slice (some {block:=U.heap.size,off:=0}) (allTasks ks kind arg).length (allTasks ks kind arg).length)).setCell {block:=w.heap.size+1+1,off:=0} (Value.int IntKind.i64 0))=T:=⟨_,rfl⟩
  have t2:BoxAt T (w.heap.size+1) 42 #[.slice (some ⟨U.heap.size,0,none⟩) (allTasks ks kind arg).length (allTasks ks kind arg).length]:=by
   rw[<-hT];exact Boxed.other (Boxed.set _ x2) (by omega) _
  have t3:BoxAt T (w.heap.size+1+1) 46 #[.int .i64 0]:=by
   rw[<-hT];exact Boxed.set _ (Boxed.other x3 (by omega) _)
  have hkT:Kept (fun k=>k=w.heap.size+1\/k=w.heap.size+1+1) U1 T:=by
   rw[<-hT];exact((Kept.refl _ _).setCell (.inl (.inl rfl)) _).setCell (.inl (.inr rfl)) _
  rw[hT]
  clear hT
  have hK':T.heap[Dd]?= some (.deferred (some [])):=hkT.heap ((hb2.block Dd hDs).trans hK) (by omega)
  refine⟨by simp,.inl ⟨_,_,rfl,run_takeDeferred hK',?_⟩⟩
  have hkF:Kept (·= Dd) T (T.putObj Dd (.deferred none)):=Kept.putObj _ _ _ rfl
  have e2:=(t2.kept hkF (by omega)).cell (o:=0) rfl
  have e3:=(t3.kept hkF (by omega)).cell (o:=0) rfl
  refine⟨.tuple #[.slice (some ⟨U.heap.size,0,none⟩) (allTasks ks kind arg).length (allTasks ks kind arg).length,.int .i64 0],by simp[results,Tryz.f35,go_sem,e2,e3],.slice (some ⟨U.heap.size,0,none⟩) (allTasks ks kind arg).length (allTasks ks kind arg).length,?_,?_,?_⟩
  ·rw[HU.out]
  ·rw[HU.out]
   refine row_kept (X:=fun k=>k=w.heap.size+1\/k=w.heap.size+1+1\/k=Dd) hrow ((hkT.mono (fun k _ h=>by omega)).trans (hkF.mono (fun k _ h=>by omega))) ?_ hbU.size
   intro g hg
   simp[Value.ownBlock]at hg
   have:=y3.lt
   omega
  ·refine(hbU.trans (hb2.mono hbU.size)).trans ?_
   have s1:=hb2.size
   have s2:=hbU.size
   have s3:=hkT.size
   exact(hkT.below (by omega) (fun k e=>by omega)).trans (hkF.below (by omega) (fun k e=>by omega))
 case stop=>
  rintro Dd c pre' U hD hpre ⟨rfl,⟨pre1,x,hpx,hs200⟩,b2,b3,hbU⟩ hK
  have hlt:¬(allTasks ks kind arg).length<=200:=by
   rw[hpx]at hpre
   obtain⟨r,hr⟩:=hpre
   have hne:(allTasks ks kind arg).Pairwise (fun a b=>idl a≠idl b):=HO.imp fun h e=>by rw[e]at h;exact List.lt_irrefl _ h
   rw[<-hr,List.append_assoc]at hne
   have h1:=((mapOf_facts ks _ pre1 rfl).2.2 (List.pairwise_append.1 hne).1).1
   rw[<-hr]
   simp
   omega
  gi_wp2
  refine⟨by simp,.inl ⟨_,_,rfl,run_takeDeferred hK,?_⟩⟩
  have hkF:Kept (·= Dd) U (U.putObj Dd (.deferred none)):=Kept.putObj _ _ _ rfl
  have t2:=(b2.kept hkF (by omega)).cell (o:=0) rfl
  have t3:=(b3.kept hkF (by omega)).cell (o:=0) rfl
  refine⟨.tuple #[.slice none 0 0,.int .i64 4],by simp[results,Tryz.f35,go_sem,t2,t3],.slice none 0 0,?_,?_,hbU.trans (hkF.below hbU.size (fun k e=>by omega))⟩
  ·simp[unfoldS,hprog,hlt]
  ·simp only[unfoldS,hprog,hlt,↓reduceIte];exact World.ownsRow_nil _ _ _ _
end Go.Proofs.YtfanaanofjhlkaaGreatDoor
namespace Go.Proofs.YtfanaanofjhlkaaGreatDoor
open Go Go.RowKit
theorem BoxAt.drewN{W:World}{B:Nat}{t:TypeId}{cs:Array Value}(h:BoxAt W B t cs)(n:Nat):BoxAt (W.drewN n) B t cs:=h
theorem Kept.drewN{X:Nat->Prop}{A W:World}(h:Kept X A W)(n:Nat):Kept X A (W.drewN n):=⟨h.os,h.tape,h.output,h.size,h.block⟩
theorem cell_far{w:World}{a:Addr}{v:Value}(h:w.cell? a=some v)(p:Addr)(u:Value)(hne:a.block≠p.block):(w.setCell p u).cell? a=some v:=
 (World.cell?_of_block (w:=w) (Below.heap_setCell w p u a.block hne)).trans h
def pickS(c n:Int):Int:=(if c < 0 then -(c+1)else c) % n
theorem pickS_range(c n:Int)(hn:1<=n):0<=pickS c n/\pickS c n < n:=⟨Int.emod_nonneg _ (by omega),Int.emod_lt_of_pos _ (by omega)⟩
theorem kind_facts{ks:List KindS}{kind arg:Int}(hp:progB ks kind arg=true){k:Int}(h0:0<=k)(h1:k < ks.length) :
  ∃(j:Nat) (c:KindS),k=(j:Int)/\ks[j]?= some c/\kindAt ks k=c/\c.kids.length<=3/\(∀d∈c.kids,1<=d.less/\d.less<=9/\0<=d.kind/\d.kind < ks.length)/\(-1000<=c.A/\c.A<=1000)/\(-1000<=c.B/\c.B<=1000):=by
 obtain⟨j,rfl⟩:=Int.eq_ofNat_of_zero_le h0
 have hj:j < ks.length:=by omega
 obtain⟨c,hcc⟩:∃c,ks[j]?= some c:=⟨_,List.getElem?_eq_getElem hj⟩
 have hkb:kindB ks.length c=true:=by
  simp[progB]at hp
  exact hp.1.1.2 c (List.mem_of_getElem? hcc)
 refine⟨j,c,rfl,hcc,by simp[kindAt,hcc],?_,?_,?_,?_⟩
 ·simp[kindB]at hkb;exact hkb.1.2
 ·intro d hd;simp[kindB,kidB,numB,rangeB]at hkb;have:=hkb.2 d hd;omega
 ·simp[kindB,rangeB]at hkb;omega
 ·simp[kindB,rangeB]at hkb;omega
theorem BoxAt.setAt{W:World}{B:Nat}{t:TypeId}{cs:Array Value}(h:BoxAt W B t cs)(o:Nat)(v:Value):BoxAt (W.setCell ⟨B,o,none⟩ v) B t (cs.setIfInBounds o v):=by
 obtain⟨hlt,hk⟩:=Array.getElem?_eq_some_iff.1 h
 show(W.heap.modify B _)[B]?= _
 rw[Array.getElem?_eq_getElem (by rw[Array.size_modify];exact hlt),Array.getElem_modify_self,hk]
 rfl
theorem BoxAt.far{W:World}{B:Nat}{t:TypeId}{cs:Array Value}(h:BoxAt W B t cs)(p:Addr)(v:Value)(hne:B≠p.block):BoxAt (W.setCell p v) B t cs:=
 (Below.heap_setCell W p v B hne).trans h
def kidCells(l:List KidS):List Value:=l.flatMap fun d=>[.int .i64 d.kind,.int .i64 d.less]
def kindCells(l:List (KindS×Value)):List Value:=l.flatMap fun p=>[.int .i64 p.1.A,.int .i64 p.1.B,p.2]
theorem kidCells_get(l:List KidS):∀(j:Nat) (d:KidS),l[j]?= some d->(kidCells l)[j*2]?= some (.int .i64 d.kind)/\(kidCells l)[j*2+1]?= some (.int .i64 d.less):=by
 induction l with
 |nil=>intro j d h;simp at h
 |cons e r ih=>
  intro j d h
  unfold kidCells
  rw[List.flatMap_cons]
  cases j with
  |zero=>simp at h;subst h;exact⟨rfl,rfl⟩
  |succ j=>
   obtain⟨h1,h2⟩:=ih j d (by simpa using h)
   rw[show(j+1)*2=j*2+2 from by omega]
   constructor
   ·rw[List.getElem?_append_right (by simp)]
    have e:j*2+2 - [Value.int .i64 e.kind,Value.int .i64 e.less].length=j*2:=by simp
    rw[e];exact h1
   ·rw[List.getElem?_append_right (by simp)]
    have e:j*2+2+1 - [Value.int .i64 e.kind,Value.int .i64 e.less].length=j*2+1:=by simp
    rw[e];exact h2
theorem kindCells_get(l:List (KindS×Value)):∀(j:Nat) (p:KindS×Value),l[j]?= some p->(kindCells l)[j*3]?= some (.int .i64 p.1.A)/\(kindCells l)[j*3+1]?= some (.int .i64 p.1.B)/\(kindCells l)[j*3+2]?= some p.2:=by
 induction l with
 |nil=>intro j d h;simp at h
 |cons e r ih=>
  intro j p h
  unfold kindCells
  rw[List.flatMap_cons]
  cases j with
  |zero=>simp at h;subst h;exact⟨rfl,rfl,rfl⟩
  |succ j=>
   obtain⟨h1,h2,h3⟩:=ih j p (by simpa using h)
   rw[show(j+1)*3=j*3+3 from by omega]
   refine⟨?_,?_,?_⟩
   ·rw[List.getElem?_append_right (by simp)]
    have e:j*3+3 - [Value.int .i64 e.1.A,Value.int .i64 e.1.B,e.2].length=j*3:=by simp
    rw[e];exact h1
   ·rw[List.getElem?_append_right (by simp)]
    have e:j*3+3+1 - [Value.int .i64 e.1.A,Value.int .i64 e.1.B,e.2].length=j*3+1:=by simp
    rw[e];exact h2
   ·rw[List.getElem?_append_right (by simp)]
    have e:j*3+3+2 - [Value.int .i64 e.1.A,Value.int .i64 e.1.B,e.2].length=j*3+2:=by simp
    rw[e];exact h3
theorem row_slice{W:World}{base e size n:Nat}{v:Value}{xs:List Value}(h:W.ownsRow base e size v n xs) :
  ∃a cap,v= .slice a n cap/\∀(j:Nat) (u:Value),xs[j]?= some u->∃g,a=some ⟨g,0,none⟩/\base<=g/\g < W.heap.size/\W.cell? ⟨g,j,none⟩=some u:=by
 have h1:=h.1
 rcases h.2 with⟨rfl,h0⟩|⟨g,cap,cur,rfl,hg,hgb,_⟩
 ·subst h0
  refine⟨none,0,rfl,fun k s hs=> ?_⟩
  simp at h1
  subst h1
  simp at hs
 ·refine⟨_,cap,rfl,fun k s hs=>⟨g,rfl,hg,(Array.getElem?_eq_some_iff.1 hgb).1,?_⟩⟩
  have:=h.cells (g:=g) rfl k s hs
  rwa [addr_add]at this
theorem kidsAt_of_row{W:World}{base:Nat}{v:Value}{l:List KidS}(h:W.ownsRow base 53 2 v l.length (kidCells l)):KidsAt (fun b=>base<=b) W v l:=by
 obtain⟨a,cap,rfl,hc⟩:=row_slice h
 refine⟨a,cap,rfl,fun j c hj=> ?_⟩
 obtain⟨h0,h1⟩:=kidCells_get l j c hj
 obtain⟨g,rfl,hg,hgl,c0⟩:=hc _ _ h0
 obtain⟨g',e,_,_,c1⟩:=hc _ _ h1
 cases e
 exact⟨g,0,rfl,hg,hgl,by rw[Nat.zero_add];exact c0,by rw[Nat.zero_add];exact c1⟩
def KindsRow(W:World)(base:Nat)(v:Value)(l:List (KindS×Value)):Prop:=
 W.ownsRow base 56 3 v l.length (kindCells l)/\∀p∈l,W.ownsRow base 53 2 p.2 p.1.kids.length (kidCells p.1.kids)
theorem KindsRow.at{W:World}{base:Nat}{v:Value}{l:List (KindS×Value)}(h:KindsRow W base v l):KindsAt (fun b=>base<=b) W v (l.map Prod.fst):=by
 obtain⟨a,cap,rfl,hc⟩:=row_slice h.1
 refine⟨a,cap,by simp,fun j k hj=> ?_⟩
 rw[List.getElem?_map]at hj
 obtain⟨p,hp,rfl⟩:=Option.map_eq_some_iff.1 hj
 obtain⟨h0,h1,h2⟩:=kindCells_get l j p hp
 obtain⟨g,rfl,hg,hgl,c0⟩:=hc _ _ h0
 obtain⟨g',e,_,_,c1⟩:=hc _ _ h1
 cases e
 obtain⟨g',e,_,_,c2⟩:=hc _ _ h2
 cases e
 exact⟨g,0,p.2,rfl,hg,hgl,by rw[Nat.zero_add];exact c0,by rw[Nat.zero_add];exact c1,by rw[Nat.zero_add];exact c2,kidsAt_of_row (h.2 p (List.mem_of_getElem? hp))⟩
theorem row_ne{W:World}{base e t size n B:Nat}{v:Value}{xs:List Value}{cs:Array Value}{fr:Nat×Nat}(h:W.ownsRow base e size v n xs)(hB:W.heap[B]?= some (.cells cs t fr))(hte:t≠e):v.ownBlock≠some B:=by
 rcases h.2 with⟨rfl,_⟩|⟨g,cap,cur,rfl,_,hgb,_⟩
 ·simp[Value.ownBlock]
 ·intro e'
  obtain rfl:g=B:=by simpa[Value.ownBlock]using e'
  rw[hB]at hgb
  simp at hgb
  exact hte hgb.2.1
theorem row_obj{W:World}{base e size n g:Nat}{v:Value}{xs:List Value}(h:W.ownsRow base e size v n xs)(hg:v.ownBlock=some g):∃cs,W.heap[g]?= some (.cells cs e (0,0)):=by
 rcases h.2 with⟨rfl,_⟩|⟨g',cap,cur,rfl,_,hgb,_⟩
 ·simp[Value.ownBlock]at hg
 ·obtain rfl:g'=g:=by simpa[Value.ownBlock]using hg
  exact⟨cur,hgb⟩
theorem KindsRow.kept{X:Nat->Prop}{W W':World}{base:Nat}{v:Value}{l:List (KindS×Value)}(h:KindsRow W base v l)(k:Kept X W W')
  (hX:∀b,X b->b < W.heap.size->∃cs t fr,W.heap[b]?= some (.cells cs t fr)/\t≠56/\t≠53):KindsRow W' base v l:=by
 refine⟨row_kept h.1 k (fun g hg hx=> ?_) (Nat.le_refl _),fun p hp=>row_kept (h.2 p hp) k (fun g hg hx=> ?_) (Nat.le_refl _)⟩
 ·obtain⟨cs,hcs⟩:=row_obj h.1 hg
  obtain⟨cs',t,fr,hcs',h1,_⟩:=hX g hx (Array.getElem?_eq_some_iff.1 hcs).1
  exact row_ne h.1 hcs' h1 hg
 ·obtain⟨cs,hcs⟩:=row_obj (h.2 p hp) hg
  obtain⟨cs',t,fr,hcs',_,h2⟩:=hX g hx (Array.getElem?_eq_some_iff.1 hcs).1
  exact row_ne (h.2 p hp) hcs' h2 hg
theorem KindsRow.below{W W':World}{base:Nat}{v:Value}{l:List (KindS×Value)}(h:KindsRow W base v l)(k:Below W.heap.size W W'):KindsRow W' base v l:=
 h.kept (X:=fun b=>W.heap.size<=b) (Kept.of_below k (fun _ _ h=>h)) (fun _ h1 h2=>absurd h2 (Nat.not_lt_of_le h1))
theorem step_call_pure{P:Program}{ops:Array Oper}{o:Oper}{a:Act}{w:World}{K:Act->World->Prop}{Q:Exit->Act->World->Prop}{E:Prop}
  (hg:o.guard=none) (f:Nat) (x y:Operand) (tys:Array TypeId) (hop:o.op=Op.call {callee:=Callee.value (Operand.func f),args:=#[x,y],argTypes:=tys}) (v1 v2 v:Value) (hx:a.eval x=v1) (hy:a.eval y=v2)
  (he:∀args w,(callFunc f args).run P w= .ok (.enter f args) w) (hc:Calls P f #[v1,v2] w fun e w'=>e= .returned v/\w=w') (hK:K (a.put o.dst v) w) :
  if Region.wanted o (yielded ops a.tmps)=true then Oper.wp P o a w K Q else E:=by
 have hw:Region.wanted o (yielded ops a.tmps)=true:=by simp[Region.wanted,hg]
 rw[if_pos hw]
 have hf:a.eval (Operand.func f)= .func (.func f) #[] #[]:=rfl
 unfold Oper.wp execOp
 simp only[hop,resolve,invoke,hf,Sem.run_bind,List.map_toArray,List.map_cons,List.map_nil,hx,hy]
 simp[Deferred.ofValue,he,go_sem]
 refine hc.mono ?_
 rintro e w' ⟨rfl,rfl⟩
 exact hK
theorem step_call2{P:Program}{ops:Array Oper}{o:Oper}{a:Act}{w:World}{K:Act->World->Prop}{Q:Exit->Act->World->Prop}{E:Prop}{R:Value->World->Prop}
  (hg:o.guard=none) (f:Nat) (x y:Operand) (tys:Array TypeId) (hop:o.op=Op.call {callee:=Callee.value (Operand.func f),args:=#[x,y],argTypes:=tys}) (v1 v2:Value) (hx:a.eval x=v1) (hy:a.eval y=v2)
  (he:∀args w,(callFunc f args).run P w= .ok (.enter f args) w) (hc:Calls P f #[v1,v2] w fun e w'=>∃v,e= .returned v/\R v w') (hK:∀v w',R v w'->K (a.put o.dst v) w') :
  if Region.wanted o (yielded ops a.tmps)=true then Oper.wp P o a w K Q else E:=by
 have hw:Region.wanted o (yielded ops a.tmps)=true:=by simp[Region.wanted,hg]
 rw[if_pos hw]
 have hf:a.eval (Operand.func f)= .func (.func f) #[] #[]:=rfl
 unfold Oper.wp execOp
 simp only[hop,resolve,invoke,hf,Sem.run_bind,List.map_toArray,List.map_cons,List.map_nil,hx,hy]
 simp[Deferred.ofValue,he,go_sem]
 refine hc.mono ?_
 rintro e w' ⟨v,rfl,hR⟩
 exact hK v w' hR
theorem row_new(W:World)(g base e size n:Nat)(cs:Array Value)(xs:List Value)(hg:W.heap.size=g)(hb:base<=g)(hx:cs.toList=xs)(hl:xs.length=n*size)(hn:n<=maxLen):(W.alloc (.cells cs e)).ownsRow base e size (.slice (some ⟨g,0,none⟩) n n) n xs:=by
 subst hg
 subst hx
 refine⟨hl,.inr ⟨W.heap.size,n,cs,rfl,hb,World.alloc_heap_new W _,Nat.le_refl _,hn,by simpa using hl,?_⟩⟩
 rw[<-hl,List.take_length]
theorem infoKid:(Tryz.prog.info? 53).map (fun i=>(i.zero,i.size,i.bytes))=some (some (.agg #[.int .i64 0,.int .i64 0]),2,16):=by kernel_rfl
theorem infoKind:(Tryz.prog.info? 56).map (fun i=>(i.zero,i.size,i.bytes))=some (some (.agg #[.int .i64 0,.int .i64 0,.slice none 0 0]),3,40):=by kernel_rfl
def PairsAt(W:World)(v:Value)(l:List (ByteArray×Int)):Prop:=
 ∃a cap,v= .slice a l.length cap/\∀j x,l[j]?= some x->∃g o,a=some ⟨g,o,none⟩/\g < W.heap.size/\W.cell? ⟨g,o+j*2,none⟩=some (.string x.1)/\W.cell? ⟨g,o+j*2+1,none⟩=some (.int .i64 x.2)
def pairCells(l:List (ByteArray×Int)):List Value:=l.flatMap fun x=>[.string x.1,.int .i64 x.2]
def pairsOf(ks:List KindS)(l:List TaskS):List (ByteArray×Int):=l.map fun t=>(t.id,valueOf ks t)
theorem taskCells_pairs(ks:List KindS)(l:List TaskS):taskCells ks l=pairCells (pairsOf ks l):=by
 simp[taskCells,pairCells,pairsOf,List.flatMap_map]
theorem pairsOf_length(ks:List KindS)(l:List TaskS):(pairsOf ks l).length=l.length:=by simp[pairsOf]
theorem pairCells_get(l:List (ByteArray×Int)):∀(j:Nat) (x:ByteArray×Int),l[j]?= some x->(pairCells l)[j*2]?= some (.string x.1)/\(pairCells l)[j*2+1]?= some (.int .i64 x.2):=by
 induction l with
 |nil=>intro j d h;simp at h
 |cons e r ih=>
  intro j d h
  unfold pairCells
  rw[List.flatMap_cons]
  cases j with
  |zero=>simp at h;subst h;exact⟨rfl,rfl⟩
  |succ j=>
   obtain⟨h1,h2⟩:=ih j d (by simpa using h)
   rw[show(j+1)*2=j*2+2 from by omega]
   constructor
   ·rw[List.getElem?_append_right (by simp)]
    have e:j*2+2 - [Value.string e.1,Value.int .i64 e.2].length=j*2:=by simp
    rw[e];exact h1
   ·rw[List.getElem?_append_right (by simp)]
    have e:j*2+2+1 - [Value.string e.1,Value.int .i64 e.2].length=j*2+1:=by simp
    rw[e];exact h2
theorem pairCells_length(l:List (ByteArray×Int)):(pairCells l).length=l.length*2:=by
 induction l with
 |nil=>rfl
 |cons x r ih=>unfold pairCells at ih ⊢;simp[ih];omega
theorem pairs_of_row{W:World}{base n:Nat}{v:Value}{l:List (ByteArray×Int)}(h:W.ownsRow base 92 2 v n (pairCells l)):n=l.length/\PairsAt W v l:=by
 have hn:n=l.length:=by
  have:=h.1
  rw[pairCells_length]at this
  omega
 subst hn
 obtain⟨a,cap,rfl,hc⟩:=row_slice h
 refine⟨rfl,a,cap,rfl,fun j x hj=> ?_⟩
 obtain⟨h0,h1⟩:=pairCells_get l j x hj
 obtain⟨g,rfl,hg,hgl,c0⟩:=hc _ _ h0
 obtain⟨g',e,_,_,c1⟩:=hc _ _ h1
 cases e
 exact⟨g,0,rfl,hgl,by rw[Nat.zero_add];exact c0,by rw[Nat.zero_add];exact c1⟩
theorem PairsAt.below{n:Nat}{W W':World}{v:Value}{l:List (ByteArray×Int)}(h:PairsAt W v l)(hb:Below n W W')(hn:W.heap.size<=n):PairsAt W' v l:=by
 obtain⟨a,cap,rfl,hc⟩:=h
 refine⟨a,cap,rfl,fun j x hj=> ?_⟩
 obtain⟨g,o,ha,hg,c0,c1⟩:=hc j x hj
 exact⟨g,o,ha,Nat.lt_of_lt_of_le hg hb.size,(hb.cell (p:=⟨g,_,none⟩) (Nat.lt_of_lt_of_le hg hn)).trans c0,(hb.cell (p:=⟨g,_,none⟩) (Nat.lt_of_lt_of_le hg hn)).trans c1⟩
theorem valueHeld:Tryz.prog.stoodInHeld 92=false:=by kernel_rfl
theorem valueGuard:Tryz.prog.eqGuardType Tryz.prog.depth 92=false:=by kernel_rfl
set_option maxHeartbeats 400000 in
theorem pick_calls(c n:Int)(hc: -9223372036854775808<=c/\c<=9223372036854775807)(hn:1<=n)(hn2:n<=100000)(w:World) :
  Calls Tryz.prog 34 #[.int .i64 c,.int .i64 n] w fun e w'=>e= .returned (.int .i64 (pickS c n))/\w'=w:=by
 have HP:Hid (pickS c n=(if c < 0 then -(c+1)else c) % n):=rfl
 obtain⟨hc1,hc2⟩:=hc
 have hb:(n==0)=false:=by rw[beq_eq_false_iff_ne];omega
 by_cases h:c < 0
 ·go_enter Tryz.func34,Tryz.ntmps34
  go_wp2
  go_ret
  refine⟨?_,rfl⟩
  rw[HP.out,if_pos h,<-Int.tmod_eq_emod_of_nonneg (by omega),Int.neg_tmod]
  rfl
 ·go_enter Tryz.func34,Tryz.ntmps34
  go_wp2
  go_ret
  refine⟨?_,rfl⟩
  rw[HP.out,if_neg (by omega)]
  rfl
end Go.Proofs.YtfanaanofjhlkaaGreatDoor
