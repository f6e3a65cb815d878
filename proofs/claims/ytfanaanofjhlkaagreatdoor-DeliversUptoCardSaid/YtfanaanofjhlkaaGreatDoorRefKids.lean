import Derived.Test.YtfanaanofjhlkaaGreatDoorRangeG
import Derived.Laws.BytesArg
set_option maxHeartbeats 16000000
set_option maxRecDepth 100000
namespace Go.Proofs.YtfanaanofjhlkaaGreatDoor
open Go Go.RowKit Tryz
theorem sK(kv:Value)(kind arg:Int)(ks:List aS)(t:aL)(ok:Nat->Prop)(w:World)(hk:bH ok w kv ks)(hp:cD ks kind arg=true)(h0:0<=t.kind)(h1:t.kind < ks.length)(h2:0<=t.arg)(h3:t.arg<=12) :
  Calls prog 132 #[.agg #[kv,.int .i64 kind,.int .i64 arg],fG t] w fun e w'=>e= .returned (.agg #[.string t.id,.int .i64 (cQ ks t)])/\Below w.heap.size w w':=by
 obtain⟨id,k,x⟩:=t;obtain⟨a,cap,rfl,hc⟩:=hk;simp only at h0 h1 h2 h3;obtain⟨j,rfl⟩:=Int.eq_ofNat_of_zero_le h0;have hj:j < ks.length:=by omega
 obtain⟨c,hcc⟩:∃c,ks[j]?= some c:=⟨_,b_ hj⟩;obtain⟨b,o,v,rfl,hok,hbw,c0,c1,c2,hkk⟩:=hc j c hcc;obtain⟨a',cap',rfl,h'⟩:=hkk;have hkb:cL ks.length c=true:=by
  simp[cD]at hp;exact hp.1.1.2 c (d_ hcc)
 have hA: -1000<=c.A/\c.A<=1000:=by simp[cL,dF]at hkb;omega
 have hB: -1000<=c.B/\c.B<=1000:=by simp[cL,dF]at hkb;omega
 have HV:Hid (cQ ks ⟨id,(j:Int),x⟩=c.A*x+c.B):=by simp[Hid,cQ,jH,hcc]
 have hlen:ks.length<=5:=by simp[cD,dF]at hp;omega
 have hm1: -12000<=c.A*x:=by
  have:=Int.mul_le_mul_of_nonneg_right hA.1 h2;omega
 have hm2:c.A*x<=12000:=by
  have:=Int.mul_le_mul_of_nonneg_right hA.2 h2;omega
 clear hc h' hp hkb;have e0:=oI c0;have e1:=oI c1;have e2:=oI c2;unfold fG;go_enter func132,ntmps132
 go_wp2
 refine bodyPost_ret (v:= .agg #[.string id,.int .i64 (c.A*x+c.B)]) (by simp[results,results132,go_sem]) rfl ⟨?_,?_⟩
 ·rw[HV.out]
 ·exact((((e_ _ _).alloc (a_ _) _).alloc (by simp) _).alloc (by simp;omega) _).alloc (by simp;omega) _
def fT(l:List aL):List Value:=l.flatMap fun t=>[.string t.id,.int .i64 t.kind,.int .i64 t.arg]
theorem aGk(l:List aL)(t:aL):fT (l++ [t])=fT l++ [.string t.id,.int .i64 t.kind,.int .i64 t.arg]:=by simp[fT]
theorem jU:(prog.info? 62).map (fun i=>(i.zero,i.size,i.bytes))=some (some (.agg #[.string ⟨#[]⟩,.int .i64 0,.int .i64 0]),3,32):=by kernel_rfl
def gE(id:ByteArray)(x:Int)(l:List eI):Nat->List aL
 |0=>[]
 |n+1=>gE id x l n++(match l[n]? with|some c=>if c.less<=x then [⟨gN id n,c.kind,x - c.less⟩]else []|none=>[])
theorem uX(id:ByteArray)(x:Int):∀(l:List eI) (i:Nat) (c:eI),dX id x i (l++ [c])=dX id x i l++(if c.less<=x then [⟨gN id (i+l.length),c.kind,x - c.less⟩]else [])
 |[],i,c=>by simp only[List.nil_append,dX,List.length_nil,Nat.add_zero]
 |d :: r,i,c=>by
  rw[List.cons_append];unfold dX;rw[uX id x r (i+1) c,List.length_cons,show i+1+r.length=i+(r.length+1)from by omega];split<;>simp
theorem yF(id:ByteArray)(x:Int)(l:List eI):∀n,n<=l.length->gE id x l n=dX id x 0 (l.take n)
 |0,_=>by simp[gE,dX]
 |n+1,h=>by
  have hn:n < l.length:=h;rw[List.take_succ_eq_append_getElem hn,uX,gE,yF id x l n (by omega)];simp[b_ hn,List.length_take,Nat.min_eq_left (Nat.le_of_lt hn)]
theorem vQ(id:ByteArray)(x:Int)(l:List eI):∀n,(gE id x l n).length<=n
 |0=>by simp[gE]
 |n+1=>by
  have:=vQ id x l n;rw[gE,f_];have:(match l[n]? with|some c=>if c.less<=x then [(⟨gN id n,c.kind,x - c.less⟩:aL)]else []|none=>[]).length<=1:=by
   split
   ·split<;>simp
   ·simp
  omega
theorem sF(ok:Nat->Prop)(a:Option Addr)(cap:Nat)(kind arg:Int)(ks:List aS)(t:aL)(w:World)(hk:bH ok w (.slice a ks.length cap) ks)(hprog:cD ks kind arg=true)(hG:gO ks t) :
  Calls prog 130 #[.agg #[.slice a ks.length cap,.int .i64 kind,.int .i64 arg],fG t] w fun e w'=>∃v,e= .returned v/\w'.ownsRow w.heap.size 62 3 v (aW ks t).length (fT (aW ks t))/\(aW ks t=[]->v= .slice none 0 0)/\Below w.heap.size w w':=by
 obtain⟨id,k,x⟩:=t;obtain⟨g0,g1,g2,g3⟩:=hG;simp only at g0 g1 g2 g3;obtain⟨j,c,rfl,hcc,hkc,hkl,hkids,-,-⟩:=xJ hprog g0 g1;have hlen5:ks.length<=5:=by simp[cD,dF]at hprog;omega
 obtain⟨a1,cap1,hs1,hc⟩:=hk;simp only[Value.slice.injEq]at hs1;obtain⟨rfl,-,rfl⟩:=hs1;obtain⟨b,o,v,rfl,hok,hbw,c0,c1,c2,hkk⟩:=hc j c hcc;obtain⟨a',cap',rfl,h'⟩:=hkk;have HCH:Hid (aW ks ⟨id,(j:Int),x⟩=gE id x c.kids c.kids.length):=by
  show aW ks ⟨id,(j:Int),x⟩=_;rw[yF _ _ _ _ (a_ _),List.take_length,aW,hkc]
 have hx12:x<=12:=by omega
 have hidl:id.size<=12:=by omega
 have e2:=cE (w:=w.alloc (Obj.cells #[Value.slice (some ⟨b,o,none⟩) ks.length cap,.int .i64 kind,.int .i64 arg] 41)) (Obj.cells #[.string id,.int .i64 (j:Int),.int .i64 x] 62) (cE (w:=w) (Obj.cells #[Value.slice (some ⟨b,o,none⟩) ks.length cap,.int .i64 kind,.int .i64 arg] 41) c2);clear hc c0 c1 hkc;obtain⟨i0,hi,hz0,hz1,hz2⟩:=info_parts jU;unfold fG;go_enter func130,ntmps130
 go_wp2_with fail
 clear e2
 go_loopw [5,7] (fun lv i wr=>∃n:Nat,n<=c.kids.length/\i= .int .i64 n/\wr.ownsRow (w.heap.size+1+1) 62 3 lv (gE id x c.kids n).length (fT (gE id x c.kids n))/\(gE id x c.kids n=[]->lv= .slice none 0 0)/\Below w.heap.size w wr/\aD wr (w.heap.size+1) 62 #[.string id,.int .i64 (j:Int),.int .i64 x]) (fun _ i _=>c.kids.length - (intOf i).toNat)
 case atStart=>
  refine⟨0,Nat.zero_le _,rfl,World.ownsRow_nil _ _ _ _,fun _=>rfl,((e_ _ _).alloc (a_ _) _).alloc (by simp) _,?_⟩;have:=aD.new (w.alloc (Obj.cells #[Value.slice (some ⟨b,o,none⟩) ks.length cap,.int .i64 kind,.int .i64 arg] 41)) 62 #[.string id,.int .i64 (j:Int),.int .i64 x];simpa only[World.size_alloc]using this
 case round=>
  obtain⟨n,hn,rfl,hrow,hnil,hb,hbt⟩:=hrel;have HNIL:Hid (gE id x c.kids n=[]->u5= .slice none 0 0):=hnil;clear hnil
  rename World=>Wo
  have hsz:=hb.size;have hltt:=hbt.lt;have t0:=hbt.cell (o:=0) rfl;have t2:=hbt.cell (o:=2) rfl;have HBT:Hid (aD Wo (w.heap.size+1) 62 #[.string id,.int .i64 (j:Int),.int .i64 x]):=hbt;have HROW:Hid (Wo.ownsRow (w.heap.size+1+1) 62 3 u5 (gE id x c.kids n).length (fT (gE id x c.kids n))):=hrow;have hlk:=vQ id x c.kids n;clear hbt;by_cases hlt:n < c.kids.length
  ·obtain⟨d,hd⟩:∃d,c.kids[n]?= some d:=⟨_,b_ hlt⟩
   obtain⟨b',o',rfl,hok',hbw',d0,d1⟩:=h' n d hd;have f0:=(hb.cell (p:=⟨b',o'+n*2,none⟩) hbw').trans d0;have f1:=(hb.cell (p:=⟨b',o'+n*2+1,none⟩) hbw').trans d1;have hd9:=hkids d (d_ hd);have i1:(0:Int)<=(n:Int):=by omega
   have i2:(n:Int) < (c.kids.length:Int):=by omega
   clear hrow h' d0 d1;by_cases hle:d.less<=x
   ·have HKT:Hid (gE id x c.kids (n+1)=gE id x c.kids n++ [⟨gN id n,d.kind,x - d.less⟩]):=by
     show gE id x c.kids (n+1)=_;simp[gE,hd,hle]
    have hconv:∀q,Sem.run prog (convert 125 9 (Value.slice (some ⟨Wo.heap.size,0,none⟩) 1 1)) ((Wo.drewN q).alloc (Obj.cells #[Value.int IntKind.u8 (48+(n:Int))] 5))= .ok (.string ⟨#[iP n]⟩) ((Wo.drewN q).alloc (Obj.cells #[Value.int IntKind.u8 (48+(n:Int))] 5)):=fun q=>by
     rw[run_convert_bytes_arg _ 125 5 underlying125 underlying5 Wo.heap.size 0 1 1 [48+(n:Int)] rfl ?_ 9 underlying9]
     ·congr 2
     ·intro i hi
      obtain rfl:i=0:=by omega
      exact(aD.new (Wo.drewN q) 5 #[Value.int IntKind.u8 (48+(n:Int))]).cell (o:=0) rfl
    have s1:∀v cs,(Wo.drewN v).heap.size=Wo.heap.size/\((Wo.drewN v).alloc cs).heap.size=Wo.heap.size+1:=fun v cs=>⟨rfl,by simp⟩
    go_wp2_with fail
    go_quiet (fail)
    go_wp2_with fail
    obtain⟨U,hU⟩:∃U,(Wo.drewN nq).alloc (Obj.cells #[Value.int IntKind.u8 (48+(n:Int))] 5)=U:=⟨_,rfl⟩;have kU:aB (fun _=>False) Wo U:=by rw[<-hU];exact((aB.refl _ _).drewN nq).trans (aB.alloc _ _ _)
    have bU:Below w.heap.size w U:=by rw[<-hU];exact(below_drewN hb nq).alloc hb.size _
    have sU:Wo.heap.size<=U.heap.size:=kU.size;have rU:Hid (U.ownsRow (w.heap.size+1+1) 62 3 u5 (gE id x c.kids n).length (fT (gE id x c.kids n))):=aP HROW.out kU (fun _ _ h=>h) (a_ _);have yU:Hid (aD U (w.heap.size+1) 62 #[.string id,.int .i64 (j:Int),.int .i64 x]):=HBT.out.kept kU (fun h=>h);have hbs:=hb.size;have g0:=(kU.cell (p:=⟨b',o'+n*2,none⟩) (by simp;omega) (fun h=>h)).trans f0;have g1:=(kU.cell (p:=⟨b',o'+n*2+1,none⟩) (by simp;omega) (fun h=>h)).trans f1;have y2:=yU.out.cell (o:=2) rfl;have y0:=yU.out.cell (o:=0) rfl;rw[hU];clear hU hconv s1 f0 f1 t0 t2 kU;have hwr:IntKind.i64.wrap (x - d.less)=x - d.less:=IntWalk.i64_in _ (by omega)
    go_region_law (refine step_append_lies _ (by rfl) _ _ _ (by rfl) (w.heap.size+1+1) 62 i0 _ 3 32 underlying58 hi hz0 hz1 hz2 rfl (by omega) u5 _ (fT (gE id x c.kids n)) (by rfl) ((rU.out.alloc _).drew) ⟨U.heap.size,0,none⟩ 1 1 [.string (id++⟨#[iP n]⟩),.int .i64 d.kind,.int .i64 (x - d.less)] (by rfl) (by rfl) (World.news_of_block (cs:=#[.string (id++⟨#[iP n]⟩),.int .i64 d.kind,.int .i64 (x - d.less)]) (t:=62) (fr:=(0,0)) (heap_alloc_new U _)) (by simp[Value.oneCell']) (by omega) (by unfold maxLen;omega) (by omega) (by simp;omega) (U.heap.size+1) (by simp) ?_;intro g cp w1 hown1 hgrow hat hlt1)
    all_goals
     go_wp2_with fail
     go_roundw
     case rel=>
      have hrw:∀k,u5.ownBlock=some k->w.heap.size+1+1<=k:=fun k e=>(rU.out.lt k e).1
      refine⟨n+1,hlt,by go_num,?_,by rw[HKT.out];simp,?_,?_⟩
      ·rw[HKT.out,aGk,f_]
       exact hown1
      ·exact(bU.alloc bU.size _).drew.grown hgrow (by simp;omega) (fun k e=>by have:=hrw k e;omega)
      ·exact(hgrow.block (w.heap.size+1) (by simp;omega) (fun e=>by have:=hrw _ e.symm;omega)).trans (yU.out.alloc _)
     case measure=>simp[intOf];omega
   ·have HKT:Hid (gE id x c.kids (n+1)=gE id x c.kids n):=by
     show gE id x c.kids (n+1)=_;simp[gE,hd,hle]
    go_wp2_with fail
    go_quiet (fail)
    go_wp2_with fail
    go_roundw
    case rel=>exact⟨n+1,by omega,by go_num,by rw[HKT.out];exact HROW.out,by rw[HKT.out];exact HNIL.out,below_drewN hb _,HBT.out⟩
    case measure=>simp[intOf];omega
  ·obtain rfl:n=c.kids.length:=by omega
   go_wp2_with fail
   go_ret;refine⟨_,rfl,?_,by rw[HCH.out];exact HNIL.out,hb⟩;rw[HCH.out];exact aP HROW.out (aB.refl (fun _=>False) _) (fun _ _ h=>h) (by omega)
end Go.Proofs.YtfanaanofjhlkaaGreatDoor
