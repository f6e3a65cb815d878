import Derived.Test.YtfanaanofjhlkaaGreatDoorGather
import Derived.Test.YtfanaanofjhlkaaGreatDoorRefWork
import Derived.Test.YtfanaanofjhlkaaGreatDoorRaw
namespace Go.Proofs.YtfanaanofjhlkaaGreatDoor
open Go Go.RowKit
section
variable {part part':Nat->Nat} {W W':World} {B M:Nat} {s:RunS} {kv wv yv:Value} {xs:List XW}
theorem Moved.okX{F:Nat->Prop}(h:Moved part part' W W')(hr:XAtO part' W' B s kv wv yv M xs)(hF:∀b,part b≠0->F b):XOK (fun b=>F b\/W.heap.size<=b) W' B s/\Kept F W W':=by
 refine⟨⟨part',fun b hb=> ?_,kv,wv,yv,M,xs,hr⟩,h.kept.mono (fun b _ hb=>hF b hb)⟩
 rcases Nat.lt_or_ge b W.heap.size with hl|hl
 ·exact .inl (hF b (h.old b hl hb))
 ·exact .inr hl
structure XMoved(part part':Nat->Nat)(W W':World):Prop where
 kept:Kept (fun b=>part b≠0) W W'
 old:∀b,b < W.heap.size->part' b≠0->part b≠0
 ends:∀b,b < W.heap.size->200<=part b->part' b=part b/\W'.heap[b]?= W.heap[b]?
theorem XMoved.base(h:XMoved part part' W W'):Moved part part' W W':=⟨h.kept,h.old⟩
theorem XMoved.refl(part:Nat->Nat)(W:World):XMoved part part W W:=⟨Kept.refl _ _,fun _ _ h=>h,fun _ _ _=>⟨rfl,rfl⟩⟩
theorem XMoved.trans{p p' p'':Nat->Nat}{W W' W'':World}(h:XMoved p p' W W')(k:XMoved p' p'' W' W''):XMoved p p'' W W'':=
 ⟨h.kept.andThen k.kept (fun b hb hp=>h.old b hb hp),fun b hb hp=>h.old b hb (k.old b (Nat.lt_of_lt_of_le hb h.kept.size) hp),fun b hb hp=>by
  obtain⟨h1,h2⟩:=h.ends b hb hp
  obtain⟨k1,k2⟩:=k.ends b (Nat.lt_of_lt_of_le hb h.kept.size) (by omega)
  exact⟨k1.trans h1,k2.trans h2⟩⟩
theorem XMoved.of{Y:Nat->Prop}(n:Nat)(k:Kept Y W W')(hY:∀g,g < W.heap.size->Y g->part g≠0/\part g < 200):XMoved part (ext W part n) W W':=
 ⟨k.mono (fun g hg h=>(hY g hg h).1),fun b hb h=>by rwa [ext_old hb]at h,fun b hb hp=>⟨ext_old hb,k.block b hb (fun h=>by have:=(hY b hb h).2;omega)⟩⟩
theorem XMoved.okX{F:Nat->Prop}(h:XMoved part part' W W')(hr:XAtO part' W' B s kv wv yv M xs)(hF:∀b,part b≠0->F b):XOK (fun b=>F b\/W.heap.size<=b) W' B s/\Kept F W W':=h.base.okX hr hF
theorem XAtO.later(h:XAtO part W B s kv wv yv M xs)(hb:Below W.heap.size W W'):XAtO (ext W part 0) W' B s kv wv yv M xs/\XMoved part (ext W part 0) W W':=by
 have k:Kept (fun b=>W.heap.size<=b) W W':=Kept.of_below hb (fun _ _ h=>h)
 exact⟨h.kept k (fun g hg _=>⟨by omega,ext_old hg⟩),XMoved.of 0 k (fun g hl hg=>by omega)⟩
theorem XAtO.aside{Y:Nat->Prop}(h:XAtO part W B s kv wv yv M xs)(k:Kept Y W W')(hY:∀g,g < W.heap.size->Y g->part g=0):XAtO (ext W part 0) W' B s kv wv yv M xs:=
 h.kept k (fun g hg hp=>⟨fun hy=>hp (hY g hg hy),ext_old hg⟩)
theorem XAtO.rebox{an:List AnsS}{d o:Bool}(h:XAtO part W B s kv wv yv M xs)(k:Kept (·= B) W W')(hb:BoxAt W' B 105 (xrunCells {s with answers:=an,done:=d,over:=o} kv wv yv M)):XAtO (ext W part 0) W' B {s with answers:=an,done:=d,over:=o} kv wv yv M xs/\XMoved part (ext W part 0) W W':=by
 have hY:∀g,g < W.heap.size->g=B->part g=1:=fun g _ e=>by rw[e];exact h.pB
 have R:=h.rest (part':=ext W part 0) 5 k (fun g hg=>ext_old hg) (fun g hl hg=> .inl (hY g hl hg))
 exact⟨⟨hb,(ext_old h.box.lt).trans h.pB,R.kinds (by omega),R.wrow (by omega),h.wlen,fun i x y=>R.wat i x y (by omega),h.llen,h.lrow,h.five,fun i x ls=>R.lat i x ls (by omega) (.inl (by omega)),fun i x=>R.iat i x (by omega) (.inl (by omega)),R.yrow (by omega),R.vals (by omega),fun i x y=>R.tat i x y (by omega)⟩,XMoved.of 0 k (fun g hl hg=>by have:=hY g hl hg;omega)⟩
theorem XAtO.over(h:XAtO part W B s kv wv yv M xs)(k:Kept (·= B) W W')(hb:BoxAt W' B 105 (xrunCells {s with over:=true} kv wv yv M)):XAtO (ext W part 0) W' B {s with over:=true} kv wv yv M xs/\XMoved part (ext W part 0) W W':=
 h.rebox (an:=s.answers) (d:=s.done) (o:=true) k hb
theorem XAtO.reway{yv':Value}{way':List MsgS}(h:XAtO part W B s kv wv yv M xs)(k:Kept (fun g=>g=B\/part g=2) W W')(hb:BoxAt W' B 105 (xrunCells {s with way:=way'} kv wv yv' M))
  (hr:W'.ownsRow 0 124 15 yv' way'.length (way'.flatMap msgEnc)) (ho:∀g,yv'.ownBlock=some g->part g=2/\g < W.heap.size\/W.heap.size<=g) :
  XAtO (ext W part 2) W' B {s with way:=way'} kv wv yv' M xs/\XMoved part (ext W part 2) W W':=by
 have hpB:=h.pB
 have hY:∀g,g < W.heap.size->(g=B\/part g=2)->part g=1\/part g=2:=fun g _ e=>by rcases e with rfl|e<;>omega
 have R:=h.rest (part':=ext W part 2) 2 k (fun g hg=>ext_old hg) hY
 exact⟨⟨hb,(ext_old h.box.lt).trans h.pB,R.kinds (by omega),R.wrow (by omega),h.wlen,fun i x y=>R.wat i x y (by omega),h.llen,h.lrow,h.five,fun i x ls=>R.lat i x ls (by omega) (.inl (by omega)),fun i x=>R.iat i x (by omega) (.inl (by omega)),rowIn_ext hr ho,R.vals (by omega),fun i x y=>R.tat i x y (by omega)⟩,XMoved.of 2 k (fun g hl hg=>by have:=hY g hl hg;omega)⟩
theorem XAtO.revals{vs:List (ByteArray×Int)}(h:XAtO part W B s kv wv yv M xs)(k:Kept (·= M) W W')(hv:KeptAt part W' M vs):XAtO (ext W part 0) W' B {s with values:=vs} kv wv yv M xs/\XMoved part (ext W part 0) W W':=by
 have h3:=h.vals.is
 have hpB:=h.pB
 have hY:∀g,g < W.heap.size->g=M->part g=3:=fun g _ e=>by rw[e];exact h3
 have R:=h.rest (part':=ext W part 0) 3 k (fun g hg=>ext_old hg) (fun g hl hg=> .inr (hY g hl hg))
 refine⟨⟨h.box.kept k (fun e=>by rw[e]at hpB;omega),(ext_old h.box.lt).trans h.pB,R.kinds (by omega),R.wrow (by omega),h.wlen,fun i x y=>R.wat i x y (by omega),h.llen,h.lrow,h.five,fun i x ls=>R.lat i x ls (by omega) (.inl (by omega)),fun i x=>R.iat i x (by omega) (.inl (by omega)),R.yrow (by omega),?_,fun i x y=>R.tat i x y (by omega)⟩,XMoved.of 0 k (fun g hl hg=>by have:=hY g hl hg;omega)⟩
 obtain⟨D,h1,h2,h4⟩:=hv
 exact⟨D,h1,(ext_old h.vals.lt).trans h3,h4⟩
theorem XAtO.retasks{i:Nat}{x:XW}{y:WorkerS}{l:List TaskS}(h:XAtO part W B s kv wv yv M xs)(hi:xs[i]?= some x)(hy:s.W[i]?= some y)(k:Kept (fun g=>part g=10+i) W W')
  (hx:TaskListAt (fun b=>part b=10+i/\b < W.heap.size\/W.heap.size<=b) W' x.T s.room l):XAtO (ext W part (10+i)) W' B {s with W:=s.W.set i {y with tasks:=l}} kv wv yv M xs/\XMoved part (ext W part (10+i)) W W':=by
 have hpB:=h.pB
 have h5:=h.five
 have hil:=(List.getElem?_eq_some_iff.1 hy).1
 have R:=h.rest (part':=ext W part (10+i)) (10+i) k (fun g hg=>ext_old hg) (fun g _ hg=> .inr hg)
 refine⟨⟨h.box.kept k (by omega),(ext_old h.box.lt).trans h.pB,R.kinds (by omega),R.wrow (by omega),by simpa using h.wlen,fun i' x' y' hx' hy'=> ?_,by simpa using h.llen,by simpa using h.lrow,by simpa using h5,fun i x ls=>R.lat i x ls (by omega) (.inl (by omega)),fun i x=>R.iat i x (by omega) (.inl (by omega)),R.yrow (by omega),R.vals (by omega),fun i' x' y' hx' hy'=> ?_⟩,XMoved.of _ k (fun g hl hg=>by omega)⟩
 rotate_left
 ·have hy1:(s.W.set i {y with tasks:=l})[i']?= some y':=hy'
  have hi5:i' < xs.length:=(List.getElem?_eq_some_iff.1 hx').1
  have hwl:=h.wlen
  by_cases e:i'=i
  ·subst e
   rw[List.getElem?_set_self hil]at hy1
   obtain rfl:=Option.some.inj hy1
   exact(R.tat i' x' y (by omega) hx' hy).like rfl rfl
  ·rw[List.getElem?_set_ne (fun e'=>e e'.symm)]at hy1
   exact R.tat i' x' y' (by omega) hx' hy1
 have hy1:(s.W.set i {y with tasks:=l})[i']?= some y':=hy'
 by_cases e:i'=i
 ·subst e
  rw[hi]at hx'
  obtain rfl:=Option.some.inj hx'
  rw[List.getElem?_set_self hil]at hy1
  obtain rfl:=Option.some.inj hy1
  refine⟨⟨(h.wat i' x y hi hy).1.asked,(h.wat i' x y hi hy).1.sent,(h.wat i' x y hi hy).1.came,(h.wat i' x y hi hy).1.black⟩,hx.kept (Kept.refl (fun _=>False) W') (fun b _ hb=>⟨fun h=>h,?_⟩)⟩
  rcases hb with⟨h1,h2⟩|h1
  ·exact(ext_old h2).trans h1
  ·exact ext_new h1
 ·rw[List.getElem?_set_ne (fun e'=>e e'.symm)]at hy1
  exact R.wat i' x' y' (by omega) hx' hy1
theorem XAtO.retok{i n:Nat}{x x':XW}{y y':WorkerS}{ar:Bool}(h:XAtO part W B s kv wv yv M xs)(hi:xs[i]?= some x)(hy:s.W[i]?= some y)(ht:y'.tasks=y.tasks)(hn:x'.Notes y')(hT:x'.T=x.T/\x'.outv=x.outv/\x'.inv=x.inv)(k:Kept (fun g=>part g=7) W W')(hn0:n=0\/n=20+i)(har:i≠0->ar=s.around)(htk:TokAt (fun b=>ext W part n b=20+i) W' s.mode (i==0&&ar) y' x'.tok)
  (hr:W'.ownsRow 0 119 8 wv (xs.set i x').length ((xs.set i x').flatMap xwEnc)):XAtO (ext W part n) W' B {s with W:=s.W.set i y',around:=ar} kv wv yv M (xs.set i x')/\XMoved part (ext W part n) W W':=by
 have hpB:=h.pB
 have hil:=(List.getElem?_eq_some_iff.1 hy).1
 have hxl:=(List.getElem?_eq_some_iff.1 hi).1
 have R:=h.rest (part':=ext W part n) 7 k (fun g hg=>ext_old hg) (fun g _ hg=> .inr hg)
 refine⟨⟨h.box.kept k (by omega),(ext_old h.box.lt).trans h.pB,R.kinds (by omega),⟨hr,fun g e=>(ext_old (h.wrow.1.lt g e).2).trans (h.wrow.2 g e)⟩,by simpa using h.wlen,fun i' z' z hx' hz=> ?_,by simpa using h.llen,by simpa using h.lrow,by simpa using h.five,fun i' z' ls hx' hl=> ?_,fun i' z' hx'=> ?_,R.yrow (by omega),R.vals (by omega),fun i' z' z hx' hz=> ?_⟩,XMoved.of _ k (fun g hl hg=>by omega)⟩
 ·have hy1:(s.W.set i y')[i']?= some z:=hz
  by_cases e:i'=i
  ·subst e
   rw[List.getElem?_set_self hxl]at hx'
   obtain rfl:=Option.some.inj hx'
   rw[List.getElem?_set_self hil]at hy1
   obtain rfl:=Option.some.inj hy1
   exact⟨hn,by rw[ht,hT.1];exact(R.wat i' x y (by omega) hi hy).2⟩
  ·rw[List.getElem?_set_ne (fun e'=>e e'.symm)]at hy1 hx'
   exact R.wat i' z' z (by omega) hx' hy1
 ·by_cases e:i'=i
  ·subst e
   rw[List.getElem?_set_self hxl]at hx'
   obtain rfl:=Option.some.inj hx'
   rw[hT.2.1]
   exact R.lat i' x ls (by omega) (.inl (by omega)) hi hl
  ·rw[List.getElem?_set_ne (fun e'=>e e'.symm)]at hx'
   exact R.lat i' z' ls (by omega) (.inl (by omega)) hx' hl
 ·by_cases e:i'=i
  ·subst e
   rw[List.getElem?_set_self hxl]at hx'
   obtain rfl:=Option.some.inj hx'
   rw[hT.2.2]
   exact R.iat i' x (by omega) (.inl (by omega)) hi
  ·rw[List.getElem?_set_ne (fun e'=>e e'.symm)]at hx'
   exact R.iat i' z' (by omega) (.inl (by omega)) hx'
 ·have hy1:(s.W.set i y')[i']?= some z:=hz
  by_cases e:i'=i
  ·subst e
   rw[List.getElem?_set_self hxl]at hx'
   obtain rfl:=Option.some.inj hx'
   rw[List.getElem?_set_self hil]at hy1
   obtain rfl:=Option.some.inj hy1
   exact htk
  ·rw[List.getElem?_set_ne (fun e'=>e e'.symm)]at hy1 hx'
   have h9:=R.tat i' z' z (by omega) hx' hy1
   by_cases e0:i'=0
   ·have:ar=s.around:=har (by omega)
    rw[this]
    exact h9
   ·have e1:(i'==0)=false:=by simp[e0]
    rw[e1]at h9 ⊢
    exact h9
theorem XAtO.renote{i:Nat}{x x':XW}{y y':WorkerS}(h:XAtO part W B s kv wv yv M xs)(hi:xs[i]?= some x)(hy:s.W[i]?= some y)(ht:y'.tasks=y.tasks/\y'.has=y.has/\y'.token=y.token)(hn:x'.Notes y')(hT:x'.T=x.T/\x'.outv=x.outv/\x'.inv=x.inv/\x'.tok=x.tok)(k:Kept (fun g=>part g=7) W W')
  (hr:W'.ownsRow 0 119 8 wv (xs.set i x').length ((xs.set i x').flatMap xwEnc)):XAtO (ext W part 0) W' B {s with W:=s.W.set i y'} kv wv yv M (xs.set i x')/\XMoved part (ext W part 0) W W':=by
 have R:=h.rest (part':=ext W part 0) 7 k (fun g hg=>ext_old hg) (fun g _ hg=> .inr hg)
 refine h.retok (ar:=s.around) (n:=0) hi hy ht.1 hn ⟨hT.1,hT.2.1,hT.2.2.1⟩ k (.inl rfl) (fun _=>rfl) ?_ hr
 rw[hT.2.2.2]
 exact(R.tat i x y (by omega) hi hy).like ht.2.1 ht.2.2
theorem XInsAt.relink{i a b:Nat}{v:Value}{links:List (List LinkS)}{ls:List LinkS}{l l':LinkS}(h:XInsAt part i W v links)(ha:links[a]?= some ls)(hb:ls[b]?= some l)(hl:b=i->InLike l l'):XInsAt part i W v (links.set a (ls.set b l')):=by
 obtain⟨qs,h1,h2,h3⟩:=h
 refine⟨qs,h1,by simpa using h2,fun j q row z hq hr hz=> ?_⟩
 by_cases e:j=a
 ·subst e
  rw[List.getElem?_set_self (List.getElem?_eq_some_iff.1 ha).1]at hr
  obtain rfl:=Option.some.inj hr
  by_cases e:i=b
  ·subst e
   rw[List.getElem?_set_self (List.getElem?_eq_some_iff.1 hb).1]at hz
   obtain rfl:=Option.some.inj hz
   exact(h3 j q ls l hq ha hb).like (hl rfl)
  ·rw[List.getElem?_set_ne (fun e'=>e e'.symm)]at hz
   exact h3 j q ls z hq ha hz
 ·rw[List.getElem?_set_ne (fun e'=>e e'.symm)]at hr
  exact h3 j q row z hq hr hz
theorem XAtO.relink{i j q:Nat}{x:XW}{ls:List LinkS}{l l':LinkS}{qs:List (Option Nat)}(h:XAtO part W B s kv wv yv M xs)(hi:xs[i]?= some x)(hl:s.links[i]?= some ls)(hij:j≠i)(hqs:RowIn (fun b=>part b=9) 206 1 optEnc W x.outv qs)(hql:qs.length=ls.length)(hqe:∀j q l,qs[j]?= some q->ls[j]?= some l->EndAt part i j W l q)(hq:qs[j]?= some (some q))(hlj:ls[j]?= some l)(hlk:InLike l l')(k:Kept (fun g=>part g=100+10*i+j) W W')
  (hx:OutAt (fun b=>part b=100+10*i+j/\b < W.heap.size\/W.heap.size<=b) W' q l'):XAtO (ext W part (100+10*i+j)) W' B {s with links:=s.links.set i (ls.set j l')} kv wv yv M xs/\XMoved part (ext W part (100+10*i+j)) W W':=by
 have hpB:=h.pB
 have h5:=h.five
 have hil:=(List.getElem?_eq_some_iff.1 hl).1
 have hll:=h.lrow ls (List.mem_of_getElem? hl)
 have hjl:j < ls.length:=by have:=(List.getElem?_eq_some_iff.1 hq).1;omega
 have R:=h.rest (part':=ext W part (100+10*i+j)) (100+10*i+j) k (fun g hg=>ext_old hg) (fun g _ hg=> .inr hg)
 have hllen:=h.llen
 refine⟨⟨h.box.kept k (by omega),(ext_old h.box.lt).trans h.pB,R.kinds (by omega),R.wrow (by omega),h.wlen,fun i' x' y' hx' hy'=>R.wat i' x' y' (by have h':i' < s.W.length:=(List.getElem?_eq_some_iff.1 hy').1;omega) hx' hy',by simpa using h.llen,fun ls' hls'=> ?_,h5,fun i' x' ls' hx' hl'=> ?_,fun i' x' hx'=>(R.iat i' x' (by omega) (.inl (by omega)) hx').relink hl hlj (fun _=>hlk),R.yrow (by omega),R.vals (by omega),fun i' x' y' hx' hy'=>R.tat i' x' y' (by have h':i' < s.W.length:=(List.getElem?_eq_some_iff.1 hy').1;omega) hx' hy'⟩,XMoved.of _ k (fun g hl hg=>by omega)⟩
 ·rcases List.mem_or_eq_of_mem_set hls' with h'|rfl
  ·exact h.lrow ls' h'
  ·simpa using hll
 ·have hl1:(s.links.set i (ls.set j l'))[i']?= some ls':=hl'
  by_cases e:i'=i
  ·subst e
   rw[hi]at hx'
   obtain rfl:=Option.some.inj hx'
   rw[List.getElem?_set_self hil]at hl1
   obtain rfl:=Option.some.inj hl1
   refine⟨qs,hqs.kept k (fun g hg e=>⟨by omega,(ext_old hg).trans e⟩),by simpa using hql,fun j' q' l hq' hl2=> ?_⟩
   by_cases e:j'=j
   ·subst e
    rw[hq]at hq'
    obtain rfl:=Option.some.inj hq'
    rw[List.getElem?_set_self hjl]at hl2
    obtain rfl:=Option.some.inj hl2
    refine⟨hij,hx.kept (Kept.refl (fun _=>False) W') (fun b _ hb=>⟨fun h=>h,?_⟩)⟩
    rcases hb with⟨h1,h2⟩|h1
    ·exact(ext_old h2).trans h1
    ·exact ext_new h1
   ·rw[List.getElem?_set_ne (fun e'=>e e'.symm)]at hl2
    exact(hqe j' q' l hq' hl2).kept k (fun g hg e=>⟨by omega,(ext_old hg).trans e⟩)
  ·rw[List.getElem?_set_ne (fun e'=>e e'.symm)]at hl1
   have:=h.lrow ls' (List.mem_of_getElem? hl1)
   exact R.lat i' x' ls' (by omega) (by omega) hx' hl1
end
def XGives(F:Nat->Prop)(w:World)(B:Nat)(r:RunS×Int)(e:Ending)(w':World):Prop:=e= .returned (.int .i64 r.2)/\XOK (fun b=>F b\/w.heap.size<=b) w' B r.1/\Kept F w w'
end Go.Proofs.YtfanaanofjhlkaaGreatDoor
