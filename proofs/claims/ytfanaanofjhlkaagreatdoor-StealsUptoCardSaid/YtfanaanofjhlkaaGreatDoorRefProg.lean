import Derived.Test.YtfanaanofjhlkaaGreatDoorList
set_option maxHeartbeats 16000000
set_option maxRecDepth 100000
namespace Go.Proofs.YtfanaanofjhlkaaGreatDoor
open Go Go.RowKit Tryz
theorem aGz{ks:List aS}{kind arg:Int}(h:¬((1<=(ks.length:Int)/\(ks.length:Int)<=5)/\(0<=kind/\kind < ks.length)/\(0<=arg/\arg<=12))):cD ks kind arg=false:=by
 cases hp:cD ks kind arg
 ·rfl
 ·exfalso
  simp[cD,dF,jI]at hp;omega
theorem aJy{ks:List aS}{kind arg:Int}(h:(1<=(ks.length:Int)/\(ks.length:Int)<=5)/\(0<=kind/\kind < ks.length)/\(0<=arg/\arg<=12)):cD ks kind arg=ks.all (cL ks.length):=by
 have h1:dF ks.length 1 5=true:=by simp[dF];omega
 have h2:jI kind ks.length=true:=by simp[jI];omega
 have h3:dF arg 0 12=true:=by simp[dF];omega
 simp[cD,h1,h2,h3]
theorem aGc{n:Int}{c:aS}(h:¬((-1000<=c.A/\c.A<=1000)/\(-1000<=c.B/\c.B<=1000)/\c.kids.length<=3)):cL n c=false:=by
 cases hp:cL n c
 ·rfl
 ·exfalso
  simp[cL,dF]at hp;omega
theorem aKi{n:Int}{c:aS}(h:(-1000<=c.A/\c.A<=1000)/\(-1000<=c.B/\c.B<=1000)/\c.kids.length<=3):cL n c=c.kids.all (eW n):=by
 have h1:dF c.A (-1000) 1000=true:=by simp[dF];omega
 have h2:dF c.B (-1000) 1000=true:=by simp[dF];omega
 simp[cL,h1,h2,h.2.2]
theorem zZ(kv:Value)(kind arg:Int)(ks:List aS)(ok:Nat->Prop)(w:World)(hk:bH ok w kv ks)(hl:ks.length<=9223372036854775806)(hl2:∀k∈ks,k.kids.length<=9223372036854775806) :
  Calls prog 180 #[.agg #[kv,.int .i64 kind,.int .i64 arg]] w fun e w'=>e= .returned (.bool (cD ks kind arg))/\Below w.heap.size w w':=by
 obtain⟨a,cap,rfl,hc⟩:=hk;by_cases hh:(1<=(ks.length:Int)/\(ks.length:Int)<=5)/\(0<=kind/\kind < ks.length)/\(0<=arg/\arg<=12)
 case neg=>
  have HP:Hid (cD ks kind arg=false):=aGz hh;go_enter func180,ntmps180
  go_wp2_with fail
  all_goals first
   |(go_ret;exact⟨by rw[HP.out];rfl,(e_ _ _).alloc (a_ _) _⟩)
   |(exfalso;omega)
 obtain⟨⟨n1,n2⟩,⟨k1,k2⟩,⟨x1,x2⟩⟩:=hh;have HP:Hid (cD ks kind arg=ks.all (cL ks.length)):=aJy ⟨⟨n1,n2⟩,⟨k1,k2⟩,⟨x1,x2⟩⟩;go_enter func180,ntmps180
 go_wp2_with fail
 go_loopw [4] (fun i wr=>∃k:Nat,k<=ks.length/\i= .int .i64 k/\ks.all (cL ks.length)=(ks.drop k).all (cL ks.length)/\Below w.heap.size w wr/\aD wr w.heap.size 41 #[.slice a ks.length cap,.int .i64 kind,.int .i64 arg]) (fun i _=>ks.length - (intOf i).toNat)
 case atStart=>exact⟨0,Nat.zero_le _,rfl,rfl,(e_ _ _).alloc (a_ _) _,aD.new _ _ _⟩
 case round=>
  obtain⟨k,hk,rfl,hall,hb,hbox⟩:=hrel
  rename World=>Wo
  have HA:Hid (ks.all (cL ks.length)=(ks.drop k).all (cL ks.length)):=hall;have HB:Hid (aD Wo w.heap.size 41 #[.slice a ks.length cap,.int .i64 kind,.int .i64 arg]):=hbox;have hlt':=hbox.lt;have hsz:=hb.size;have b0:=hbox.cell (o:=0) rfl;clear hbox hall;by_cases hlt:k < ks.length
  ·obtain⟨c,hcc⟩:∃c,ks[k]?= some c:=⟨_,b_ hlt⟩
   obtain⟨b,o,kv,rfl,hok,hbw,c0,c1,c2,hkk⟩:=hc k c hcc;have d0:=(hb.cell (p:=⟨b,o+k*3,none⟩) hbw).trans c0;have d1:=(hb.cell (p:=⟨b,o+k*3+1,none⟩) hbw).trans c1;have d2:=(hb.cell (p:=⟨b,o+k*3+2,none⟩) hbw).trans c2;have HS:Hid ((ks.drop k).all (cL ks.length)=(cL ks.length c&&(ks.drop (k+1)).all (cL ks.length))):=qH _ ks k c hcc;have hcl:=hl2 c (d_ hcc);obtain⟨A,B,kids⟩:=c;obtain⟨a',cap',rfl,h'⟩:=hkk;simp only at d0 d1 d2 hcl h';clear hc c0 c1 c2;by_cases hAB:(-1000<=A/\A<=1000)/\(-1000<=B/\B<=1000)/\kids.length<=3
   case neg=>
    have HK:Hid (cL ks.length ⟨A,B,kids⟩=false):=aGc hAB
    go_wp2_with fail
    all_goals first
     |(go_ret;exact⟨by rw[HP.out,HA.out,HS.out,HK.out];rfl,hb.alloc hsz _⟩)
     |(exfalso;omega)
   have HK:Hid (cL ks.length ⟨A,B,kids⟩=kids.all (eW ks.length)):=aKi hAB;obtain⟨⟨A1,A2⟩,⟨B1,B2⟩,hk3⟩:=hAB
   go_wp2_with fail
   go_loopw [6] (fun j wy=>∃q:Nat,q<=kids.length/\j= .int .i64 q/\kids.all (eW ks.length)=(kids.drop q).all (eW ks.length)/\Below Wo.heap.size Wo wy/\aD wy Wo.heap.size 56 #[.int .i64 A,.int .i64 B,.slice a' kids.length cap']) (fun j _=>kids.length - (intOf j).toNat)
   case atStart=>exact⟨0,Nat.zero_le _,rfl,rfl,(e_ _ _).alloc (a_ _) _,aD.new _ _ _⟩
   case round=>
    obtain⟨q,hq,rfl,hqa,hby,hbk⟩:=hrel
    rename World=>Wy
    have HQ:Hid (kids.all (eW ks.length)=(kids.drop q).all (eW ks.length)):=hqa;have HBK:Hid (aD Wy Wo.heap.size 56 #[.int .i64 A,.int .i64 B,.slice a' kids.length cap']):=hbk;have k2':=hbk.cell (o:=2) rfl;have hltk:=hbk.lt;have hszy:=hby.size;clear hbk hqa;by_cases hql:q < kids.length
    ·obtain⟨d,hd⟩:∃d,kids[q]?= some d:=⟨_,b_ hql⟩
     obtain⟨b',o',rfl,hok',hbw',e0,e1⟩:=h' q d hd;have hbwy:Below w.heap.size w Wy:=hb.trans (hby.mono hsz);have f0:=(hbwy.cell (p:=⟨b',o'+q*2,none⟩) hbw').trans e0;have f1:=(hbwy.cell (p:=⟨b',o'+q*2+1,none⟩) hbw').trans e1;have HD:Hid ((kids.drop q).all (eW ks.length)=(eW ks.length d&&(kids.drop (q+1)).all (eW ks.length))):=qH _ kids q d hd;clear h' e0 e1;by_cases hdd:(0<=d.kind/\d.kind < ks.length)/\(1<=d.less/\d.less<=9)
     case neg=>
      have HF:Hid (eW ks.length d=false):=by
       show eW ks.length d=false;cases hp:eW ks.length d
       ·rfl
       ·exfalso
        simp[eW,jI,dF]at hp;omega
      go_wp2_with fail
      all_goals first
       |(go_ret;exact⟨by rw[HP.out,HA.out,HS.out,HK.out,HQ.out,HD.out,HF.out];rfl,hbwy.alloc hbwy.size _⟩)
       |(exfalso;omega)
     have HF:Hid (eW ks.length d=true):=by
      show eW ks.length d=true;simp[eW,jI,dF];omega
     obtain⟨⟨y1,y2⟩,⟨y3,y4⟩⟩:=hdd
     go_wp2_with fail
     go_roundw
     case rel=>exact⟨q+1,by omega,by go_num,by rw[HQ.out,HD.out,HF.out];rfl,hby.alloc hszy _,HBK.out.alloc _⟩
     case measure=>simp[intOf];omega
    ·have HT:Hid (cL ks.length ⟨A,B,kids⟩=true):=by
      show _=true;rw[HK.out,HQ.out,List.drop_eq_nil_of_le (by omega)];rfl
     go_wp2_with fail
     go_roundw
     case rel=>exact⟨k+1,by omega,by go_num,by rw[HA.out,HS.out,HT.out];rfl,hb.trans (hby.mono hsz),HB.out.below hby hlt'⟩
     case measure=>simp[intOf];omega
  ·go_wp2_with fail
   go_ret;exact⟨by rw[HP.out,HA.out,List.drop_eq_nil_of_le (by omega)];rfl,hb⟩
end Go.Proofs.YtfanaanofjhlkaaGreatDoor
