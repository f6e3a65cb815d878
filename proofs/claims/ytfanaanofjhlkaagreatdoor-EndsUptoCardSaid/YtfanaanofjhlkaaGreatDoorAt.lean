import Derived.Test.YtfanaanofjhlkaaGreatDoorSame
import Derived.Sort.Walk0
import Derived.Test.YtfanaanofjhlkaaGreatDoorVals
namespace Go.Proofs.YtfanaanofjhlkaaGreatDoor
open Go Go.RowKit
def putS:List (ByteArray×Int)->ByteArray×Int->List (ByteArray×Int)
 |[],x=>[x]
 |y :: r,x=>if Op.bytesLess x.1.toList y.1.toList=true then x :: y :: r else y :: putS r x
theorem putS_length:∀(l:List (ByteArray×Int)) (x:ByteArray×Int),(putS l x).length=l.length+1
 |[],x=>rfl
 |y :: r,x=>by
  unfold putS
  split
  ·rfl
  ·simp[putS_length r x]
set_option maxHeartbeats 400000 in
theorem pick_calls(c n:Int)(hc: -9223372036854775808<=c/\c<=9223372036854775807)(hn:1<=n)(hn2:n<=100000)(w:World) :
  Calls Tryz.prog 34 #[.int .i64 c,.int .i64 n] w fun e w'=>e= .returned (.int .i64 (pickS c n))/\w'=w:=by
 have HP:Hid (pickS c n=(if c < 0 then -(c+1)else c) % n):=rfl
 obtain⟨hc1,hc2⟩:=hc
 have hb:(n==0)=false:=by rw[beq_eq_false_iff_ne];omega
 by_cases h:c < 0
 ·go_enter Tryz.func34,Tryz.ntmps34
  go_wp2
  go_ret
  refine⟨?_,rfl⟩
  rw[HP.out,if_pos h,<-Int.tmod_eq_emod_of_nonneg (by omega),Int.neg_tmod]
  rfl
 ·go_enter Tryz.func34,Tryz.ntmps34
  go_wp2
  go_ret
  refine⟨?_,rfl⟩
  rw[HP.out,if_neg (by omega)]
  rfl
end Go.Proofs.YtfanaanofjhlkaaGreatDoor
