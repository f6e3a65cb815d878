import Derived.Test.YtfanaanofjhlkaaGreatDoorRefWork
namespace Go.Proofs.YtfanaanofjhlkaaGreatDoor
open Go Go.RowKit
theorem get_snoc{α:Type}{l:List α}{x y:α}{i:Nat}(h:(l++ [x])[i]?= some y):(i < l.length/\l[i]?= some y)\/(i=l.length/\y=x):=by
 rcases Nat.lt_or_ge i l.length with hi|hi
 ·rw[List.getElem?_append_left hi]at h
  exact .inl ⟨hi,h⟩
 ·rw[List.getElem?_append_right hi]at h
  have hl:=(List.getElem?_eq_some_iff.1 h).1
  simp at hl
  obtain rfl:i=l.length:=by omega
  simp at h
  exact .inr ⟨rfl,h.symm⟩
theorem replicate_get{α:Type}{n i:Nat}{x y:α}(h:(List.replicate n x)[i]?= some y):y=x:=by
 have:=List.mem_of_getElem? h
 simp at this
 exact this.2
end Go.Proofs.YtfanaanofjhlkaaGreatDoor
