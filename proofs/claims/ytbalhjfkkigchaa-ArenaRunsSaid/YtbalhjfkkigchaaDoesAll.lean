/-
  An act, on both arenas: they answer alike, whatever the act.
-/
import Derived.Test.YtbalhjfkkigchaaDoes0
import Derived.Test.YtbalhjfkkigchaaDoes1
import Derived.Test.YtbalhjfkkigchaaDoes2
import Derived.Test.YtbalhjfkkigchaaDoes3
import Derived.Test.YtbalhjfkkigchaaDoes4
import Derived.Test.YtbalhjfkkigchaaDoes5
import Derived.Test.YtbalhjfkkigchaaDoes6
import Derived.Test.YtbalhjfkkigchaaDoes7
import Derived.Test.YtbalhjfkkigchaaDoes8
namespace Go.Proofs.Ytbalhjfkkigchaa
open Go.RowKit
set_option linter.unusedVariables false
set_option maxRecDepth 20000

theorem does_walk {w wr : World} {F G : Nat → Prop} {p a b k : Nat} {S D : As} {rv : Value} {rs : List Int} {K0 : List (Nat × Array Value × TypeId)} (hK0 : ∀ x ∈ K0, x.2.2 ≠ 83) (h : PI w F G p a b S D rv rs K0 wr) (hI : Inv k S D) (hk : k ≤ 60) (hrs : rs.length ≤ k) (x : Ac) (hx : x.wf) (A B : Option Addr) (n c m d : Nat) (hsk : Sk .i8 (-128) 127 wr A n x.sm.ks) (hsw : Sk .u8 0 255 wr B m x.sm.ws) :
    Calls Try.prog 13 #[ptr p, actv x A n c B m d] wr (Did w p a b (k + 1) K0) := by
  obtain ⟨dd, oo, raw, ii, ol, nw, ⟨sx, sy, sks, sws⟩⟩ := x
  have h1 := hx.do_
  have h2 := hx.on
  have h3 := hx.old
  have h4 := hx.now
  simp only at h1 h2 h3 h4 hsk hsw
  obtain ⟨u, rfl⟩ := Int.eq_ofNat_of_zero_le h1.1
  obtain ⟨t, rfl⟩ := Int.eq_ofNat_of_zero_le h2.1
  obtain ⟨ol, rfl⟩ := Int.eq_ofNat_of_zero_le h3.1
  obtain ⟨nw, rfl⟩ := Int.eq_ofNat_of_zero_le h4.1
  have h9 : u % 9 = 0 ∨ u % 9 = 1 ∨ u % 9 = 2 ∨ u % 9 = 3 ∨ u % 9 = 4 ∨ u % 9 = 5 ∨ u % 9 = 6 ∨ u % 9 = 7 ∨ u % 9 = 8 := by omega
  rcases h9 with e | e | e | e | e | e | e | e | e
  · exact does_0 hK0 h hI hk hrs u t raw ii ol nw sx sy sks sws hx A B n c m d e hsk hsw
  · exact does_1 hK0 h hI hk hrs u t raw ii ol nw sx sy sks sws hx A B n c m d e
  · exact does_2 hK0 h hI hk hrs u t raw ii ol nw sx sy sks sws hx A B n c m d e
  · exact does_3 hK0 h hI hk hrs u t raw ii ol nw sx sy sks sws hx A B n c m d e
  · exact does_4 hK0 h hI hk hrs u t raw ii ol nw sx sy sks sws hx A B n c m d e
  · exact does_5 hK0 h hI hk hrs u t raw ii ol nw sx sy sks sws hx A B n c m d e
  · exact does_6 hK0 h hI hk hrs u t raw ii ol nw sx sy sks sws hx A B n c m d e
  · exact does_7 hK0 h hI hk hrs u t raw ii ol nw sx sy sks sws hx A B n c m d e
  · exact does_8 hK0 h hI hk hrs u t raw ii ol nw sx sy sks sws hx A B n c m d e
end Go.Proofs.Ytbalhjfkkigchaa
