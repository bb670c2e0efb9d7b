/-
  Law SeekTurns' worlds: a node with one way, which is changed.
-/
import Derived.Test.YtmnldlhpiapalaaPl11
import Derived.Test.YtmnldlhpiapalaaAw11
import Derived.Test.YtmnldlhpiapalaaRs11
namespace Go.Proofs.Ytmnldlhpiapalaa
open Go.ChangeShapes Go.WideShapes Go.ChangeAt Go.RowKit
set_option linter.unusedVariables false
set_option linter.unusedSimpArgs false
set_option maxRecDepth 20000

/-- A node by its reference. -/
theorem hit_mkN {S : As} {i : Nat} {p : Pa} {r : Int} (hp : S.pls[i]? = some p) (hu : p.used = true) (hi : i < 1000000) (hr : r = Go.Proofs.Ytmnldlhpiapalaa.mk (i : Int) (p.cnt : Int)) : S.hit r = some (i, p) := by
  subst hr
  have e : (pl (Go.Proofs.Ytmnldlhpiapalaa.mk (i : Int) (p.cnt : Int))).toNat = i := by unfold pl Go.Proofs.Ytmnldlhpiapalaa.mk; omega
  unfold As.hit
  rw [e, hp]
  simp only
  rw [if_pos ⟨hu, trivial⟩]
abbrev m11 : Int := Go.Proofs.Ytmnldlhpiapalaa.mk 1 1
abbrev m31 : Int := Go.Proofs.Ytmnldlhpiapalaa.mk 3 1
abbrev m21 : Int := Go.Proofs.Ytmnldlhpiapalaa.mk 2 1
abbrev m02 : Int := Go.Proofs.Ytmnldlhpiapalaa.mk 0 2
def shTu (pa : List (Int × Int)) : Sh := .mk false false [] [] [.mk true false pa [] []]
abbrev lfNd (pa : List (Int × Int)) : Nd := ⟨false, false, pa, [], []⟩
def rtNd : Nd := ⟨true, false, [], [], [m21]⟩
def rtPa (z : Int) : Pa := ⟨true, 1, rtNd, [z], 0, false⟩
def enPa : Pa := { entryPa with ws := [m31] }
def sgA (pa : List (Int × Int)) : Sig := ⟨⟨5, [Pa.gone 1, enPa, ⟨true, 1, lfNd pa, [], 0, false⟩, rtPa m21], [0], 0⟩, 0, [(-1, [])], []⟩
/-- Behind the other leaf was made; z: the root's way. -/
def sgB (pa pb : List (Int × Int)) (z : Int) : Sig := ⟨⟨5, [⟨true, 2, lfNd pb, [], 0, false⟩, enPa, ⟨true, 1, lfNd pa, [], 0, false⟩, rtPa z], [], 0⟩, 0, [(-1, [])], []⟩
def ndsTu (pa pb : List (Int × Int)) : List (Int × Nd) := [(m11, entryNd), (m31, rtNd), (m21, lfNd pa), (m02, lfNd pb)]
def rkTu (z : Int) : Nat := if z = m11 then 2 else if z = m31 then 1 else 0
section
variable {pa pb : List (Int × Int)} {key z : Int}
theorem sgA_eq : plantSig 5 1 (shTu pa) = sgA pa := by rfl
theorem make_Tu : gMake (lfNd pb) (sgA pa) = (m02, sgB pa pb m21) := by rfl
theorem swap_Tu : gSwapWay m31 0 m21 m02 (sgB pa pb m21) = (1, sgB pa pb m02) := by rfl
theorem ok_B : Ok (sgB pa pb z).ar := by
  refine ⟨by simp [sgB], fun p hp => ?_, by simp [sgB], by simp [sgB]⟩
  simp only [sgB, List.mem_cons, List.not_mem_nil, or_false] at hp
  rcases hp with rfl | rfl | rfl | rfl
  · show (2 : Nat) ≤ 1000000; omega
  · show (1 : Nat) ≤ 1000000; omega
  · show (1 : Nat) ≤ 1000000; omega
  · show (1 : Nat) ≤ 1000000; omega
theorem ok_A : Ok (sgA pa).ar := by
  refine ⟨by simp [sgA], fun p hp => ?_, by simp [sgA], by simp [sgA]⟩
  simp only [sgA, List.mem_cons, List.not_mem_nil, or_false] at hp
  rcases hp with rfl | rfl | rfl | rfl
  · show (1 : Nat) ≤ 1000000; omega
  · show (1 : Nat) ≤ 1000000; omega
  · show (1 : Nat) ≤ 1000000; omega
  · show (1 : Nat) ≤ 1000000; omega
theorem fit_B : Fit (sgB pa pb z) :=
  ⟨ok_B, fun i hi => (by cases hi), by show (0 : Int) ≤ 0 ∧ (0 : Int) ≤ 1000000; omega, by show (1 : Nat) ≤ 64; omega, fun x hx => (by
    obtain rfl : x = (-1, []) := by simpa [sgB] using hx
    exact in01.2.2), fun x hx => (by
    obtain rfl : x = (-1, []) := by simpa [sgB] using hx
    exact ⟨by simp, fun p hp => by cases hp⟩), ⟨by simp [sgB], fun p hp => (by
    simp only [sgB, List.mem_cons, List.not_mem_nil, or_false] at hp
    rcases hp with rfl | rfl | rfl | rfl <;> exact in01.1)⟩⟩
theorem nds_Tu (ha : pa.length ≤ 100) (hb : pb.length ≤ 100) : NdsOk (ndsTu pa pb) := by
  intro x hx
  simp only [ndsTu, List.mem_cons, List.not_mem_nil, or_false] at hx
  rcases hx with rfl | rfl | rfl | rfl
  · exact ⟨by unfold Nd.small entryNd; simp, asc_nil⟩
  · exact ⟨by unfold Nd.small rtNd; simp, asc_nil⟩
  · exact ⟨⟨ha, by simp, by simp⟩, asc_nil⟩
  · exact ⟨⟨hb, by simp, by simp⟩, asc_nil⟩
theorem ski_Tu (hz : z = m21 ∨ z = m02) : SkI (ndsTu pa pb) rkTu 1 5 (sgB pa pb z) := by
  refine ⟨⟨fun x hx => ?_, fun x hx => (by cases hx), Nat.zero_le _, fun p hp y hy => ?_, ok_B.len, ok_B.cnt⟩, rfl, fun x hx hi => ?_⟩
  · simp only [ndsTu, List.mem_cons, List.not_mem_nil, or_false] at hx
    rcases hx with rfl | rfl | rfl | rfl
    · exact ⟨1, enPa, hit_mkN (p := enPa) rfl rfl (by omega) rfl, rfl⟩
    · exact ⟨3, rtPa z, hit_mkN (p := rtPa z) rfl rfl (by omega) rfl, rfl⟩
    · exact ⟨2, _, hit_mkN (i := 2) (p := ⟨true, 1, lfNd pa, [], 0, false⟩) rfl rfl (by omega) rfl, rfl⟩
    · exact ⟨0, _, hit_mkN (i := 0) (p := ⟨true, 2, lfNd pb, [], 0, false⟩) rfl rfl (by omega) rfl, rfl⟩
  · simp only [sgB, List.mem_cons, List.not_mem_nil, or_false] at hp
    have r1 := mk_range 3 1
    have r2 := mk_range 2 1
    have r3 := mk_range 0 2
    rcases hp with rfl | rfl | rfl | rfl
    · cases hy
    · obtain rfl : y = m31 := by simpa [enPa] using hy
      unfold in64; unfold m31; omega
    · cases hy
    · obtain rfl : y = z := by simpa [rtPa] using hy
      rcases hz with rfl | rfl
      · unfold in64; unfold m21; omega
      · unfold in64; unfold m02; omega
  · simp only [ndsTu, List.mem_cons, List.not_mem_nil, or_false] at hx
    rcases hx with rfl | rfl | rfl | rfl
    · refine ⟨1, enPa, hit_mkN (p := enPa) rfl rfl (by omega) rfl, rfl, Nat.le_refl _, fun y hy => ?_⟩
      obtain rfl : y = m31 := by simpa [enPa] using hy
      exact ⟨rfl, by decide⟩
    · refine ⟨3, rtPa z, hit_mkN (p := rtPa z) rfl rfl (by omega) rfl, rfl, Nat.le_refl _, fun y hy => ?_⟩
      obtain rfl : y = z := by simpa [rtPa] using hy
      rcases hz with rfl | rfl
      · exact ⟨rfl, by decide⟩
      · exact ⟨rfl, by decide⟩
    · cases hi
    · cases hi
abbrev st1 : Sp := ⟨m11, entryNd, 0⟩
abbrev st2 : Sp := ⟨m31, rtNd, 0⟩
theorem step1_Tu : nxT (.run (tW (ndsTu pa pb) rkTu key 3 m11 [])) (sgB pa pb m21) = (.run (tW (ndsTu pa pb) rkTu key 2 m31 [st1]), sgB pa pb m21) := by rfl
theorem step2_Tu : nxT (.run (tW (ndsTu pa pb) rkTu key 2 m31 [st1])) (sgB pa pb m21) = (.fin (flatS [st1, st2, ⟨m21, lfNd pa, 0⟩]), sgB pa pb m21) := by rfl
theorem path_Tu : pathS (ndsTu pa pb) key (sgB pa pb m02) 2 m31 = [st2, ⟨m02, lfNd pb, 0⟩] := by rfl
theorem sto1_Tu : stO (.run (tW (ndsTu pa pb) rkTu key 3 m11 [])) (sgB pa pb m21) := ⟨Le.refl _, trivial⟩
theorem sto2_Tu : stO (.run (tW (ndsTu pa pb) rkTu key 2 m31 [st1])) (sgB pa pb m21) := ⟨Le.refl _, trivial⟩
theorem ok1_Tu : Ok1 (ndsTu pa pb) rkTu 2 m11 := ⟨rfl, by decide⟩
theorem ok2_Tu : Ok1 (ndsTu pa pb) rkTu 1 m31 := ⟨rfl, by decide⟩
theorem flat_Tu {z : Int} : flatS [st1, st2, ⟨z, lfNd pa, 0⟩] = [m11, 0, 0, m31, 0, 0, z, 0, -1 - (pa.length : Int)] := by rfl
end
end Go.Proofs.Ytmnldlhpiapalaa
