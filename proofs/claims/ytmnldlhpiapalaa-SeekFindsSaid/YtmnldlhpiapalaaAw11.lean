/-
  The laws' fixed fact: in a world that is new a key's way is the entry, and a leaf: one touch.
-/
import Derived.Test.YtmnldlhpiapalaaPk
import Derived.Test.YtmnldlhpiapalaaAw10
namespace Go.Proofs.Ytmnldlhpiapalaa
open Go.ChangeShapes Go.WideShapes Go.ChangeAt Go.RowKit
set_option linter.unusedVariables false
set_option linter.unusedSimpArgs false
set_option maxRecDepth 20000

def ndE : Nd := entryPa.nd
abbrev ndsB : List (Int × Nd) := [(mk 1 1, ndE), (mk 0 1, Nd.nil)]
def rkB (z : Int) : Nat := if z = mk 1 1 then 1 else 0
theorem asc_nil : Asc1 [] := List.Pairwise.nil
theorem ndsB_ok : NdsOk ndsB := by
  intro x hx
  simp only [List.mem_cons, List.not_mem_nil, or_false] at hx
  rcases hx with rfl | rfl
  · exact ⟨by unfold Nd.small ndE entryPa entryNd; simp, asc_nil⟩
  · exact ⟨by unfold Nd.small Nd.nil; simp, asc_nil⟩
theorem ski_new : SkI ndsB rkB 9 9 (newSig 9 1) := by
  refine ⟨⟨fun x hx => ?_, stt_new.rcs, stt_new.few, stt_new.win, stt_new.len, stt_new.cnt⟩, rfl, fun x hx hi => ?_⟩
  · simp only [List.mem_cons, List.not_mem_nil, or_false] at hx
    rcases hx with rfl | rfl
    · exact ⟨1, entryPa, rfl, rfl⟩
    · exact ⟨0, rootPa, rfl, rfl⟩
  · simp only [List.mem_cons, List.not_mem_nil, or_false] at hx
    rcases hx with rfl | rfl
    · refine ⟨1, entryPa, rfl, rfl, Nat.le_refl _, fun z hz => ?_⟩
      obtain rfl : z = mk 0 1 := by simpa [entryPa] using hz
      exact ⟨rfl, by decide⟩
    · cases hi
theorem path_new : pathS ndsB 7 (newSig 9 1) 2 (mk 1 1) = [⟨mk 1 1, ndE, 0⟩, ⟨mk 0 1, Nd.nil, 0⟩] := by rfl
theorem fit_new : Fit (newSig 9 1) := (inv_new 9 1 21 (by omega) (by omega) (by omega)).fit
set_option maxHeartbeats 4000000 in
theorem awake11_walk (w : World) : Calls Try.prog 36 #[] w fun e w' => e = .returned (.bool true) ∧ Below w.heap.size w w' := by
  have HN := Lib.hid (new_ok (a := 2) (b := 3) (t := 1) (n := 9) (r := 9) w (by omega) (by omega) (by omega) (by omega) (by omega))
  go_enter Try.func36, Try.ntmps36
  go_wp2_with fail
  refine HN.out.mono ?_
  intro e v1 hP
  have hP : NewW w 2 3 9 1 9 e v1 := hP
  obtain ⟨d, rfl, -, -, hen, hm, hO⟩ := Ow.new (Below.refl w.heap.size w) hP
  have HM : Hid (MB w (fun _ => False) d 0 0 h0 o0 (newSig 9 1) v1) := ⟨ME.none_ (hO.idle.mono fun b e => e.elim id fun e => e.elim), hO.below⟩
  have HEN := Lib.hid hen
  have hok : Ok1 ndsB rkB 1 d.en := by rw [hen]; exact ⟨rfl, by decide⟩
  have HL := Lib.hid (HM.out.walker (nds := ndsB) (rk := rkB) (M := 9) (mo := 9) (D := 1) (key := 7) ndsB_ok (by omega) (by omega) (by omega) hok)
  have HOK := Lib.hid hok
  clear HN hP hO hm hen hok
  go_wp2_with fail
  refine HL.out.mono ?_
  rintro e u1 ⟨a, b, rfl, hM1, hb1⟩
  have hp7 : pathS ndsB 7 (newSig 9 1) 2 d.en = [⟨mk 1 1, ndE, 0⟩, ⟨mk 0 1, Nd.nil, 0⟩] := by rw [HEN.out]; exact path_new
  have HA := Lib.hid (hM1.aloneW (i := 0) (N := 20) (K := flatS) (r := d.en) (f := 1) (acc := []) (key := 7) (v := [mk 1 1, 0, 0, mk 0 1, 0, -1]) (k := 1) (kz := 1) (by omega) (upd_at ..) (by rw [upd_at]) ski_new fit_new HOK.out (by rw [hp7]; rfl) (by rw [hp7]; rfl) (by omega) (by omega) (by simp) rfl)
  rw [upd_at] at HA
  clear HL hM1 hb1 HM hp7
  go_wp2_with fail
  refine HA.out.mono ?_
  rintro e u2 ⟨A, q, c, rfl, h1, h2, h3⟩
  have hs := h1.sl
  obtain rfl : q = 6 := hs.len
  obtain ⟨g, off, rfl, hg, hc0⟩ := hs.at_ (k := 0) (by simp)
  obtain ⟨g', off', hgo, hg', hc3⟩ := hs.at_ (k := 3) (by simp)
  injection hgo with hgo
  injection hgo with e1 e2
  subst e1 e2
  obtain ⟨g', off', hgo, hg', hc5⟩ := hs.at_ (k := 5) (by simp)
  injection hgo with hgo
  injection hgo with e1 e2
  subst e1 e2
  replace hc0 : u2.cell? ⟨g, off, none⟩ = some (.int .i64 (mk 1 1)) := hc0
  replace hc3 : u2.cell? ⟨g, off + 3, none⟩ = some (.int .i64 (mk 0 1)) := hc3
  replace hc5 : u2.cell? ⟨g, off + 5, none⟩ = some (.int .i64 (-1)) := hc5
  have hc6 : u2.cell? ⟨d.W, 5, none⟩ = some (.int .i64 (mk 1 1)) := by
    obtain ⟨FW, hws⟩ := h2.ws
    rw [hws.cells.2.2.2.2.2, HEN.out]
  have HE := Lib.hid h2.bel
  have HQ : Hid (∀ q, Calls Try.prog 52 #[.int .i64 0, .int .u32 1] (u2.drewN q) fun e w' => e = .returned (.int .i64 (mk 0 1)) ∧ ∃ t, w' = u2.drewN t) := fun q => (of_walk 0 1 (by omega) _).mono fun e w' ⟨h1, h2⟩ => ⟨h1, q, h2.symm⟩
  clear HA h1 h2 h3 hs hg hg'
  generalize mk 1 1 = x1 at *
  generalize mk 0 1 = x0 at *
  go_wp2_with fail
  go_quiet (first | (go_at_call 52; exact HQ.out _) | fail)
  go_wp2
  go_ret
  exact ⟨rfl, below_drewN HE.out _⟩
end Go.Proofs.Ytmnldlhpiapalaa
