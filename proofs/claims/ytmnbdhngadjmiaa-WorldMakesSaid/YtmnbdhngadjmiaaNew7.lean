/-
  What epoch's New and Limbo return.
-/
import Derived.Test.YtmnbdhngadjmiaaWl7
import Derived.Deep.CutBlock
import Derived.Deep.DeepCutAuto
import Derived.Deep.LoopGhost
namespace Go.Proofs.Ytmnbdhngadjmiaa
open Go.ChangeShapes Go.WideShapes Go.ChangeAt Go.RowKit
set_option linter.unusedVariables false
set_option linter.unusedSimpArgs false
set_option maxRecDepth 20000

def mostOf (m : Int) : Nat := (min (max m 0) 64).toNat
theorem mostOf_le (m : Int) : mostOf m ≤ 64 := by unfold mostOf; omega
theorem mostOf_eq (m : Int) : min (max m 0) 64 = (mostOf m : Int) := by unfold mostOf; omega
/-- n threads, of which k have announced -1. -/
def ini (k n : Nat) : List (Tq × Value) := List.replicate k ((-1, []), .slice none 0 0) ++ List.replicate (n - k) ((0, []), .slice none 0 0)
theorem ini_length {k n : Nat} (h : k ≤ n) : (ini k n).length = n := by simp [ini]; omega
theorem ini_at {k n : Nat} (h : k < n) : (ini k n)[k]? = some ((0, []), .slice none 0 0) := by
  unfold ini
  rw [List.getElem?_append_right (by simp)]
  simp [List.getElem?_replicate]
  omega
theorem ini_set {k n : Nat} (h : k < n) : (ini k n).set k ((-1, []), .slice none 0 0) = ini (k + 1) n := by
  apply List.ext_getElem?
  intro j
  rw [List.getElem?_set]
  unfold ini
  by_cases hj : k = j
  · subst hj
    rw [if_pos rfl, if_pos (by simp; omega), List.getElem?_append_left (by simp)]
    simp [List.getElem?_replicate]
  · rw [if_neg hj]
    by_cases h1 : j < k
    · rw [List.getElem?_append_left (by simpa using h1), List.getElem?_append_left (by simp; omega)]
      rw [List.getElem?_replicate, List.getElem?_replicate, if_pos h1, if_pos (by omega)]
    · rw [List.getElem?_append_right (by simp; omega), List.getElem?_append_right (by simp; omega)]
      simp [List.getElem?_replicate]
      by_cases h2 : j < n
      · rw [if_pos (by omega), if_pos (by omega)]
      · rw [if_neg (by omega), if_neg (by omega)]
theorem ini_end (n : Nat) : (ini n n).map (·.1) = List.replicate n (-1, []) := by simp [ini]
theorem ini_nil {k n : Nat} : ∀ x ∈ ini k n, x.1.2 = [] ∧ x.2 = .slice none 0 0 := by
  intro x hx
  unfold ini at hx
  rw [List.mem_append, List.mem_replicate, List.mem_replicate] at hx
  rcases hx with ⟨_, rfl⟩ | ⟨_, rfl⟩ <;> exact ⟨rfl, rfl⟩
theorem cE_ini (n : Nat) : (madeCells #[.int .i64 0, .slice none 0 0] (n * 2)).toList = cE (ini 0 n) := by
  apply List.ext_getElem?
  intro j
  by_cases hj : j < n * 2
  · have hi : (ini 0 n)[j / 2]? = some ((0, []), .slice none 0 0) := by
      unfold ini
      simp [List.getElem?_replicate]
      omega
    obtain ⟨h0, h1⟩ := cE_at hi
    have e : (madeCells #[.int .i64 0, .slice none 0 0] (n * 2)).toList[j]? = some ((#[.int .i64 0, .slice none 0 0] : Array Value)[j % 2]!) := by
      simp [madeCells, hj]
    rw [e]
    obtain h2 | h2 : j % 2 = 0 ∨ j % 2 = 1 := by omega
    · rw [h2]
      have : j = j / 2 * 2 := by omega
      rw [this, h0]
      rfl
    · rw [h2]
      have : j = j / 2 * 2 + 1 := by omega
      rw [this, h1]
      rfl
  · rw [List.getElem?_eq_none (by rw [Array.length_toList, size_madeCells]; omega), List.getElem?_eq_none (by rw [cE_length, ini_length (by omega)]; omega)]
theorem one_info : (Try.prog.info? onT).map (fun i => (i.zero, i.size, i.bytes)) = some (some (.agg #[.int .i64 0, .slice none 0 0]), 2, 32) := by kernel_rfl
theorem one_under : Try.prog.underlying 94 = some (.slice onT) := Try.underlying94
theorem run_mk (n : Nat) (hn : n ≤ 64) (W : World) : (Instr.makeSlice 94 (.int .i64 (n : Int)) (.int .i64 (n : Int))).run Try.prog W = .ok (.slice (some ⟨W.heap.size, 0, none⟩) n n) (W.alloc (.cells (madeCells #[.int .i64 0, .slice none 0 0] (n * 2)) onT)) := by
  obtain ⟨i0, hi0, hz0, hz1, hz2⟩ := info_parts one_info
  have := run_make (P := Try.prog) W 94 onT i0 _ one_under hi0 hz0 .i64 .i64 (n : Int) (n : Int) (by omega) (Int.le_refl _) (by rw [hz2]; omega) (by omega)
  rw [hz1] at this
  rw [this]
  rfl
theorem ep_new (w : World) (n : Nat) (hn : n ≤ 64) : Ep (fun b => b = w.heap.size ∨ b = w.heap.size + 1) ((w.alloc (.cells (madeCells #[.int .i64 0, .slice none 0 0] (n * 2)) onT)).alloc (.cells #[.int .i64 0, .slice (some ⟨w.heap.size, 0, none⟩) n n] epT)) (w.heap.size + 1) 0 (ini 0 n) (.slice (some ⟨w.heap.size, 0, none⟩) n n) := by
  have h1 : (w.alloc (.cells (madeCells #[.int .i64 0, .slice none 0 0] (n * 2)) onT)).ownsRow 0 onT 2 (.slice (some ⟨w.heap.size, 0, none⟩) n n) n (madeCells #[.int .i64 0, .slice none 0 0] (n * 2)).toList := World.ownsRow_lit w _ n (Nat.zero_le _) (by unfold maxLen; omega) (size_madeCells _ _)
  refine ⟨fun b e => by simp; omega, h_new (by simp), .inr rfl, ?_, ?_, ?_, ?_, ?_⟩
  · rw [ini_length (by omega), ← cE_ini]
    exact own_at h1 fun b e => Below.heap_alloc _ _ b (World.ownsRow.lt h1 b e).2
  · intro b e; injection e with e; exact .inl e.symm
  · intro x hx
    obtain ⟨e1, e2⟩ := ini_nil x hx
    rw [e1, e2]; exact Qu.nil _ _
  · intro x hx b e
    obtain ⟨e1, e2⟩ := ini_nil x hx
    rw [e2] at e; cases e
  · intro i j x y g hi hj e
    obtain ⟨e1, e2⟩ := ini_nil x (List.mem_of_getElem? hi)
    rw [e2] at e; cases e

/-- New epochs of n threads. -/
def NewE (w : World) (n : Nat) (e : Ending) (w' : World) : Prop := ∃ a F, e = .returned (ptr a) ∧ EpS F w' a 0 (List.replicate n (-1, [])) ∧ (∀ b, F b → w.heap.size ≤ b) ∧ Below w.heap.size w w'
set_option maxHeartbeats 1000000 in
theorem epNew_walk (m : Int) (w : World) : Calls Try.prog 50 #[.int .i64 m] w (NewE w (mostOf m)) := by
  have hm := mostOf_eq m
  have hn := mostOf_le m
  generalize mostOf m = n at *
  have hmk := run_mk n hn
  obtain ⟨W, b, F, hW, hb, hF, hbW, hE⟩ : ∃ (W : World) (b : Nat) (F : Nat → Prop), (w.alloc (.cells (madeCells #[.int .i64 0, .slice none 0 0] (n * 2)) onT)).alloc (.cells #[.int .i64 0, .slice (some ⟨w.heap.size, 0, none⟩) n n] epT) = W ∧ w.heap.size + 1 = b ∧ (∀ b, F b → w.heap.size ≤ b) ∧ Below w.heap.size w W ∧ Ep F W b 0 (ini 0 n) (.slice (some ⟨w.heap.size, 0, none⟩) n n) :=
    ⟨_, _, _, rfl, rfl, fun b e => by rcases e with e | e <;> omega, ((Below.refl _ w).alloc (Nat.le_refl _) _).alloc (by simp) _, ep_new w n hn⟩
  obtain ⟨c0, c1⟩ := hE.cells
  have HE := Lib.hid hE
  have HF := Lib.hid hF
  have HB := Lib.hid hbW
  clear hE hF hbW c0
  obtain ⟨g, hg⟩ : ∃ g, w.heap.size = g := ⟨_, rfl⟩
  rw [hg] at hW HE c1 hb
  go_enter Try.func50, Try.ntmps50
  go_wp2_with fail
  clear hW hb hmk hm hg c1
  have HN := Lib.hid HB.out
  go_loopg [16] n (fun gk i wr => ∃ k : Nat, k + gk = n ∧ i = .int .i64 (k : Int) ∧ Hid (Ep F wr b 0 (ini k n) (.slice (some ⟨g, 0, none⟩) n n) ∧ Below w.heap.size w wr))
  case atStart => exact ⟨0, by omega, rfl, HE.out, HB.out⟩
  case round =>
    clear HE HB HN
    obtain ⟨k, hk, rfl, HH⟩ := hrel
    by_cases hlt : k < n
    case neg =>
      have i1 : ¬ ((k : Int) < (n : Int)) := by omega
      obtain rfl : k = n := by omega
      have HEND : Hid (NewE w k (.returned (ptr b)) wr) := ⟨b, F, rfl, ⟨_, _, HH.out.1, (ini_end k).symm⟩, HF.out, HH.out.2⟩
      clear HH HF
      go_wp2
      go_ret
      exact HEND.out
    have hx := ini_at hlt
    obtain ⟨c0, c1⟩ := HH.out.1.cells
    obtain ⟨-, d0, d1, hf⟩ := HH.out.1.atT hx
    have f0 := hf (k * 2)
    have h2 := HH.out.1.said hx (-1) (g := g) (c := n) (by rw [ini_length (by omega)])
    rw [ini_set hlt] at h2
    have H2 : Hid (Ep F (wr.setCell ⟨g, k * 2, none⟩ (.int .i64 (-1))) b 0 (ini (k + 1) n) (.slice (some ⟨g, 0, none⟩) n n) ∧ Below w.heap.size w (wr.setCell ⟨g, k * 2, none⟩ (.int .i64 (-1)))) := ⟨h2.1, HH.out.2.trans (h2.2.below HF.out HH.out.2.size)⟩
    have i0 : (0 : Int) ≤ (k : Int) := by omega
    have i1 : (k : Int) < (n : Int) := by omega
    have hkw : IntKind.i64.wrap ((k : Int) + 1) = (k : Int) + 1 := IntWalk.i64_in _ (by omega)
    clear HH hx h2 hf c0 d1
    go_wp2
    go_roundg (gk - 1)
    case measure => omega
    case rel => exact ⟨k + 1, by omega, by go_num, H2.out⟩
end Go.Proofs.Ytmnbdhngadjmiaa
