/-
  Law SeekTurns: its world, its Steps.
-/
import Derived.Test.YtmnldlhpiapalaaTu11
namespace Go.Proofs.Ytmnldlhpiapalaa
open Go.ChangeShapes Go.WideShapes Go.ChangeAt Go.RowKit
set_option linter.unusedVariables false
set_option linter.unusedSimpArgs false
set_option maxRecDepth 20000

section
variable {W : World} {X : Nat → Prop} {d : Wd} {n T i : Nat} {hs : Nat → Hp} {os : Nat → Ts} {s s' : Sig} {w w' : World}
/-- A Step. -/
theorem MB.stepW (h : MB W X d n T hs os s w) (hi : i < n) {o : Ts} (ho : os i = o) (hP : o.done = false → (hs i).P s ∧ Fit s) (hO : stO o s) (hT : T ≤ 440) :
    Calls Try.prog 59 #[ptr (hs i).a] w fun e w' => e = .returned (.bool (nxT o s).1.done) ∧ MB W X d n (T + 1) hs (upd os i (nxT o s).1) (nxT o s).2 w' := by
  subst ho
  refine (h.me.step hi hP hO hT).mono ?_
  rintro e w' ⟨rfl, k1, k2⟩
  exact ⟨rfl, h.kp k1 k2⟩
end
theorem prs_low {w : World} {PA : Option Addr} {na qa : Nat} {pa : List (Int × Int)} (hp : Prs 0 w (.slice PA na qa) pa) : ∀ ad, PA = some ad → ad.block < w.heap.size := by
  intro ad e
  subst e
  have hr : w.ownsRow 0 108 2 (.slice (some ad) na qa) pa.length (cellsP pa) := hp
  rcases hr.2 with ⟨e2, _⟩ | ⟨g2, cap, cur, e2, _⟩
  · cases e2
  · injection e2 with e3 e4 e5
    injection e3 with e3
    subst e3
    exact (World.ownsRow.lt hr g2 rfl).2
theorem shv_Tu {w : World} {PA : Option Addr} {na qa g : Nat} {pa : List (Int × Int)} (hp : Prs 0 w (.slice PA na qa) pa) (h : Shc w g (.bool true) (.bool false) (.slice PA na qa) (.slice none 0 0) (.slice none 0 0)) : ShV w.heap.size w (shTu pa) (shv false false (.slice none 0 0) (.slice none 0 0) (.slice (some ⟨g, 0, none⟩) 1 1)) := by
  have hc := h.cells
  have hg : g < w.heap.size := (Array.getElem?_eq_some_iff.1 h).1
  exact ⟨none, 0, 0, none, 0, 0, some ⟨g, 0, none⟩, 1, 1, rfl, Lp.nil _, fun ad e => (by cases e), Sl.nil _, fun ad e => (by cases e), rfl, Nat.le_refl _, .inr ⟨g, 0, rfl, hg, ⟨⟨_, _, _, _, _, hc.1, hc.2.1, hc.2.2.1, hc.2.2.2.1, hc.2.2.2.2, PA, na, qa, none, 0, 0, none, 0, 0, rfl, hp.lp, prs_low hp, Sl.nil _, fun ad e => (by cases e), rfl, Nat.le_refl _, .inl rfl⟩, trivial⟩⟩⟩
/-- The law's world, and what its calls come to. -/
def TuW (w : World) (pa : List (Int × Int)) (e : Ending) (w' : World) : Prop := ∃ d, e = .returned (ptr d.W) ∧ MB w (fun _ => False) d 0 0 h0 o0 (sgA pa) w' ∧ d.en = m11
theorem world_Tu {w : World} {PA : Option Addr} {na qa g : Nat} {pa : List (Int × Int)} (hl : pa.length ≤ 3) (hp : Prs 0 w (.slice PA na qa) pa) (h : Shc w g (.bool true) (.bool false) (.slice PA na qa) (.slice none 0 0) (.slice none 0 0)) :
    Calls Try.prog 40 #[.int .i64 2, .int .i64 3, .int .i64 1, shv false false (.slice none 0 0) (.slice none 0 0) (.slice (some ⟨g, 0, none⟩) 1 1), .int .i64 1, .int .i64 1] w (TuW w pa) := by
  have hm : (shTu pa).many = 2 := rfl
  have := world_walk (a := 2) (b := 3) (t := 1) (room := 1) (rec := 1) (s := shTu pa) ⟨by simp, by simp, by simp, ⟨by omega, by simp, by simp, trivial⟩, trivial⟩ (shv_Tu hp h) (Nat.le_refl _) (by omega) (by omega) (by omega) (by omega) (by rw [hm]; omega) (by omega)
  rw [hm] at this
  refine this.mono ?_
  rintro e w4 ⟨d, FW, rfl, k1, k2, k3, hen, hdm⟩
  have k1 : WS d FW w4 (plantSig 5 1 (shTu pa)) := k1
  rw [sgA_eq] at k1
  exact ⟨d, rfl, ⟨ME.none_ ⟨FW, k1, fun b e => ⟨by have := k3.size; rcases e with e | e; (· omega); (· exact e.elim), fun f => by have := k2 b f; rcases e with e | e; (· omega); (· exact e.elim)⟩⟩, k3⟩, hen⟩
theorem way_Tu {d : Wd} {w w4 : World} {pa : List (Int × Int)} (h : MB w (fun _ => False) d 0 0 h0 o0 (sgA pa) w4) : ∀ q, Calls Try.prog 21 #[ptr d.A, .int .i64 m11, .int .i64 0] (w4.drewN q) fun e w' => e = .returned (.int .i64 m31) ∧ ∃ t, w' = w4.drewN t := by
  obtain ⟨FW, k1⟩ := h.ws
  exact fun q => (nxW_way (i := 1) (p := enPa) (k1.below (below_drewN (Below.refl _ w4) q)) ok_A (hit_mkN (p := enPa) rfl rfl (by omega) rfl) 0).mono fun e w' ⟨h1, h2⟩ => ⟨h1, q, h2.symm⟩
theorem alloc_Tu {d : Wd} {V Y : World} {PB : Option Addr} {nb qb : Nat} {pa pb : List (Int × Int)} (h : MB V (fun _ => False) d 0 0 h0 o0 (sgA pa) Y) (hp : Prs 0 V (.slice PB nb qb) pb) (hl : pb.length ≤ 3) :
    Calls Try.prog 53 #[ptr d.A, ndv false false (.slice PB nb qb) (.slice none 0 0) (.slice none 0 0)] Y fun e w' => ∃ bb, e = .returned (.tuple #[.int .i64 m02, .bool bb]) ∧ MB V (fun _ => False) d 0 0 h0 o0 (sgB pa pb m21) w' := by
  obtain ⟨⟨FW, P, hMS⟩, hbl⟩ := h
  have hlow := prs_low hp
  have hnb : nb = pb.length := hp.lp.len
  have hpY : Lp Y PB nb qb pb := hp.lp.below hbl
  have hRd : RdF FW Y (ndv false false (.slice PB nb qb) (.slice none 0 0) (.slice none 0 0)) (lfNd pb) := by
    subst hnb
    refine ⟨PB, qb, none, 0, none, 0, rfl, hpY, Sl.nil _, Sl.nil _, ?_⟩
    rintro ad (f | f | f)
    · exact (hMS.rs ad.block (.inl (hlow ad f))).2
    · cases f
    · cases f
  have hfr : ∀ i ∈ (sgA pa).ar.fr, i < (sgA pa).ar.pls.length := by
    intro i hi
    obtain rfl : i = 0 := by simpa [sgA] using hi
    show 0 < 4
    omega
  refine (nxW_make hMS.ws ok_A hfr hRd ⟨by show pb.length ≤ 100; omega, by simp, by simp⟩).mono ?_
  rintro e w' ⟨b, rfl, hn⟩
  rw [make_Tu] at hn ⊢
  obtain ⟨k1, k2⟩ := hMS.nx hn (.inl rfl)
  exact ⟨b, rfl, k1, hbl.trans (kp_below (k2.mono fun b e => .inl e))⟩
/-- The law's thread, and what is left of it. -/
def TH (V : World) (d : Wd) (a : Nat) (pa pb : List (Int × Int)) (T : Nat) (o : Ts) (sg : Sig) (w : World) : Prop := ∃ X hs os, MB V X d 1 T hs os sg w ∧ os 0 = o ∧ (hs 0).a = a ∧ (hs 0).P = SkI (ndsTu pa pb) rkTu 1 5
section
variable {V w w' : World} {d : Wd} {a T : Nat} {pa pb : List (Int × Int)} {o : Ts} {sg : Sig} {key z : Int} {v : List Int}
theorem TH.bel (h : TH V d a pa pb T o sg w) : Below V.heap.size V w := by obtain ⟨X, hs, os, h, -⟩ := h; exact h.bel
theorem TH.below (h : TH V d a pa pb T o sg w) (hb : Below w.heap.size w w') : TH V d a pa pb T o sg w' := by obtain ⟨X, hs, os, h, h2⟩ := h; exact ⟨X, hs, os, h.below hb, h2⟩
theorem TH.cell (h : TH V d a pa pb T o sg w) : w.cell? ⟨d.W, 0, none⟩ = some (ptr d.A) := by obtain ⟨X, hs, os, h, -⟩ := h; exact h.cells.1
theorem walker_Tu (h : MB V (fun _ => False) d 0 0 h0 o0 (sgB pa pb m21) w) (hen : d.en = m11) (ha : pa.length ≤ 3) (hb : pb.length ≤ 3) :
    Calls Try.prog 42 #[ptr d.W, .int .i64 key] w fun e w' => ∃ a, e = .returned (ptr a) ∧ TH V d a pa pb 0 (.run (tW (ndsTu pa pb) rkTu key 3 m11 [])) (sgB pa pb m21) w' := by
  refine (h.walker (nds := ndsTu pa pb) (rk := rkTu) (M := 1) (mo := 5) (D := 2) (key := key) (nds_Tu (by omega) (by omega)) (by omega) (by omega) (by omega) (by rw [hen]; exact ok1_Tu)).mono ?_
  rintro e w' ⟨a, b, rfl, hM, -⟩
  rw [hen] at hM
  exact ⟨a, rfl, _, _, _, hM, upd_at .., by rw [upd_at], by rw [upd_at]⟩
theorem TH.step (h : TH V d a pa pb T o sg w) (hS : SkI (ndsTu pa pb) rkTu 1 5 sg) (hF : Fit sg) (hO : stO o sg) (hT : T ≤ 440) {o2 : Ts} {sg2 : Sig} (hn : nxT o sg = (o2, sg2)) :
    Calls Try.prog 59 #[ptr a] w fun e w' => e = .returned (.bool o2.done) ∧ TH V d a pa pb (T + 1) o2 sg2 w' := by
  obtain ⟨X, hs, os, h1, h2, h3, h4⟩ := h
  have := h1.stepW (i := 0) (by omega) h2 (fun _ => ⟨by rw [h4]; exact hS, hF⟩) hO hT
  rw [hn, h3] at this
  refine this.mono ?_
  rintro e w' ⟨rfl, k⟩
  exact ⟨rfl, X, hs, _, k, upd_at .., h3, h4⟩
theorem TH.step1 (h : TH V d a pa pb T (.run (tW (ndsTu pa pb) rkTu key 3 m11 [])) (sgB pa pb m21) w) (hT : T ≤ 440) :
    Calls Try.prog 59 #[ptr a] w fun e w' => e = .returned (.bool false) ∧ TH V d a pa pb (T + 1) (.run (tW (ndsTu pa pb) rkTu key 2 m31 [st1])) (sgB pa pb m21) w' := h.step (ski_Tu (.inl rfl)) fit_B sto1_Tu hT step1_Tu
theorem TH.step2 (h : TH V d a pa pb T (.run (tW (ndsTu pa pb) rkTu key 2 m31 [st1])) (sgB pa pb m21) w) (hT : T ≤ 440) :
    Calls Try.prog 59 #[ptr a] w fun e w' => e = .returned (.bool true) ∧ TH V d a pa pb (T + 1) (.fin [m11, 0, 0, m31, 0, 0, m21, 0, -1 - (pa.length : Int)]) (sgB pa pb m21) w' := by
  have := h.step (ski_Tu (.inl rfl)) fit_B sto2_Tu hT step2_Tu
  rw [flat_Tu] at this
  exact this
theorem TH.way (h : TH V d a pa pb T o (sgB pa pb m21) w) : Calls Try.prog 21 #[ptr d.A, .int .i64 m31, .int .i64 0] w fun e w' => e = .returned (.int .i64 m21) ∧ w = w' := by
  obtain ⟨X, hs, os, h, -⟩ := h
  obtain ⟨FW, k1⟩ := h.ws
  exact nxW_way (i := 3) (p := rtPa m21) k1 ok_B (hit_mkN (p := rtPa m21) rfl rfl (by omega) rfl) 0
theorem TH.swap (h : TH V d a pa pb T o (sgB pa pb m21) w) : Calls Try.prog 103 #[ptr d.A, .int .i64 m31, .int .i64 0, .int .i64 m21, .int .i64 m02] w fun e w' => e = .returned (boolV 1) ∧ TH V d a pa pb T o (sgB pa pb m02) w' := by
  obtain ⟨X, hs, os, h1, h2⟩ := h
  refine (h1.nx (s' := sgB pa pb m02) (v := boolV 1) (F := 103) (args := #[ptr d.A, .int .i64 m31, .int .i64 0, .int .i64 m21, .int .i64 m02]) (fun FW hW => ?_) (.inr (Le.rs rfl))).mono ?_
  · have := nxW_swapWay hW ok_B m31 0 m21 m02
    rw [swap_Tu] at this
    exact this
  · rintro e w' ⟨rfl, k⟩
    exact ⟨rfl, X, hs, os, k, h2⟩
theorem TH.alone (h : TH V d a pa pb T (.run (tW (ndsTu pa pb) rkTu key 2 m31 [st1])) (sgB pa pb m02) w) (hT : T ≤ 10) :
    Calls Try.prog 15 #[ptr a] w fun e w' => ∃ A q c kz, e = .returned (.tuple #[.slice A q c, .int .i64 kz, .bool true]) ∧ TH V d a pa pb (T + 5 + 1) (.fin [m11, 0, 0, m31, 0, 0, m02, 0, -1 - (pb.length : Int)]) (sgB pa pb m02) w' := by
  obtain ⟨X, hs, os, h1, h2, h3, h4⟩ := h
  have := h1.aloneW (i := 0) (K := flatS) (v := [m11, 0, 0, m31, 0, 0, m02, 0, -1 - (pb.length : Int)]) (k := 1) (N := 5) (kz := 1) (by omega) h2 h4 (ski_Tu (.inr rfl)) fit_B ok2_Tu (by rw [path_Tu]; exact flat_Tu) (by rw [path_Tu]; rfl) (by omega) (by omega) (by simp) rfl
  rw [h3] at this
  refine this.mono ?_
  rintro e w' ⟨A, q, c, rfl, -, k, -⟩
  exact ⟨A, q, c, _, rfl, X, hs, _, k, upd_at .., h3, h4⟩
theorem TH.aloneF (h : TH V d a pa pb T (.fin v) sg w) (hT : T ≤ 10) (hl : v.length ≤ 1000) :
    Calls Try.prog 15 #[ptr a] w fun e w' => ∃ A q c kz, e = .returned (.tuple #[.slice A q c, .int .i64 kz, .bool true]) ∧ TH V d a pa pb (T + 5 + 1) (.fin v) sg w' := by
  obtain ⟨X, hs, os, h1, h2, h3, h4⟩ := h
  have := h1.me.alone_fin (i := 0) (by omega) h2 hl (by omega)
  rw [h3] at this
  refine this.mono ?_
  rintro e w' ⟨A, q, c, rfl, -, k1, k2⟩
  exact ⟨A, q, c, _, rfl, X, hs, os, h1.kp (k1.later (by omega)) k2, h2, h3, h4⟩
theorem TH.out (h : TH V d a pa pb T (.fin v) sg w) (hl : v.length ≤ 1000) : Calls Try.prog 35 #[ptr a] w fun e w' => ∃ A m q, e = .returned (.slice A m q) ∧ Row 2 w.heap.size w' (.slice A m q) v ∧ Below w.heap.size w w' := by
  obtain ⟨X, hs, os, h1, h2, h3, h4⟩ := h
  have := h1.out (i := 0) (by omega) h2 hl
  rw [h3] at this
  exact this
end
end Go.Proofs.Ytmnldlhpiapalaa
