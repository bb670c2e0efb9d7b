/-
  What the document's arena's Alloc returns: its places.
-/
import Derived.Test.YtbalhjfkkigchaaDoc2
import Derived.Deep.Cut
namespace Go.Proofs.Ytbalhjfkkigchaa
open Go.ChangeShapes Go.WideShapes Go.ChangeAt Go.RowKit
set_option linter.unusedVariables false
set_option linter.unusedSimpArgs false
set_option maxRecDepth 20000

theorem Ar.mono {d : Bool} {F G : Nat → Prop} {w : World} {a : Nat} {S : As} {l : List (Pa × Vs)} {P Q : Value} (h : Ar d F w a S l P Q) (hs : ∀ b, F b → G b) (hl : ∀ b, G b → b < w.heap.size) : Ar d G w a S l P Q :=
  ⟨hl, h.head, hs a h.fa, h.pls, h.row, fun b e => hs b (h.frow b e), h.que, fun b e => hs b (h.fque b e), fun x hx => (h.mem x hx).mono hs, h.sep⟩
theorem Qu.of_row {w : World} {v : Value} {fr : List Nat} {base : Nat} (h : Row 3 base w v ([] ++ fr.map Int.ofNat)) : Qu w v fr := by
  have h2 := own_lower h (Nat.zero_le base)
  apply Qu.of_own
  simp only [List.nil_append, List.length_map] at h2
  have e : ints (fr.map Int.ofNat) = fr.map fun (z : Nat) => Value.int .i64 (z : Int) := by simp [ints]
  rw [e] at h2
  exact h2
/-- The first of those freed is taken out. -/
theorem Ar.popD {F : Nat → Prop} {w w1 w' : World} {a : Nat} {S : As} {l : List (Pa × Vs)} {P Q v' : Value} {fr : List Nat} {g : Nat} (h : Ar true F w a S l P Q) (h1 : w.alloc (.cells #[] 3) = w1) (hg : w.heap.size = g) (hr : Row 3 w.heap.size w' v' ([] ++ fr.map Int.ofNat)) (hgr : w1.grownBy w' (some g)) :
    w'.cell? ⟨a, 1, none⟩ = some Q ∧ w'.frozen? ⟨a, 1, none⟩ = false ∧ Ar true (fun b => F b ∨ v'.ownBlock = some b) (w'.setCell ⟨a, 1, none⟩ v') a { S with fr := fr } l P v' ∧ Only F w (w'.setCell ⟨a, 1, none⟩ v') ∧ (∀ b, v'.ownBlock = some b → w.heap.size ≤ b) := by
  subst hg
  have hb : Below w.heap.size w w' := by rw [← h1] at hgr; exact (below_new w _).grown hgr (by simp) (fun b e => by injection e with e; omega)
  have hA := h.below hb
  have hlt := World.ownsRow.lt hr
  have hA2 := hA.mono (G := fun b => F b ∨ v'.ownBlock = some b) (fun b e => .inl e) (fun b e => e.elim (hA.lt b) fun e => (hlt b e).2)
  refine ⟨hA.head1.2.1, hA.free 1, ?_, (Only.of_below F hb).then (Only.set F w' (p := ⟨a, 1, none⟩) h.fa _), fun b e => (hlt b e).1⟩
  exact hA2.setHead 1 _ (m := S.most) (f := S.flt) (P' := P) (Q' := v') (fr := fr) rfl rfl (Qu.of_row hr) (fun b e => .inr e)

/-- A place, written with a node's new rows. -/
theorem alloc_endD {F1 : Nat → Prop} {a : Nat} {S : As} {l : List (Pa × Vs)} {Q : Value} {Y : World} {g c i B B4 : Nat} {p : Pa} {v : Vs} {pv kv zv wv : Value} {ps : List (Int × Int)} {ks zs : List Int} (h : Ar true F1 Y a S l (.slice (some ⟨g, 0, none⟩) l.length c) Q) (hx : l[i]? = some (p, v)) (hFB : ∀ b, F1 b → b < B)
    (r1 : Prs B Y pv ps) (r2 : Row 2 B Y kv ks) (r3 : Row 46 B Y zv zs) (r4 : Row 46 B4 Y wv zs) (hB4 : B ≤ B4) (hfar : ∀ b, zv.ownBlock = some b → b < B4)
    (hps : ps.length ≤ 100) (hks : ks.length ≤ 100) (hzs : zs.length ≤ 100) (x y : Bool) (k : Nat) :
    ∃ W : World, ((((((((((Y.setCell ⟨g, i * 10, none⟩ (.int .i64 ((k : Int) + 1))).setCell ⟨g, i * 10 + 1, none⟩ (.bool true)).setCell ⟨g, i * 10 + 2, none⟩ (.bool x)).setCell ⟨g, i * 10 + 3, none⟩ (.bool y)).setCell ⟨g, i * 10 + 4, none⟩ pv).setCell ⟨g, i * 10 + 5, none⟩ kv).setCell ⟨g, i * 10 + 6, none⟩ zv).setCell ⟨g, i * 10 + 7, none⟩ wv).setCell ⟨g, i * 10 + 8, none⟩ (.int .i64 0)).setCell ⟨g, i * 10 + 9, none⟩ (.bool false)) = W ∧
      Ar true (fun b => F1 b ∨ (Vs.mk pv kv zv wv).at b) W a { S with pls := S.pls.set i ⟨true, k + 1, ⟨x, y, ps, ks, zs⟩, zs, 0, false⟩ } (l.set i (⟨true, k + 1, ⟨x, y, ps, ks, zs⟩, zs, 0, false⟩, ⟨pv, kv, zv, wv⟩)) (.slice (some ⟨g, 0, none⟩) l.length c) Q ∧ Only F1 Y W ∧ ∀ b, (F1 b ∨ (Vs.mk pv kv zv wv).at b) → F1 b ∨ B ≤ b := by
  have hg := grown_ten Y g (i * 10) (.int .i64 ((k : Int) + 1)) (.bool true) (.bool x) (.bool y) pv kv zv wv (.int .i64 0) (.bool false)
  have hr := own_ten (y := ((⟨true, k + 1, ⟨x, y, ps, ks, zs⟩, zs, 0, false⟩ : Pa), (⟨pv, kv, zv, wv⟩ : Vs))) h.row hx (.int .i64 ((k : Int) + 1)) (.bool true) (.bool x) (.bool y) pv kv zv wv (.int .i64 0) (.bool false) (by simp [cellsOf])
  have q4 := World.ownsRow.lt r4
  have q3 := World.ownsRow.lt r3
  have hnew : ∀ b, (Vs.mk pv kv zv wv).at b → B ≤ b ∧ b < Y.heap.size := by
    rintro b (e | e | e | e)
    · exact World.ownsRow.lt r1 b e
    · exact World.ownsRow.lt r2 b e
    · exact q3 b e
    · have := q4 b e; omega
  refine ⟨_, rfl, ?_, Only.grown F1 hg (fun b e => by injection e with e; subst e; exact h.frow g rfl), fun b e => e.imp id fun e => (hnew b e).1⟩
  refine h.setPl hx hr hg (fun _ hb => .inl hb) (fun b e => e.elim (h.lt b) fun e => (hnew b e).2) ⟨r1.lower (Nat.zero_le _), r2.lower (Nat.zero_le _), r3.lower (Nat.zero_le _), r4.lower (Nat.zero_le _), fun b e => .inr e, ⟨hps, hks, hzs⟩, hzs⟩ (fun b e => .inr ⟨fun hF => ?_, fun e2 => ?_⟩) (fun b e => .inr fun hF => ?_)
  · have := (q4 b e).1; have := hFB b hF; omega
  · have := (q4 b e).1; have := hfar b e2; omega
  · have := (q3 b e).1; have := hFB b hF; omega

section
variable {F : Nat → Prop} {w : World} {a : Nat} {S : As} {l : List (Pa × Vs)} {P Q : Value}

set_option maxHeartbeats 2000000 in
theorem allocD_full (h : Ar true F w a S l P Q) (hok : Ok S) (hno : (S.most : Int) ≤ ((usedN S.pls : Nat) : Int)) (x y : Bool) (pv kv zv : Value) :
    Calls Try.prog 31 #[ptr a, ndv x y pv kv zv] w fun e w' => e = .returned (.int .i64 0) ∧ Below w.heap.size w w' := by
  obtain ⟨W, b0, hW, hb0, hbW, h5⟩ := boxedA w x y pv kv zv
  have hA := Lib.hid (h.below hbW)
  obtain ⟨c0, c1, c2, c3⟩ := hA.out.head1
  have HF : Hid (∀ w', Below W.heap.size W w' → w'.cell? ⟨a, 2, none⟩ = some (.int .i64 (S.most : Int))) := fun w' h => below_read h c2
  clear h
  have hl1 := hok.len
  go_enter Try.func31, Try.ntmps31
  go_wp2_with fail
  (try rw [hW]); (try rw [hb0]); clear hW hb0
  go_region_held3 (fun w' => w'.cell? ⟨a, 2, none⟩ = some (.int .i64 (S.most : Int))) (first | (refine HF.out _ ?_; go_grown; done) | go_keep) (first
    | (go_at_call 15; refine (usedD_walk (hA.out.below (by go_grown)) hl1).mono ?_; rintro e w1 ⟨rfl, hb1⟩
       have p1 : Below W.heap.size W w1 := Below.trans (by go_grown) (hb1.mono (by first | (simp; done) | (simp; omega) | omega | go_size))
       have q1 := p1.size
       clear hb1))
  all_goals go_wp2
  all_goals go_ret
  all_goals exact ⟨rfl, hbW.trans (Below.mono (by first | exact p1 | exact p1.drew | exact below_drewN p1 _) hbW.size)⟩

set_option maxHeartbeats 8000000 in
theorem allocD_old (h : Ar true F w a S l P Q) (hok : Ok S) (hroom : ((usedN S.pls : Nat) : Int) < (S.most : Int)) (hcase : ∃ i fr, S.fr = i :: fr) (k : Nat) (hk : ∃ pa, S.next.2.pls[S.next.1]? = some pa ∧ pa.cnt = k) (hkb : k ≤ 1000000)
    (x y : Bool) (A B C : Option Addr) (n c m d p q : Nat) (ps : List (Int × Int)) (ks zs : List Int) (hp : Lp w A n c ps) (hkk : Sl w B m d ks) (hzz : Sl w C p q zs) (hps : ps.length ≤ 100) (hks : ks.length ≤ 100) (hzs : zs.length ≤ 100) (hnF : ∀ ad : Addr, A = some ad ∨ B = some ad ∨ C = some ad → ¬ F ad.block) :
    Calls Try.prog 31 #[ptr a, ndv x y (.slice A n c) (.slice B m d) (.slice C p q)] w fun e w' => e = .returned (.int .i64 (mk S.next.1 ((k + 1 : Nat) : Int))) ∧ Nx true F w a (S.alloc (k + 1) ⟨x, y, ps, ks, zs⟩) w' := by
  have hge : ¬ ((S.most : Int) ≤ ((usedN S.pls : Nat) : Int)) := by omega
  obtain ⟨W, b0, hW, hb0, hbW, h5⟩ := boxedA w x y (.slice A n c) (.slice B m d) (.slice C p q)
  have hA := Lib.hid (h.below hbW)
  have hlA := h.lenP
  obtain ⟨c0, c1, c2, c3⟩ := hA.out.head1
  have HF : Hid (∀ w', Below W.heap.size W w' → w'.cell? ⟨a, 2, none⟩ = some (.int .i64 (S.most : Int))) := fun w' h => below_read h c2
  have HL : Hid (∀ b, F b → b < w.heap.size) := h.lt
  have Hp := Lib.hid hp
  have Hk := Lib.hid hkk
  have Hz := Lib.hid hzz
  have HNF := Lib.hid hnF
  clear h hp hkk hzz hnF
  have hl1 := hok.len
  have hl3 : l.length ≤ 70000 := by omega
  have HLA := Lib.hid hlA
  have HK := Lib.hid hk
  clear hk hlA
  go_enter Try.func31, Try.ntmps31
  go_wp2_with fail
  (try rw [hW]); (try rw [hb0])
  have hb0w := Lib.hid hb0
  clear hW hb0
  go_region_held3 (fun w' => w'.cell? ⟨a, 2, none⟩ = some (.int .i64 (S.most : Int))) (first | (refine HF.out _ ?_; go_grown; done) | go_keep) (first
    | (go_at_call 15; refine (usedD_walk (hA.out.below (by go_grown)) hl1).mono ?_; rintro e w1 ⟨rfl, hb1⟩
       have p1 : Below W.heap.size W w1 := Below.trans (by go_grown) (hb1.mono (by first | (simp; done) | (simp; omega) | omega | go_size))
       have q1 := p1.size
       clear hb1))
  have HA1 := Lib.hid (hA.out.below p1)
  have hal : a < w1.heap.size := HA1.out.lta
  obtain ⟨i, fr, hfr⟩ := hcase
  have hnx : S.next = (i, { S with fr := fr }) := by unfold As.next; rw [hfr]
  have HNX := Lib.hid hnx
  obtain ⟨d0, d1, d2, d3⟩ := HA1.out.head1
  have hq := HA1.out.que
  rw [hfr] at hq
  obtain ⟨QA, qn, qc, hQ, hqn, hsl⟩ := hq.form
  rw [hQ] at hq d1
  obtain ⟨QA', qc', hq2, hqb, hrun⟩ := hq.tail
  obtain ⟨qg, qoff, rfl, hqgl, hqcell⟩ := hsl.at_ (k := 0) (by simp)
  simp at hqcell
  obtain ⟨QA2, qn2, qc2, hq3, hqn2, hsl2⟩ := hq2.form
  injection hq3 with e1 e2 e3
  subst e1 e2 e3
  have HSL2 := Lib.hid hsl2
  have hn2 : qn = fr.length + 1 := by simpa using hqn
  subst hn2
  have HQ := Lib.hid hQ
  obtain ⟨PA, pc, hPP⟩ := HA1.out.shapeP
  rw [hPP] at d0
  have HPP := Lib.hid hPP
  have hfl : ([] : List Int).length + (fr.map Int.ofNat).length ≤ 100000 := by have := hok.fr; rw [hfr] at this; simp at this ⊢; omega
  have hp1' : (0 : Int) < (((fr.length + 1 : Nat)) : Int) := by omega
  have hp2' : (0 : Int) < ((fr.length : Int) + 1) := by omega
  clear hq hq2 hqb hsl hsl2 hqn hqn2 hQ hPP hnx hfr
  go_upto_region 8 with (at_builtin; refine pushN rowI (base := w1.heap.size) rfl (.tmp 32) (.tmp 37) rfl _ [] rfl (Row.of_block (h_new rfl) (Nat.le_refl _)) QA' fr.length qc' _ rfl (HSL2.out.below (below_new _ _)) hfl (by simp) ?_; intro v6 w6 hr6 hgr6; obtain ⟨V1, V2, V3, rfl⟩ := hr6.shape; obtain ⟨y1, z1, hA2, hO2, hb2⟩ := HA1.out.popD rfl rfl hr6 hgr6; have HA2 := Lib.hid hA2; have HO2 := Lib.hid hO2; have HB2 := Lib.hid hb2; have g0 := HA2.out.head1.1; rw [HPP.out] at g0; clear hr6 hgr6 hA2 hO2 hb2)
  obtain ⟨X, hX, hA2, hO2, hF2⟩ : ∃ X : World, w6.setCell ⟨a, 1, none⟩ (.slice V1 V2 V3) = X ∧ Ar true (fun b => F b ∨ (Value.slice V1 V2 V3).ownBlock = some b) X a S.next.2 l P (.slice V1 V2 V3) ∧ Only F w1 X ∧ ∀ b, (F b ∨ (Value.slice V1 V2 V3).ownBlock = some b) → F b ∨ w1.heap.size ≤ b := ⟨_, rfl, by rw [HNX.out]; exact HA2.out, HO2.out, fun b e => e.imp id (HB2.out b)⟩
  rw [hX]
  have HI : Hid (S.next.1 = i) := by show _ = _; rw [HNX.out]
  clear hX HA2 HO2 HB2 HNX g0 y1 z1 HSL2 hrun hqcell hp1' hp2' d0 d1 d2 d3
  have hlt2 : l.length ≤ 70000 := hl3
  generalize hFF : (fun b => F b ∨ (Value.slice V1 V2 V3).ownBlock = some b) = F2 at *
  have hF3 : ∀ b, F2 b → F b ∨ w1.heap.size ≤ b := by rw [← hFF]; exact hF2
  clear hFF hF2
  generalize hll2 : l = l2 at hA2 hlt2
  generalize hPP2 : P = P2 at hA2
  generalize hQQ2 : (Value.slice V1 V2 V3) = Q2 at hA2
  clear hll2 hPP2 hQQ2
  obtain ⟨pa, hpa, hcnt⟩ := HK.out
  rw [HI.out] at hpa
  obtain ⟨⟨p', v⟩, hx, hp'⟩ := hA2.at_ hpa
  simp only at hp'
  subst hp'
  obtain ⟨d0, d1, d2, d3⟩ := hA2.head1
  obtain ⟨g, c', rfl, hgX, hFg, hil, e0, e1, e2, e3, e4, e5, e6, e7, e8, e9, hz⟩ := hA2.cells1 hx
  simp only at e0 e1 e2 e3 e4 e5 e6 e7 e8 e9
  have hFb : ∀ b, F b → b ≠ b0 := fun b hF e => by have h1 := HL.out b hF; have h2 := hb0w.out; omega
  have hb0l : b0 < w1.heap.size := Nat.lt_of_lt_of_le h5.lt q1
  have h5X : Five X b0 x y (.slice A n c) (.slice B m d) (.slice C p q) := (hO2.block b0 hb0l (fun hF => hFb b0 hF rfl)).trans (h5.below p1)
  have hnb0 : ¬ F2 b0 := fun hF => by rcases hF3 b0 hF with h | h; exact hFb b0 h rfl; omega
  have hOw : Hid (Only F w X) := (Only.of_below F (hbW.trans (p1.mono hbW.size))).then hO2
  have hs1 : w.heap.size ≤ w1.heap.size := Nat.le_trans hbW.size q1
  have hF4 : Hid (∀ b, F2 b → F b ∨ w.heap.size ≤ b) := fun b e => (hF3 b e).imp id fun e => Nat.le_trans hs1 e
  have hKb : ∀ b, b < w.heap.size → ¬ F b → X.heap[b]? = w.heap[b]? := fun b hb hF => hOw.out.block b hb hF
  have KP : Hid (Lp X A n c ps) := Hp.out.keepAt fun ad e hl => hKb _ hl (HNF.out ad (.inl e))
  have KK : Hid (Sl X B m d ks) := Hk.out.keepAt fun ad e hl => hKb _ hl (HNF.out ad (.inr (.inl e)))
  have KZ : Hid (Sl X C p q zs) := Hz.out.keepAt fun ad e hl => hKb _ hl (HNF.out ad (.inr (.inr e)))
  rw [hcnt] at e0
  obtain ⟨b1, b2, b3, b4, b5⟩ := h5X.cells
  have hwr : IntKind.i64.wrap ((k : Int) + 1) = (k : Int) + 1 := IntWalk.i64_in _ (by omega)
  have hwr2 : IntKind.u32.wrap ((k : Int) + 1) = (k : Int) + 1 := by simp only [IntKind.wrap_u32]; omega
  have HS : Hid (S.alloc (k + 1) ⟨x, y, ps, ks, zs⟩ = { S.next.2 with pls := S.next.2.pls.set S.next.1 ⟨true, k + 1, ⟨x, y, ps, ks, zs⟩, zs, 0, false⟩ }) := rfl
  rw [HI.out] at HS
  generalize hS2 : S.next.2 = S2 at *
  clear hS2
  have i0 : (0 : Int) ≤ (i : Int) := by omega
  have i1 : (i : Int) < (l2.length : Int) := by omega
  have H2 := Lib.hid hA2
  have hFX := Lib.hid hA2.lt
  have HEX := Lib.hid hx
  clear hpa HK HA1 hO2 hF3 d1 d2 d3 hcnt hFb hKb hA2 hx
  go_wp2_with fail
  refine (copyNode_walk x y A B C n c m d p q ps ks zs X KP.out KK.out KZ.out hps hks hzs).mono ?_
  rintro e wc ⟨v1, v2, v3, rfl, r1, r2, r3, bc⟩
  obtain ⟨F1, N1, f1, rfl⟩ := r1.shape
  obtain ⟨F2', N2, f2, rfl⟩ := r2.shape
  obtain ⟨F3, N3, f3, rfl⟩ := r3.shape
  have c5 := h5X.below bc
  have hb0X := h5X.lt
  obtain ⟨y1, y2, y3, y4, y5⟩ := c5.cells
  have z0 := c5.free 0
  have z1 := c5.free 1
  have z2 := c5.free 2
  have z3 := c5.free 3
  have z4 := c5.free 4
  obtain ⟨Y, hY, u5, hOY, hYs, s1, s2, s3⟩ : ∃ Y : World, (((((wc.setCell ⟨b0, 0, none⟩ (.bool x)).setCell ⟨b0, 1, none⟩ (.bool y)).setCell ⟨b0, 2, none⟩ (.slice F1 N1 f1)).setCell ⟨b0, 3, none⟩ (.slice F2' N2 f2)).setCell ⟨b0, 4, none⟩ (.slice F3 N3 f3)) = Y ∧ Five Y b0 x y (.slice F1 N1 f1) (.slice F2' N2 f2) (.slice F3 N3 f3) ∧ Only (fun b => b = b0) wc Y ∧ wc.heap.size ≤ Y.heap.size ∧ Prs X.heap.size Y (.slice F1 N1 f1) ps ∧ Row 2 X.heap.size Y (.slice F2' N2 f2) ks ∧ Row 46 X.heap.size Y (.slice F3 N3 f3) zs :=
    ⟨_, rfl, five_put c5, ((((Only.set (fun b => b = b0) wc (p := ⟨b0, 0, none⟩) rfl _).then (Only.set (fun b => b = b0) _ (p := ⟨b0, 1, none⟩) rfl _)).then (Only.set (fun b => b = b0) _ (p := ⟨b0, 2, none⟩) rfl _)).then (Only.set (fun b => b = b0) _ (p := ⟨b0, 3, none⟩) rfl _)).then (Only.set (fun b => b = b0) _ (p := ⟨b0, 4, none⟩) rfl _), by simp, ((((r1.set_below (p := ⟨b0, 0, none⟩) hb0X _).set_below (p := ⟨b0, 1, none⟩) hb0X _).set_below (p := ⟨b0, 2, none⟩) hb0X _).set_below (p := ⟨b0, 3, none⟩) hb0X _).set_below (p := ⟨b0, 4, none⟩) hb0X _, ((((r2.set_below (p := ⟨b0, 0, none⟩) hb0X _).set_below (p := ⟨b0, 1, none⟩) hb0X _).set_below (p := ⟨b0, 2, none⟩) hb0X _).set_below (p := ⟨b0, 3, none⟩) hb0X _).set_below (p := ⟨b0, 4, none⟩) hb0X _, ((((r3.set_below (p := ⟨b0, 0, none⟩) hb0X _).set_below (p := ⟨b0, 1, none⟩) hb0X _).set_below (p := ⟨b0, 2, none⟩) hb0X _).set_below (p := ⟨b0, 3, none⟩) hb0X _).set_below (p := ⟨b0, 4, none⟩) hb0X _⟩
  have HAY := Lib.hid ((H2.out.below bc).only hOY (fun b hF e => hnb0 (e ▸ hF)))
  have HOY : Hid (Only F w Y) := (hOw.out.then (Only.of_below F bc)).trans hOY (fun b e => .inr (by have := hb0w.out; omega))
  have HYY := Lib.hid hY
  clear hY r1 r2 r3 c5 hOY e0 e1 e2 e3 e4 e5 e6 e7 e8 e9 hz b1 b2 b3 b4 b5
  go_wp2_with fail
  rw [HYY.out]
  clear y1 y2 y3 y4 y5 z0 z1 z2 z3 z4 HYY
  obtain ⟨b1, b2, b3, b4, b5⟩ := u5.cells
  have d0 := HAY.out.head1.1
  obtain ⟨g9, c9, hP9, hgY, _, _, e0, e1, e2, e3, e4, e5, e6, e7, e8, e9, hz⟩ := HAY.out.cells1 HEX.out
  injection hP9 with hP9 _ hP9c
  injection hP9 with hP9
  injection hP9 with hP9
  subst hP9 hP9c
  simp only at e0 e1 e2 e3 e4 e5 e6 e7 e8 e9
  have HC : Hid (∀ w', Below Y.heap.size Y w' → (w'.cell? ⟨a, 0, none⟩ = some (.slice (some ⟨g, 0, none⟩) l2.length c') ∧ w'.cell? ⟨b0, 0, none⟩ = some (.bool x) ∧ w'.cell? ⟨b0, 1, none⟩ = some (.bool y) ∧ w'.cell? ⟨b0, 2, none⟩ = some (.slice F1 N1 f1) ∧ w'.cell? ⟨b0, 3, none⟩ = some (.slice F2' N2 f2) ∧ w'.cell? ⟨b0, 4, none⟩ = some (.slice F3 N3 f3))) :=
    fun w' h => ⟨below_read h d0, below_read h b1, below_read h b2, below_read h b3, below_read h b4, below_read h b5⟩
  have HSL := Lib.hid s3.sl
  have hzl : ([] : List Int).length + zs.length ≤ 100000 := by simp; omega
  refine region_T 14 (fun w' => w'.cell? ⟨a, 0, none⟩ = some (.slice (some ⟨g, 0, none⟩) l2.length c') ∧ w'.cell? ⟨b0, 0, none⟩ = some (.bool x) ∧ w'.cell? ⟨b0, 1, none⟩ = some (.bool y) ∧ w'.cell? ⟨b0, 2, none⟩ = some (.slice F1 N1 f1) ∧ w'.cell? ⟨b0, 3, none⟩ = some (.slice F2' N2 f2) ∧ w'.cell? ⟨b0, 4, none⟩ = some (.slice F3 N3 f3)) (by kernel_rfl) ?_
  obtain ⟨X0, hX0, hbX0⟩ : ∃ X0 : World, Y.drew = X0 ∧ Below Y.heap.size Y X0 := ⟨_, rfl, (Below.refl _ Y).drew⟩
  rw [hX0]
  clear hX0
  have hC := HC.out X0 hbX0
  refine takeT (i := 0) (v := ?_) rfl (by kernel_rfl) (by kernel_rfl) (by kernel_rfl) (by kernel_rfl) (fun _ _ _ h => h) hC (by rfl) ?_ ?_
  rotate_left
  · intro w hSw; (try dsimp only at hSw); go_simp; try (with_reducible rfl)
  try simp only [Act.put, List.setIfInBounds_toArray, List.set_cons_zero, List.set_cons_succ]
  refine takeT (i := 1) (v := ?_) rfl (by kernel_rfl) (by kernel_rfl) (by kernel_rfl) (by kernel_rfl) (fun _ _ _ h => h) hC (by rfl) ?_ ?_
  rotate_left
  · intro w hSw; (try dsimp only at hSw); go_simp; try (with_reducible rfl)
  try simp only [Act.put, List.setIfInBounds_toArray, List.set_cons_zero, List.set_cons_succ]
  refine takeT (i := 2) (v := ?_) rfl (by kernel_rfl) (by kernel_rfl) (by kernel_rfl) (by kernel_rfl) (fun _ _ _ h => h) hC (by rfl) ?_ ?_
  rotate_left
  · intro w hSw; (try dsimp only at hSw); go_simp; try (with_reducible rfl)
  try simp only [Act.put, List.setIfInBounds_toArray, List.set_cons_zero, List.set_cons_succ]
  refine takeT (i := 3) (v := ?_) rfl (by kernel_rfl) (by kernel_rfl) (by kernel_rfl) (by kernel_rfl) (fun _ _ _ h => h) hC (by rfl) ?_ ?_
  rotate_left
  · intro w hSw; (try dsimp only at hSw); go_simp; try (with_reducible rfl)
  try simp only [Act.put, List.setIfInBounds_toArray, List.set_cons_zero, List.set_cons_succ]
  refine takeT (i := 4) (v := ?_) rfl (by kernel_rfl) (by kernel_rfl) (by kernel_rfl) (by kernel_rfl) (fun _ _ _ h => h) hC (by rfl) ?_ ?_
  rotate_left
  · intro w hSw; (try dsimp only at hSw); go_simp; try (with_reducible rfl)
  try simp only [Act.put, List.setIfInBounds_toArray, List.set_cons_zero, List.set_cons_succ]
  refine takeT (i := 5) (v := ?_) rfl (by kernel_rfl) (by kernel_rfl) (by kernel_rfl) (by kernel_rfl) (fun _ _ _ h => h) hC (by rfl) ?_ ?_
  rotate_left
  · intro w hSw; (try dsimp only at hSw); go_simp; try (with_reducible rfl)
  try simp only [Act.put, List.setIfInBounds_toArray, List.set_cons_zero, List.set_cons_succ]
  refine takeT (i := 6) (v := ?_) rfl (by kernel_rfl) (by kernel_rfl) (by kernel_rfl) (by kernel_rfl) (fun _ _ _ h => h) hC (by rfl) ?_ ?_
  rotate_left
  · intro w hSw; (try dsimp only at hSw); go_simp; try (with_reducible rfl)
  try simp only [Act.put, List.setIfInBounds_toArray, List.set_cons_zero, List.set_cons_succ]
  refine takeT (i := 8) (v := ?_) rfl (by kernel_rfl) (by kernel_rfl) (by kernel_rfl) (by kernel_rfl) (fun _ _ _ h => h) hC (by rfl) ?_ ?_
  rotate_left
  · intro w hSw; (try dsimp only at hSw); go_simp; try (with_reducible rfl)
  try simp only [Act.put, List.setIfInBounds_toArray, List.set_cons_zero, List.set_cons_succ]
  refine takeT (i := 9) (v := ?_) rfl (by kernel_rfl) (by kernel_rfl) (by kernel_rfl) (by kernel_rfl) (fun _ _ _ h => h) hC (by rfl) ?_ ?_
  rotate_left
  · intro w hSw; (try dsimp only at hSw); go_simp; try (with_reducible rfl)
  try simp only [Act.put, List.setIfInBounds_toArray, List.set_cons_zero, List.set_cons_succ]
  refine takeT (i := 10) (v := ?_) rfl (by kernel_rfl) (by kernel_rfl) (by kernel_rfl) (by kernel_rfl) (fun _ _ _ h => h) hC (by rfl) ?_ ?_
  rotate_left
  · intro w hSw; (try dsimp only at hSw); go_simp; try (with_reducible rfl)
  try simp only [Act.put, List.setIfInBounds_toArray, List.set_cons_zero, List.set_cons_succ]
  clear hC
  refine oneT (i := 7) (by kernel_rfl) rfl (by rfl) (fun K hK => ?_)
  go_simp
  obtain ⟨X1, gw, hX1, hgw, hb1', hblk⟩ : ∃ (X1 : World) (gw : Nat), X0.alloc (.cells #[] 46) = X1 ∧ X0.heap.size = gw ∧ Below X0.heap.size X0 X1 ∧ X1.heap[gw]? = some (.cells #[] 46 (0, 0)) := ⟨_, _, rfl, rfl, below_new _ _, heap_alloc_new X0 _⟩
  rw [hX1, hgw]
  have hbX1 := hbX0.trans (hb1'.mono hbX0.size)
  refine hK.out _ _ (fun _ => HC.out X1 hbX1) ?_
  clear hK K hX1
  try simp only [Act.put, List.setIfInBounds_toArray, List.set_cons_zero, List.set_cons_succ]
  obtain ⟨v4, X2, hr4, hrow4, hgr4⟩ := run_pushAll rowR (base := gw) (w := X1) 0 (.slice (some ⟨gw, 0, none⟩) 0 0) [] (Row.of_block hblk (Nat.le_refl _)) F3 N3 f3 zs (HSL.out.below hbX1) hzl (by have := hb1'.size; omega)
  have hr4' : ∀ ty, (Builtin.append_ #[29, 29] ty #[.slice (some ⟨gw, 0, none⟩) 0 0, .slice F3 N3 f3]).run Try.prog X1 = .ok v4 X2 := fun ty => hr4
  obtain ⟨F4, N4, f4, rfl⟩ := hrow4.shape
  have hgwY : Y.heap.size ≤ gw := by have := hbX0.size; omega
  have hbX2 : Below Y.heap.size Y X2 := hbX1.grown hgr4 hbX1.size (fun b e => by injection e with e; subst e; exact hgwY)
  refine oneT (i := 11) (by kernel_rfl) rfl (by rfl) (fun K hK => ?_)
  refine Lib.wp_append_run (P := Try.prog) X1 (.tmp 69) (.tmp 72) 29 29 rfl (.slice (some ⟨gw, 0, none⟩) 0 0) (.slice F3 N3 f3) rfl rfl _ X2 (hr4' _) ?_
  refine hK.out _ _ (fun _ => HC.out X2 hbX2) ?_
  clear hK K
  try simp only [Act.put, List.setIfInBounds_toArray, List.set_cons_zero, List.set_cons_succ]
  have hC := HC.out X2 hbX2
  refine oneT (i := 12) (by kernel_rfl) rfl (by rfl) (fun K hK => ?_)
  go_simp
  refine hK.out _ _ (fun _ => hC) ?_
  clear hK K
  try simp only [Act.put, List.setIfInBounds_toArray, List.set_cons_zero, List.set_cons_succ]
  refine oneT (i := 13) (by kernel_rfl) rfl (by rfl) (fun K hK => ?_)
  go_simp
  refine hK.out _ _ (fun _ => hC) ?_
  clear hK K
  try simp only [Act.put, List.setIfInBounds_toArray, List.set_cons_zero, List.set_cons_succ]
  obtain ⟨Z, hZ, hAZ, hOZ, hGZ⟩ := alloc_endD (HAY.out.below hbX2) HEX.out (B := X.heap.size) (B4 := gw) hFX.out (s1.next hbX2) (s2.next hbX2) (s3.next hbX2) (by simpa using hrow4) (by have := bc.size; omega) (fun b e => by have := (World.ownsRow.lt s3 b e).2; omega) hps hks hzs x y k
  have HZ := Lib.hid hZ
  clear hZ
  have j0 := below_read hbX2 e0
  have t0 := (hbX2.frozen (p := ⟨g, i * 10, none⟩) hgY).trans (hz (i * 10))
  have j1 := below_read hbX2 e1
  have t1 := (hbX2.frozen (p := ⟨g, i * 10 + 1, none⟩) hgY).trans (hz (i * 10 + 1))
  have j2 := below_read hbX2 e2
  have t2 := (hbX2.frozen (p := ⟨g, i * 10 + 2, none⟩) hgY).trans (hz (i * 10 + 2))
  have j3 := below_read hbX2 e3
  have t3 := (hbX2.frozen (p := ⟨g, i * 10 + 3, none⟩) hgY).trans (hz (i * 10 + 3))
  have j4 := below_read hbX2 e4
  have t4 := (hbX2.frozen (p := ⟨g, i * 10 + 4, none⟩) hgY).trans (hz (i * 10 + 4))
  have j5 := below_read hbX2 e5
  have t5 := (hbX2.frozen (p := ⟨g, i * 10 + 5, none⟩) hgY).trans (hz (i * 10 + 5))
  have j6 := below_read hbX2 e6
  have t6 := (hbX2.frozen (p := ⟨g, i * 10 + 6, none⟩) hgY).trans (hz (i * 10 + 6))
  have j7 := below_read hbX2 e7
  have t7 := (hbX2.frozen (p := ⟨g, i * 10 + 7, none⟩) hgY).trans (hz (i * 10 + 7))
  have j8 := below_read hbX2 e8
  have t8 := (hbX2.frozen (p := ⟨g, i * 10 + 8, none⟩) hgY).trans (hz (i * 10 + 8))
  have j9 := below_read hbX2 e9
  have t9 := (hbX2.frozen (p := ⟨g, i * 10 + 9, none⟩) hgY).trans (hz (i * 10 + 9))
  refine oneT (i := 14) (by kernel_rfl) rfl (by rfl) (fun K hK => ?_)
  go_simp
  refine hK.out _ _ (fun h => absurd rfl h) ?_
  clear hK K
  refine doneT (by kernel_rfl) ?_
  rw [HZ.out]
  have HN : Hid (Nx true F w a (S.alloc (k + 1) ⟨x, y, ps, ks, zs⟩) Z) := by
    refine ⟨_, ⟨_, _, _, by rw [HS.out]; exact hAZ⟩, (HOY.out.then (Only.of_below F hbX2)).trans hOZ hF4.out, fun b e => ?_⟩
    rcases hGZ b e with h | h
    · exact hF4.out b h
    · exact .inr (Nat.le_trans hOw.out.size h)
  clear hAZ hOZ hGZ hC HAY j0 t0 e0 j1 t1 e1 j2 t2 e2 j3 t3 e3 j4 t4 e4 j5 t5 e5 j6 t6 e6 j7 t7 e7 j8 t8 e8 j9 t9 e9 hz hrow4 hgr4 hr4 hr4' s1 s2 s3 b1 b2 b3 b4 b5 d0 u5
  go_wp2_with fail
  refine (refOf_walk i ((k : Int) + 1) (by omega) _).mono ?_
  rintro e w' ⟨rfl, rfl⟩
  go_wp2
  go_ret
  refine ⟨?_, HN.out⟩
  rw [HI.out]
  exact ret_int (by rw [show ((k + 1 : Nat) : Int) = (k : Int) + 1 from by omega])

set_option maxHeartbeats 8000000 in
theorem allocD_new (h : Ar true F w a S l P Q) (hok : Ok S) (hroom : ((usedN S.pls : Nat) : Int) < (S.most : Int)) (hcase : S.fr = []) (k : Nat) (hk : ∃ pa, S.next.2.pls[S.next.1]? = some pa ∧ pa.cnt = k) (hkb : k ≤ 1000000)
    (x y : Bool) (A B C : Option Addr) (n c m d p q : Nat) (ps : List (Int × Int)) (ks zs : List Int) (hp : Lp w A n c ps) (hkk : Sl w B m d ks) (hzz : Sl w C p q zs) (hps : ps.length ≤ 100) (hks : ks.length ≤ 100) (hzs : zs.length ≤ 100) (hnF : ∀ ad : Addr, A = some ad ∨ B = some ad ∨ C = some ad → ¬ F ad.block) :
    Calls Try.prog 31 #[ptr a, ndv x y (.slice A n c) (.slice B m d) (.slice C p q)] w fun e w' => e = .returned (.int .i64 (mk S.next.1 ((k + 1 : Nat) : Int))) ∧ Nx true F w a (S.alloc (k + 1) ⟨x, y, ps, ks, zs⟩) w' := by
  have hge : ¬ ((S.most : Int) ≤ ((usedN S.pls : Nat) : Int)) := by omega
  obtain ⟨W, b0, hW, hb0, hbW, h5⟩ := boxedA w x y (.slice A n c) (.slice B m d) (.slice C p q)
  have hA := Lib.hid (h.below hbW)
  have hlA := h.lenP
  obtain ⟨c0, c1, c2, c3⟩ := hA.out.head1
  have HF : Hid (∀ w', Below W.heap.size W w' → w'.cell? ⟨a, 2, none⟩ = some (.int .i64 (S.most : Int))) := fun w' h => below_read h c2
  have HL : Hid (∀ b, F b → b < w.heap.size) := h.lt
  have Hp := Lib.hid hp
  have Hk := Lib.hid hkk
  have Hz := Lib.hid hzz
  have HNF := Lib.hid hnF
  clear h hp hkk hzz hnF
  have hl1 := hok.len
  have hl3 : l.length ≤ 70000 := by omega
  have HLA := Lib.hid hlA
  have HK := Lib.hid hk
  clear hk hlA
  go_enter Try.func31, Try.ntmps31
  go_wp2_with fail
  (try rw [hW]); (try rw [hb0])
  have hb0w := Lib.hid hb0
  clear hW hb0
  go_region_held3 (fun w' => w'.cell? ⟨a, 2, none⟩ = some (.int .i64 (S.most : Int))) (first | (refine HF.out _ ?_; go_grown; done) | go_keep) (first
    | (go_at_call 15; refine (usedD_walk (hA.out.below (by go_grown)) hl1).mono ?_; rintro e w1 ⟨rfl, hb1⟩
       have p1 : Below W.heap.size W w1 := Below.trans (by go_grown) (hb1.mono (by first | (simp; done) | (simp; omega) | omega | go_size))
       have q1 := p1.size
       clear hb1))
  have HA1 := Lib.hid (hA.out.below p1)
  have hal : a < w1.heap.size := HA1.out.lta
  have hnx : S.next = (S.pls.length, { S with pls := S.pls ++ [Pa.nil] }) := by unfold As.next; rw [hcase]
  have HNX := Lib.hid hnx
  obtain ⟨d0, d1, d2, d3⟩ := HA1.out.head1
  have hq := HA1.out.que
  rw [hcase] at hq
  obtain ⟨QA, qn, qc, hQ, hqn, -⟩ := hq.form
  obtain rfl : qn = 0 := by simpa using hqn
  rw [hQ] at d1
  obtain ⟨PA, pc, hPP⟩ := HA1.out.shapeP
  rw [hPP] at d0
  obtain ⟨W9, hW9, hbW9, hB9⟩ : ∃ W9 : World, w1.alloc (.cells #[.int .i64 0, .bool false, .bool false, .bool false, .slice none 0 0, .slice none 0 0, .slice none 0 0, .slice none 0 0, .int .i64 0, .bool false] 83) = W9 ∧ Below w1.heap.size w1 W9 ∧ W9.heap[w1.heap.size]? = some (.cells #[.int .i64 0, .bool false, .bool false, .bool false, .slice none 0 0, .slice none 0 0, .slice none 0 0, .slice none 0 0, .int .i64 0, .bool false] 83 (0, 0)) := ⟨_, rfl, below_new _ _, heap_alloc_new w1 _⟩
  obtain ⟨P', w', hr0, ⟨A1, c1', rfl⟩, hha, hA3, hO3, hb3⟩ := (HA1.out.below hbW9).runPl 0 w1.heap.size (cells_ten hB9) hl3
  have hhead : w'.heap[a]? = _ := hha.trans (HA1.out.below hbW9).head
  have y1 : w'.cell? ⟨a, 0, none⟩ = some P := by rw [cell_of_row w' a _ _ _ (0, 0) hhead]; rfl
  have y2 : w'.frozen? ⟨a, 0, none⟩ = false := frozen_of_row w' a 0 _ _ hhead
  rw [hPP] at hr0 y1
  have hr : ∀ ty, (Builtin.append_ #[41, 41] ty #[.slice PA l.length pc, .slice (some ⟨w1.heap.size, 0, none⟩) 1 1]).run Try.prog W9 = .ok (.slice A1 (l.length + 1) c1') w' := fun ty => hr0
  have HA3 := Lib.hid hA3
  have HO3 : Hid (Only F w1 (w'.setCell ⟨a, 0, none⟩ (.slice A1 (l.length + 1) c1'))) := (Only.of_below F hbW9).then hO3
  have HB3 : Hid (∀ b, (Value.slice A1 (l.length + 1) c1').ownBlock = some b → F b ∨ w1.heap.size ≤ b) := fun b e => (hb3 b e).imp id (fun e => Nat.le_trans hbW9.size e)
  have HLA2 := HLA
  clear hq hqn hQ hPP hnx hcase hr0 hha hA3 hO3 hb3 hhead
  go_upto_region 8 with (at_builtin; (first | rw [hW9] | skip); refine Lib.wpList_append_run _ rfl _ _ _ _ rfl _ _ rfl rfl _ _ (hr _) ?_)
  (try rw [hW9])
  obtain ⟨i, hi⟩ : ∃ i, l.length = i := ⟨_, rfl⟩
  rw [hi] at HO3 HA3 HB3 ⊢
  obtain ⟨X, hX, hA2, hO2, hF2⟩ : ∃ X : World, w'.setCell ⟨a, 0, none⟩ (.slice A1 (i + 1) c1') = X ∧ Ar true (fun b => F b ∨ (Value.slice A1 (i + 1) c1').ownBlock = some b) X a S.next.2 (l ++ [(Pa.nil, Vs.nil)]) (.slice A1 (i + 1) c1') Q ∧ Only F w1 X ∧ ∀ b, (F b ∨ (Value.slice A1 (i + 1) c1').ownBlock = some b) → F b ∨ w1.heap.size ≤ b := ⟨_, rfl, by rw [HNX.out]; exact HA3.out, HO3.out, fun b e => e.elim .inl (HB3.out b)⟩
  rw [hX]
  have HI : Hid (S.next.1 = i) := by show _ = _; rw [HNX.out]; simp only; rw [HLA.out, hi]
  have hlt2 : (l ++ [(Pa.nil, Vs.nil)]).length ≤ 70001 := by simp; omega
  clear hX HA3 HO3 HB3 HNX y1 y2 hr hW9 hbW9 hB9 d0 d1 d2 d3 hi
  generalize hFF : (fun b => F b ∨ (Value.slice A1 (i + 1) c1').ownBlock = some b) = F2 at *
  have hF3 : ∀ b, F2 b → F b ∨ w1.heap.size ≤ b := by rw [← hFF]; exact hF2
  clear hFF hF2
  generalize hll2 : l ++ [(Pa.nil, Vs.nil)] = l2 at hA2 hlt2
  generalize hPP2 : (Value.slice A1 (i + 1) c1') = P2 at hA2
  generalize hQQ2 : Q = Q2 at hA2
  clear hll2 hPP2 hQQ2
  obtain ⟨pa, hpa, hcnt⟩ := HK.out
  rw [HI.out] at hpa
  obtain ⟨⟨p', v⟩, hx, hp'⟩ := hA2.at_ hpa
  simp only at hp'
  subst hp'
  obtain ⟨d0, d1, d2, d3⟩ := hA2.head1
  obtain ⟨g, c', rfl, hgX, hFg, hil, e0, e1, e2, e3, e4, e5, e6, e7, e8, e9, hz⟩ := hA2.cells1 hx
  simp only at e0 e1 e2 e3 e4 e5 e6 e7 e8 e9
  have hFb : ∀ b, F b → b ≠ b0 := fun b hF e => by have h1 := HL.out b hF; have h2 := hb0w.out; omega
  have hb0l : b0 < w1.heap.size := Nat.lt_of_lt_of_le h5.lt q1
  have h5X : Five X b0 x y (.slice A n c) (.slice B m d) (.slice C p q) := (hO2.block b0 hb0l (fun hF => hFb b0 hF rfl)).trans (h5.below p1)
  have hnb0 : ¬ F2 b0 := fun hF => by rcases hF3 b0 hF with h | h; exact hFb b0 h rfl; omega
  have hOw : Hid (Only F w X) := (Only.of_below F (hbW.trans (p1.mono hbW.size))).then hO2
  have hs1 : w.heap.size ≤ w1.heap.size := Nat.le_trans hbW.size q1
  have hF4 : Hid (∀ b, F2 b → F b ∨ w.heap.size ≤ b) := fun b e => (hF3 b e).imp id fun e => Nat.le_trans hs1 e
  have hKb : ∀ b, b < w.heap.size → ¬ F b → X.heap[b]? = w.heap[b]? := fun b hb hF => hOw.out.block b hb hF
  have KP : Hid (Lp X A n c ps) := Hp.out.keepAt fun ad e hl => hKb _ hl (HNF.out ad (.inl e))
  have KK : Hid (Sl X B m d ks) := Hk.out.keepAt fun ad e hl => hKb _ hl (HNF.out ad (.inr (.inl e)))
  have KZ : Hid (Sl X C p q zs) := Hz.out.keepAt fun ad e hl => hKb _ hl (HNF.out ad (.inr (.inr e)))
  rw [hcnt] at e0
  obtain ⟨b1, b2, b3, b4, b5⟩ := h5X.cells
  have hwr : IntKind.i64.wrap ((k : Int) + 1) = (k : Int) + 1 := IntWalk.i64_in _ (by omega)
  have hwr2 : IntKind.u32.wrap ((k : Int) + 1) = (k : Int) + 1 := by simp only [IntKind.wrap_u32]; omega
  have HS : Hid (S.alloc (k + 1) ⟨x, y, ps, ks, zs⟩ = { S.next.2 with pls := S.next.2.pls.set S.next.1 ⟨true, k + 1, ⟨x, y, ps, ks, zs⟩, zs, 0, false⟩ }) := rfl
  rw [HI.out] at HS
  generalize hS2 : S.next.2 = S2 at *
  clear hS2
  have i0 : (0 : Int) ≤ (i : Int) := by omega
  have i1 : (i : Int) < (l2.length : Int) := by omega
  have H2 := Lib.hid hA2
  have hFX := Lib.hid hA2.lt
  have HEX := Lib.hid hx
  clear hpa HK HA1 hO2 hF3 d1 d2 d3 hcnt hFb hKb hA2 hx
  go_wp2_with fail
  refine (copyNode_walk x y A B C n c m d p q ps ks zs X KP.out KK.out KZ.out hps hks hzs).mono ?_
  rintro e wc ⟨v1, v2, v3, rfl, r1, r2, r3, bc⟩
  obtain ⟨F1, N1, f1, rfl⟩ := r1.shape
  obtain ⟨F2', N2, f2, rfl⟩ := r2.shape
  obtain ⟨F3, N3, f3, rfl⟩ := r3.shape
  have c5 := h5X.below bc
  have hb0X := h5X.lt
  obtain ⟨y1, y2, y3, y4, y5⟩ := c5.cells
  have z0 := c5.free 0
  have z1 := c5.free 1
  have z2 := c5.free 2
  have z3 := c5.free 3
  have z4 := c5.free 4
  obtain ⟨Y, hY, u5, hOY, hYs, s1, s2, s3⟩ : ∃ Y : World, (((((wc.setCell ⟨b0, 0, none⟩ (.bool x)).setCell ⟨b0, 1, none⟩ (.bool y)).setCell ⟨b0, 2, none⟩ (.slice F1 N1 f1)).setCell ⟨b0, 3, none⟩ (.slice F2' N2 f2)).setCell ⟨b0, 4, none⟩ (.slice F3 N3 f3)) = Y ∧ Five Y b0 x y (.slice F1 N1 f1) (.slice F2' N2 f2) (.slice F3 N3 f3) ∧ Only (fun b => b = b0) wc Y ∧ wc.heap.size ≤ Y.heap.size ∧ Prs X.heap.size Y (.slice F1 N1 f1) ps ∧ Row 2 X.heap.size Y (.slice F2' N2 f2) ks ∧ Row 46 X.heap.size Y (.slice F3 N3 f3) zs :=
    ⟨_, rfl, five_put c5, ((((Only.set (fun b => b = b0) wc (p := ⟨b0, 0, none⟩) rfl _).then (Only.set (fun b => b = b0) _ (p := ⟨b0, 1, none⟩) rfl _)).then (Only.set (fun b => b = b0) _ (p := ⟨b0, 2, none⟩) rfl _)).then (Only.set (fun b => b = b0) _ (p := ⟨b0, 3, none⟩) rfl _)).then (Only.set (fun b => b = b0) _ (p := ⟨b0, 4, none⟩) rfl _), by simp, ((((r1.set_below (p := ⟨b0, 0, none⟩) hb0X _).set_below (p := ⟨b0, 1, none⟩) hb0X _).set_below (p := ⟨b0, 2, none⟩) hb0X _).set_below (p := ⟨b0, 3, none⟩) hb0X _).set_below (p := ⟨b0, 4, none⟩) hb0X _, ((((r2.set_below (p := ⟨b0, 0, none⟩) hb0X _).set_below (p := ⟨b0, 1, none⟩) hb0X _).set_below (p := ⟨b0, 2, none⟩) hb0X _).set_below (p := ⟨b0, 3, none⟩) hb0X _).set_below (p := ⟨b0, 4, none⟩) hb0X _, ((((r3.set_below (p := ⟨b0, 0, none⟩) hb0X _).set_below (p := ⟨b0, 1, none⟩) hb0X _).set_below (p := ⟨b0, 2, none⟩) hb0X _).set_below (p := ⟨b0, 3, none⟩) hb0X _).set_below (p := ⟨b0, 4, none⟩) hb0X _⟩
  have HAY := Lib.hid ((H2.out.below bc).only hOY (fun b hF e => hnb0 (e ▸ hF)))
  have HOY : Hid (Only F w Y) := (hOw.out.then (Only.of_below F bc)).trans hOY (fun b e => .inr (by have := hb0w.out; omega))
  have HYY := Lib.hid hY
  clear hY r1 r2 r3 c5 hOY e0 e1 e2 e3 e4 e5 e6 e7 e8 e9 hz b1 b2 b3 b4 b5
  go_wp2_with fail
  rw [HYY.out]
  clear y1 y2 y3 y4 y5 z0 z1 z2 z3 z4 HYY
  obtain ⟨b1, b2, b3, b4, b5⟩ := u5.cells
  have d0 := HAY.out.head1.1
  obtain ⟨g9, c9, hP9, hgY, _, _, e0, e1, e2, e3, e4, e5, e6, e7, e8, e9, hz⟩ := HAY.out.cells1 HEX.out
  injection hP9 with hP9 _ hP9c
  injection hP9 with hP9
  injection hP9 with hP9
  subst hP9 hP9c
  simp only at e0 e1 e2 e3 e4 e5 e6 e7 e8 e9
  have HC : Hid (∀ w', Below Y.heap.size Y w' → (w'.cell? ⟨a, 0, none⟩ = some (.slice (some ⟨g, 0, none⟩) l2.length c') ∧ w'.cell? ⟨b0, 0, none⟩ = some (.bool x) ∧ w'.cell? ⟨b0, 1, none⟩ = some (.bool y) ∧ w'.cell? ⟨b0, 2, none⟩ = some (.slice F1 N1 f1) ∧ w'.cell? ⟨b0, 3, none⟩ = some (.slice F2' N2 f2) ∧ w'.cell? ⟨b0, 4, none⟩ = some (.slice F3 N3 f3))) :=
    fun w' h => ⟨below_read h d0, below_read h b1, below_read h b2, below_read h b3, below_read h b4, below_read h b5⟩
  have HSL := Lib.hid s3.sl
  have hzl : ([] : List Int).length + zs.length ≤ 100000 := by simp; omega
  refine region_T 14 (fun w' => w'.cell? ⟨a, 0, none⟩ = some (.slice (some ⟨g, 0, none⟩) l2.length c') ∧ w'.cell? ⟨b0, 0, none⟩ = some (.bool x) ∧ w'.cell? ⟨b0, 1, none⟩ = some (.bool y) ∧ w'.cell? ⟨b0, 2, none⟩ = some (.slice F1 N1 f1) ∧ w'.cell? ⟨b0, 3, none⟩ = some (.slice F2' N2 f2) ∧ w'.cell? ⟨b0, 4, none⟩ = some (.slice F3 N3 f3)) (by kernel_rfl) ?_
  obtain ⟨X0, hX0, hbX0⟩ : ∃ X0 : World, Y.drew = X0 ∧ Below Y.heap.size Y X0 := ⟨_, rfl, (Below.refl _ Y).drew⟩
  rw [hX0]
  clear hX0
  have hC := HC.out X0 hbX0
  refine takeT (i := 0) (v := ?_) rfl (by kernel_rfl) (by kernel_rfl) (by kernel_rfl) (by kernel_rfl) (fun _ _ _ h => h) hC (by rfl) ?_ ?_
  rotate_left
  · intro w hSw; (try dsimp only at hSw); go_simp; try (with_reducible rfl)
  try simp only [Act.put, List.setIfInBounds_toArray, List.set_cons_zero, List.set_cons_succ]
  refine takeT (i := 1) (v := ?_) rfl (by kernel_rfl) (by kernel_rfl) (by kernel_rfl) (by kernel_rfl) (fun _ _ _ h => h) hC (by rfl) ?_ ?_
  rotate_left
  · intro w hSw; (try dsimp only at hSw); go_simp; try (with_reducible rfl)
  try simp only [Act.put, List.setIfInBounds_toArray, List.set_cons_zero, List.set_cons_succ]
  refine takeT (i := 2) (v := ?_) rfl (by kernel_rfl) (by kernel_rfl) (by kernel_rfl) (by kernel_rfl) (fun _ _ _ h => h) hC (by rfl) ?_ ?_
  rotate_left
  · intro w hSw; (try dsimp only at hSw); go_simp; try (with_reducible rfl)
  try simp only [Act.put, List.setIfInBounds_toArray, List.set_cons_zero, List.set_cons_succ]
  refine takeT (i := 3) (v := ?_) rfl (by kernel_rfl) (by kernel_rfl) (by kernel_rfl) (by kernel_rfl) (fun _ _ _ h => h) hC (by rfl) ?_ ?_
  rotate_left
  · intro w hSw; (try dsimp only at hSw); go_simp; try (with_reducible rfl)
  try simp only [Act.put, List.setIfInBounds_toArray, List.set_cons_zero, List.set_cons_succ]
  refine takeT (i := 4) (v := ?_) rfl (by kernel_rfl) (by kernel_rfl) (by kernel_rfl) (by kernel_rfl) (fun _ _ _ h => h) hC (by rfl) ?_ ?_
  rotate_left
  · intro w hSw; (try dsimp only at hSw); go_simp; try (with_reducible rfl)
  try simp only [Act.put, List.setIfInBounds_toArray, List.set_cons_zero, List.set_cons_succ]
  refine takeT (i := 5) (v := ?_) rfl (by kernel_rfl) (by kernel_rfl) (by kernel_rfl) (by kernel_rfl) (fun _ _ _ h => h) hC (by rfl) ?_ ?_
  rotate_left
  · intro w hSw; (try dsimp only at hSw); go_simp; try (with_reducible rfl)
  try simp only [Act.put, List.setIfInBounds_toArray, List.set_cons_zero, List.set_cons_succ]
  refine takeT (i := 6) (v := ?_) rfl (by kernel_rfl) (by kernel_rfl) (by kernel_rfl) (by kernel_rfl) (fun _ _ _ h => h) hC (by rfl) ?_ ?_
  rotate_left
  · intro w hSw; (try dsimp only at hSw); go_simp; try (with_reducible rfl)
  try simp only [Act.put, List.setIfInBounds_toArray, List.set_cons_zero, List.set_cons_succ]
  refine takeT (i := 8) (v := ?_) rfl (by kernel_rfl) (by kernel_rfl) (by kernel_rfl) (by kernel_rfl) (fun _ _ _ h => h) hC (by rfl) ?_ ?_
  rotate_left
  · intro w hSw; (try dsimp only at hSw); go_simp; try (with_reducible rfl)
  try simp only [Act.put, List.setIfInBounds_toArray, List.set_cons_zero, List.set_cons_succ]
  refine takeT (i := 9) (v := ?_) rfl (by kernel_rfl) (by kernel_rfl) (by kernel_rfl) (by kernel_rfl) (fun _ _ _ h => h) hC (by rfl) ?_ ?_
  rotate_left
  · intro w hSw; (try dsimp only at hSw); go_simp; try (with_reducible rfl)
  try simp only [Act.put, List.setIfInBounds_toArray, List.set_cons_zero, List.set_cons_succ]
  refine takeT (i := 10) (v := ?_) rfl (by kernel_rfl) (by kernel_rfl) (by kernel_rfl) (by kernel_rfl) (fun _ _ _ h => h) hC (by rfl) ?_ ?_
  rotate_left
  · intro w hSw; (try dsimp only at hSw); go_simp; try (with_reducible rfl)
  try simp only [Act.put, List.setIfInBounds_toArray, List.set_cons_zero, List.set_cons_succ]
  clear hC
  refine oneT (i := 7) (by kernel_rfl) rfl (by rfl) (fun K hK => ?_)
  go_simp
  obtain ⟨X1, gw, hX1, hgw, hb1', hblk⟩ : ∃ (X1 : World) (gw : Nat), X0.alloc (.cells #[] 46) = X1 ∧ X0.heap.size = gw ∧ Below X0.heap.size X0 X1 ∧ X1.heap[gw]? = some (.cells #[] 46 (0, 0)) := ⟨_, _, rfl, rfl, below_new _ _, heap_alloc_new X0 _⟩
  rw [hX1, hgw]
  have hbX1 := hbX0.trans (hb1'.mono hbX0.size)
  refine hK.out _ _ (fun _ => HC.out X1 hbX1) ?_
  clear hK K hX1
  try simp only [Act.put, List.setIfInBounds_toArray, List.set_cons_zero, List.set_cons_succ]
  obtain ⟨v4, X2, hr4, hrow4, hgr4⟩ := run_pushAll rowR (base := gw) (w := X1) 0 (.slice (some ⟨gw, 0, none⟩) 0 0) [] (Row.of_block hblk (Nat.le_refl _)) F3 N3 f3 zs (HSL.out.below hbX1) hzl (by have := hb1'.size; omega)
  have hr4' : ∀ ty, (Builtin.append_ #[29, 29] ty #[.slice (some ⟨gw, 0, none⟩) 0 0, .slice F3 N3 f3]).run Try.prog X1 = .ok v4 X2 := fun ty => hr4
  obtain ⟨F4, N4, f4, rfl⟩ := hrow4.shape
  have hgwY : Y.heap.size ≤ gw := by have := hbX0.size; omega
  have hbX2 : Below Y.heap.size Y X2 := hbX1.grown hgr4 hbX1.size (fun b e => by injection e with e; subst e; exact hgwY)
  refine oneT (i := 11) (by kernel_rfl) rfl (by rfl) (fun K hK => ?_)
  refine Lib.wp_append_run (P := Try.prog) X1 (.tmp 69) (.tmp 72) 29 29 rfl (.slice (some ⟨gw, 0, none⟩) 0 0) (.slice F3 N3 f3) rfl rfl _ X2 (hr4' _) ?_
  refine hK.out _ _ (fun _ => HC.out X2 hbX2) ?_
  clear hK K
  try simp only [Act.put, List.setIfInBounds_toArray, List.set_cons_zero, List.set_cons_succ]
  have hC := HC.out X2 hbX2
  refine oneT (i := 12) (by kernel_rfl) rfl (by rfl) (fun K hK => ?_)
  go_simp
  refine hK.out _ _ (fun _ => hC) ?_
  clear hK K
  try simp only [Act.put, List.setIfInBounds_toArray, List.set_cons_zero, List.set_cons_succ]
  refine oneT (i := 13) (by kernel_rfl) rfl (by rfl) (fun K hK => ?_)
  go_simp
  refine hK.out _ _ (fun _ => hC) ?_
  clear hK K
  try simp only [Act.put, List.setIfInBounds_toArray, List.set_cons_zero, List.set_cons_succ]
  obtain ⟨Z, hZ, hAZ, hOZ, hGZ⟩ := alloc_endD (HAY.out.below hbX2) HEX.out (B := X.heap.size) (B4 := gw) hFX.out (s1.next hbX2) (s2.next hbX2) (s3.next hbX2) (by simpa using hrow4) (by have := bc.size; omega) (fun b e => by have := (World.ownsRow.lt s3 b e).2; omega) hps hks hzs x y k
  have HZ := Lib.hid hZ
  clear hZ
  have j0 := below_read hbX2 e0
  have t0 := (hbX2.frozen (p := ⟨g, i * 10, none⟩) hgY).trans (hz (i * 10))
  have j1 := below_read hbX2 e1
  have t1 := (hbX2.frozen (p := ⟨g, i * 10 + 1, none⟩) hgY).trans (hz (i * 10 + 1))
  have j2 := below_read hbX2 e2
  have t2 := (hbX2.frozen (p := ⟨g, i * 10 + 2, none⟩) hgY).trans (hz (i * 10 + 2))
  have j3 := below_read hbX2 e3
  have t3 := (hbX2.frozen (p := ⟨g, i * 10 + 3, none⟩) hgY).trans (hz (i * 10 + 3))
  have j4 := below_read hbX2 e4
  have t4 := (hbX2.frozen (p := ⟨g, i * 10 + 4, none⟩) hgY).trans (hz (i * 10 + 4))
  have j5 := below_read hbX2 e5
  have t5 := (hbX2.frozen (p := ⟨g, i * 10 + 5, none⟩) hgY).trans (hz (i * 10 + 5))
  have j6 := below_read hbX2 e6
  have t6 := (hbX2.frozen (p := ⟨g, i * 10 + 6, none⟩) hgY).trans (hz (i * 10 + 6))
  have j7 := below_read hbX2 e7
  have t7 := (hbX2.frozen (p := ⟨g, i * 10 + 7, none⟩) hgY).trans (hz (i * 10 + 7))
  have j8 := below_read hbX2 e8
  have t8 := (hbX2.frozen (p := ⟨g, i * 10 + 8, none⟩) hgY).trans (hz (i * 10 + 8))
  have j9 := below_read hbX2 e9
  have t9 := (hbX2.frozen (p := ⟨g, i * 10 + 9, none⟩) hgY).trans (hz (i * 10 + 9))
  refine oneT (i := 14) (by kernel_rfl) rfl (by rfl) (fun K hK => ?_)
  go_simp
  refine hK.out _ _ (fun h => absurd rfl h) ?_
  clear hK K
  refine doneT (by kernel_rfl) ?_
  rw [HZ.out]
  have HN : Hid (Nx true F w a (S.alloc (k + 1) ⟨x, y, ps, ks, zs⟩) Z) := by
    refine ⟨_, ⟨_, _, _, by rw [HS.out]; exact hAZ⟩, (HOY.out.then (Only.of_below F hbX2)).trans hOZ hF4.out, fun b e => ?_⟩
    rcases hGZ b e with h | h
    · exact hF4.out b h
    · exact .inr (Nat.le_trans hOw.out.size h)
  clear hAZ hOZ hGZ hC HAY j0 t0 e0 j1 t1 e1 j2 t2 e2 j3 t3 e3 j4 t4 e4 j5 t5 e5 j6 t6 e6 j7 t7 e7 j8 t8 e8 j9 t9 e9 hz hrow4 hgr4 hr4 hr4' s1 s2 s3 b1 b2 b3 b4 b5 d0 u5
  go_wp2_with fail
  refine (refOf_walk i ((k : Int) + 1) (by omega) _).mono ?_
  rintro e w' ⟨rfl, rfl⟩
  go_wp2
  go_ret
  refine ⟨?_, HN.out⟩
  rw [HI.out]
  exact ret_int (by rw [show ((k + 1 : Nat) : Int) = (k : Int) + 1 from by omega])

theorem allocD_yes {nd : Nd} {lo : Nat} {v : Value} (h : Arn true F w a S) (hok : Ok S) (hroom : ((usedN S.pls : Nat) : Int) < (S.most : Int)) (k : Nat) (hk : ∃ pa, S.next.2.pls[S.next.1]? = some pa ∧ pa.cnt = k) (hkb : k ≤ 1000000) (hv : RdN lo w v nd) (hlo : ∀ b, F b → b < lo) (hs : nd.small) :
    Calls Try.prog 31 #[ptr a, v] w fun e w' => e = .returned (.int .i64 (mk S.next.1 ((k + 1 : Nat) : Int))) ∧ Nx true F w a (S.alloc (k + 1) nd) w' := by
  obtain ⟨A, c, B, d, C, q, rfl, h1, h2, h3, h4⟩ := hv
  obtain ⟨l, P, Q, h⟩ := h
  obtain ⟨x, y, ps, ks, zs⟩ := nd
  have hF : ∀ ad : Addr, A = some ad ∨ B = some ad ∨ C = some ad → ¬ F ad.block := fun ad e hF => by have := h4 ad e; have := hlo _ hF; omega
  cases hf : S.fr with
  | nil => exact allocD_new h hok hroom hf k hk hkb x y A B C _ c _ d _ q ps ks zs h1 h2 h3 hs.1 hs.2.1 hs.2.2 hF
  | cons i fr => exact allocD_old h hok hroom ⟨i, fr, hf⟩ k hk hkb x y A B C _ c _ d _ q ps ks zs h1 h2 h3 hs.1 hs.2.1 hs.2.2 hF
theorem allocD_not {nd : Nd} {lo : Nat} {v : Value} (h : Arn true F w a S) (hok : Ok S) (hno : (S.most : Int) ≤ ((usedN S.pls : Nat) : Int)) (hv : RdN lo w v nd) :
    Calls Try.prog 31 #[ptr a, v] w fun e w' => e = .returned (.int .i64 0) ∧ Below w.heap.size w w' := by
  obtain ⟨A, c, B, d, C, q, rfl, h1, h2, h3, h4⟩ := hv
  obtain ⟨l, P, Q, h⟩ := h
  exact allocD_full h hok hno _ _ _ _ _
end
end Go.Proofs.Ytbalhjfkkigchaa
