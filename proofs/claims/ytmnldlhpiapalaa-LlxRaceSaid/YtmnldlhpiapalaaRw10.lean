/-
  LlxRace's work.
-/
import Derived.Test.YtmnldlhpiapalaaRc10
import Derived.Test.YtmnldlhpiapalaaSp11
namespace Go.Proofs.Ytmnldlhpiapalaa
open Go.ChangeShapes Go.WideShapes Go.ChangeAt Go.RowKit
set_option linter.unusedVariables false
set_option linter.unusedSimpArgs false
set_option maxRecDepth 20000

theorem goes_eq {l : List Sn} {x : Sn} {n : Nat} (h : l[0]? = some x) (hn : n = x.ws.length) : goesTo x.ws 0 200 n = goes0 l := by
  cases l with
  | nil => cases h
  | cons y l =>
    injection h with h; subst h; subst hn
    unfold goesTo goes0
    simp only [Int.toNat_zero]
    cases hw : y.ws with
    | nil => simp
    | cons a t => simp; rfl
theorem rets_loads2 (acc : List Sn) (l : List (Int × Nd)) : rets (fun x => x.2 = true → x.1.length = acc.length + l.length) (tLoads acc l) := by
  induction l generalizing acc with
  | nil => exact fun _ => rfl
  | cons x l ih =>
    refine rets_bind (rets_any _) fun y _ => ?_
    split
    · have := ih (acc ++ [y.1])
      rw [List.length_append, List.length_singleton, show acc.length + 1 + l.length = acc.length + (l.length + 1) from by omega] at this
      exact this
    · exact fun h => by cases h
theorem rets_ways2 (r : Int) (k i : Nat) (ws : List Int) : rets (fun x => x.length = ws.length + k) (tWays r k i ws) := by
  induction k generalizing i ws with
  | zero => exact rfl
  | succ k ih =>
    intro z
    have := ih (i + 1) (ws ++ [z])
    rw [List.length_append, List.length_singleton, show ws.length + 1 + k = ws.length + (k + 1) from by omega] at this
    exact this
theorem rets_load2 (r : Int) (nd : Nd) (h : nd.zs.length ≤ 100) : rets (fun y => y.1.ws.length ≤ 100) (tLoad r nd) := by
  have hrest : ∀ n m, rets (fun y : Sn × Int => y.1.ws.length ≤ 100) (tRest r n m) := fun n m => by
    refine rets_bind (rets_any _) fun b _ => ?_
    split
    · exact Nat.zero_le _
    · exact rets_bind (rets_any _) fun _ _ => rets_bind (rets_any _) fun _ _ => Nat.zero_le _
  refine rets_bind (rets_any _) fun m _ => rets_bind (rets_any _) fun n _ => rets_bind (rets_any _) fun st _ => rets_bind (rets_any _) fun m2 _ => ?_
  split
  · refine rets_bind (Q := fun x : Sn × Bool => x.1.ws.length ≤ 100) (rets_bind (rets_ways2 r nd.zs.length 0 []) fun ws hw => rets_bind (rets_any _) fun y _ => ?_) fun x hx => ?_
    · show ws.length ≤ 100
      simp at hw; omega
    · split
      · exact hx
      · exact hrest _ _
  · exact hrest _ _
theorem rets_loadsW {l : List (Int × Nd)} (h : ∀ x ∈ l, x.2.zs.length ≤ 100) (acc : List Sn) (ha : ∀ y ∈ acc, y.ws.length ≤ 100) : rets (fun x => ∀ y ∈ x.1, y.ws.length ≤ 100) (tLoads acc l) := by
  induction l generalizing acc with
  | nil => exact ha
  | cons x l ih =>
    refine rets_bind (rets_load2 x.1 x.2 (h x (List.mem_cons_self ..))) fun y hy => ?_
    split
    · refine ih (fun z hz => h z (List.mem_cons_of_mem _ hz)) _ fun z hz => ?_
      rcases List.mem_append.1 hz with e | e
      · exact ha z e
      · rw [List.mem_singleton.1 e]; exact hy
    · exact fun z hz => by cases hz
section
variable {nds : List (Int × Nd)} {M : Nat} {d : Wd} {R R' X X' : Nat → Prop} {w w' w0 wr w1 : World} {a st ph k me p q : Nat} {wk T : Value} {zs ws : List Int} {c : Cur} {s : Sig} {n r : Int} {nd : Nd} {e : Ending} {nw : Int}
set_option maxHeartbeats 8000000 in
theorem race1_walk {A : Option Addr} {m c0 b1 b2 : Nat} {prs : List (Int × Nd)} (hdm : d.m = 40) (hpn : prs ≠ []) (hx : ∀ x ∈ prs, x ∈ nds ∧ x.2.small) (hl : prs.length ≤ 20) (hs : Sl w A m c0 (prs.map Prod.fst)) (hA : ∀ ad, A = some ad → R ad.block) (hn : in64 nw)
    (hR : R b1 ∧ R b2) (h1 : w.cell? ⟨b1, 0, none⟩ = some (.slice A m c0)) (h2 : w.cell? ⟨b2, 0, none⟩ = some (.int .i64 nw))
    (h : Lv d R w a wk c s) (hP : Stt nds 40 s) :
    Calls Try.prog 26 #[tkV a d.W me, ptr b1, ptr b2] w (PostW d R w a wk idO (run (tRace prs nw) c s)) := by
  obtain ⟨W, p, hW, hp, bb, tk, hsz⟩ := one_box w a d.W me
  obtain ⟨o, ho⟩ : ∃ o, run (tRace prs nw) c s = o := ⟨_, rfl⟩
  rw [ho]
  have HB : Hid (BT (Stt nds 40) d R (fun b => R b ∨ b = p) w a me wk p o (tRace prs nw) W c s) := by
    show BT _ _ _ _ _ _ _ _ _ _ _ _ _ _
    rw [← ho]
    exact BT.begin_ h bb (fun b e => e.imp id fun e => by omega) (fun b e => e) tk hP
  have HD := Lib.hid (loads_touch (me := me) (R := fun b => R b ∨ b = p) (M := 40) (by omega) hx (by omega) (hs.below bb) (fun ad e => .inl (hA ad e)) HB.out.lv HB.out.inv)
  have HC : Hid (∀ w', Kp R w w' → w'.cell? ⟨b2, 0, none⟩ = some (.int .i64 nw)) := fun w' hk => hk.read hR.2 h2
  have HPN := Lib.hid hpn
  have HX := Lib.hid hx
  obtain ⟨t0, t1, t2⟩ := tk
  have g1 := below_read bb h1
  have HN64 := Lib.hid hn
  have HDM := Lib.hid hdm
  clear h bb hsz hP ho hs hA hR h1 h2 hn hdm hx hpn
  go_enter Try.func26, Try.ntmps26
  go_wp2_with fail
  (try rw [hW])
  refine HD.out.mono ?_
  clear HD t0 t1 t2 hW hp g1
  intro e w1 hPm
  rcases BT.callM (P := Stt nds 40) (t := tLoads [] prs) (o := o) (K := fun x : List Sn × Bool => (if x.2 = true then (if goes0 x.1 = true then (tStore 40 x.1 1 0 200 nw).bind fun y => .ret [b2i y.1] else .ret [3]) else .ret [-1] : Tr (List Int))) HB.out (run_kpL (kl_loads [] prs)) hPm with ⟨⟨l, ok⟩, c2, s2, v, Y, rfl, hrun, ⟨u, hv, hu⟩, hB, hKp, hYn⟩ | hx
  case inr => obtain ⟨rfl, hx⟩ := hx; exact ⟨rfl, Wts.postW ⟨rfl, hx⟩⟩
  have hll : l.length ≤ ([] : List Sn).length + prs.length := run_rets (Q := fun x : List Sn × Bool => x.1.length ≤ ([] : List Sn).length + prs.length) (rets_loads [] prs) hrun
  have hlq : ok = true → l.length = ([] : List Sn).length + prs.length := run_rets (Q := fun x : List Sn × Bool => x.2 = true → x.1.length = ([] : List Sn).length + prs.length) (rets_loads2 [] prs) hrun
  have HLQ := Lib.hid hlq
  have hlw : ∀ y ∈ l, y.ws.length ≤ 100 := run_rets (Q := fun x : List Sn × Bool => ∀ y ∈ x.1, y.ws.length ≤ 100) (rets_loadsW (fun x hx => (HX.out x hx).2.2.2) [] (fun y hy => by cases hy)) hrun
  have HLW := Lib.hid hlw
  have hll2 : l.length ≤ 20 := by simp at hll; omega
  have hv : v = .tuple #[u, .bool ok] := hv
  have hu : SnL l Y w1 u := hu
  obtain ⟨A1, c1, rfl, -⟩ := hu.shape
  subst hv
  clear hPm HB hrun hll hKp hlq hlw
  cases ok with
  | false =>
    obtain ⟨X, b, hX, hb, bX, sX⟩ := one_num w1 (-1)
    have hB2 : BT (Stt nds 40) d R (fun b => (R b ∨ b = p) ∨ Y b) w a me wk p o (.ret [-1]) w1 c2 s2 := hB
    have HE : Hid (PostW d R w a wk idO o (.returned (.slice (some ⟨b, 0, none⟩) 1 1)) X) := hB2.postW bX sX (by simp)
    clear hB hB2 hu bX sX hYn
    go_wp2
    (try rw [hX]); (try rw [hb])
    go_ret
    exact HE.out
  | true =>
    have hlp : 0 < l.length := by have h1 := HLQ.out rfl; have h2 := List.length_pos_iff.2 HPN.out; simp at h1; omega
    obtain ⟨x, hx0⟩ : ∃ x, l[0]? = some x := ⟨_, List.getElem?_eq_getElem hlp⟩
    have hxw := HLW.out x (List.mem_of_getElem? hx0)
    have HSU := Lib.hid hu
    obtain ⟨g, pv, kv, zv, wv, rfl, -, hYg, hi1, hi2, hi3, hwr, -, y0, y1, y2, y3, y4, y5, y6, y7⟩ := hu.at_ hx0
    simp only [Nat.zero_mul, Nat.zero_add] at y0 y1 y2 y3 y4 y5 y6 y7
    obtain ⟨P1, n1, q1, rfl⟩ := hi1
    obtain ⟨P2, n2, q2, rfl⟩ := hi2
    obtain ⟨P3, n3, q3, rfl⟩ := hi3
    obtain ⟨P4, n4, q4, rfl⟩ := hwr.shape
    have hsl := hwr.sl
    obtain ⟨gv, hgv⟩ : ∃ b, goes0 l = b := ⟨_, rfl⟩
    have hgg : goesTo x.ws 0 200 n4 = gv := by rw [← hgv]; exact goes_eq hx0 hsl.len
    have hB1 : BT (Stt nds 40) d R (fun b => (R b ∨ b = p) ∨ Y b) w a me wk p o (if gv = true then (tStore 40 l 1 0 200 nw).bind fun y => .ret [b2i y.1] else .ret [3]) w1 c2 s2 := by
      rw [← hgv]; exact hB
    have HB1 := Lib.hid hB1
    have hgw := snapGoes_walk (rf := x.rf) (inf := x.inf) (x := x.nd.inn) (y := x.nd.tag) (P := P1) (n1 := n1) (c1 := q1) (pv := .slice P2 n2 q2) (zv := .slice P3 n3 q3) (way := 0) (r := 200) hsl (by have := hsl.len; omega)
    rw [hgg] at hgw
    have HGW := Lib.hid hgw
    have i0 : (0 : Int) < (l.length : Int) := by omega
    obtain ⟨ln, hln⟩ : ∃ z, l.length = z := ⟨_, rfl⟩
    rw [hln] at i0 ⊢
    have HLN := Lib.hid hln
    have HL2 := Lib.hid hll2
    clear hB hB1 hu hYn hgv hgg hsl hwr hgw hx0 hlp hln hxw hll2
    go_wp2_with fail
    refine HGW.out.mono ?_
    clear HGW y0 y1 y2 y3 y4 y5 y6 y7
    rintro e w2 ⟨rfl, b2⟩
    have HB2' := Lib.hid (HB1.out.below b2)
    have HS2 : Hid (SnL l Y w2 (.slice (some ⟨g, 0, none⟩) ln c1)) := by
      have h : SnL l Y w2 (.slice (some ⟨g, 0, none⟩) l.length c1) := HSU.out.keep (fun b f => b2.block b (HB1.out.lv.lt b (.inr f))) fun b f => f
      rw [HLN.out] at h
      exact h
    clear b2 HB1
    cases gv with
    | false =>
      obtain ⟨X, b, hX, hb, bX, sX⟩ := one_num w2 3
      have hB2 : BT (Stt nds 40) d R (fun b => (R b ∨ b = p) ∨ Y b) w a me wk p o (.ret [3]) w2 c2 s2 := HB2'.out
      have HE : Hid (PostW d R w a wk idO o (.returned (.slice (some ⟨b, 0, none⟩) 1 1)) X) := hB2.postW bX sX (by simp)
      clear hB2 bX sX HB2' HS2
      go_wp2
      (try rw [hX]); (try rw [hb])
      go_ret
      exact HE.out
    | true =>
      have HB2 : Hid (BT (Stt nds 40) d R (fun b => (R b ∨ b = p) ∨ Y b) w a me wk p o ((tStore 40 l 1 0 200 nw).bind fun y => .ret [b2i y.1]) w2 c2 s2) := HB2'.out
      have hst := store_touch (me := me) (R := fun b => (R b ∨ b = p) ∨ Y b) (M := 40) (kp := 1) (wy := 0) (od := 200) (nw := nw) HS2.out (fun b e => .inr e) HL2.out HDM.out (by omega) HN64.out HB2.out.lv HB2.out.inv
      have HD := Lib.hid hst
      have k2 := HC.out w2 HB2.out.kp
      obtain ⟨t0, t1, t2⟩ := HB2.out.tk
      clear HB2' HS2 HC hst
      go_wp2_with fail
      refine HD.out.mono ?_
      clear HD t0 t1 t2 k2
      intro e w3 hP
      rcases BT.call (K := fun y => (.ret [b2i y.1] : Tr (List Int))) HB2.out (run_kpL (kl_store HL2.out HN64.out)) hP with ⟨⟨y1, y2⟩, c3, s3, rfl, -, hB, hKp⟩ | hx
      case inr => obtain ⟨rfl, hx⟩ := hx; exact ⟨rfl, Wts.postW ⟨rfl, hx⟩⟩
      clear hP HB2 hKp
      cases y1 with
      | true =>
        obtain ⟨X, b, hX, hb, bX, sX⟩ := one_num w3 1
        have hB2 : BT (Stt nds 40) d R (fun b => (R b ∨ b = p) ∨ Y b) w a me wk p o (.ret [1]) w3 c3 s3 := hB
        have HE : Hid (PostW d R w a wk idO o (.returned (.slice (some ⟨b, 0, none⟩) 1 1)) X) := hB2.postW bX sX (by simp)
        clear hB hB2 bX sX
        go_wp2
        (try rw [hX]); (try rw [hb])
        go_ret
        exact HE.out
      | false =>
        obtain ⟨X, b, hX, hb, bX, sX⟩ := one_num w3 0
        have hB2 : BT (Stt nds 40) d R (fun b => (R b ∨ b = p) ∨ Y b) w a me wk p o (.ret [0]) w3 c3 s3 := hB
        have HE : Hid (PostW d R w a wk idO o (.returned (.slice (some ⟨b, 0, none⟩) 1 1)) X) := hB2.postW bX sX (by simp)
        clear hB hB2 bX sX
        go_wp2
        (try rw [hX]); (try rw [hb])
        go_ret
        exact HE.out
end
end Go.Proofs.Ytmnldlhpiapalaa
