/-
  A law's thread that goes to a key: what is left of it, and what comes of it alone.
-/
import Derived.Test.YtieebiblpcciaaaWr11
namespace Go.Proofs.Ytieebiblpcciaaa
open Go.ChangeShapes Go.WideShapes Go.ChangeAt Go.RowKit
set_option linter.unusedVariables false
set_option linter.unusedSimpArgs false
set_option maxRecDepth 20000

/-- The way, as the ways are. -/
def pathS (nds : List (Int × Nd)) (key : Int) (s : Sig) : Nat → Int → List Sp
  | 0, _ => []
  | f + 1, r => match nds.lookup r with
    | none => []
    | some nd => if nd.inn = true then ⟨r, nd, wyOf nd key⟩ :: pathS nds key s f (gWay r (wyOf nd key) s).1 else [⟨r, nd, wyOf nd key⟩]
def tW (nds : List (Int × Nd)) (rk : Int → Nat) (key : Int) (f : Nat) (r : Int) (acc : List Sp) : Tr (List Int) := (tPath nds rk key f r acc).bind fun l => .ret (flatS l)
section
variable {β : Type} {nds : List (Int × Nd)} {rk : Int → Nat} {M mo D f : Nat} {s : Sig} {key r : Int} {nd : Nd} {acc : List Sp} {K : List Sp → Tr β}
theorem pathS_at (h : nds.lookup r = some nd) : pathS nds key s (f + 1) r = if nd.inn = true then ⟨r, nd, wyOf nd key⟩ :: pathS nds key s f (gWay r (wyOf nd key) s).1 else [⟨r, nd, wyOf nd key⟩] := by
  simp only [pathS, h]
/-- A tree that goes on. -/
structure Ok1 (nds : List (Int × Nd)) (rk : Int → Nat) (f : Nat) (r : Int) : Prop where
  at_ : (nds.lookup r).isSome = true
  rk : rk r ≤ f
theorem nl_path (h : Ok1 nds rk f r) : nl ((tPath nds rk key (f + 1) r acc).bind K) ∨ ∃ l, (tPath nds rk key (f + 1) r acc).bind K = K l := by
  obtain ⟨nd, hl⟩ := Option.isSome_iff_exists.1 h.at_
  rw [tPath_at hl h.rk]
  split
  · exact .inl trivial
  · exact .inr ⟨_, rfl⟩
theorem nl_tW (h : Ok1 nds rk f r) : nl (tW nds rk key (f + 1) r acc) := by
  rcases nl_path (K := fun l => (.ret (flatS l) : Tr (List Int))) (key := key) (acc := acc) h with e | ⟨l, e⟩
  · exact e
  · unfold tW; rw [e]; exact trivial
theorem hd_tW (h : Ok1 nds rk f r) : hd (tW nds rk key (f + 1) r acc) s := by
  have := nl_tW (key := key) (acc := acc) h
  cases e : tW nds rk key (f + 1) r acc with
  | ret v => exact trivial
  | tch g K => exact trivial
  | lk n K => rw [e] at this; exact this.elim
theorem Ok1.next (h : Ok1 nds rk f r) (hS : SkI nds rk M mo s) (hl : nds.lookup r = some nd) (hi : nd.inn = true) (key : Int) : ∃ g, f = g + 1 ∧ Ok1 nds rk g (gWay r (wyOf nd key) s).1 := by
  have := hS.next hl hi key
  have := h.rk
  exact ⟨f - 1, by omega, ⟨(hS.next hl hi key).1, by omega⟩⟩
theorem ev_path (hS : SkI nds rk M mo s) (h : Ok1 nds rk f r) (K : List Sp → List Int) : ev ((tPath nds rk key (f + 1) r acc).bind fun l => .ret (K l)) s = (K (acc ++ pathS nds key s (f + 1) r), s, (pathS nds key s (f + 1) r).length - 1) := by
  induction f generalizing r acc with
  | zero =>
    obtain ⟨nd, hl⟩ := Option.isSome_iff_exists.1 h.at_
    rw [tPath_at hl h.rk, pathS_at hl]
    cases hi : nd.inn with
    | true => obtain ⟨g, e, -⟩ := h.next hS hl hi key; omega
    | false => rfl
  | succ f ih =>
    obtain ⟨nd, hl⟩ := Option.isSome_iff_exists.1 h.at_
    rw [tPath_at hl h.rk, pathS_at hl]
    cases hi : nd.inn with
    | true =>
      obtain ⟨g, e, h2⟩ := h.next hS hl hi key
      obtain rfl : f = g := by omega
      rw [if_pos rfl, if_pos rfl]
      have hs := (hS.next hl hi key).2.2
      have hi2 := ih (r := (gWay r (wyOf nd key) s).1) (acc := acc ++ [⟨r, nd, wyOf nd key⟩]) h2
      show ev (.tch (gWay r (wyOf nd key)) fun z => (tPath nds rk key (f + 1) z (acc ++ [⟨r, nd, wyOf nd key⟩])).bind fun l => .ret (K l)) s = _
      simp only [ev]
      rw [hs, hi2]
      have hpos : 1 ≤ (pathS nds key s (f + 1) (gWay r (wyOf nd key) s).1).length := by
        obtain ⟨nd2, hl2⟩ := Option.isSome_iff_exists.1 h2.at_
        rw [pathS_at hl2]
        split <;> simp
      simp only [List.append_assoc, List.singleton_append, List.length_cons]
      congr 2
      omega
    | false => rfl
theorem ok_path (hS : SkI nds rk M mo s) (hF : Fit s) (h : Ok1 nds rk f r) (K : List Sp → List Int) : okT ((tPath nds rk key (f + 1) r acc).bind fun l => .ret (K l)) s ∧ all (fun s => SkI nds rk M mo s ∧ Fit s) ((tPath nds rk key (f + 1) r acc).bind fun l => .ret (K l)) s := by
  induction f generalizing r acc with
  | zero =>
    obtain ⟨nd, hl⟩ := Option.isSome_iff_exists.1 h.at_
    rw [tPath_at hl h.rk]
    cases hi : nd.inn with
    | true => obtain ⟨g, e, -⟩ := h.next hS hl hi key; omega
    | false => exact ⟨trivial, hS, hF⟩
  | succ f ih =>
    obtain ⟨nd, hl⟩ := Option.isSome_iff_exists.1 h.at_
    rw [tPath_at hl h.rk]
    cases hi : nd.inn with
    | true =>
      obtain ⟨g, e, h2⟩ := h.next hS hl hi key
      obtain rfl : f = g := by omega
      have hs := (hS.next hl hi key).2.2
      obtain ⟨k1, k2⟩ := ih (r := (gWay r (wyOf nd key) s).1) (acc := acc ++ [⟨r, nd, wyOf nd key⟩]) h2
      have hh : hd ((tPath nds rk key (f + 1) (gWay r (wyOf nd key) s).1 (acc ++ [⟨r, nd, wyOf nd key⟩])).bind fun l => (.ret (K l) : Tr (List Int))) s := by
        rcases nl_path (K := fun l => (.ret (K l) : Tr (List Int))) (key := key) (acc := acc ++ [⟨r, nd, wyOf nd key⟩]) h2 with e | ⟨l, e⟩
        · cases e2 : (tPath nds rk key (f + 1) (gWay r (wyOf nd key) s).1 (acc ++ [⟨r, nd, wyOf nd key⟩])).bind fun l => (.ret (K l) : Tr (List Int)) with
          | ret v => exact trivial
          | tch g K => exact trivial
          | lk n K => rw [e2] at e; exact e.elim
        · rw [e]; exact trivial
      rw [if_pos rfl]
      refine ⟨⟨⟨?_, ?_⟩, ?_⟩, ⟨hS, hF⟩, ?_⟩
      · rw [hs]; exact Le.refl s
      · rw [hs]; exact hh
      · rw [hs]; exact k1
      · rw [hs]; exact k2
    | false => exact ⟨trivial, hS, hF⟩
end
section
variable {W : World} {X : Nat → Prop} {d : Wd} {n T i M mo D f : Nat} {hs : Nat → Hp} {os : Nat → Ts} {s s' : Sig} {w w' : World} {nds : List (Int × Nd)} {rk : Int → Nat} {key r : Int} {acc : List Sp}
/-- Thread i alone, to its end: what is left of it goes down from a node. -/
theorem MB.aloneW {K : List Sp → List Int} {v : List Int} {k N : Nat} {kz : Int} (h : MB W X d n T hs os s w) (hi : i < n) (ho : os i = .run ((tPath nds rk key (f + 1) r acc).bind fun l => .ret (K l))) (hp : (hs i).P = SkI nds rk M mo) (hS : SkI nds rk M mo s) (hF : Fit s) (hk : Ok1 nds rk f r) (hv : K (acc ++ pathS nds key s (f + 1) r) = v) (hm : (pathS nds key s (f + 1) r).length - 1 = k) (hN : k ≤ N) (hT : T + N ≤ 430) (hlen : v.length ≤ 1000) (hkz : ((max k 1 : Nat) : Int) = kz) :
    Calls Try.prog 17 #[ptr (hs i).a] w fun e w' => ∃ A q c, e = .returned (.tuple #[.slice A q c, .int .i64 kz, .bool true]) ∧ Row 2 w.heap.size w' (.slice A q c) v ∧ MB W X d n (T + N + 1) hs (upd os i (.fin v)) s w' ∧ Kp (RX W X) w w' := by
  have hev := ev_path (acc := acc) (key := key) hS hk K
  rw [hv, hm] at hev
  obtain ⟨k1, k2⟩ := ok_path (acc := acc) (key := key) hS hF hk K
  have hnl : nl ((tPath nds rk key (f + 1) r acc).bind fun l => (.ret (K l) : Tr (List Int))) := by
    rcases nl_path (K := fun l => (.ret (K l) : Tr (List Int))) (key := key) (acc := acc) hk with e | ⟨l, e⟩
    · exact e
    · rw [e]; exact trivial
  have := h.me.aloneM (M := N) hi ho hnl (by rw [hp]; exact k2) k1 hT (by rw [hev]; exact hN) (by rw [hev]; exact hlen)
  rw [hev] at this
  simp only [hkz] at this
  refine this.mono ?_
  rintro e w' ⟨A, q, c, rfl, h1, h2, h3⟩
  exact ⟨A, q, c, rfl, h1, h.kp h2 h3, h3⟩
abbrev walkF : Nat := 82
theorem walk_job {R : Nat → Prop} {me b : Nat} (hN : NdsOk nds) (hmo : mo ≤ 70000) (hD : D ≤ mo) (hD2 : D ≤ 300) (hen : Ok1 nds rk D d.en) (hc : w.cell? ⟨b, 0, none⟩ = some (.int .i64 key)) (hR : R b) : Job d R w walkF me #[ptr b] (SkI nds rk M mo) (tW nds rk key (D + 1) d.en []) idO := by
  intro a wk R' w' h1 h2 w1 R1 zs st s h3 h4 h5 h6 h7 gp
  exact walker1_walk (mo := mo) hN hmo hD hD2 ⟨hen.at_, hen.rk⟩ h7 h6 (fun _ => gp) (h3 _ (h1 _ hR)) (cell_same ((h4 _ (h1 _ hR)).trans (h2 _ hR)) hc)
theorem MB.walker (h : MB W X d n T hs os s w) (hN : NdsOk nds) (hmo : mo ≤ 70000) (hD : D ≤ mo) (hD2 : D ≤ 300) (hen : Ok1 nds rk D d.en) :
    Calls Try.prog 47 #[ptr d.W, .int .i64 key] w fun e w' => ∃ a b, e = .returned (ptr a) ∧ MB W (fun q => X q ∨ q = b) d (n + 1) T (upd hs n ⟨a, 0, walkF, #[ptr b], tW nds rk key (D + 1) d.en [], SkI nds rk M mo⟩) (upd os n (.run (tW nds rk key (D + 1) d.en []))) s w' ∧ Below w.heap.size w w' := by
  have e3 := mk_fn
  obtain ⟨Z, b, hZ, hb, bZ, cZ⟩ : ∃ (Z : World) (b : Nat), w.alloc (.cells #[.int .i64 key] i6T) = Z ∧ w.heap.size = b ∧ Below w.heap.size w Z ∧ Z.cell? ⟨b, 0, none⟩ = some (.int .i64 key) := ⟨_, _, rfl, rfl, below_new _ _, c_new rfl rfl⟩
  have hbZ : b < Z.heap.size := World.block_lt_of_cell? Z _ cZ
  have h1 : MB W (fun q => X q ∨ q = b) d n T hs os s Z := h.more bZ (fun q e => e.imp id fun e => ⟨by omega, by omega⟩) (.inr fun q e => .inl e)
  have hS0 := h1.me.start (me := 0) (f := walkF) (cap := #[ptr b]) (Pr := SkI nds rk M mo) (walk_job hN hmo hD hD2 hen cZ (.inr (.inr rfl))) (fun a W => rfl) (hd_tW hen)
  rw [nrm_nl (nl_tW hen)] at hS0
  have HS := Lib.hid hS0
  have HB := Lib.hid h1.bel
  have HZ := Lib.hid bZ
  clear h h1 cZ bZ hbZ hS0
  go_enter Try.func47, Try.ntmps47
  go_wp2_with fail
  (try rw [hZ]); (try rw [hb])
  refine HS.out.mono ?_
  rintro e w1 ⟨a, rfl, hM1, hb1⟩
  have HE : Hid (MB W (fun q => X q ∨ q = b) d (n + 1) T (upd hs n ⟨a, 0, walkF, #[ptr b], tW nds rk key (D + 1) d.en [], SkI nds rk M mo⟩) (upd os n (.run (tW nds rk key (D + 1) d.en []))) s w1 ∧ Below w.heap.size w w1) := ⟨⟨hM1, HB.out.trans (hb1.mono HB.out.size)⟩, HZ.out.trans (hb1.mono HZ.out.size)⟩
  clear HS HB HZ hM1 hb1
  go_wp2
  go_ret
  exact ⟨a, b, rfl, HE.out⟩
end
end Go.Proofs.Ytieebiblpcciaaa
