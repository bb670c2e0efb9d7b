/-
  How nodes are handed in and held against each other; the laws' fixed fact.
-/
import Derived.Test.YtmnbdhngadjmiaaAr10
namespace Go.Proofs.Ytmnbdhngadjmiaa
open Go.ChangeShapes Go.WideShapes Go.ChangeAt Go.RowKit
set_option linter.unusedVariables false
set_option linter.unusedSimpArgs false
set_option maxRecDepth 20000

/-- A value reads as a node, in memory from block lo on. -/
def RdN (lo : Nat) (w : World) (v : Value) (nd : Nd) : Prop :=
  ∃ A c B d C q, v = ndv nd.inn nd.tag (.slice A nd.ps.length c) (.slice B nd.ks.length d) (.slice C nd.zs.length q) ∧ Lp w A nd.ps.length c nd.ps ∧ Sl w B nd.ks.length d nd.ks ∧ Sl w C nd.zs.length q nd.zs ∧ ∀ ad : Addr, A = some ad ∨ B = some ad ∨ C = some ad → lo ≤ ad.block
theorem RdN.nil (lo : Nat) (w : World) (x y : Bool) : RdN lo w (ndv x y (.slice none 0 0) (.slice none 0 0) (.slice none 0 0)) ⟨x, y, [], [], []⟩ :=
  ⟨none, 0, none, 0, none, 0, rfl, Lp.nil _, Sl.nil _, Sl.nil _, fun ad e => by rcases e with e | e | e <;> cases e⟩
theorem RdN.below {lo : Nat} {w w' : World} {v : Value} {nd : Nd} (h : RdN lo w v nd) (hb : Below w.heap.size w w') : RdN lo w' v nd := by
  obtain ⟨A, c, B, d, C, q, e, h1, h2, h3, h4⟩ := h
  exact ⟨A, c, B, d, C, q, e, h1.below hb, h2.below hb, h3.below hb, h4⟩
theorem RdN.only {lo : Nat} {F : Nat → Prop} {w w' : World} {v : Value} {nd : Nd} (h : RdN lo w v nd) (hb : Only F w w') (hF : ∀ b, F b → b < lo) : RdN lo w' v nd := by
  obtain ⟨A, c, B, d, C, q, e, h1, h2, h3, h4⟩ := h
  have key : ∀ ad : Addr, (A = some ad ∨ B = some ad ∨ C = some ad) → ad.block < w.heap.size → w'.heap[ad.block]? = w.heap[ad.block]? := fun ad e hl => hb.block _ hl fun hf => by have := hF _ hf; have := h4 ad e; omega
  exact ⟨A, c, B, d, C, q, e, h1.keepAt fun ad e hl => key ad (.inl e) hl, h2.keepAt fun ad e hl => key ad (.inr (.inl e)) hl, h3.keepAt fun ad e hl => key ad (.inr (.inr e)) hl, h4⟩
theorem own_ad {w : World} {base : Nat} {e : TypeId} {size n : Nat} {A : Option Addr} {l c : Nat} {xs : List Value} (h : w.ownsRow base e size (.slice A l c) n xs) {ad : Addr} (ha : A = some ad) : base ≤ ad.block := by
  subst ha
  exact (h.lt ad.block rfl).1
theorem MadeN.rd {w w' : World} {nd : Nd} {e : Ending} (h : MadeN w nd e w') : ∃ v, e = .returned v ∧ RdN w.heap.size w' v nd ∧ Below w.heap.size w w' := by
  obtain ⟨pv, kv, zv, rfl, h1, h2, h3, hb⟩ := h
  obtain ⟨A, c, rfl, s1⟩ := h1.form
  obtain ⟨B, d, rfl, s2⟩ := h2.form
  obtain ⟨C, q, rfl, s3⟩ := h3.form
  refine ⟨_, rfl, ⟨A, c, B, d, C, q, rfl, s1, s2, s3, fun ad e => ?_⟩, hb⟩
  rcases e with e | e | e
  · exact own_ad h1 e
  · exact own_ad h2 e
  · exact own_ad h3 e

section
variable {F : Nat → Prop} {w : World} {a : Nat} {S : As} {nd : Nd} {lo : Nat} {v : Value}
theorem alloc_yes (h : Arn false F w a S) (hok : Ok S) (hroom : (S.pls.length : Int) - (S.fr.length : Int) < (S.most : Int)) (k : Nat) (hk : ∃ pa, S.next.2.pls[S.next.1]? = some pa ∧ pa.cnt = k) (hkb : k ≤ 1000000) (hv : RdN lo w v nd) (hlo : ∀ b, F b → b < lo) (hs : nd.small) :
    Calls Try.prog 29 #[ptr a, v] w fun e w' => e = .returned (.tuple #[.int .i64 (mk S.next.1 ((k + 1 : Nat) : Int)), .bool true]) ∧ Nx false F w a (S.alloc (k + 1) nd) w' := by
  obtain ⟨A, c, B, d, C, q, rfl, h1, h2, h3, h4⟩ := hv
  obtain ⟨l, P, Q, h⟩ := h
  obtain ⟨x, y, ps, ks, zs⟩ := nd
  exact alloc_walk h hok hroom k hk hkb x y A B C _ c _ d _ q ps ks zs h1 h2 h3 hs.1 hs.2.1 hs.2.2 (fun ad e hF => by have := h4 ad e; have := hlo _ hF; omega)
theorem alloc_not (h : Arn false F w a S) (hok : Ok S) (hno : (S.most : Int) ≤ (S.pls.length : Int) - (S.fr.length : Int)) (hv : RdN lo w v nd) :
    Calls Try.prog 29 #[ptr a, v] w fun e w' => e = .returned (.tuple #[.int .i64 0, .bool false]) ∧ Below w.heap.size w w' := by
  obtain ⟨A, c, B, d, C, q, rfl, h1, h2, h3, h4⟩ := hv
  obtain ⟨l, P, Q, h⟩ := h
  exact alloc_full h hok hno _ _ _ _ _
set_option maxHeartbeats 1000000 in
theorem alloc_nil (hv : RdN lo w v nd) :
    Calls Try.prog 29 #[nilp, v] w fun e w' => e = .returned (.tuple #[.int .i64 0, .bool false]) ∧ Below w.heap.size w w' := by
  obtain ⟨A, c, B, d, C, q, rfl, h1, h2, h3, h4⟩ := hv
  clear h1 h2 h3 h4
  go_enter Try.func29, Try.ntmps29
  go_wp2
  go_quiet (fail)
  go_wp2
  go_ret2
  refine ⟨rfl, ?_⟩
  first | exact below_drewN (below_new _ _) _ | exact (below_new _ _).drew
end
end Go.Proofs.Ytmnbdhngadjmiaa