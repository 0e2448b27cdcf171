import PyProof.Rows.All
import Wide.All
import OpenK.AllK
import Wide.FinOn
import PyProof.EqAt
import PyProof.EqKinds
import PyProof.TupleCall
import KE.KExcSuper
import KE.KExcIs
import HandS.ForMost
import HandS.Exc
import HandS.ExcOwn
import HandS.WordsExc
import HandS.HotCalls
import HandS.Wide
import HandS.ExcInit
import HandS.TryMany
import HandS.ExcField
import HandS.Star
import HandS.IsInst
import HandS.CallLocal
import HandS.Iter
import HandS.ForDict
import HandS.WideBits
import PySem.Challenge.RW_tagblocks_k62_whole_great_dividers
set_option Elab.async false
set_option linter.all false
/-! Dividers, the mathematics: what is told, sums of quotients, counts -/
namespace DV
/-- rounded up -/
def up (n d : Int) : Int := -((-n) / d)
theorem lt_up {n d r : Int} (hd : 0 < d) : r < up n d ↔ r * d < n := by
  unfold up
  have h := Int.ediv_lt_iff_lt_mul (a := -n) (b := -r) hd
  constructor
  · intro h1
    have h2 : -n / d < -r := by omega
    have h3 := h.mp h2
    rw [Int.neg_mul] at h3
    omega
  · intro h1
    have h3 : -n < -r * d := by rw [Int.neg_mul]; omega
    have := h.mpr h3
    omega
theorem up_le {n d r : Int} (hd : 0 < d) : up n d ≤ r ↔ n ≤ r * d := by
  have := lt_up (n := n) (r := r) hd
  omega
def mn (i j : Int) : Int := if j < i then j else i
def mx (i j : Int) : Int := if j > i then j else i
theorem mn_eq (i j : Int) : mn i j = min i j := by unfold mn; split <;> omega
theorem mx_eq (i j : Int) : mx i j = max i j := by unfold mx; split <;> omega
/-- the rests below a product -/
def rb (b m p : Int) : Int := if p ≤ 0 then 0 else if m = 0 then b else mn (up p m) b
theorem rb_iff {b m p r : Int} (hm : 0 ≤ m) (h0 : 0 ≤ r) (hr : r < b) : r < rb b m p ↔ r * m < p := by
  unfold rb
  split
  · rename_i hp
    have := Int.mul_nonneg h0 hm
    omega
  · rename_i hp
    split
    · rename_i hz
      rw [hz, Int.mul_zero]
      omega
    · rename_i hz
      have := lt_up (n := p) (r := r) (d := m) (by omega)
      unfold mn
      split <;> omega
theorem rb_nonneg {b m p : Int} (hm : 0 ≤ m) (hb : 0 < b) : 0 ≤ rb b m p := by
  unfold rb
  split
  · omega
  · split
    · omega
    · have := lt_up (n := p) (r := 0) (d := m) (by omega)
      unfold mn
      split <;> omega
theorem rb_le {b m p : Int} (hm : 0 ≤ m) (hb : 0 < b) : rb b m p ≤ b := by
  unfold rb
  split
  · omega
  · split
    · omega
    · unfold mn
      split <;> omega
theorem rb_mono {b m p p2 : Int} (hm : 0 ≤ m) (hb : 0 < b) (h : p ≤ p2) : rb b m p ≤ rb b m p2 := by
  by_cases z : rb b m p ≤ rb b m p2
  · exact z
  · have a1 := rb_nonneg (b := b) (m := m) (p := p2) hm hb
    have a2 := rb_le (b := b) (m := m) (p := p) hm hb
    have b1 := (rb_iff (b := b) (m := m) (p := p) (r := rb b m p2) hm a1 (by omega)).mp (by omega)
    have b2 := (rb_iff (b := b) (m := m) (p := p2) (r := rb b m p2) hm a1 (by omega)).mpr (by omega)
    omega
/-! ### sums -/
def S (f : Nat → Int) : Nat → Int
  | 0 => 0
  | n + 1 => S f n + f n
theorem S_congr {f g : Nat → Int} : ∀ {n : Nat}, (∀ i, i < n → f i = g i) → S f n = S g n
  | 0, _ => rfl
  | n + 1, h => by
    show S f n + f n = S g n + g n
    rw [S_congr fun i hi => h i (Nat.lt_succ_of_lt hi), h n (Nat.lt_succ_self n)]
theorem S_add (f g : Nat → Int) : ∀ n : Nat, S (fun i => f i + g i) n = S f n + S g n
  | 0 => rfl
  | n + 1 => by
    show S (fun i => f i + g i) n + (f n + g n) = S f n + f n + (S g n + g n)
    rw [S_add f g n]
    omega
theorem S_const (c : Int) : ∀ n : Nat, S (fun _ => c) n = (n : Int) * c
  | 0 => by simp [S]
  | n + 1 => by
    show S (fun _ => c) n + c = ((n + 1 : Nat) : Int) * c
    rw [S_const c n, Int.natCast_add, Int.add_mul]
    simp
theorem S_sub (f g : Nat → Int) : ∀ n : Nat, S (fun i => f i - g i) n = S f n - S g n
  | 0 => rfl
  | n + 1 => by
    show S (fun i => f i - g i) n + (f n - g n) = S f n + f n - (S g n + g n)
    rw [S_sub f g n]
    omega
theorem S_split (f : Nat → Int) (a : Nat) : ∀ n : Nat, S f (a + n) = S f a + S (fun i => f (a + i)) n
  | 0 => by simp [S]
  | n + 1 => by
    show S f (a + n) + f (a + n) = S f a + (S (fun i => f (a + i)) n + f (a + n))
    rw [S_split f a n]
    omega
theorem S_head (f : Nat → Int) (n : Nat) : S f (n + 1) = f 0 + S (fun i => f (i + 1)) n := by
  have := S_split f 1 n
  rw [Nat.add_comm 1 n] at this
  rw [this]
  show S f 0 + f 0 + _ = _
  have e : (fun i => f (1 + i)) = fun i => f (i + 1) := by funext i; rw [Nat.add_comm]
  rw [e]
  simp [S]
theorem S_rev (f : Nat → Int) : ∀ n : Nat, S (fun i => f (n - 1 - i)) n = S f n
  | 0 => rfl
  | n + 1 => by
    rw [S_head]
    show f (n + 1 - 1 - 0) + S (fun i => f (n + 1 - 1 - (i + 1))) n = S f n + f n
    have e : S (fun i => f (n + 1 - 1 - (i + 1))) n = S (fun i => f (n - 1 - i)) n := S_congr fun i hi => by
      congr 1
      omega
    rw [e, S_rev f n]
    have : n + 1 - 1 - 0 = n := by omega
    rw [this]
    omega
/-! ### a sum of quotients -/
def FS (n : Nat) (d f a : Int) : Int := S (fun i => (f * (i : Int) + a) / d) n
theorem tri (n : Nat) : (n : Int) * ((n : Int) - 1) / 2 + (n : Int) = ((n : Int) + 1) * (((n : Int) + 1) - 1) / 2 := by
  have e : ((n : Int) + 1) * (((n : Int) + 1) - 1) = (n : Int) * ((n : Int) - 1) + (n : Int) * 2 := by
    rw [Int.mul_sub, Int.mul_sub, Int.add_mul, Int.mul_add]
    omega
  rw [e, Int.add_mul_ediv_right _ _ (by decide)]
theorem FS_parts {d f a : Int} (hd : 0 < d) : ∀ n : Nat, FS n d f a = (n : Int) * ((n : Int) - 1) / 2 * (f / d) + (n : Int) * (a / d) + FS n d (f % d) (a % d)
  | 0 => by simp [FS, S]
  | n + 1 => by
    have ih := FS_parts (f := f) (a := a) hd n
    have e1 : FS (n + 1) d f a = FS n d f a + (f * (n : Int) + a) / d := rfl
    have e2 : FS (n + 1) d (f % d) (a % d) = FS n d (f % d) (a % d) + ((f % d) * (n : Int) + a % d) / d := rfl
    have e3 : (f * (n : Int) + a) / d = ((f % d) * (n : Int) + a % d) / d + ((n : Int) * (f / d) + a / d) := by
      have h1 : f * (n : Int) + a = ((f % d) * (n : Int) + a % d) + ((n : Int) * (f / d) + a / d) * d := by
        have a1 := Int.emod_add_mul_ediv f d
        have a2 := Int.emod_add_mul_ediv a d
        have a3 : f * (n : Int) = (f % d) * (n : Int) + (n : Int) * (f / d) * d := by
          have : f * (n : Int) = (f % d + d * (f / d)) * (n : Int) := by rw [a1]
          rw [this, Int.add_mul]
          congr 1
          rw [Int.mul_comm d, Int.mul_assoc, Int.mul_comm d, ← Int.mul_assoc, Int.mul_comm (f / d)]
        have a4 : a = a % d + (a / d) * d := by rw [Int.mul_comm (a / d)]; exact a2.symm
        rw [Int.add_mul]
        omega
      rw [h1, Int.add_mul_ediv_right _ _ (by omega)]
    have t := tri n
    have e4 : ((n + 1 : Nat) : Int) = (n : Int) + 1 := by omega
    rw [e1, e2, e3, ih, e4, ← t, Int.add_mul ((n : Int) * ((n : Int) - 1) / 2) (n : Int) (f / d), Int.add_mul (n : Int) 1 (a / d)]
    omega
/-- the sum turned: rests of both numbers -/
theorem FS_turn {d f a : Int} (hf0 : 0 ≤ f) (hf : f < d) (ha0 : 0 ≤ a) (ha : a < d) : ∀ n : Nat, FS n d f a = FS ((f * (n : Int) + a) / d).toNat f d ((f * (n : Int) + a) % d)
  | 0 => by
    have e : (f * ((0 : Nat) : Int) + a) / d = 0 := by
      rw [show f * ((0 : Nat) : Int) + a = a by simp]
      exact Int.ediv_eq_zero_of_lt ha0 ha
    rw [e]
    rfl
  | n + 1 => by
    have ih := FS_turn hf0 hf ha0 ha n
    have hd : 0 < d := by omega
    have hn : 0 ≤ f * (n : Int) + a := by
      have := Int.mul_nonneg hf0 (Int.natCast_nonneg n)
      omega
    obtain ⟨L, hL⟩ : ∃ L, L = f * (n : Int) + a := ⟨_, rfl⟩
    have hL2 : f * ((n + 1 : Nat) : Int) + a = L + f := by
      have : ((n + 1 : Nat) : Int) = (n : Int) + 1 := by omega
      rw [this, Int.mul_add, hL]
      omega
    have e1 : FS (n + 1) d f a = FS n d f a + L / d := by rw [hL]; rfl
    rw [e1, ih, hL2, ← hL]
    rw [← hL] at hn
    have q1 := Int.emod_add_mul_ediv L d
    have q2 := Int.emod_nonneg L (show d ≠ 0 by omega)
    have q3 := Int.emod_lt_of_pos L hd
    have q4 : 0 ≤ L / d := Int.ediv_nonneg hn (by omega)
    obtain ⟨Y, hY⟩ : ∃ Y : Nat, L / d = (Y : Int) := ⟨(L / d).toNat, by omega⟩
    obtain ⟨c, hc⟩ : ∃ c, c = L % d := ⟨_, rfl⟩
    rw [← hc] at q1 q2 q3
    rw [hY] at q1
    -- f > 0 or nothing
    by_cases hz : f = 0
    · subst hz
      have e : L + 0 = L := by omega
      rw [e, hY, Int.toNat_natCast]
      -- L = a < d
      have : L = a := by rw [hL]; simp
      have : L / d = 0 := by rw [this]; exact Int.ediv_eq_zero_of_lt ha0 ha
      rw [this] at hY
      have : Y = 0 := by omega
      subst this
      simp
    have hfp : 0 < f := by omega
    have step : ∀ z : Int, (z + f) / f = z / f + 1 := fun z => by
      have := Int.add_mul_ediv_right z 1 (show f ≠ 0 by omega)
      rw [Int.one_mul] at this
      exact this
    by_cases hcf : c + f < d
    · have d1 : (L + f) / d = (Y : Int) ∧ (L + f) % d = c + f := by
        have e : L + f = (c + f) + (Y : Int) * d := by rw [Int.mul_comm]; omega
        rw [e, Int.add_mul_ediv_right _ _ (by omega), Int.add_mul_emod_self_right, Int.ediv_eq_zero_of_lt (by omega) hcf, Int.emod_eq_of_lt (by omega) hcf]
        exact ⟨by omega, rfl⟩
      rw [d1.1, d1.2, hY, Int.toNat_natCast, ← hc]
      have e : FS Y f d (c + f) = S (fun i => (d * (i : Int) + c) / f + 1) Y := S_congr fun i _ => by
        rw [← Int.add_assoc, step]
      rw [e, S_add, S_const]
      show FS Y f d c + _ = FS Y f d c + _
      omega
    · have d1 : (L + f) / d = ((Y + 1 : Nat) : Int) ∧ (L + f) % d = c + f - d := by
        have e : L + f = (c + f - d) + ((Y : Int) + 1) * d := by rw [Int.add_mul, Int.mul_comm (Y : Int)]; omega
        rw [e, Int.add_mul_ediv_right _ _ (by omega), Int.add_mul_emod_self_right, Int.ediv_eq_zero_of_lt (by omega) (by omega), Int.emod_eq_of_lt (by omega) (by omega)]
        exact ⟨by omega, rfl⟩
      rw [d1.1, d1.2, hY, Int.toNat_natCast, Int.toNat_natCast, ← hc]
      have e : FS (Y + 1) f d (c + f - d) = (c + f - d) / f + S (fun i => (d * (i : Int) + c) / f + 1) Y := by
        unfold FS
        rw [S_head]
        have e0 : (d * ((0 : Nat) : Int) + (c + f - d)) = c + f - d := by simp
        rw [e0]
        congr 1
        exact S_congr fun i _ => by
          have : d * ((i + 1 : Nat) : Int) + (c + f - d) = (d * (i : Int) + c) + f := by
            have : ((i + 1 : Nat) : Int) = (i : Int) + 1 := by omega
            rw [this, Int.mul_add]
            omega
          rw [this, step]
      rw [e, S_add, S_const, Int.ediv_eq_zero_of_lt (show 0 ≤ c + f - d by omega) (by omega)]
      show FS Y f d c + _ = 0 + (FS Y f d c + _)
      omega
end DV

set_option Elab.async false
set_option linter.all false
/-! Dividers, the mathematics: where one is right -/
namespace DV
structure Dv where
  b : Int
  m : Int
  o : Int
  s : Nat
def Dv.W (D : Dv) : Int := 2 ^ D.s
def Dv.g (D : Dv) : Int := D.W - D.m * D.b
structure Dv.Ok (D : Dv) : Prop where
  hb : 2 ≤ D.b
  hm : 0 ≤ D.m
  ho : 0 ≤ D.o
theorem Dv.W_pos (D : Dv) : 0 < D.W := Int.pow_pos (by decide)
def Dv.rb (D : Dv) (p : Int) : Int := DV.rb D.b D.m p
def Dv.few (D : Dv) (q : Int) : Int := D.rb (D.g * q - D.o)
def Dv.fit (D : Dv) (q : Int) : Int := D.rb (D.g * q - D.o + D.W)
/-- what is told for x -/
def Dv.told (D : Dv) (x : Int) : Int := (x * D.m + D.o) / D.W
def Dv.R (D : Dv) (x : Int) : Prop := D.told x = x / D.b
instance (D : Dv) (x : Int) : Decidable (D.R x) := inferInstanceAs (Decidable (_ = _))
theorem div_of {b q r : Int} (h0 : 0 ≤ r) (hr : r < b) : (b * q + r) / b = q := by
  have e : b * q + r = r + q * b := by rw [Int.mul_comm]; omega
  rw [e, Int.add_mul_ediv_right _ _ (by omega), Int.ediv_eq_zero_of_lt h0 hr]
  omega
theorem div_is {x W q : Int} (hW : 0 < W) : x / W = q ↔ q * W ≤ x ∧ x < q * W + W := by
  constructor
  · intro h
    subst h
    have h1 := Int.emod_add_mul_ediv x W
    have h2 := Int.emod_nonneg x (show W ≠ 0 by omega)
    have h3 := Int.emod_lt_of_pos x hW
    rw [Int.mul_comm]
    omega
  · rintro ⟨h1, h2⟩
    have e : x = (x - q * W) + q * W := by omega
    rw [e, Int.add_mul_ediv_right _ _ (by omega), Int.ediv_eq_zero_of_lt (by omega) (by omega)]
    omega
variable {D : Dv}
theorem R_iff (K : D.Ok) {q r : Int} (h0 : 0 ≤ r) (hr : r < D.b) : D.R (D.b * q + r) ↔ D.g * q - D.o ≤ r * D.m ∧ r * D.m < D.g * q - D.o + D.W := by
  unfold Dv.R Dv.told
  rw [div_of h0 hr, div_is D.W_pos]
  have e : (D.b * q + r) * D.m = q * D.W - D.g * q + r * D.m := by
    unfold Dv.g
    have e1 : (D.b * q + r) * D.m = q * (D.m * D.b) + r * D.m := by
      rw [Int.add_mul]
      congr 1
      rw [Int.mul_comm D.b q, Int.mul_assoc, Int.mul_comm D.b]
    rw [e1, Int.sub_mul, Int.mul_comm q D.W, Int.mul_comm q (D.m * D.b)]
    omega
  rw [e]
  omega
theorem few_iff (K : D.Ok) {q r : Int} (h0 : 0 ≤ r) (hr : r < D.b) : r < D.few q ↔ r * D.m < D.g * q - D.o := rb_iff K.hm h0 hr
theorem fit_iff (K : D.Ok) {q r : Int} (h0 : 0 ≤ r) (hr : r < D.b) : r < D.fit q ↔ r * D.m < D.g * q - D.o + D.W := rb_iff K.hm h0 hr
theorem R_ff (K : D.Ok) {q r : Int} (h0 : 0 ≤ r) (hr : r < D.b) : D.R (D.b * q + r) ↔ D.few q ≤ r ∧ r < D.fit q := by
  rw [R_iff K h0 hr, ← fit_iff K h0 hr]
  have := few_iff K (q := q) h0 hr
  omega
theorem few_pos (K : D.Ok) (q : Int) : 0 ≤ D.few q := rb_nonneg K.hm (by have := K.hb; omega)
theorem fit_pos (K : D.Ok) (q : Int) : 0 ≤ D.fit q := rb_nonneg K.hm (by have := K.hb; omega)
theorem few_b (K : D.Ok) (q : Int) : D.few q ≤ D.b := rb_le K.hm (by have := K.hb; omega)
theorem fit_b (K : D.Ok) (q : Int) : D.fit q ≤ D.b := rb_le K.hm (by have := K.hb; omega)
theorem few_fit (K : D.Ok) (q : Int) : D.few q ≤ D.fit q := rb_mono K.hm (by have := K.hb; omega) (by have := D.W_pos; omega)
/-! ### from a rest on -/
def Dv.wf (D : Dv) (q r : Int) : Option Int := if r < D.few q then some r else if mx r (D.fit q) < D.b then some (mx r (D.fit q)) else none
def Dv.rf (D : Dv) (q r : Int) : Option Int := if mx r (D.few q) < D.fit q then some (mx r (D.few q)) else none
theorem wf_none (K : D.Ok) {q r : Int} (h0 : 0 ≤ r) (h : D.wf q r = none) : ∀ r2, r ≤ r2 → r2 < D.b → D.R (D.b * q + r2) := by
  intro r2 h1 h2
  rw [R_ff K (by omega) h2]
  unfold Dv.wf at h
  rw [mx_eq] at h
  split at h
  · cases h
  · split at h
    · cases h
    · have := fit_b K q
      omega
theorem wf_some (K : D.Ok) {q r f : Int} (h0 : 0 ≤ r) (hr : r < D.b) (h : D.wf q r = some f) : r ≤ f ∧ f < D.b ∧ ¬ D.R (D.b * q + f) ∧ ∀ r2, r ≤ r2 → r2 < f → D.R (D.b * q + r2) := by
  unfold Dv.wf at h
  rw [mx_eq] at h
  have e1 := fit_pos K q
  split at h
  · cases h
    refine ⟨by omega, hr, ?_, fun r2 h1 h2 => by omega⟩
    rw [R_ff K h0 hr]
    omega
  · split at h
    · cases h
      refine ⟨by omega, by omega, ?_, fun r2 h1 h2 => ?_⟩
      · rw [R_ff K (by omega) (by omega)]
        omega
      · rw [R_ff K (by omega) (by omega)]
        omega
    · cases h
theorem rf_none (K : D.Ok) {q r : Int} (h0 : 0 ≤ r) (h : D.rf q r = none) : ∀ r2, r ≤ r2 → r2 < D.b → ¬ D.R (D.b * q + r2) := by
  intro r2 h1 h2
  rw [R_ff K (by omega) h2]
  unfold Dv.rf at h
  rw [mx_eq] at h
  split at h
  · cases h
  · omega
theorem rf_some (K : D.Ok) {q r f : Int} (h0 : 0 ≤ r) (h : D.rf q r = some f) : r ≤ f ∧ f < D.b ∧ D.R (D.b * q + f) ∧ ∀ r2, r ≤ r2 → r2 < f → ¬ D.R (D.b * q + r2) := by
  unfold Dv.rf at h
  rw [mx_eq] at h
  have e1 := fit_b K q
  have e2 := few_pos K q
  split at h
  · cases h
    refine ⟨by omega, by omega, ?_, fun r2 h1 h2 => ?_⟩
    · rw [R_ff K (by omega) (by omega)]
      omega
    · rw [R_ff K (by omega) (by omega)]
      omega
  · cases h
/-! ### the next block -/
def Dv.wq (D : Dv) (q : Int) : Option Int := if D.wf q 0 ≠ none then some q else if 0 < D.g then some (mx q (D.o / D.g + 1)) else if D.g < 0 then some (mx q (up (D.W - D.o - D.m * (D.b - 1)) (-D.g))) else none
def Dv.rq (D : Dv) (q : Int) : Option Int := if D.rf q 0 ≠ none then some q else if D.g ≤ 0 then none else if D.rf (mx q ((D.o - D.W) / D.g + 1)) 0 ≠ none then some (mx q ((D.o - D.W) / D.g + 1)) else none
/-- some rest is wrong -/
def Dv.AW (D : Dv) (q : Int) : Prop := D.wf q 0 ≠ none
theorem aw_iff (K : D.Ok) (q : Int) : D.AW q ↔ 0 < D.g * q - D.o ∨ D.g * q - D.o + D.W ≤ (D.b - 1) * D.m := by
  have hb := K.hb
  have h1 := few_iff K (q := q) (r := 0) (by omega) (by omega)
  have h2 := fit_iff K (q := q) (r := D.b - 1) (by omega) (by omega)
  rw [Int.zero_mul] at h1
  have e1 := fit_pos K q
  unfold Dv.AW Dv.wf
  rw [mx_eq]
  have h3 : max 0 (D.fit q) = D.fit q := by omega
  rw [h3]
  constructor
  · intro h
    by_cases c1 : 0 < D.few q
    · exact .inl (h1.mp c1)
    · rw [if_neg c1] at h
      by_cases c2 : D.fit q < D.b
      · refine .inr ?_
        have : ¬ (D.b - 1 < D.fit q) := by omega
        rw [h2] at this
        omega
      · rw [if_neg c2] at h
        exact absurd rfl h
  · intro h
    by_cases c1 : 0 < D.few q
    · rw [if_pos c1]
      intro z
      cases z
    · rw [if_neg c1]
      rw [h1] at c1
      have c2 : D.fit q < D.b := by
        have : ¬ (D.b - 1 < D.fit q) := by
          rw [h2]
          omega
        omega
      rw [if_pos c2]
      intro z
      cases z
theorem mul_le {g p q : Int} (hg : 0 ≤ g) (h : p ≤ q) : g * p ≤ g * q := Int.mul_le_mul_of_nonneg_left h hg
theorem wq_none (K : D.Ok) {q : Int} (h0 : 0 ≤ q) (h : D.wq q = none) : ∀ q2, q ≤ q2 → ¬ D.AW q2 := by
  intro q2 h2
  unfold Dv.wq at h
  split at h
  · cases h
  rename_i c1
  have hq : ¬ D.AW q := c1
  split at h
  · cases h
  split at h
  · cases h
  · have hg : D.g = 0 := by omega
    rw [aw_iff K] at hq ⊢
    rw [hg, Int.zero_mul] at hq ⊢
    exact hq
theorem wq_some (K : D.Ok) {q q1 : Int} (h0 : 0 ≤ q) (h : D.wq q = some q1) : q ≤ q1 ∧ D.AW q1 ∧ ∀ q2, q ≤ q2 → q2 < q1 → ¬ D.AW q2 := by
  unfold Dv.wq at h
  split at h
  · rename_i c1
    cases h
    exact ⟨by omega, c1, fun q2 a b => by omega⟩
  rename_i c1
  have hq : ¬ D.AW q := c1
  have hq2 := hq
  rw [aw_iff K] at hq2
  have ho := K.ho
  split at h
  · rename_i hg
    cases h
    rw [mx_eq]
    have d1 : D.o / D.g * D.g ≤ D.o ∧ D.o < D.o / D.g * D.g + D.g := (div_is hg).mp rfl
    have e1 : D.g * (D.o / D.g + 1) = D.o / D.g * D.g + D.g := by rw [Int.mul_add, Int.mul_comm]; omega
    have hlt : q < D.o / D.g + 1 := by
      by_cases z : q < D.o / D.g + 1
      · exact z
      · have := mul_le (g := D.g) (by omega) (show D.o / D.g + 1 ≤ q by omega)
        omega
    have e2 : max q (D.o / D.g + 1) = D.o / D.g + 1 := by omega
    rw [e2]
    refine ⟨by omega, ?_, fun q2 a b => ?_⟩
    · rw [aw_iff K]
      left
      omega
    · rw [aw_iff K]
      have a1 := mul_le (g := D.g) (by omega) a
      have a2 := mul_le (g := D.g) (by omega) (show q2 ≤ D.o / D.g by omega)
      rw [Int.mul_comm D.g (D.o / D.g)] at a2
      omega
  split at h
  · rename_i c2 hg
    cases h
    rw [mx_eq]
    have hneg : ∀ p, 0 ≤ p → D.g * p ≤ 0 := fun p hp => by
      have := Int.mul_nonneg (show 0 ≤ -D.g by omega) hp
      rw [Int.neg_mul] at this
      omega
    have key : ∀ p, 0 ≤ p → (D.AW p ↔ up (D.W - D.o - D.m * (D.b - 1)) (-D.g) ≤ p) := fun p hp => by
      rw [aw_iff K, up_le (by omega)]
      have a1 := hneg p hp
      have a2 : p * -D.g = -(D.g * p) := by rw [Int.mul_neg, Int.mul_comm]
      rw [a2, Int.mul_comm (D.b - 1) D.m]
      omega
    have hq3 := hq
    rw [key q h0] at hq3
    have e2 : max q (up (D.W - D.o - D.m * (D.b - 1)) (-D.g)) = up (D.W - D.o - D.m * (D.b - 1)) (-D.g) := by omega
    rw [e2]
    refine ⟨by omega, ?_, fun q2 a b => ?_⟩
    · rw [key _ (by omega)]
      omega
    · rw [key _ (by omega)]
      omega
  · cases h
/-- some rest is right -/
def Dv.AR (D : Dv) (q : Int) : Prop := D.rf q 0 ≠ none
theorem ar_of (K : D.Ok) {q r : Int} (h0 : 0 ≤ r) (hr : r < D.b) (h : D.R (D.b * q + r)) : D.AR q := fun z => rf_none K (by omega) z r h0 hr h
theorem rq_some (K : D.Ok) {q q1 : Int} (h0 : 0 ≤ q) (h : D.rq q = some q1) : q ≤ q1 ∧ D.AR q1 ∧ ∀ q2, q ≤ q2 → q2 < q1 → ¬ D.AR q2 := by
  have hb := K.hb
  unfold Dv.rq at h
  split at h
  · rename_i c1
    cases h
    exact ⟨by omega, c1, fun q2 a b => by omega⟩
  rename_i c1
  split at h
  · cases h
  rename_i hg
  split at h
  · rename_i c2
    cases h
    rw [mx_eq] at c2 ⊢
    have hgp : 0 < D.g := by omega
    refine ⟨by omega, c2, fun q2 a b => ?_⟩
    -- fit q2 = 0
    have d1 := (div_is (x := D.o - D.W) (q := (D.o - D.W) / D.g) hgp).mp rfl
    have hq2 : q2 ≤ (D.o - D.W) / D.g := by omega
    have a2 := mul_le (g := D.g) (by omega) hq2
    rw [Int.mul_comm D.g ((D.o - D.W) / D.g)] at a2
    intro z
    apply z
    have f0 : ¬ (0 < D.fit q2) := by
      rw [fit_iff K (by omega) (by omega), Int.zero_mul]
      omega
    have f1 := few_pos K q2
    unfold Dv.rf
    rw [mx_eq, if_neg (by omega)]
  · cases h
theorem rq_none (K : D.Ok) {q : Int} (h0 : 0 ≤ q) (h : D.rq q = none) : ∀ q2, q ≤ q2 → ¬ D.AR q2 := by
  have hb := K.hb
  have hm := K.hm
  have ho := K.ho
  have hW := D.W_pos
  -- right with the rest 0
  have zero : ∀ p, (D.g * p - D.o ≤ 0 ∧ 0 < D.g * p - D.o + D.W) → D.AR p := fun p hp => ar_of K (r := 0) (by omega) (by omega) ((R_iff K (by omega) (by omega)).mpr (by rw [Int.zero_mul]; exact hp))
  intro q2 h2 hA
  obtain ⟨f, hf⟩ : ∃ f, D.rf q2 0 = some f := by
    cases e : D.rf q2 0 with
    | none => exact absurd e hA
    | some f => exact ⟨f, rfl⟩
  obtain ⟨f0, f1, f2, _⟩ := rf_some K (by omega) hf
  rw [R_iff K f0 f1] at f2
  unfold Dv.rq at h
  split at h
  · cases h
  rename_i c1
  have hq : ¬ D.AR q := c1
  split at h
  · rename_i hg
    -- g ≤ 0
    have hneg : ∀ p, 0 ≤ p → D.g * p ≤ 0 := fun p hp => by
      have := Int.mul_nonneg (show 0 ≤ -D.g by omega) hp
      rw [Int.neg_mul] at this
      omega
    have a1 := hneg q h0
    have a2 : D.g * q2 ≤ D.g * q := by
      have := mul_le (g := -D.g) (by omega) h2
      rw [Int.neg_mul, Int.neg_mul] at this
      omega
    have a3 := Int.mul_nonneg f0 hm
    exact hq (zero q ⟨by omega, by omega⟩)
  rename_i hg
  split at h
  · cases h
  rename_i c2
  have hgp : 0 < D.g := by omega
  obtain ⟨p, hp⟩ : ∃ p, p = mx q ((D.o - D.W) / D.g + 1) := ⟨_, rfl⟩
  rw [← hp] at c2
  rw [mx_eq] at hp
  have hpA : ¬ D.AR p := c2
  have d1 := (div_is (x := D.o - D.W) (q := (D.o - D.W) / D.g) hgp).mp rfl
  have hmb : 0 ≤ D.m * D.b := Int.mul_nonneg hm (by omega)
  have hgW : D.g ≤ D.W := by unfold Dv.g; omega
  by_cases c3 : q < (D.o - D.W) / D.g + 1
  · have e : p = (D.o - D.W) / D.g + 1 := by omega
    have e1 : D.g * p = (D.o - D.W) / D.g * D.g + D.g := by rw [e, Int.mul_add, Int.mul_comm]; omega
    exact hpA (zero p ⟨by omega, by omega⟩)
  · have e : p = q := by omega
    have e1 := mul_le (g := D.g) (by omega) (show (D.o - D.W) / D.g + 1 ≤ q by omega)
    have e2 : D.g * ((D.o - D.W) / D.g + 1) = (D.o - D.W) / D.g * D.g + D.g := by rw [Int.mul_add, Int.mul_comm]; omega
    have P0 : 0 < D.g * q - D.o + D.W := by omega
    have P1 : 0 < D.g * q - D.o := by
      by_cases z : 0 < D.g * q - D.o
      · exact z
      · exact absurd (zero q ⟨by omega, P0⟩) hq
    have a2 := mul_le (g := D.g) (by omega) h2
    -- times is not 0: f * m ≥ g q2 - o > 0
    have hmp : 0 < D.m := by
      by_cases z : 0 < D.m
      · exact z
      · have : D.m = 0 := by omega
        rw [this, Int.mul_zero] at f2
        omega
    -- m < W
    have hmW : D.m ≤ D.W := by
      have : D.m * 1 ≤ D.m * D.b := mul_le (by omega) (by omega)
      unfold Dv.g at hgp
      omega
    -- r: the least one with r * m ≥ g q - o
    obtain ⟨r, hr⟩ : ∃ r, r = up (D.g * q - D.o) D.m := ⟨_, rfl⟩
    have r1 : D.g * q - D.o ≤ r * D.m := (up_le hmp).mp (by omega)
    have r2 : ¬ (D.g * q - D.o ≤ (r - 1) * D.m) := by
      rw [← up_le hmp]
      omega
    rw [Int.sub_mul] at r2
    have r3 : 0 < r := by rw [hr, lt_up hmp]; omega
    have r4 : r ≤ f := by
      rw [hr, up_le hmp]
      omega
    refine hq (ar_of K (r := r) (by omega) (by omega) ?_)
    rw [R_iff K (by omega) (by omega)]
    omega
end DV

set_option Elab.async false
set_option linter.all false
/-! Dividers, the mathematics: the next wrong and right number; how many are wrong -/
namespace DV
variable {D : Dv}
theorem split_x (K : D.Ok) {x : Int} (h : 0 ≤ x) : x = D.b * (x / D.b) + x % D.b ∧ 0 ≤ x % D.b ∧ x % D.b < D.b ∧ 0 ≤ x / D.b := by
  have hb := K.hb
  have h1 := Int.emod_add_mul_ediv x D.b
  exact ⟨by omega, Int.emod_nonneg x (by omega), Int.emod_lt_of_pos x (by omega), Int.ediv_nonneg h (by omega)⟩
/-- x lies in the block q, ahead of it, or behind it -/
theorem blk_lt (K : D.Ok) {p q r t : Int} (h0 : 0 ≤ r) (hr : r < D.b) (ht0 : 0 ≤ t) (ht : t < D.b) (h : D.b * p + r < D.b * q + t) : p < q ∨ (p = q ∧ r < t) := by
  have hb := K.hb
  by_cases z : p < q
  · exact .inl z
  · refine .inr ?_
    by_cases y : p = q
    · subst y
      exact ⟨rfl, by omega⟩
    · exfalso
      have := mul_le (g := D.b) (by omega) (show q + 1 ≤ p by omega)
      rw [Int.mul_add] at this
      omega
def Dv.nw (D : Dv) (x : Int) : Option Int := match D.wf (x / D.b) (x % D.b) with
  | some f => some (D.b * (x / D.b) + f)
  | none => match D.wq (x / D.b + 1) with
    | none => none
    | some q => (D.wf q 0).map fun f => D.b * q + f
def Dv.nr (D : Dv) (x : Int) : Option Int := match D.rf (x / D.b) (x % D.b) with
  | some f => some (D.b * (x / D.b) + f)
  | none => match D.rq (x / D.b + 1) with
    | none => none
    | some q => (D.rf q 0).map fun f => D.b * q + f
theorem nw_none (K : D.Ok) {x : Int} (h0 : 0 ≤ x) (h : D.nw x = none) : ∀ y, x ≤ y → D.R y := by
  intro y hy
  obtain ⟨ex, r0, r1, q0⟩ := split_x K h0
  obtain ⟨ey, t0, t1, p0⟩ := split_x K (show 0 ≤ y by omega)
  unfold Dv.nw at h
  split at h
  · cases h
  rename_i hw
  rw [ey]
  by_cases z : y / D.b = x / D.b
  · have : x % D.b ≤ y % D.b := by rw [z] at ey; omega
    rw [z]
    exact wf_none K r0 hw _ this t1
  · have lt : x / D.b < y / D.b := by
      have hne : x ≠ y := fun e => z (by rw [e])
      rcases blk_lt K r0 r1 t0 t1 (p := x / D.b) (q := y / D.b) (by omega) with c | ⟨c, _⟩
      · exact c
      · exact absurd c.symm z
    split at h
    · rename_i hq
      have := wq_none K (show 0 ≤ x / D.b + 1 by omega) hq (y / D.b) (by omega)
      unfold Dv.AW at this
      exact wf_none K (by omega) (Classical.not_not.mp this) _ t0 t1
    · rename_i q hq
      obtain ⟨a1, a2, a3⟩ := wq_some K (by omega) hq
      cases e : D.wf q 0 with
      | none => exact absurd e a2
      | some f => rw [e] at h; cases h
theorem nw_some (K : D.Ok) {x y : Int} (h0 : 0 ≤ x) (h : D.nw x = some y) : x ≤ y ∧ ¬ D.R y ∧ ∀ z, x ≤ z → z < y → D.R z := by
  obtain ⟨ex, r0, r1, q0⟩ := split_x K h0
  unfold Dv.nw at h
  split at h
  · rename_i f hw
    cases h
    obtain ⟨a1, a2, a3, a4⟩ := wf_some K r0 r1 hw
    refine ⟨by omega, a3, fun z hz1 hz2 => ?_⟩
    have e := a4 (z - D.b * (x / D.b)) (by omega) (by omega)
    rw [show D.b * (x / D.b) + (z - D.b * (x / D.b)) = z by omega] at e
    exact e
  · rename_i hw
    split at h
    · cases h
    · rename_i q hq
      obtain ⟨a1, a2, a3⟩ := wq_some K (by omega) hq
      cases e : D.wf q 0 with
      | none => exact absurd e a2
      | some f =>
        rw [e] at h
        have hy : D.b * q + f = y := Option.some.inj h
        subst hy
        have hb := K.hb
        obtain ⟨b1, b2, b3, b4⟩ := wf_some K (by omega) (by omega) e
        have m1 := mul_le (g := D.b) (by omega) a1
        rw [Int.mul_add] at m1
        refine ⟨by omega, b3, fun z hz1 hz2 => ?_⟩
        obtain ⟨ez, t0, t1, p0⟩ := split_x K (show 0 ≤ z by omega)
        rw [ez]
        by_cases c : z / D.b = x / D.b
        · rw [c]
          rw [c] at ez
          exact wf_none K r0 hw _ (by omega) t1
        · have lt : x / D.b < z / D.b := by
            have hne : x ≠ z := fun e => c (by rw [e])
            rcases blk_lt K r0 r1 t0 t1 (p := x / D.b) (q := z / D.b) (by omega) with c2 | ⟨c2, _⟩
            · exact c2
            · exact absurd c2.symm c
          rcases blk_lt K t0 t1 b1 b2 (p := z / D.b) (q := q) (by omega) with c3 | ⟨c3, c4⟩
          · have := a3 (z / D.b) (by omega) c3
            unfold Dv.AW at this
            exact wf_none K (by omega) (Classical.not_not.mp this) _ t0 t1
          · rw [c3]
            exact b4 _ t0 c4
theorem nr_none (K : D.Ok) {x : Int} (h0 : 0 ≤ x) (h : D.nr x = none) : ∀ y, x ≤ y → ¬ D.R y := by
  intro y hy
  obtain ⟨ex, r0, r1, q0⟩ := split_x K h0
  obtain ⟨ey, t0, t1, p0⟩ := split_x K (show 0 ≤ y by omega)
  unfold Dv.nr at h
  split at h
  · cases h
  rename_i hw
  rw [ey]
  by_cases z : y / D.b = x / D.b
  · have : x % D.b ≤ y % D.b := by rw [z] at ey; omega
    rw [z]
    exact rf_none K r0 hw _ this t1
  · have lt : x / D.b < y / D.b := by
      have hne : x ≠ y := fun e => z (by rw [e])
      rcases blk_lt K r0 r1 t0 t1 (p := x / D.b) (q := y / D.b) (by omega) with c | ⟨c, _⟩
      · exact c
      · exact absurd c.symm z
    split at h
    · rename_i hq
      have := rq_none K (show 0 ≤ x / D.b + 1 by omega) hq (y / D.b) (by omega)
      unfold Dv.AR at this
      exact rf_none K (by omega) (Classical.not_not.mp this) _ t0 t1
    · rename_i q hq
      obtain ⟨a1, a2, a3⟩ := rq_some K (by omega) hq
      cases e : D.rf q 0 with
      | none => exact absurd e a2
      | some f => rw [e] at h; cases h
theorem nr_some (K : D.Ok) {x y : Int} (h0 : 0 ≤ x) (h : D.nr x = some y) : x ≤ y ∧ D.R y ∧ ∀ z, x ≤ z → z < y → ¬ D.R z := by
  obtain ⟨ex, r0, r1, q0⟩ := split_x K h0
  unfold Dv.nr at h
  split at h
  · rename_i f hw
    cases h
    obtain ⟨a1, a2, a3, a4⟩ := rf_some K r0 hw
    refine ⟨by omega, a3, fun z hz1 hz2 => ?_⟩
    have e := a4 (z - D.b * (x / D.b)) (by omega) (by omega)
    rw [show D.b * (x / D.b) + (z - D.b * (x / D.b)) = z by omega] at e
    exact e
  · rename_i hw
    split at h
    · cases h
    · rename_i q hq
      obtain ⟨a1, a2, a3⟩ := rq_some K (by omega) hq
      cases e : D.rf q 0 with
      | none => exact absurd e a2
      | some f =>
        rw [e] at h
        have hy : D.b * q + f = y := Option.some.inj h
        subst hy
        have hb := K.hb
        obtain ⟨b1, b2, b3, b4⟩ := rf_some K (by omega) e
        have m1 := mul_le (g := D.b) (by omega) a1
        rw [Int.mul_add] at m1
        refine ⟨by omega, b3, fun z hz1 hz2 => ?_⟩
        obtain ⟨ez, t0, t1, p0⟩ := split_x K (show 0 ≤ z by omega)
        rw [ez]
        by_cases c : z / D.b = x / D.b
        · rw [c]
          rw [c] at ez
          exact rf_none K r0 hw _ (by omega) t1
        · have lt : x / D.b < z / D.b := by
            have hne : x ≠ z := fun e => c (by rw [e])
            rcases blk_lt K r0 r1 t0 t1 (p := x / D.b) (q := z / D.b) (by omega) with c2 | ⟨c2, _⟩
            · exact c2
            · exact absurd c2.symm c
          rcases blk_lt K t0 t1 b1 b2 (p := z / D.b) (q := q) (by omega) with c3 | ⟨c3, c4⟩
          · have := a3 (z / D.b) (by omega) c3
            unfold Dv.AR at this
            exact rf_none K (by omega) (Classical.not_not.mp this) _ t0 t1
          · rw [c3]
            exact b4 _ t0 c4
/-! ### counts -/
def Dv.ind (D : Dv) (i : Nat) : Int := if D.R (i : Int) then 1 else 0
/-- how many below n are right -/
def Dv.cr (D : Dv) (n : Nat) : Int := S D.ind n
/-- how many up to x are wrong -/
def Dv.cw (D : Dv) (x : Int) : Int := x + 1 - D.cr (x + 1).toNat
theorem cr_in (K : D.Ok) {bn : Nat} (hbn : (bn : Int) = D.b) (q : Nat) : ∀ r : Nat, r ≤ bn → D.cr (bn * q + r) = D.cr (bn * q) + (min (D.fit q) (r : Int) - min (D.few q) (r : Int))
  | 0, _ => by
    have := few_pos K (q : Int)
    have := fit_pos K (q : Int)
    show D.cr (bn * q + 0) = _
    rw [Nat.add_zero]
    omega
  | r + 1, h => by
    have ih := cr_in K hbn q r (by omega)
    have e : D.cr (bn * q + (r + 1)) = D.cr (bn * q + r) + D.ind (bn * q + r) := rfl
    rw [e, ih]
    have h1 : ((bn * q + r : Nat) : Int) = D.b * (q : Int) + (r : Int) := by rw [Int.natCast_add, Int.natCast_mul, hbn]
    have h2 := R_ff K (q := (q : Int)) (r := (r : Int)) (by omega) (by omega)
    have h3 := few_fit K (q : Int)
    unfold Dv.ind
    rw [h1]
    split
    · rename_i hR
      rw [h2] at hR
      omega
    · rename_i hR
      rw [h2] at hR
      omega
theorem cr_blocks (K : D.Ok) {bn : Nat} (hbn : (bn : Int) = D.b) : ∀ q : Nat, D.cr (bn * q) = S (fun i => D.fit (i : Int) - D.few (i : Int)) q
  | 0 => by rw [Nat.mul_zero]; rfl
  | q + 1 => by
    have e := cr_in K hbn q bn (Nat.le_refl _)
    have a1 := fit_b K (q : Int)
    have a2 := few_b K (q : Int)
    rw [Nat.mul_succ, e, cr_blocks K hbn q]
    show _ = S (fun i => D.fit (i : Int) - D.few (i : Int)) q + (D.fit (q : Int) - D.few (q : Int))
    omega
/-- sums of rests below products -/
def Dv.SB (D : Dv) (start : Int) (n : Nat) : Int := S (fun i => D.rb (D.g * (i : Int) + start)) n
theorem cr_sum (K : D.Ok) {bn : Nat} (hbn : (bn : Int) = D.b) (q r : Nat) (hr : r < bn) : D.cr (bn * q + r + 1) = mx 0 (mn (D.fit q) ((r : Int) + 1) - mn (D.few q) ((r : Int) + 1)) + (D.SB (D.W - D.o) q - D.SB (-D.o) q) := by
  have e := cr_in K hbn q (r + 1) (by omega)
  have h3 := few_fit K (q : Int)
  rw [show bn * q + r + 1 = bn * q + (r + 1) by omega, e, cr_blocks K hbn q, S_sub]
  have e1 : S (fun i => D.fit (i : Int)) q = D.SB (D.W - D.o) q := S_congr fun i _ => by
    show D.rb _ = D.rb _
    congr 1
    omega
  have e2 : S (fun i => D.few (i : Int)) q = D.SB (-D.o) q := S_congr fun i _ => by
    show D.rb _ = D.rb _
    congr 1
  rw [e1, e2, mx_eq, mn_eq, mn_eq]
  omega
theorem cr_zero (K : D.Ok) (hz : D.m = 0) {bn : Nat} (hbn : (bn : Int) = D.b) (q r : Nat) (hr : r < bn) : D.cr (bn * q + r + 1) = mx 0 (mn (D.fit q) ((r : Int) + 1) - mn (D.few q) ((r : Int) + 1)) + (if D.o / D.W < (q : Int) then D.b else 0) := by
  have e := cr_in K hbn q (r + 1) (by omega)
  have h3 := few_fit K (q : Int)
  have ho := K.ho
  have hW := D.W_pos
  have hb := K.hb
  have t0 : 0 ≤ D.o / D.W := Int.ediv_nonneg ho (by omega)
  have hg : D.g = D.W := by unfold Dv.g; rw [hz, Int.zero_mul]; omega
  have one : ∀ i : Nat, D.fit (i : Int) - D.few (i : Int) = if (i : Int) = D.o / D.W then D.b else 0 := fun i => by
    have d := div_is (x := D.o) (q := (i : Int)) hW
    unfold Dv.fit Dv.few Dv.rb rb
    rw [hg, hz, Int.mul_comm D.W]
    simp only [if_true]
    by_cases c : D.o / D.W = (i : Int)
    · rw [if_pos (show (i : Int) = D.o / D.W from c.symm)]
      have := d.mp c
      rw [if_neg (by omega), if_pos (by omega)]
      omega
    · rw [if_neg (show ¬ ((i : Int) = D.o / D.W) from fun z => c z.symm)]
      have : ¬ ((i : Int) * D.W ≤ D.o ∧ D.o < (i : Int) * D.W + D.W) := fun z => c (d.mpr z)
      by_cases c2 : (i : Int) * D.W ≤ D.o
      · rw [if_pos (by omega), if_pos (by omega)]
        omega
      · rw [if_neg (by omega), if_neg (by omega)]
        omega
  have sum : ∀ n : Nat, S (fun i => D.fit (i : Int) - D.few (i : Int)) n = if D.o / D.W < (n : Int) then D.b else 0 := fun n => by
    induction n with
    | zero => rw [if_neg (by omega)]; rfl
    | succ n ih =>
      show S (fun i => D.fit (i : Int) - D.few (i : Int)) n + (D.fit (n : Int) - D.few (n : Int)) = _
      rw [ih, one n]
      have : ((n + 1 : Nat) : Int) = (n : Int) + 1 := by omega
      rw [this]
      by_cases c1 : D.o / D.W < (n : Int)
      · rw [if_pos c1, if_neg (by omega), if_pos (by omega)]
        omega
      · rw [if_neg c1]
        by_cases c2 : (n : Int) = D.o / D.W
        · rw [if_pos c2, if_pos (by omega)]
          omega
        · rw [if_neg c2, if_neg (by omega)]
          omega
  rw [show bn * q + r + 1 = bn * q + (r + 1) by omega, e, cr_blocks K hbn q, sum, mx_eq, mn_eq, mn_eq]
  omega
/-! ### sums of rests -/
def clamp (lo hi x : Int) : Int := mx lo (mn hi x)
/-- the sum for a gain from 0 on, by a sum of quotients -/
def sb (b m g start : Int) (n : Nat) : Int := S (fun i => rb b m (g * (i : Int) + start)) n
def sbF (m g added : Int) (n : Int) : Int := mx 0 (mn n (up (-added) g))
def sbL (b m g added : Int) (n : Int) : Int := mx (sbF m g added n) (mn n (up (m * b - added) g))
theorem sb_pos {b m g start : Int} (hm : 0 < m) (hb : 0 < b) (hg : 0 < g) (n : Nat) :
    sb b m g start n = FS (sbL b m g (start + m - 1) n - sbF m g (start + m - 1) n).toNat m g (start + m - 1 + g * sbF m g (start + m - 1) n) + ((n : Int) - sbL b m g (start + m - 1) n) * b ∧
    0 ≤ sbF m g (start + m - 1) n ∧ sbF m g (start + m - 1) n ≤ sbL b m g (start + m - 1) n ∧ sbL b m g (start + m - 1) n ≤ n ∧ (sbF m g (start + m - 1) n < sbL b m g (start + m - 1) n → 0 ≤ start + m - 1 + g * sbF m g (start + m - 1) n) := by
  obtain ⟨A, hA⟩ : ∃ A, A = start + m - 1 := ⟨_, rfl⟩
  rw [← hA]
  obtain ⟨F, hF⟩ : ∃ F, F = sbF m g A n := ⟨_, rfl⟩
  obtain ⟨L, hL⟩ : ∃ L, L = sbL b m g A n := ⟨_, rfl⟩
  rw [← hF, ← hL]
  have hF2 : F = max 0 (min (n : Int) (up (-A) g)) := by rw [hF]; unfold sbF; rw [mx_eq, mn_eq]
  have hL2 : L = max F (min (n : Int) (up (m * b - A) g)) := by rw [hL]; unfold sbL; rw [mx_eq, mn_eq, ← hF]
  have hmb : 0 < m * b := Int.mul_pos hm hb
  have hmb2 : m ≤ m * b := by
    have := mul_le (g := m) (by omega) (show (1 : Int) ≤ b by omega)
    rw [Int.mul_one] at this
    exact this
  -- the three stretches
  have low : ∀ i : Int, 0 ≤ i → i < F → rb b m (g * i + start) = 0 := fun i h0 h1 => by
    have : i < up (-A) g := by omega
    rw [lt_up hg, Int.mul_comm i g] at this
    unfold rb
    rw [if_pos (by omega)]
  have hi : ∀ i : Int, L ≤ i → i < n → rb b m (g * i + start) = b := fun i h0 h1 => by
    have : up (m * b - A) g ≤ i := by omega
    rw [up_le hg, Int.mul_comm i g] at this
    have h1 : b ≤ up (g * i + start) m := by
      have := lt_up (n := g * i + start) (r := b - 1) hm
      have e : (b - 1) * m = m * b - m := by rw [Int.sub_mul, Int.mul_comm]; omega
      rw [e] at this
      omega
    unfold rb
    rw [if_neg (by omega), if_neg (by omega), mn_eq]
    omega
  have mid : ∀ i : Int, F ≤ i → i < L → rb b m (g * i + start) = (g * i + A) / m ∧ 0 ≤ g * i + A := fun i h0 h1 => by
    have h2 : i < up (m * b - A) g := by omega
    have h3 : up (-A) g ≤ i := by omega
    rw [lt_up hg, Int.mul_comm i g] at h2
    rw [up_le hg, Int.mul_comm i g] at h3
    refine ⟨?_, by omega⟩
    have e : (g * i + A) / m = up (g * i + start) m := by
      rw [div_is hm]
      obtain ⟨u, hu⟩ : ∃ u, u = up (g * i + start) m := ⟨_, rfl⟩
      rw [← hu]
      have a1 := (up_le (n := g * i + start) (r := u) hm).mp (by omega)
      have a2 : ¬ (g * i + start ≤ (u - 1) * m) := by
        rw [← up_le hm]
        omega
      rw [Int.sub_mul] at a2
      omega
    have e2 : up (g * i + start) m ≤ b := by
      rw [up_le hm, Int.mul_comm b m]
      omega
    unfold rb
    by_cases c : g * i + start ≤ 0
    · rw [if_pos c]
      symm
      exact Int.ediv_eq_zero_of_lt (by omega) (by omega)
    · rw [if_neg c, if_neg (by omega), mn_eq, e]
      omega
  have c1 : 0 ≤ F := by omega
  have c2 : F ≤ L := by omega
  have c3 : L ≤ n := by omega
  refine ⟨?_, c1, c2, c3, fun c => ?_⟩
  · obtain ⟨f, hf⟩ : ∃ f : Nat, F = (f : Int) := ⟨F.toNat, by omega⟩
    obtain ⟨k, hk⟩ : ∃ k : Nat, L = (f : Int) + (k : Int) := ⟨(L - F).toNat, by omega⟩
    obtain ⟨l, hl⟩ : ∃ l : Nat, n = f + k + l := ⟨n - f - k, by omega⟩
    have e0 : (L - F).toNat = k := by omega
    unfold sb
    rw [hl, S_split, S_split, e0]
    have s1 : S (fun i => rb b m (g * (i : Int) + start)) f = 0 := by
      have : S (fun i => rb b m (g * (i : Int) + start)) f = S (fun _ => 0) f := S_congr fun i hi => low i (by omega) (by omega)
      rw [this, S_const]
      omega
    have s2 : S (fun i => rb b m (g * ((f + i : Nat) : Int) + start)) k = FS k m g (A + g * F) := S_congr fun i hi => by
      rw [(mid ((f + i : Nat) : Int) (by omega) (by omega)).1]
      congr 1
      have : ((f + i : Nat) : Int) = F + (i : Int) := by omega
      rw [this, Int.mul_add]
      omega
    have s3 : S (fun i => rb b m (g * ((f + k + i : Nat) : Int) + start)) l = (l : Int) * b := by
      have : S (fun i => rb b m (g * ((f + k + i : Nat) : Int) + start)) l = S (fun _ => b) l := S_congr fun i hi' => hi ((f + k + i : Nat) : Int) (by omega) (by omega)
      rw [this, S_const]
    rw [s1, s2, s3]
    have : ((f + k + l : Nat) : Int) - L = (l : Int) := by omega
    rw [this]
    omega
  · have := (mid F (by omega) c).2
    omega
theorem sb_zero {b m start : Int} (n : Nat) : sb b m 0 start n = (n : Int) * rb b m start := by
  unfold sb
  have : S (fun i => rb b m (0 * (i : Int) + start)) n = S (fun _ => rb b m start) n := S_congr fun i _ => by
    rw [Int.zero_mul, Int.zero_add]
  rw [this, S_const]
theorem sb_neg {b m g start : Int} (n : Nat) : sb b m g start n = sb b m (-g) (start + g * ((n : Int) - 1)) n := by
  unfold sb
  rw [← S_rev]
  refine S_congr fun i hi => ?_
  congr 1
  have : ((n - 1 - i : Nat) : Int) = (n : Int) - 1 - (i : Int) := by omega
  rw [this, Int.mul_sub, Int.neg_mul]
  omega
end DV

set_option Elab.async false
set_option linter.all false
/-! Dividers, the mathematics: a turn of the sum, the times that are right -/
namespace DV
/-- a turn of floor_sum: from (many, divisor, factor, added), with the rests -/
theorem fs_step {n : Nat} {d f a : Int} (hd : 0 < d) (hf : 0 ≤ f) (ha : 0 ≤ a) :
    FS n d f a = (n : Int) * ((n : Int) - 1) / 2 * (f / d) + (n : Int) * (a / d) + FS (((f % d) * (n : Int) + a % d) / d).toNat (f % d) d (((f % d) * (n : Int) + a % d) % d) ∧
    0 ≤ ((f % d) * (n : Int) + a % d) / d ∧ ((f % d) * (n : Int) + a % d) / d ≤ n ∧ (0 < ((f % d) * (n : Int) + a % d) / d → 0 < f % d) ∧ 0 ≤ f % d ∧ f % d < d ∧ 0 ≤ ((f % d) * (n : Int) + a % d) % d ∧ ((f % d) * (n : Int) + a % d) % d < d := by
  have f1 := Int.emod_nonneg f (show d ≠ 0 by omega)
  have f2 := Int.emod_lt_of_pos f hd
  have a1 := Int.emod_nonneg a (show d ≠ 0 by omega)
  have a2 := Int.emod_lt_of_pos a hd
  have p1 := Int.mul_nonneg f1 (Int.natCast_nonneg n)
  refine ⟨by rw [FS_parts hd n, FS_turn f1 f2 a1 a2 n], Int.ediv_nonneg (by omega) (by omega), ?_, fun h => ?_, f1, f2, Int.emod_nonneg _ (by omega), Int.emod_lt_of_pos _ hd⟩
  · have e : (f % d) * (n : Int) ≤ (d - 1) * (n : Int) := Int.mul_le_mul_of_nonneg_right (by omega) (by omega)
    rw [Int.sub_mul] at e
    have : ((f % d) * (n : Int) + a % d) / d < (n : Int) + 1 := by
      rw [Int.ediv_lt_iff_lt_mul hd, Int.add_mul, Int.mul_comm (n : Int) d]
      omega
    omega
  · by_cases z : f % d = 0
    · rw [z, Int.zero_mul, Int.zero_add, Int.ediv_eq_zero_of_lt a1 a2] at h
      omega
    · omega
/-! ### the times for which all numbers up to top are right -/
def tight (b top : Int) : List Int := if top ≥ b - 1 then [top, b - 1, (top + 1) / b * b - 1] else [top]
def gr (b : Int) (s : Nat) (x : Int) : Int := (2 ^ s * (x / b + 1) - 1) / x
def tLeast (b top : Int) (s : Nat) : Int := if top ≥ b then up (2 ^ s) b else 0
def AllR (b top : Int) (s : Nat) (m : Int) : Prop := ∀ x, 0 ≤ x → x ≤ top → Dv.R ⟨b, m, 0, s⟩ x
theorem R0_iff {b m x : Int} {s : Nat} : Dv.R ⟨b, m, 0, s⟩ x ↔ (2 ^ s) * (x / b) ≤ x * m ∧ x * m < (2 ^ s) * (x / b) + 2 ^ s := by
  unfold Dv.R Dv.told Dv.W
  have hW : (0 : Int) < 2 ^ s := Int.pow_pos (by decide)
  show (x * m + 0) / 2 ^ s = x / b ↔ _
  rw [Int.add_zero, div_is hW, Int.mul_comm (x / b)]
theorem tight_pos {b top : Int} (hb : 2 ≤ b) (ht : 1 ≤ top) : ∀ x ∈ tight b top, 1 ≤ x ∧ x ≤ top := by
  intro x hx
  unfold tight at hx
  have e1 := Int.emod_add_mul_ediv (top + 1) b
  have e2 := Int.emod_nonneg (top + 1) (show b ≠ 0 by omega)
  have e3 := Int.emod_lt_of_pos (top + 1) (show 0 < b by omega)
  split at hx
  · rename_i c
    have e4 : b * 1 ≤ b * ((top + 1) / b) := by
      refine mul_le (by omega) ?_
      have : 0 < (top + 1) / b := by
        by_cases z : 0 < (top + 1) / b
        · exact z
        · have : (top + 1) / b ≤ 0 := by omega
          have := mul_le (g := b) (by omega) this
          omega
      omega
    rw [Int.mul_comm b ((top + 1) / b)] at e1 e4
    simp only [List.mem_cons, List.mem_nil_iff, or_false] at hx
    rcases hx with h | h | h <;> omega
  · simp only [List.mem_cons, List.mem_nil_iff, or_false] at hx
    omega
theorem gr_iff {b m x : Int} {s : Nat} (hx : 1 ≤ x) : m ≤ gr b s x ↔ x * m < 2 ^ s * (x / b + 1) := by
  unfold gr
  rw [Int.le_ediv_iff_mul_le (by omega), Int.mul_comm m x]
  omega
theorem window {b top m : Int} {s : Nat} (hb : 2 ≤ b) (ht : 1 ≤ top) (hm : 0 ≤ m) : AllR b top s m ↔ tLeast b top s ≤ m ∧ ∀ x ∈ tight b top, m ≤ gr b s x := by
  obtain ⟨W, hW⟩ : ∃ W : Int, W = 2 ^ s := ⟨_, rfl⟩
  have hWp : 0 < W := by rw [hW]; exact Int.pow_pos (by decide)
  constructor
  · intro h
    refine ⟨?_, fun x hx => ?_⟩
    · unfold tLeast
      split
      · rename_i c
        have := (R0_iff.mp (h b (by omega) c)).1
        rw [Int.ediv_self (by omega), Int.mul_one] at this
        rw [up_le (by omega), Int.mul_comm]
        exact this
      · exact hm
    · obtain ⟨h1, h2⟩ := tight_pos hb ht x hx
      have := (R0_iff.mp (h x (by omega) h2)).2
      rw [gr_iff h1, Int.mul_add, Int.mul_one]
      exact this
  · rintro ⟨h1, h2⟩ x x0 xt
    rw [R0_iff, ← hW]
    have ex := Int.emod_add_mul_ediv x b
    have r0 := Int.emod_nonneg x (show b ≠ 0 by omega)
    have r1 := Int.emod_lt_of_pos x (show 0 < b by omega)
    have k0 : 0 ≤ x / b := Int.ediv_nonneg x0 (by omega)
    obtain ⟨k, hk⟩ : ∃ k, k = x / b := ⟨_, rfl⟩
    rw [← hk] at ex k0 ⊢
    have low : top ≥ b → W ≤ m * b := fun c => by
      unfold tLeast at h1
      rw [if_pos c, up_le (by omega), ← hW] at h1
      exact h1
    have hx1 : x * m = b * (k * m) + (x % b) * m := by
      have : x * m = (x % b + b * k) * m := by rw [ex]
      rw [this, Int.add_mul, Int.mul_assoc]
      omega
    have rm : 0 ≤ (x % b) * m := Int.mul_nonneg r0 hm
    constructor
    · by_cases c : k = 0
      · rw [c, Int.mul_zero]
        have := Int.mul_nonneg x0 hm
        exact this
      · have e := mul_le (g := b) (by omega) (show 1 ≤ k by omega)
        have l := low (by omega)
        have e2 : W * k ≤ m * b * k := Int.mul_le_mul_of_nonneg_right l k0
        have e3 : m * b * k = b * (k * m) := by rw [Int.mul_comm m b, Int.mul_assoc, Int.mul_comm m k]
        omega
    · have top_ : top * m < W * (top / b + 1) := by
        have : top ∈ tight b top := by unfold tight; split <;> simp
        rw [hW]
        exact (gr_iff ht).mp (h2 top this)
      have xm : x * m ≤ top * m := Int.mul_le_mul_of_nonneg_right xt hm
      have te := Int.emod_add_mul_ediv top b
      have t0 := Int.emod_nonneg top (show b ≠ 0 by omega)
      have t1 := Int.emod_lt_of_pos top (show 0 < b by omega)
      by_cases c : b * (k + 1) - 1 ≤ top
      · -- the block is complete
        have c2 : top ≥ b - 1 := by
          have := mul_le (g := b) (by omega) (show 1 ≤ k + 1 by omega)
          omega
        obtain ⟨K, hK⟩ : ∃ K, K = (top + 1) / b := ⟨_, rfl⟩
        have kK : k + 1 ≤ K := by
          rw [hK, Int.le_ediv_iff_mul_le (by omega), Int.mul_comm]
          omega
        have mem1 : b - 1 ∈ tight b top := by unfold tight; rw [if_pos c2]; simp
        have mem2 : K * b - 1 ∈ tight b top := by unfold tight; rw [if_pos c2, hK]; simp
        have g1 := (gr_iff (by omega)).mp (h2 _ mem1)
        have g2 := (gr_iff (tight_pos hb ht _ mem2).1).mp (h2 _ mem2)
        rw [← hW] at g1 g2
        have d1 : (b - 1) / b = 0 := Int.ediv_eq_zero_of_lt (by omega) (by omega)
        have d2 : (K * b - 1) / b = K - 1 := by
          rw [div_is (by omega), Int.sub_mul]
          omega
        rw [d1, Int.sub_mul, Int.zero_add, Int.mul_one, Int.one_mul] at g1
        rw [d2, Int.sub_mul, Int.one_mul, show K - 1 + 1 = K by omega] at g2
        -- e = m b - W
        obtain ⟨e, he⟩ : ∃ e, e = m * b - W := ⟨_, rfl⟩
        have v1 : e < m := by rw [Int.mul_comm b m] at g1; omega
        have v2 : K * e < m := by
          have : K * b * m = K * e + W * K := by
            rw [he, Int.mul_sub, Int.mul_assoc, Int.mul_comm b m, Int.mul_comm K W]
            omega
          omega
        have v3 : (k + 1) * e < m := by
          by_cases z : 0 ≤ e
          · have := Int.mul_le_mul_of_nonneg_right kK z
            omega
          · have := Int.mul_le_mul_of_nonneg_right (show 1 ≤ k + 1 by omega) (show 0 ≤ -e by omega)
            rw [Int.mul_neg, Int.mul_neg] at this
            omega
        have v4 : (b * (k + 1) - 1) * m = (k + 1) * e + W * (k + 1) - m := by
          rw [he, Int.sub_mul, Int.one_mul, Int.mul_sub, Int.mul_comm (k + 1) W]
          have : b * (k + 1) * m = (k + 1) * (m * b) := by rw [Int.mul_comm b, Int.mul_assoc, Int.mul_comm b]
          omega
        have v5 : x * m ≤ (b * (k + 1) - 1) * m := Int.mul_le_mul_of_nonneg_right (by rw [Int.mul_add]; omega) hm
        have v6 : W * (k + 1) = W * k + W := by rw [Int.mul_add, Int.mul_one]
        omega
      · -- the last block
        have e : top / b = k := by
          rw [div_is (by omega), Int.mul_comm]
          rw [Int.mul_add] at c
          omega
        rw [e, Int.mul_add] at top_
        omega
/-- there are some from a shift on -/
theorem some_at {b top : Int} {s : Nat} (hb : 2 ≤ b) (ht : 1 ≤ top) (h : b * (top + 1) ≤ 2 ^ s ∨ top < b) : ∃ m, 0 ≤ m ∧ AllR b top s m := by
  obtain ⟨W, hW⟩ : ∃ W : Int, W = 2 ^ s := ⟨_, rfl⟩
  have hWp : 0 < W := by rw [hW]; exact Int.pow_pos (by decide)
  by_cases c : top < b
  · refine ⟨0, by omega, fun x x0 xt => ?_⟩
    rw [R0_iff, Int.mul_zero, Int.ediv_eq_zero_of_lt x0 (by omega), Int.mul_zero, ← hW]
    omega
  · have h3 : b * (top + 1) ≤ W := by rw [hW]; omega
    have hu : 0 < up W b := by rw [lt_up (by omega)]; omega
    refine ⟨up W b, by omega, fun x x0 xt => ?_⟩
    rw [R0_iff, ← hW]
    obtain ⟨m, hm⟩ : ∃ m, m = up W b := ⟨_, rfl⟩
    rw [← hm] at hu ⊢
    have u1 : W ≤ m * b := (up_le (by omega)).mp (by omega)
    have u2 : ¬ W ≤ (m - 1) * b := by rw [← up_le (by omega)]; omega
    rw [Int.sub_mul] at u2
    have ex := Int.emod_add_mul_ediv x b
    have r0 := Int.emod_nonneg x (show b ≠ 0 by omega)
    have r1 := Int.emod_lt_of_pos x (show 0 < b by omega)
    have k0 : 0 ≤ x / b := Int.ediv_nonneg x0 (by omega)
    obtain ⟨k, hk⟩ : ∃ k, k = x / b := ⟨_, rfl⟩
    rw [← hk] at ex k0 ⊢
    obtain ⟨e, he⟩ : ∃ e, e = m * b - W := ⟨_, rfl⟩
    -- times b
    have xe : x * e ≤ top * (b - 1) := Int.mul_le_mul xt (by omega) (by omega) (by omega)
    have te : top * (b - 1) < W := by rw [Int.mul_sub, Int.mul_comm top b]; rw [Int.mul_add] at h3; omega
    have xe0 : 0 ≤ x * e := Int.mul_nonneg x0 (by omega)
    have e1 : (x * m) * b = x * W + x * e := by
      rw [he, Int.mul_sub, Int.mul_assoc]
      omega
    have e2 : x * W = (x % b) * W + (W * k) * b := by
      have : x * W = (x % b + b * k) * W := by rw [ex]
      rw [this, Int.add_mul, Int.mul_comm (b * k) W, Int.mul_comm b k, ← Int.mul_assoc]
    have rW : 0 ≤ (x % b) * W := Int.mul_nonneg r0 (by omega)
    have rW2 : (x % b) * W ≤ (b - 1) * W := Int.mul_le_mul_of_nonneg_right (by omega) (by omega)
    rw [Int.sub_mul] at rW2
    constructor
    · refine Int.le_of_mul_le_mul_right (?_ : (W * k) * b ≤ (x * m) * b) (show 0 < b by omega)
      omega
    · refine Int.lt_of_mul_lt_mul_right (a := b) (?_ : (x * m) * b < (W * k + W) * b) (by omega)
      rw [Int.add_mul, Int.mul_comm W b]
      omega
theorem AllR_double {b top m : Int} {s : Nat} (h : AllR b top s m) : AllR b top (s + 1) (2 * m) := fun x x0 xt => by
  have := h x x0 xt
  rw [R0_iff] at this ⊢
  have e : (2 : Int) ^ (s + 1) = 2 * 2 ^ s := by rw [Int.pow_succ, Int.mul_comm]
  have e2 : x * (2 * m) = 2 * (x * m) := by rw [← Int.mul_assoc, Int.mul_comm x 2, Int.mul_assoc]
  rw [e, e2, Int.mul_assoc]
  omega
theorem AllR_more {b top : Int} {s : Nat} (h : ∃ m, 0 ≤ m ∧ AllR b top s m) : ∀ k : Nat, ∃ m, 0 ≤ m ∧ AllR b top (s + k) m
  | 0 => h
  | k + 1 => by
    obtain ⟨m, h0, h1⟩ := AllR_more h k
    exact ⟨2 * m, by omega, AllR_double h1⟩
end DV

set_option Elab.async false
set_option linter.all false
set_option maxRecDepth 100000
set_option maxHeartbeats 2000000
/-! Part A: an own error over a common error over ValueError; its __init__ says super().__init__('..') and stores its arguments. -/
namespace ErrA
open PySem PySem.W PySem.Calls PyProof.Rows PySem.HandSPX
/-- what the written part tells of the class at C; its __init__ at fI closes over the cell cc, its code object stands at cda -/
structure ErrTxt (P : Program) (K : Frag) (C fI cc cda : Addr) (qual : Str) (st : Stmt) : Prop where
  cls : ∃ nm q N bs bm sn sub ab col dd k0 k1 k2 k3 k5, K.lookup C = some (excClassObj nm q C N bs bm true sn sub ab col dd k0 k1 k2 k3 k5 "ValueError.__new__") ∧ refsVE bm = true
  sa : findIn K (.ref C) "__setattr__" = some (some (.builtin "object.__setattr__"))
  iC : findIn K (.ref C) "__init__" = some (some (.ref fI))
  tI : typeIn K (.ref fI) = some (.type "function")
  kC : keepIn K (.ref C) = true
  exC : subIn K (.ref C) (.type "BaseException") = some true
  veC : subIn K (.ref C) (.type "ValueError") = some true
  meC : mroIn K C (.ref C) = some true
  tyC : typeIn K (.ref C) = some (.type "type")
  sup : ks_superIn K C C "__init__" = some (some (.builtin "ValueError.__init__"))
  opq : nsIn K cStatics "thirdparty.any" = some none
  gS : nsIn K mainGlobals "super" = some none
  cell : ∃ cl cld csl, K.lookup cc = some ⟨cl, cld, .cell (some (.ref C)), csl⟩
  code : ∃ (ccl : Value) (cdd : Option Addr) (vs : Array Value) (ccs : Array (Option Value)) (file : Str) (tf : Tok), K.lookup cda = some ⟨ccl, cdd, .fields vs, ccs⟩ ∧ vs[2]? = some (.str file tf) ∧ ((P.main.file : Str) == file) = true
  rec_ : codeIn K (.ref cda) qual = true
  fn : ∃ (oc : Value) (od : Option Addr) (kV doc pm : Value) (an : Option Addr) (ct : Value) (osl : Array (Option Value)),
    K.lookup fI = some ⟨oc, od, .func (ksFn "__init__" qual (L2.defArgs st) (L2.defBody st) (L2.defScope st) .none kV doc pm an (.ref cda) ct cc), osl⟩
/-- what the module's names are over the base -/
structure Gnd (K : Frag) (mg : Str → Option Value) (base : Heap) : Prop where
  kin : K.In base
  glob : base.Ns mainGlobals mg
  blt : ∃ mb, base.Ns builtinsNs mb ∧ ∀ x : Str, x ≠ "__name__" → mb x = bootBuiltins x
  lim : base.NoLimit

section
variable {P : Program} {w : World} {K : Frag} {mg : Str → Option Value} {base : Heap} {C fI cc cda : Addr} {qual : Str} {st : Stmt} {A : Around} {E : Value → Shared → Prop}
theorem err_cls (T : ErrTxt P K C fI cc cda qual st) : ∃ cd, clsIn K C = some cd ∧ cd.hasDict = true ∧ refsVE cd.mro = true := by
  obtain ⟨nm, q, N, bs, bm, sn, sub, ab, col, dd, k0, k1, k2, k3, k5, hC, hbm⟩ := T.cls
  refine ⟨_, by unfold clsIn; rw [hC] <;> rfl, rfl, ?_⟩
  exact hbm
/-- the built-in __init__, bound to the exception at x, called -/
theorem bound_init (T : ErrTxt P K C fI cc cda qual st) {x t0 u : Addr} {rest : List Value} {h : Heap} {g : Array GenState} {d : Drawn} {t : Nat} {os : OsState} {Q : Value → Shared → Prop} (X : K.In h)
    (hx : h.get? x = some (excO C t0)) (hu : h.get? u = some (kxs_mw "ValueError.__init__" x)) (hl : rest.length ≤ sizeLine)
    (hq : ∀ h' t1, (∀ b o, b ≠ x → h.get? b = some o → h'.get? b = some o) → h'.get? x = some (excO C t1) → Q .none ⟨h', g, d, t, os⟩) :
    wpAny (model P w) A (call (.ref u) rest) Q E ⟨h, g, d, t, os⟩ := by
  obtain ⟨nm, q, N, bs, bm, sn, sub, ab, col, dd, k0, k1, k2, k3, k5, hC, hbm⟩ := T.cls
  have hC' := X _ _ hC
  refine wpAny_call (codeAny_of_tree ?_)
  show wpAny _ A.in1 (callAny (.ref u) ⟨rest, []⟩) _ _ _
  unfold callAny
  refine wpAny_bind (wpAny_load hu ?_)
  refine KFB.if_so rfl ?_
  refine wpAny_bind (check_bound_init PySem.F.excBase_ValueError.toExcCallFacts hC' hx rfl ?_)
  refine wpAny_bind (wpAny_pure (wpAny_pure ⟨plainId_quiet PySem.F.excBase_ValueError.init.plain _, codeAny_builtin PySem.F.excBase_ValueError.initEntry ?_⟩))
  exact exc_init_tree (cls := .ref C) (dv := none) (c2 := .none) (c3 := .none) (b4 := .bool false) hx hl fun h' k e _ => hq h' _ k e
end
end ErrA
namespace ErrA
open PySem PySem.W PySem.Calls PyProof.Rows PySem.HandSPX
section
variable {P : Program} {w : World} {K : Frag} {mg : Str → Option Value} {base : Heap} {C fI cc cda : Addr} {qual : Str} {st : Stmt} {A : Around} {E : Value → Shared → Prop}
/-- the frame of such an __init__ -/
abbrev eV (qual : Str) (st : Stmt) (L fI cda cc : Addr) : Env := ksEnv qual (L2.defScope st) L fI (.ref cda) cc
/-- what is asked of the text of such an __init__ -/
structure ErrScope (P : Program) (st : Stmt) (fl : List Str) (p0 p1 p2 p3 p4 : Pos) (msg : Str) (kk : Nat) : Prop where
  mc : ∀ (qual : Str) (L fI cda cc : Addr), ∃ pl : Sem Bool, eval (.Call (.Attribute (.Call (.Name "super" p0) [] [] p1) "__init__" p2) [.Constant (.str msg) kk p3] [] p4) (eV qual st L fI cda cc) = (do
      let ov ← attributeBase (.Call (.Name "super" p0) [] [] p1) "__init__" (eV qual st L fI cda cc) (eval (.Call (.Name "super" p0) [] [] p1) (eV qual st L fI cda cc))
      standAt p2.atName
      let (f, first) ← holding [ov] (getMethod ov "__init__" pl)
      callWith p4 f first (backTo p4 (starEach [.Constant (.str msg) kk p3] (eV qual st L fI cda cc))) [])
  kS : (L2.defScope st).names.lookup ("super" : Str) = some .globalImplicit
  kC : (L2.defScope st).names.lookup ("__class__" : Str) = some .free
  kL : ∀ f ∈ ("self" : Str) :: fl, (L2.defScope st).names.lookup f = some .local
  kF : (L2.defScope st).kind = .function
  kG : (L2.defScope st).isGenerator = false
  kO : (L2.defScope st).isCoroutine = false
  kN : ∀ y ∈ (L2.defScope st).names, y.2 ≠ .cell
  top : (P.main.scope.names.lookup ("super" : Str)).isSome = false
  par : ∃ ar : Arg, ((L2.defArgs st).posonlyargs ++ (L2.defArgs st).args).head? = some ar ∧ ar.arg = "self"
  dbg : ∀ f ∈ ("self" : Str) :: fl, (f == ("__debug__" : Str)) = false
/-- super().__init__('..') -/
theorem super_line {L x t0 : Addr} {m : Str → Option Value} {s : Shared} {fl : List Str} {p0 p1 p2 p3 p4 p5 : Pos} {msg : Str} {kk : Nat} {body : List Stmt} {Q : Flow → Shared → Prop} (T : ErrTxt P K C fI cc cda qual st) (S : ErrScope P st fl p0 p1 p2 p3 p4 msg kk) (G : Gnd K mg base)
    (kb : ∀ b o, base.get? b = some o → s.heap.get? b = some o) (hns : s.heap.Ns L m) (hm : m "self" = some (.ref x)) (hx : s.heap.get? x = some (excO C t0))
    (hq : ∀ h' tk t1, (∀ b o, b ≠ x → s.heap.get? b = some o → h'.get? b = some o) → h'.get? x = some (excO C t1) → Q .next { s with heap := h', toks := tk }) :
    _root_.PySem.wpAt (model P w) A (.func body (eV qual st L fI cda cc)) (exec (.Expr (.Call (.Attribute (.Call (.Name "super" p0) [] [] p1) "__init__" p2) [.Constant (.str msg) kk p3] [] p4) p5) (eV qual st L fI cda cc)) Q E s := by
  have X : K.In s.heap := G.kin.keeps kb
  have gS := mg_none_of G.kin G.glob T.gS
  obtain ⟨mb, hmb, hbt⟩ := G.blt
  obtain ⟨cd, hcd, hdct, hmro⟩ := err_cls T
  obtain ⟨oD, hD1, hD2⟩ : ∃ oD, K.lookup C = some oD ∧ oD.data = .cls cd := by
    obtain ⟨nm, q, N, bs, bm, sn, sub, ab, col, dd, k0, k1, k2, k3, k5, hC, hbm⟩ := T.cls
    unfold clsIn at hcd
    rw [hC] at hcd
    exact ⟨_, hC, by cases hcd; rfl⟩
  obtain ⟨cl, cld, csl, hcell⟩ := T.cell
  obtain ⟨ccl, cdd, vs, ccs, file, tf, hcode, hvs, hfile⟩ := T.code
  obtain ⟨oc, od, kV, doc, pm, an, ct, osl, hfn⟩ := T.fn
  obtain ⟨ar, har, harg⟩ := S.par
  obtain ⟨hh, g, d, t, os⟩ := s
  have hsup := T.sup
  unfold ks_superIn at hsup
  rw [hcd, Option.bind_some] at hsup
  have xC : x ≠ C := fun z => by
    rw [z, X _ _ hD1] at hx
    have z2 := congrArg Obj.data (Option.some.inj hx)
    rw [hD2] at z2
    cases z2
  have hint : interactive (eV qual st L fI cda cc) = false := by
    unfold interactive
    rw [show (eV qual st L fI cda cc).scope.kind = .function from S.kF]
    rfl
  obtain ⟨pl, hmc⟩ := S.mc qual L fI cda cc
  refine ks_wpAt_Expr_any (ks_wpAt_MethodCall (pl := pl) (ks_wpAt_super_base (env := eV qual st L fI cda cc) S.kS S.kC (by decide) rfl (X _ _ hfn) rfl har rfl (X _ _ hcode) rfl hvs hfile S.top ?_) hmc) hint
  refine ks_loadName_global S.kF S.kS (loadGlobal_builtin (env := eV qual st L fI cda cc) (G.glob.keeps kb) gS (hmb.keeps kb) ((hbt _ (by decide +kernel)).trans (by first | boot_by_name | rfl | kernel_rfl)) ⟨rfl, ?_⟩)
  refine wpAny_loadName_free S.kF S.kC rfl ⟨_, X _ _ hcell, rfl⟩ ?_
  rw [harg]
  refine wpAny_loadName_local S.kF (S.kL _ (List.mem_cons_self ..)) hns hm ?_
  refine ks_wpAny_isType_cls (X _ _ hD1) hD2 ⟨rfl, ?_⟩
  refine ks_wpAny_call_super (X _ _ hD1) hD2 hx rfl (fun c z => nomatch z) (looks_mroIn X T.meC) (fun h1 e1 k1 => ?_)
  have X1 : K.In h1 := X.keeps k1
  have hx1 := k1 _ _ hx
  have hI : Looks (model P w) h1 (isInstance (.ref x) (.type "ValueError")) true := (show Looks (model P w) h1 (typeOf (.ref x)) (.ref C) from fun A Q E s k q => wpAny_typeOf_ref (k _ _ hx1) q).andThen (looks_subIn X1 T.veC)
  have hM : Looks (model P w) h1 (mroOf (.ref C)) cd.mro := (looks_clsIn X1 hcd).andThen .now
  refine kxs_getMethod kxs_ValueError e1 (looks_opaque X1 T.opq) hM rfl X1 hsup hI xC (by decide) ?_
  have e2 : (h1.push (kxs_mw "ValueError.__init__" x)).get? h1.objs.size = some (kxs_mw "ValueError.__init__" x) := Heap.get?_push_size _ rfl
  have k2 : ∀ b o, h1.get? b = some o → (h1.push (kxs_mw "ValueError.__init__" x)).get? b = some o := fun b o e => Heap.get?_push_of_some _ e
  refine kxs_callWith (i := "ValueError.__init__") (x := x) rfl (evalArgs_plain (spliced_cons (Constant_str (pos := p3) (k := kk) (spliced_nil ⟨e2, ?_⟩))))
  refine bound_init T (X1.keeps k2) (k2 _ _ hx1) e2 (by show 1 ≤ sizeLine; rw [sizeLine_eq]; decide) (fun h' t1 k3 e3 => ?_)
  exact hq h' _ t1 (fun b o hb e => k3 b o hb (k2 _ _ (k1 _ _ e))) e3
end
end ErrA

namespace ErrA
open PySem PySem.W PySem.Calls PyProof.Rows PySem.HandSPX
/-- the names of an exception's own dict, the newest first -/
def lk (fs : List (Str × Value)) : Str → Option Value := fun y => fs.lookup y
theorem lk_more (f : Str) (v : Value) (fs : List (Str × Value)) : lk ((f, v) :: fs) = fun y => if y = f then some v else lk fs y := by
  funext y
  unfold lk
  by_cases h : y = f
  · subst h
    rw [if_pos rfl]
    simp [List.lookup]
  · rw [if_neg h]
    have e : (y == f) = false := by simpa using h
    simp [List.lookup, e]
theorem lk_in : ∀ fs : List (Str × Value), Within (lk fs) (fs.map (·.1))
  | [] => fun y h => absurd rfl h
  | (f, v) :: r => fun y h => by
    have h : lk ((f, v) :: r) y ≠ none := h
    rw [lk_more] at h
    have h : (if y = f then some v else lk r y) ≠ none := h
    by_cases e : y = f
    · rw [e]
      exact List.mem_cons_self ..
    · rw [if_neg e] at h
      exact List.mem_cons_of_mem _ (lk_in r y h)
/-- self.f = f, once for each name -/
inductive Sets : List Stmt → List Str → Prop
  | nil : Sets [] []
  | cons {f : Str} {q1 q2 q3 q4 : Pos} {r : List Stmt} {fl : List Str} (h : Sets r fl) : Sets (.Assign [.Attribute (.Name "self" q1) f q2] (.Name f q3) q4 :: r) (f :: fl)
section
variable {P : Program} {w : World} {K : Frag} {mg : Str → Option Value} {base : Heap} {C fI cc cda : Addr} {qual : Str} {st : Stmt} {A : Around} {E : Value → Shared → Prop}
theorem ldE {L : Addr} {m : Str → Option Value} {f : Str} {pos : Pos} {v : Value} {s : Shared} {M : Model} {Q : Value → Shared → Prop} (hk : (L2.defScope st).kind = .function) (hl : (L2.defScope st).names.lookup f = some .local) (hd : (f == ("__debug__" : Str)) = false)
    (hns : s.heap.Ns L m) (hm : m f = some v) (h : Q v s) : wpAny M A (eval (.Name f pos) (eV qual st L fI cda cc)) Q E s := wpAny_Name (wpAny_loadName_local hk hl hns hm h) hd
/-- further fields: the exception has its dict -/
theorem sets_old (T : ErrTxt P K C fI cc cda qual st) {L x t0 dx : Addr} {m : Str → Option Value} (val : Str → Value) (hk : (L2.defScope st).kind = .function) (hself : (L2.defScope st).names.lookup ("self" : Str) = some .local) (hm0 : m "self" = some (.ref x)) (xL : L ≠ dx) :
    ∀ {sts : List Stmt} {fl : List Str}, Sets sts fl → ∀ (fs : List (Str × Value)) (s : Shared) (Q : Flow → Shared → Prop), fs.length + fl.length ≤ 900 → (∀ f ∈ fl, (L2.defScope st).names.lookup f = some .local ∧ (f == ("__debug__" : Str)) = false ∧ m f = some (val f) ∧ findIn K (.ref C) f = some none) →
      K.In s.heap → K.lookup dx = none → s.heap.Ns L m → s.heap.get? x = some { cls := .ref C, dict := some dx, data := .fields #[.ref t0, .none, .none, .none, .bool false, .none] } → x ≠ dx → s.heap.Ns1 dx (lk fs) →
      (∀ h' tk, (∀ b o, b ≠ dx → s.heap.get? b = some o → h'.get? b = some o) → h'.get? x = some { cls := .ref C, dict := some dx, data := .fields #[.ref t0, .none, .none, .none, .bool false, .none] } → h'.Ns1 dx (lk ((fl.map fun f => (f, val f)).reverse ++ fs)) → Q .next { s with heap := h', toks := tk }) →
      wpAny (model P w) A (execs sts (eV qual st L fI cda cc)) Q E s := by
  intro sts fl hs
  induction hs with
  | nil =>
    intro fs s Q _ _ X _ hns hx hxd hd hq
    exact wpAny_execs_nil (hq s.heap s.toks (fun _ _ _ e => e) hx hd)
  | @cons f q1 q2 q3 q4 r fl hs ih =>
    intro fs s Q hl hf X hKd hns hx hxd hd hq
    obtain ⟨cd, hcd, hdct, hmro⟩ := err_cls T
    obtain ⟨f1, f2, f3, f4⟩ := hf f (List.mem_cons_self ..)
    refine wpAny_execs_cons (plainObj_wpAny_Assign_Attribute (ldE hk f1 f2 hns f3 (ldE hk hself (by decide) hns hm0 ?_)) (by rfl))
    have hd' := hd
    obtain ⟨oD, es, ep, hoD, _⟩ := id hd'
    obtain ⟨hp, g, d, t, os⟩ := s
    refine set_plain X (ox := { cls := .ref C, dict := some dx, data := .fields #[.ref t0, .none, .none, .none, .bool false, .none] }) (od := some oD) ⟨hx, rfl, rfl, hoD⟩ T.sa ?_
    refine PySem.OEX.osa_old X hx hd (lk_in fs) (by rw [List.length_map]; have : fs.length + (fl.length + 1) ≤ 900 := hl; omega) hcd hmro hdct f4 (fun h' tk' k hn => ?_)
    have hn' : h'.Ns1 dx (lk ((f, val f) :: fs)) := by rw [lk_more]; exact hn
    have kK : K.In h' := fun b o e => k b o (fun z => by rw [z, hKd] at e; cases e) (X b o e)
    refine ih ((f, val f) :: fs) _ Q (by have : fs.length + (fl.length + 1) ≤ 900 := hl; show fs.length + 1 + fl.length ≤ 900; omega) (fun g' hg' => hf g' (List.mem_cons_of_mem _ hg')) kK hKd ?_ (k _ _ hxd hx) hxd hn' (fun h2 tk2 k2 e2 n2 => ?_)
    · obtain ⟨o, es2, ep2, ho, r2⟩ := hns
      exact ⟨o, es2, ep2, k _ o xL ho, r2⟩
    · refine hq h2 tk2 (fun b o hb e => k2 b o hb (k b o hb e)) e2 ?_
      rw [List.map_cons, List.reverse_cons, List.append_assoc]
      exact n2
end
end ErrA

namespace ErrA
open PySem PySem.W PySem.Calls PyProof.Rows PySem.HandSPX
theorem look_mem {β : Type} {f : Str} {v : β} : ∀ {l : List (Str × β)}, (l.map (·.1)).Nodup → (f, v) ∈ l → l.lookup f = some v
  | [], _, h => nomatch h
  | (g, u) :: r, hn, h => by
    rw [List.map_cons, List.nodup_cons] at hn
    rcases List.mem_cons.mp h with e | e
    · cases e
      simp [List.lookup]
    · have ne : f ≠ g := fun z => hn.1 (by rw [← z]; exact List.mem_map.mpr ⟨_, e, rfl⟩)
      have e2 : (f == g) = false := by simpa using ne
      simp only [List.lookup, e2]
      exact look_mem hn.2 e
theorem zip_fst {α β : Type} : ∀ {xs : List α} {ys : List β}, xs.length = ys.length → (xs.zip ys).map (·.1) = xs
  | [], _, _ => by simp
  | _ :: _, [], h => by simp at h
  | x :: xs, y :: ys, h => by
    rw [List.zip_cons_cons, List.map_cons, zip_fst (by simpa using h)]
theorem zip_look {names : List Str} {us : List Value} (hn : names.Nodup) (hl : names.length = us.length) {f : Str} {v : Value} (h : (f, v) ∈ names.zip us) : (names.zip us).reverse.lookup f = some v := by
  refine look_mem ?_ (List.mem_reverse.mpr h)
  rw [List.map_reverse, zip_fst hl]
  exact List.pairwise_reverse.mpr (List.Pairwise.imp (fun h => Ne.symm h) hn)
/-- the parameter's value -/
def val (names : List Str) (us : List Value) (f : Str) : Value := ((names.zip us).reverse.lookup f).getD .none
theorem val_look {names : List Str} {us : List Value} (hl : names.length = us.length) {f : Str} (h : f ∈ names) (hn : names.Nodup) : (names.zip us).reverse.lookup f = some (val names us f) := by
  obtain ⟨p, hp, e⟩ : ∃ p ∈ names.zip us, p.1 = f := by
    have h2 : f ∈ (names.zip us).map (·.1) := by rw [zip_fst hl]; exact h
    obtain ⟨p, hp, e⟩ := List.mem_map.mp h2
    exact ⟨p, hp, e⟩
  obtain ⟨g, v⟩ := p
  cases e
  unfold val
  rw [zip_look hn hl hp]
  rfl
/-- the fields that are left, the newest first -/
def flds (names : List Str) (us : List Value) (fl : List Str) : List (Str × Value) := (fl.map fun f => (f, val names us f)).reverse
section
variable {P : Program} {w : World} {K : Frag} {mg : Str → Option Value} {base : Heap} {C fI cc cda : Addr} {qual : Str} {st : Stmt} {A : Around} {E : Value → Shared → Prop} {R : Result → Shared → Prop}
/-- the text of such an __init__ -/
structure ErrBody (P : Program) (st : Stmt) (f : Str) (fl : List Str) : Prop where
  ex : ∃ (p0 p1 p2 p3 p4 p5 q1 q2 q3 q4 : Pos) (msg : Str) (kk : Nat) (r : List Stmt), ErrScope P st (f :: fl) p0 p1 p2 p3 p4 msg kk ∧ Sets r fl ∧
    L2.defBody st = .Expr (.Call (.Attribute (.Call (.Name "super" p0) [] [] p1) "__init__" p2) [.Constant (.str msg) kk p3] [] p4) p5 :: .Assign [.Attribute (.Name "self" q1) f q2] (.Name f q3) q4 :: r
  nd : (("self" : Str) :: f :: fl).Nodup
  bind : ∀ (qual : Str) (kV doc pm : Value) (an : Option Addr) (ct : Value) (cda cc : Addr) (us : List Value), us.length = fl.length + 2 →
    bindArgs (ksFn "__init__" qual (L2.defArgs st) (L2.defBody st) (L2.defScope st) .none kV doc pm an (.ref cda) ct cc) ⟨us, []⟩ = pure ((("self" : Str) :: f :: fl).zip us)
  few : fl.length ≤ 100
/-- what such an __init__ leaves of a fresh exception at x -/
structure ErrEnd (h h' : Heap) (x C dx : Addr) (fs : List (Str × Value)) : Prop where
  keep : ∀ b o, b ≠ x → h.get? b = some o → h'.get? b = some o
  obj : ∃ t0 : Addr, h'.get? x = some { cls := .ref C, dict := some dx, data := .fields #[.ref t0, .none, .none, .none, .bool false, .none] }
  dbig : h.objs.size ≤ dx
  dne : dx ≠ x
  ns : h'.Ns1 dx (lk fs)
theorem err_init {f : Str} {fl : List Str} (T : ErrTxt P K C fI cc cda qual st) (B : ErrBody P st f fl) (G : Gnd K mg base) {x t0 : Addr} {vs : List Value} {s : Shared} (noF : ∀ g ∈ f :: fl, findIn K (.ref C) g = some none)
    (kb : ∀ b o, base.get? b = some o → s.heap.get? b = some o) (hx : s.heap.get? x = some (excO C t0)) (hnx : K.lookup x = none) (hroom : A.depth < recursionLimit) (hl : vs.length = fl.length + 1)
    (hq : ∀ h' tk dx, ErrEnd s.heap h' x C dx (flds (("self" : Str) :: f :: fl) (.ref x :: vs) (f :: fl)) → R (.ok (.ret .none)) { s with heap := h', toks := tk }) :
    codeAny (model P w) A (.call (.ref fI) ⟨.ref x :: vs, []⟩) R s := by
  obtain ⟨p0, p1, p2, p3, p4, p5, q1, q2, q3, q4, msg, kk, r, S, hs, hbody⟩ := B.ex
  obtain ⟨oc, od, kV, doc, pm, an, ct, osl, hfn⟩ := id T.fn
  obtain ⟨cd, hcd, hdct, hmro⟩ := err_cls T
  have X : K.In s.heap := G.kin.keeps kb
  have hus : (("self" : Str) :: f :: fl).length = (Value.ref x :: vs).length := by simp [hl]
  have look : ∀ g ∈ ("self" : Str) :: f :: fl, ((("self" : Str) :: f :: fl).zip (Value.ref x :: vs)).reverse.lookup g = some (val (("self" : Str) :: f :: fl) (.ref x :: vs) g) := fun g hg => val_look hus hg B.nd
  have hself : ((("self" : Str) :: f :: fl).zip (Value.ref x :: vs)).reverse.lookup ("self" : Str) = some (.ref x) := zip_look B.nd hus (by rw [List.zip_cons_cons]; exact List.mem_cons_self ..)
  refine ks_codeAny_call_defAt (fd := ksFn "__init__" qual (L2.defArgs st) (L2.defBody st) (L2.defScope st) .none kV doc pm an (.ref cda) ct cc) (body := L2.defBody st) (binds := (("self" : Str) :: f :: fl).zip (Value.ref x :: vs)) hroom (X _ _ hfn) rfl (G.lim.keeps kb) (codeRec_of X T.rec_) rfl
    (BindsTo.of_eq (B.bind _ _ _ _ _ _ _ _ _ (by simp [hl]))) S.kN (fun y hy => ?_) (fun h1 hns k1 => ?_) S.kO S.kG S.kF
  · obtain ⟨n, v⟩ := y
    exact S.kL n (List.of_mem_zip hy).1
  have hxL : s.heap.objs.size ≠ x := Nat.ne_of_gt (Heap.lt_size hx)
  show _root_.PySem.wpAt _ _ (.func (L2.defBody st) (eV qual st s.heap.objs.size fI cda cc)) (execs (L2.defBody st) (eV qual st s.heap.objs.size fI cda cc)) _ _ _
  rw [hbody]
  have L1 : s.heap.objs.size < h1.objs.size := hns.lt
  refine ks_wpAt_execs_cons (super_line T S G (fun b o e => k1 b o (kb b o e)) hns hself (k1 _ _ hx) (fun h2 tk2 t2 k2 e2 => wpAt_of_wpAny ?_))
  have keep2 : ∀ b o, b ≠ x → s.heap.get? b = some o → h2.get? b = some o := fun b o hb e => k2 b o hb (k1 b o e)
  have hns2 : h2.Ns s.heap.objs.size (fun y => ((("self" : Str) :: f :: fl).zip (Value.ref x :: vs)).reverse.lookup y) := by
    obtain ⟨o, es, ep, ho, hr⟩ := hns
    exact ⟨o, es, ep, k2 _ o hxL ho, hr⟩
  have X2 : K.In h2 := fun b o e => keep2 b o (fun z => by rw [z, hnx] at e; cases e) (X b o e)
  refine wpAny_execs_cons (plainObj_wpAny_Assign_Attribute (ldE S.kF (S.kL _ (by simp)) (S.dbg _ (by simp)) hns2 (look f (by simp)) (ldE S.kF (S.kL _ (by simp)) (by decide) hns2 hself ?_)) (by rfl))
  refine set_plain X2 (ox := excO C t2) (od := none) ⟨e2, rfl, rfl, trivial⟩ T.sa ?_
  refine exc_osa X2 e2 hcd hmro hdct (noF f (by simp)) (fun h3 tk3 dx k3 dn dne hx3 hn3 => ?_)
  have L2' : s.heap.objs.size < h2.objs.size := hns2.lt
  have dL : s.heap.objs.size ≠ dx := Nat.ne_of_lt (Nat.lt_of_lt_of_le L2' dn)
  have hK3 : K.In h3 := fun b o e => k3 b o (fun z => by rw [z, hnx] at e; cases e) (X2 b o e)
  have hKd : K.lookup dx = none := by
    cases e : K.lookup dx with
    | none => rfl
    | some o => exact absurd (Nat.lt_of_lt_of_le (Heap.lt_size (X2 _ _ e)) dn) (Nat.lt_irrefl _)
  have hns3 : h3.Ns s.heap.objs.size (fun y => ((("self" : Str) :: f :: fl).zip (Value.ref x :: vs)).reverse.lookup y) := by
    obtain ⟨o, es, ep, ho, hr⟩ := hns2
    exact ⟨o, es, ep, k3 _ o hxL ho, hr⟩
  have hn3' : h3.Ns1 dx (lk [(f, val (("self" : Str) :: f :: fl) (.ref x :: vs) f)]) := by rw [lk_more]; exact hn3
  refine sets_old T (val (("self" : Str) :: f :: fl) (.ref x :: vs)) S.kF (S.kL _ (by simp)) hself dL hs [(f, _)] _ _ (by have := B.few; show 1 + fl.length ≤ 900; omega)
    (fun g hg => ⟨S.kL g (by simp [hg]), S.dbg g (by simp [hg]), look g (by simp [hg]), noF g (by simp [hg])⟩) hK3 hKd hns3 hx3 (Ne.symm dne) hn3' (fun h4 tk4 k4 e4 n4 => ?_)
  refine hq h4 tk4 dx ⟨fun b o hb e => ?_, ⟨_, e4⟩, Nat.le_of_lt (Nat.lt_of_lt_of_le L2' dn), dne, ?_⟩
  · have bs : b < s.heap.objs.size := Heap.lt_size e
    exact k4 b o (fun z => absurd (Nat.lt_of_lt_of_le (Nat.lt_trans bs L2') dn) (by rw [z]; exact Nat.lt_irrefl _)) (k3 b o hb (keep2 b o hb e))
  · unfold flds
    rw [List.map_cons, List.reverse_cons]
    exact n4
end
end ErrA

namespace ErrA
open PySem PySem.W PySem.Calls PyProof.Rows PySem.HandSPX
theorem val_zip {names : List Str} {us : List Value} : ∀ {fl : List Str} {vs : List Value}, fl.length = vs.length → (∀ p ∈ fl.zip vs, val names us p.1 = p.2) → (fl.map fun f => (f, val names us f)) = fl.zip vs
  | [], _, _, _ => by simp
  | _ :: _, [], h, _ => by simp at h
  | f :: fl, v :: vs, h, hv => by
    rw [List.map_cons, List.zip_cons_cons, val_zip (by simpa using h) (fun p hp => hv p (by rw [List.zip_cons_cons]; exact List.mem_cons_of_mem _ hp)), hv (f, v) (by rw [List.zip_cons_cons]; exact List.mem_cons_self ..)]
theorem flds_zip {n0 : Str} {x : Value} {fl : List Str} {vs : List Value} (hn : (n0 :: fl).Nodup) (hl : fl.length = vs.length) : flds (n0 :: fl) (x :: vs) fl = (fl.zip vs).reverse := by
  unfold flds
  rw [val_zip hl fun p hp => ?_]
  obtain ⟨f, v⟩ := p
  unfold val
  rw [zip_look (v := v) hn (by simp [hl]) (by rw [List.zip_cons_cons]; exact List.mem_cons_of_mem _ hp)]
  rfl
section
variable {P : Program} {w : World} {K : Frag} {mg : Str → Option Value} {base : Heap} {C fI cc cda : Addr} {qual : Str} {st : Stmt} {A : Around} {E : Value → Shared → Prop} {R : Result → Shared → Prop}
/-- a made exception -/
structure ErrMade (h h' : Heap) (e C d : Addr) (fs : List (Str × Value)) : Prop where
  keep : ∀ b o, h.get? b = some o → h'.get? b = some o
  new : h.objs.size ≤ e
  obj : ∃ t0 : Addr, h'.get? e = some { cls := .ref C, dict := some d, data := .fields #[.ref t0, .none, .none, .none, .bool false, .none] }
  dbig : h.objs.size ≤ d
  dne : d ≠ e
  ns : h'.Ns1 d (lk fs)
theorem err_made {f : Str} {fl : List Str} (T : ErrTxt P K C fI cc cda qual st) (B : ErrBody P st f fl) (G : Gnd K mg base) {vs : List Value} {s : Shared} (noF : ∀ g ∈ f :: fl, findIn K (.ref C) g = some none)
    (kb : ∀ b o, base.get? b = some o → s.heap.get? b = some o) (hroom : A.depth + 1 < recursionLimit) (hl : vs.length = fl.length + 1)
    (hq : ∀ h' tk e d, ErrMade s.heap h' e C d (((f :: fl).zip vs).reverse) → R (.ok (.ret (.ref e))) { s with heap := h', toks := tk }) :
    codeAny (model P w) A (.call (.ref C) ⟨vs, []⟩) R s := by
  obtain ⟨nm, q, N, bs, bm, sn, sub, ab, col, dd, k0, k1, k2, k3, k5, hC, hbm⟩ := T.cls
  have X : K.In s.heap := G.kin.keeps kb
  obtain ⟨hp, g, dr, tk, os⟩ := s
  have k : ∀ b o, hp.get? b = some o → ((hp.push (kdv_tup vs)).push (excO C hp.objs.size)).get? b = some o := fun b o e => Heap.get?_push_of_some _ (Heap.get?_push_of_some _ e)
  have hget : ((hp.push (kdv_tup vs)).push (excO C hp.objs.size)).get? (hp.objs.size + 1) = some (excO C hp.objs.size) := by heap_get
  have hnx : K.lookup (hp.objs.size + 1) = none := by
    cases e : K.lookup (hp.objs.size + 1) with
    | none => rfl
    | some o =>
      have z : hp.get? (hp.objs.size + 1) = some o := X _ _ e
      exact absurd (Nat.lt_of_succ_lt (Heap.lt_size z)) (Nat.lt_irrefl _)
  have hsz : vs.length ≤ sizeLine := by
    rw [hl, sizeLine_eq]
    have := B.few
    omega
  refine call_own PySem.F.excBase_ValueError (fun Y => refsVE_contains Y bm hbm) (X _ _ hC) (looks_findIn X T.iC) (fun self => bind_fn X self T.tI) hsz ?_
  refine err_init (s := ⟨(hp.push (kdv_tup vs)).push (excO C hp.objs.size), g, dr, tk, os⟩) T B G noF (fun b o e => k b o (kb b o e)) hget hnx ?_ hl fun h' tk' dx ⟨k', hx, dn, dne, hns⟩ => ?_
  · show A.depth + 1 < recursionLimit
    exact hroom
  · rw [flds_zip B.nd (by simp [hl])] at hns
    have old : ∀ b o, hp.get? b = some o → h'.get? b = some o := fun b o e => k' b o (Nat.ne_of_lt (Nat.lt_succ_of_lt (Heap.lt_size e))) (k b o e)
    have z : hp.objs.size + 1 + 1 ≤ dx := by
      first
        | (simpa only [Heap.size_push] using dn)
        | exact dn
    exact ⟨rfl, hq h' tk' (hp.objs.size + 1) dx ⟨old, Nat.le_succ _, hx, Nat.le_trans (Nat.le_trans (Nat.le_succ _) (Nat.le_succ _)) z, dne, hns⟩⟩
end
end ErrA

namespace L2
open PySem PySem.Spec PyProof.Rows
theorem paired_snoc_k {α β : Type} {F : α → β → Prop} {a : α} {b : β} (r : F a b) : ∀ {xs : List α} {ys : List β}, Paired F xs ys → Paired F (xs ++ [a]) (ys ++ [b])
  | _, _, .nil => .cons r .nil
  | _, _, .cons q t => .cons q (paired_snoc_k r t)
theorem paired_rev_k {α β : Type} {F : α → β → Prop} : ∀ {xs : List α} {ys : List β}, Paired F xs ys → Paired F xs.reverse ys.reverse
  | _, _, .nil => .nil
  | _, _, .cons q t => by
    rw [List.reverse_cons, List.reverse_cons]
    exact paired_snoc_k q (paired_rev_k t)
theorem kv_zip : ∀ (fl : List Str) {vs : List V} {us : List Value}, Vals vs us → KV (fl.zip vs) (fl.zip us)
  | [], _, _, _ => by simp; exact .nil
  | _ :: _, _, _, .nil => by simp; exact .nil
  | f :: fl, _, _, .cons r t => by
    rw [List.zip_cons_cons, List.zip_cons_cons]
    exact .cons ⟨rfl, r⟩ (kv_zip fl t)
theorem kv_look (g : Str) : ∀ {l : List (Str × V)} {m : List (Str × Value)}, KV l m → RelO (l.lookup g) (ErrA.lk m g)
  | _, _, .nil => True.intro
  | (f, y) :: l, (f', u) :: m, .cons ⟨e, r⟩ t => by
    have e : f = f' := e
    subst e
    rw [ErrA.lk_more]
    have ih := kv_look g t
    by_cases h : g = f
    · subst h
      simp only [List.lookup, beq_self_eq_true]
      rw [if_pos True.intro]
      exact r
    · have e2 : (g == f) = false := by simpa using h
      simp only [List.lookup, e2]
      rw [if_neg h]
      exact ih
section
variable {X : Cx} {C fI cc cda : Addr} {qual : Str} {st : Stmt} {f : Str} {fl : List Str}
/-- C(e, ..): behind the arguments, for every new d: the error with its own dict at d -/
def tMkErr (C : Addr) (f : Str) (fl : List Str) (ta : TA) : St → Hp → XK → Prop := fun σ H Q => ta σ H fun vs H1 => vs.length = fl.length + 1 ∧ ∀ d, H1 d = none → Q (.ref C) (some d) (upd H1 d (.xd ((f :: fl).zip vs).reverse))
theorem pmk_err {a : Expr} {as : List Expr} {ta : TA} {n : Str} {p pos : Pos} {k : Nat} (T : ErrA.ErrTxt X.prog X.K C fI cc cda qual st) (B : ErrA.ErrBody X.prog st f fl) (noF : ∀ g ∈ f :: fl, PySem.W.findIn X.K (.ref C) g = some none) (hr : Room k X.A) (hm : X.mg n = some (.ref C)) (ha : PA X (a :: as) ta) (hg : Gl X n := by rfl)
    (hdb : (n == ("__debug__" : Str)) = false := by decide)
    (he : starEach (a :: as) X.env = (false, eval a X.env) :: starEach as X.env := by rfl) (hpl : (backTo pos (starEach as X.env)).any (·.1) = false := by rfl) :
    PMk X (.Call (.Name n p) (a :: as) [] pos) (tMkErr C f fl ta) := by
  intro pins s σ H Q I h
  refine wpAny_Call_Name_kw (ld_glob I hg hm ?_ hdb)
  refine PySem.W.callWith_K (h₀ := X.base) I.ok.mod.kin T.kC (thn (ha.run pos pins s σ H _ I h) fun us s1 hh => ?_) he hpl
  obtain ⟨vs, H1, I1, r1, hl, q1⟩ := hh
  refine ⟨I1.kIn, ?_⟩
  show wpAny _ _ (call (.ref C) us) _ _ _
  have hbk := I1.bk
  have hlu : us.length = fl.length + 1 := by rw [← Paired.length r1]; exact hl
  obtain ⟨hp, g, dr, tk, os⟩ := s1
  refine wpAny_call (ErrA.err_made T B ⟨I1.mod.kin, I1.mod.glob, I1.mod.blt, I1.mod.nolimit⟩ noF hbk (by have := hr.dp; omega) hlu fun h' tk' e d M => ?_)
  show MkP X pins σ Q (.ref e) ⟨h', g, dr, tk', os⟩
  obtain ⟨t0, hoe⟩ := M.obj
  have hns := M.ns
  obtain ⟨G', g1, g2⟩ := restrict h' fun b => decide (b ≠ e)
  have gk : ∀ b, b ≠ e → G'.get? b = h'.get? b := fun b hb => g1 b (decide_eq_true hb)
  have ge : G'.get? e = none := g2 e (by simp)
  have old : ∀ b o, hp.get? b = some o → G'.get? b = some o := fun b o q => (gk b (Nat.ne_of_lt (Nat.lt_of_lt_of_le (Heap.lt_size q) M.new))).trans (M.keep b o q)
  have ob : ObjOk X.prog X.w (upd H1 d (.xd ((f :: fl).zip vs).reverse)) G' d (.xd ((f :: fl).zip vs).reverse) :=
    ⟨_, hns.at (fun o q => (gk d M.dne).trans q), fun g => kv_look g (paired_rev_k (kv_zip (f :: fl) r1))⟩
  have J : Inv X pins σ (upd H1 d (.xd ((f :: fl).zip vs).reverse)) ⟨G', g, dr, tk', os⟩ := I1.laid (t' := tk') old M.dbig ob
  refine ⟨e, _, _, ⟨G', g, dr, tk', os⟩, _, .ref C, some d, rfl, J, fun b o q => ?_, ge, hoe, ⟨rfl, rfl⟩, rfl, rfl, ?_, rfl, I1.bare, raises_own T.exC T.tyC, q1 d (I1.hok.fresh M.dbig)⟩
  · by_cases hb : b = e
    · have q' : G'.get? b = some o := q
      rw [hb, ge] at q'; cases q'
    · exact (gk b hb).symm.trans q
  · rw [upd_ne (Ne.symm M.dne)]
    exact I1.hok.fresh M.new
/-- raise C(e, ..) -/
def tRaiseErr (C : Addr) (f : Str) (fl : List Str) (W : WX) (ta : TA) : TS := fun _ σ H => tMkErr C f fl ta σ H fun cls d H' => W cls d σ H'
theorem ps_raiseErr {a : Expr} {as : List Expr} {ta : TA} {W : WX} {n : Str} {p pos pos2 : Pos} {k : Nat} (hc : X.calm = true) (T : ErrA.ErrTxt X.prog X.K C fI cc cda qual st) (B : ErrA.ErrBody X.prog st f fl) (noF : ∀ g ∈ f :: fl, PySem.W.findIn X.K (.ref C) g = some none) (hr : Room k X.A) (hm : X.mg n = some (.ref C)) (tk : Takes X W) (ha : PA X (a :: as) ta) (hg : Gl X n := by rfl)
    (hdb : (n == ("__debug__" : Str)) = false := by decide)
    (he : starEach (a :: as) X.env = (false, eval a X.env) :: starEach as X.env := by rfl) (hpl : (backTo pos (starEach as X.env)).any (·.1) = false := by rfl) :
    PS X (.Raise (some (.Call (.Name n p) (a :: as) [] pos)) none pos2) (tRaiseErr C f fl W ta) := ps_raise hc tk (pmk_err T B noF hr hm ha hg hdb he hpl)
end
end L2

set_option Elab.async false
set_option linter.all false
set_option maxRecDepth 100000
set_option maxHeartbeats 2000000
/-! Part B: several clauses «except C as n» -/
namespace L2
open PySem PySem.Spec PyProof.Rows
/-- a clause's class and its suite's reading -/
abbrev Cl := Value × (Addr → Value → Option Addr → TS)
/-- the ends of a suite: the name in slot i is gone behind it -/
def goneD (i : Nat) (D : Ends) : Ends := { nx := fun τ G => D.nx (τ.set i none) G, rt := D.rt, bk := fun τ G => D.bk (τ.set i none) G, ct := fun τ G => D.ct (τ.set i none) G }
/-- what the clauses wish, one behind the other; all of them store in slot i -/
def wClauses (K : PySem.W.Frag) (i : Nat) (Wo : WX) (D : Ends) : List Cl → WX
  | [] => Wo
  | (c, ts) :: more => fun cls d τ G => ∃ yes, PySem.W.exmOne K cls c = some yes ∧ (yes = true → ∀ e, G e = none → ts e cls d (goneD i D) (τ.set i (some (.ref e))) G) ∧ (yes = false → wClauses K i Wo D more cls d τ G)
inductive Clauses (X : Cx) (n : Str) : List ExceptHandler → List Cl → Prop
  | nil : Clauses X n [] []
  | cons {x : Str} {c : Value} {ts : Addr → Value → Option Addr → TS} {s0 : Stmt} {ss : List Stmt} {pa pb : Pos} {hs : List ExceptHandler} {l : List Cl} (nm : Names X x c)
      (su : ∀ (e : Addr) (oe : Obj) (cls : Value) (d : Option Addr) (pn : List (Addr × Obj)), Zc cls d oe → (∃ vs, oe.data = .fields vs) → PSs (X.suite e ((e, oe) :: pn)) (s0 :: ss) (ts e cls d)) (more : Clauses X n hs l) :
      Clauses X n (.ExceptHandler (some (.Name x pa)) (some n) (s0 :: ss) pb :: hs) ((c, ts) :: l)
section
variable {X : Cx} {n : Str} {i : Nat} {body : List Stmt} {hd : ExceptHandler} {hs : List ExceptHandler} {l : List Cl} {pos : Pos} {tb : WX → TS} {Wo : WX}
/-- an end of the suite: the name goes, the frame is ours again -/
theorem suite_end {pins : List (Addr × Obj)} {D : Ends} {ok : X.Ok} {e : Addr} {q : Addr × Obj} {fl : Flow} {s6 : Shared} {pb : Pos} (hN : X.N.Nodup) (hi : X.N[i]? = some n) (hln : X.env.kindOf n = some .local)
    (h : SP (X.suite e (q :: (X.pn ++ pins))) [] (goneD i D) fl s6) :
    wpAny (model X.prog X.w) X.A (do bindName X.env n .none; unbindBehindTheSuite X.env n pb) (fun _ s7 => SP X pins D fl s7) X.xe s6 := by
  cases fl with
  | ret u =>
    obtain ⟨v, τ, G, J, r, z⟩ := h
    refine gone_ok (J.unsuite ok) hN hi hln fun s7 J7 => ?_
    exact ⟨v, _, _, J7, r, z⟩
  | next =>
    obtain ⟨τ, G, J, z⟩ := h
    refine gone_ok (J.unsuite ok) hN hi hln fun s7 J7 => ?_
    exact ⟨_, _, J7, z⟩
  | brk =>
    obtain ⟨τ, G, J, z⟩ := h
    refine gone_ok (J.unsuite ok) hN hi hln fun s7 J7 => ?_
    exact ⟨_, _, J7, z⟩
  | cont =>
    obtain ⟨τ, G, J, z⟩ := h
    refine gone_ok (J.unsuite ok) hN hi hln fun s7 J7 => ?_
    exact ⟨_, _, J7, z⟩
theorem ps_try_clauses (hst : X.stack = X.env :: X.outer) (hfr : X.env.frame = some X.env.locals) (hN : X.N.Nodup) (hi : X.N[i]? = some n) (hln : X.env.kindOf n = some .local) (tk : Takes X Wo)
    (hb : ∀ (W : WX) (pn : List (Addr × Obj)) (xe : Value → Shared → Prop), Takes (X.tr pn xe) W → PassesOwn (model X.prog X.w) X.A X.env xe → PSs (X.tr pn xe) body (tb W))
    (hh : Clauses X n (hd :: hs) l) : PS X (.Try body (hd :: hs) [] [] pos) (fun D σ H => tb (wClauses X.K i Wo D l) D σ H) := by
  constructor
  intro pins s σ H D I start
  have ok := I.ok
  have frs_ : X.A.frames = some (X.env :: X.outer) := ok.frames.trans (by rw [hst])
  refine wpAny_Try_except ?_
  have run := (hb (wClauses X.K i Wo D l) (X.pn ++ pins) (fun ev t1 => wpAny (model X.prog X.w) X.A (noteFrame ev X.env) (fun _ t2 => wpAny (model X.prog X.w) X.A (setFlight ev none)
    (fun _ t3 => wpAny (model X.prog X.w) X.A (handleBy ev X.env (hd :: hs)) (SP X pins D) X.xe t3) X.xe t2) X.xe t1) (fun u t xx => ?_) PassesOwn.looking).run [] s σ H D (I.toTry _) start
  · refine wpAny_mono run (fun f t z => ?_) (fun ev t z => z)
    cases f with
    | ret u =>
      obtain ⟨v, τ, G, J, r, q⟩ := z
      exact ⟨v, τ, G, J.ofTry ok, r, q⟩
    | next =>
      obtain ⟨τ, G, J, q⟩ := z
      exact wpAny_execs_nil ⟨τ, G, J.ofTry ok, q⟩
    | brk =>
      obtain ⟨τ, G, J, q⟩ := z
      exact ⟨τ, G, J.ofTry ok, q⟩
    | cont =>
      obtain ⟨τ, G, J, q⟩ := z
      exact ⟨τ, G, J.ofTry ok, q⟩
  obtain ⟨e, B, t0, pins0, τ, G, cls, d, rfl, J0, ground, up, sky, ne, eos, bare, wish⟩ := xx
  have J : Inv X pins τ G t0 := J0.ofTry ok
  have sky2 : Sky B (X.env :: X.outer) e (Zc cls d) X.env.locals t.heap := by
    rw [← hst]
    exact sky
  show wpAny (model X.prog X.w) X.A (noteFrame (.ref e) X.env) _ _ _
  refine Sky.land Zc.steady frs_ hfr sky2 fun g3 fly3 up3 => ?_
  have up03 := up.trans up3
  have J3 : Inv X pins τ G { t with heap := g3 } := J.landed ground fly3.1 up03 eos bare
  obtain ⟨o3, v3, get3, z3, d3⟩ := fly3.there
  have out : e ∉ frs (X.env :: X.outer) := fun m => by
    obtain ⟨_, o', e', no⟩ := fly3.2.2.1.mem m
    rw [get3] at e'
    cases e'
    exact no _ d3
  have outL : e ≠ X.env.locals := fun z => out (List.mem_filterMap.mpr ⟨X.env, List.mem_cons_self, by rw [hfr, z]⟩)
  have outF : e ∉ X.fs := fun m => by
    obtain ⟨env', he', q⟩ := List.mem_filterMap.mp m
    exact out (List.mem_filterMap.mpr ⟨env', List.mem_cons_of_mem _ he', q⟩)
  have S3 := J3.suite get3 d3 ne outL outF
  have main : ∀ {hs' : List ExceptHandler} {l' : List Cl}, Clauses X n hs' l' → wClauses X.K i Wo D l' cls d τ G → wpAny (model X.prog X.w) X.A (handleBy (.ref e) X.env hs') (SP X pins D) X.xe { t with heap := g3 } := by
    intro hs' l' c
    induction c with
    | nil =>
      intro w
      refine wpAny_handleBy_nil ?_
      obtain ⟨_, _, _, oe, vs, T, oT, ts', he, _, hdt, h1, _⟩ := id fly3
      have fin : wpAny (model X.prog X.w) X.A (setFlight (.ref e) X.env.frame) (fun _ t4 => wpAny (model X.prog X.w) X.A (throw (.ref e) : Sem Flow) (SP X pins D) X.xe t4) X.xe { t with heap := g3 } := by
        rw [hfr]
        refine HandSPX.setFlight_upZ fly3 fun g4 held4 up4 => wpAny_throw (tk _ _ ⟨e, B, t0, pins, τ, G, cls, d, rfl, J, ground, up03.trans up4, .inr (.inr ?_), ne, eos, bare, w⟩)
        rw [hst]
        exact held4
      unfold PySem.passOn
      refine wpAny_bind (wpAny_field he hdt h1 ?_)
      have notNone : ¬ ((Value.ref T == Value.none) = true) := by simp
      rw [if_neg notNone]
      first
        | exact wpAny_bind fin
        | exact wpAny_bind (wpAny_pure (wpAny_bind fin))
    | @cons x c ts s0 ss pa pb hs2 l2 nm su more ih =>
      intro w
      obtain ⟨yes, hy, w1, w0⟩ := w
      refine wpAny_handleBy_cons (codeAny_handlers_test ?_) (by intro q; cases q)
      have ty : PySem.W.Looks (model X.prog X.w) g3 (typeOf (.ref e)) cls := fun A Q E s k q => wpAny_typeOf_ref (k _ _ get3) (by rw [z3.1]; exact q)
      have mt := PySem.W.exm_one (M := model X.prog X.w) (J3.kIn) ty hy
      have named : ∀ {Q : Value → Shared → Prop} {E : Value → Shared → Prop}, Q c { t with heap := g3 } → wpAny (model X.prog X.w) (X.A.mark (some (.ref e))) (eval (.Name x pa) X.env) Q E { t with heap := g3 } := by
        intro Q E q
        obtain ⟨hg, hdbg, inMod | ⟨notIn, isB, notName⟩⟩ := nm
        · exact ld_glob (X := X.suite e ((e, o3) :: (X.pn ++ pins))) S3 hg inMod q hdbg
        · exact ld_blt (X := X.suite e ((e, o3) :: (X.pn ++ pins))) S3 hg notIn isB q notName hdbg
      refine named (mt.here ?_)
      cases yes with
      | false => exact ih (w0 rfl)
      | true =>
        refine codeAny_handlers_suite_as (HandSPX.lands_againZ fly3 fun g4 fly4 up4 => ?_)
        have J4 : Inv X pins τ G { t with heap := g4 } := J.landed ground fly4.1 (up03.trans up4) eos bare
        obtain ⟨o4, v4, get4, z4, d4⟩ := fly4.there
        refine store_ok (X := X.suite e ((e, o4) :: (X.pn ++ pins))) (v := .ref e) (J4.suite get4 d4 ne outL outF) hN hi (.inl hln) rfl (fun s5 S5 => ?_) (.inr hln)
        refine wpAny_mono ((su e o4 cls d (X.pn ++ pins) z4 ⟨_, d4⟩).run [] s5 _ G _ S5 (w1 rfl e ne)) (fun fl s6 z => ?_) (fun _ _ z => False.elim z)
        have fin := suite_end (ok := ok) (pb := pb) hN hi hln z
        cases fl <;> exact fin
  exact main hh wish
end
end L2

set_option Elab.async false
set_option linter.all false
set_option maxRecDepth 100000
set_option maxHeartbeats 2000000
/-! Part C: a def that gets the handled exception, called in an except suite; isinstance of it -/
namespace L2
open PySem PySem.Spec PyProof.Rows
/-- a promise that speaks of the handled exception: its address, its class, its own dict -/
abbrev SpP := Addr → Value → Option Addr → Sp
structure FnPin (P : Program) (w : World) (K : PySem.W.Frag) (mg : Str → Option Value) (base : Heap) (k : Nat) (f : Addr) (fd : FuncData) (ps : List Str) (sp : SpP) : Prop where
  len : ∀ a cls d vs H Q E, sp a cls d vs H Q E → vs.length = ps.length
  run : ∀ (A : Around) (outer : List Env) (s : Shared) (H : Hp) (args : Args) (us : List Value) (vs : List V) (Q : VK) (E : XK) (p : Addr × Obj) (cls : Value) (d : Option Addr), L2H.RoomH k A → L2H.PinOk outer H s p → Zc cls d p.2 → (∃ xs, p.2.data = .fields xs) → Env0 P w K mg base A outer s H → BindsTo s fd args (ps.zip us) → Vals vs us → sp p.1 cls d vs H Q E →
    codeAny (model P w) A (.call (.ref f) args) (CR CX0 outer P w H s Q E) s
section
variable {P : Program} {w : World} {K : PySem.W.Frag} {mg : Str → Option Value} {base : Heap}
theorem Fun.okPin {x qual : Str} {st : Stmt} {f : Addr} {fd : FuncData} {N ps : List Str} {k : Nat} {sp : SpP} (F : Fun K x qual st f fd) (S : FnScope N ps (defScope st)) (len : ∀ a cls d vs H Q E, sp a cls d vs H Q E → vs.length = ps.length)
    (hbody : ∀ (cdv : Value) (A : Around) (outer : List Env) (s : Shared) (H : Hp) (vs : List V) (Q : VK) (E : XK) (p : Addr × Obj) (cls : Value) (d : Option Addr), Zc cls d p.2 → (∃ xs, p.2.data = .fields xs) → L2H.RoomH k (A.deeper (envOfC qual (defScope st) s.heap.objs.size f cdv)) → sp p.1 cls d vs H Q E →
      ∃ t, PSs (L2H.cxH CX0 P w K mg base N qual (defScope st) f cdv A outer s H E p) (defBody st) t ∧ t { nx := fun _ G => Q .non G, rt := Q } (start N vs) H) : FnPin P w K mg base (k + 1) f fd ps sp := by
  obtain ⟨oc, od, kV, doc, pm, an, cdv, ct, osl, rfl, lk, hcd⟩ := F.ex
  refine ⟨len, fun A outer s H args us vs Q E p cls d room pin hz hf e0 hb rel want => ?_⟩
  have same := len _ _ _ _ _ _ _ want
  have base_in : ∀ b o, base.get? b = some o → s.heap.get? b = some o := fun b o e => (e0.bs b o e).1
  have KX : K.In s.heap := e0.mod.kin.keeps base_in
  have kinds : ∀ y ∈ ps.zip us, (defScope st).names.lookup y.1 = some .local ∨ ((defScope st).names.lookup y.1 = some .cell ∧ ((cellsFrom (s.heap.objs.size + 1) (defScope st).names []).lookup y.1).isSome = true) := by
    intro y hy
    obtain ⟨nm, v⟩ := y
    rcases S.par nm (List.of_mem_zip hy).1 with q | q
    · exact Or.inl q
    · exact Or.inr ⟨q, PySem.W.cellsFrom_some _ _ _ (Or.inl q)⟩
  refine codeAny_call_function room.depth (KX _ _ lk) rfl S.co S.gen rfl (PySem.W.codeRec_of KX hcd) (hb _ _ _ _ ?_)
  refine wpAny_newFunctionEnv_cells S.kind kinds fun env he s1 entered => ?_
  subst he
  refine ⟨(e0.mod.nolimit.keeps base_in).keeps entered.toInCall.keep, codeAny_func ?_⟩
  obtain ⟨t, body, reads⟩ := hbody cdv A outer s H vs Q E p cls d hz hf (room.deeper _) want
  have I : Inv (L2H.cxH CX0 P w K mg base N qual (defScope st) f cdv A outer s H E p) [] (start N vs) H s1 := L2H.inv_startH S pin e0 same rel entered
  refine wpAny_mono (body.run [] s1 (start N vs) H _ I reads) (fun fl s' z => ?_) fun _ _ z => z
  cases fl with
  | ret u =>
    obtain ⟨v, τ, G, J, r, q⟩ := z
    exact ⟨v, G, J.os, J.bare, J.base, J.hok, r, q⟩
  | next =>
    obtain ⟨τ, G, J, q⟩ := z
    exact ⟨V.non, G, J.os, J.bare, J.base, J.hok, rfl, q⟩
  | brk =>
    obtain ⟨_, _, _, q⟩ := z
    exact q.elim
  | cont =>
    obtain ⟨_, _, _, q⟩ := z
    exact q.elim
end
section
variable {X : Cx} {k : Nat} {f : Addr} {fd : FuncData} {ps : List Str} {sp : SpP} {x : Str} {q pos : Pos} {e : Expr} {es : List Expr} {t : TA} {a : Addr} {oe : Obj} {cls : Value} {d : Option Addr}
/-- f(e, ..) in a suite that handles p -/
def tCallPin (sp : SpP) (a : Addr) (cls : Value) (d : Option Addr) (t : TA) : TE := fun σ H Q => t σ H fun vs H1 => sp a cls d vs H1 Q E0
theorem pe_callPin (F : FnPin X.prog X.w X.K X.mg X.base k f fd ps sp) (hr : L2H.RoomH k X.A) (hp : (a, oe) ∈ X.pn) (hz : Zc cls d oe) (hf : ∃ xs, oe.data = .fields xs) (hg : Gl X x) (hm : X.mg x = some (.ref f)) (hk : PySem.W.keepIn X.K (.ref f) = true) (hb : Binds X.K fd ps [])
    (ha : PA X (e :: es) t) (hdb : (x == ("__debug__" : Str)) = false := by decide) (he : starEach (e :: es) X.env = (false, eval e X.env) :: starEach es X.env := by rfl) (hpl : (backTo pos (starEach es X.env)).any (·.1) = false := by rfl) :
    PE X (.Call (.Name x q) (e :: es) [] pos) (tCallPin sp a cls d t) := by
  constructor
  intro pins s σ H Q I h
  refine wpAny_Call_Name_kw (ld_glob I hg hm ?_ hdb)
  refine PySem.W.callWith_K (h₀ := X.base) I.ok.mod.kin hk (thn (ha.run pos pins s σ H _ I h) fun us s1 z => ?_) he hpl
  obtain ⟨vs, H1, I1, rel, want⟩ := z
  refine ⟨I1.kIn, ?_⟩
  have hl : us.length = ps.length := rel.length.symm.trans (F.len _ _ _ _ _ _ _ want)
  have b := hb s1 us I1.kIn (by rw [List.append_nil]; exact hl)
  rw [List.append_nil] at b
  obtain ⟨g1, g2, g3, g4, g5⟩ := I1.pin (a, oe) (List.mem_append_left _ hp)
  have pin : L2H.PinOk X.stack H1 s1 (a, oe) := ⟨g1, g2, fun m => (List.mem_cons.mp (I1.stkSub a m)).elim g3 g4, g5⟩
  refine wpAny_call (codeAny_mono (F.run X.A X.stack s1 H1 ⟨us, []⟩ us vs Q E0 (a, oe) cls d hr pin hz hf I1.env0 b rel want) fun r s' z => ?_)
  cases r with
  | error ev => exact False.elim z
  | ok fl =>
    cases fl with
    | ret u => exact I1.after z
    | next => exact False.elim z
    | brk => exact False.elim z
    | cont => exact False.elim z
end
/-- what isinstance asks of the class of an exception -/
structure ExI (K : PySem.W.Frag) (D : Addr) : Prop where
  cl : (PySem.W.clsIn K D).isSome = true
  ga : PySem.W.findIn K (.ref D) "__getattribute__" = some (some (.builtin "BaseException.__getattribute__"))
  gg : PySem.W.findIn K (.ref D) "__getattr__" = some none
  sb : PySem.W.subIn K (.ref D) (.type "BaseException") = some true
  ca : PySem.W.findIn K (.ref D) "__class__" = some (some (.builtin "object.__class__"))
  gt : PySem.W.specialIn K (.builtin "object.__class__") "__get__" = some (some (.builtin "getset_descriptor.__get__"))
  tk : PySem.W.takesIn K (.builtin "object.__class__") = some true
  mo : PySem.W.mroIn K D (.type "object") = some true
def rIsPin (K : PySem.W.Frag) (a : Addr) (cls : Value) (d : Option Addr) : List V → Hp → VK → Prop := fun xs H Q => ∃ (D dd : Addr) (c : V) (cv : Value) (b : Bool) (fs : List (Str × V)), cls = .ref D ∧ d = some dd ∧ ExI K D ∧
  xs = [.ref a, c] ∧ (∀ u, RelV c u → u = cv) ∧ PySem.W.kitOne K (.ref D) cv = some b ∧ H dd = some (.xd fs) ∧ Q (.bl b) H
theorem call_isPin {X : Cx} {a : Addr} {oe : Obj} {cls : Value} {d : Option Addr} (hp : (a, oe) ∈ X.pn) (hz : Zc cls d oe) (hf : ∃ vs, oe.data = .fields vs) : CallR X (.builtin "isinstance") (rIsPin X.K a cls d) := by
  intro pins s σ H xs us Q I r h
  obtain ⟨D, dd, c, cv, b, fs, rfl, rfl, C, rfl, hcv, e, ed, q⟩ := h
  cases r with
  | cons rx rr =>
    cases rr with
    | cons rt rr =>
      cases rr
      cases rx
      obtain rfl := hcv _ rt
      have hget := (I.pin (a, oe) (List.mem_append_left _ hp)).1
      have hx : ObjOk X.prog X.w H s.heap dd (.xd fs) := I.hok dd _ ed
      obtain ⟨mA, ⟨od, es, ep, hod, _⟩, _⟩ := hx
      obtain ⟨vs, hv⟩ := hf
      have at_ : PySem.W.InstAt s.heap a oe D (some od) := ⟨hget, hz.1, by unfold PySem.W.notCls; rw [hv] <;> rfl, by rw [hz.2]; exact hod⟩
      exact PySem.W.kia_one (PySem.W.kitx_exc C.cl C.ga C.gg C.sb C.ca C.gt C.tk C.mo) I.kIn at_ e (fun z => nomatch z) fun tk => ⟨.bl b, H, I.tok tk, rfl, q⟩
end L2

set_option Elab.async false
set_option linter.all false
set_option maxRecDepth 100000
set_option maxHeartbeats 4000000
/-! Dividers, the program, a: numbers -/
namespace KD
open PySem L2
def top (i : Nat) : Stmt := PySem.Challenge.pw_tagblocks_k62_whole_great_dividers.main.body.getD i (.Pass ⟨0, 0, 0, 0⟩)
abbrev PP : Program := PySem.Challenge.pw_tagblocks_k62_whole_great_dividers
abbrev sWhole : Stmt := top 4
abbrev sBetw : Stmt := top 6
abbrev sCheck : Stmt := top 10
abbrev sUp : Stmt := top 11
abbrev sFloor : Stmt := top 14
theorem ifT3 {c : Bool} {A B : Prop} (e : c = true) (h : A) : if c = true then A else B := by rw [if_pos e]; exact h
theorem ifF3 {c : Bool} {A B : Prop} (e : c = false) (h : B) : if c = true then A else B := by rw [if_neg (by rw [e]; exact Bool.false_ne_true)]; exact h
theorem Same.new {H : Hp} {a : Addr} {o : HO} (h : H a = none) : Same H (upd H a o) := fun b u e => by
  rw [upd_ne (ne_of_none e h)]
  exact e
theorem Same.write {H G : Hp} {a : Addr} {o : HO} (s : Same H G) (h : H a = none) : Same H (upd G a o) := fun b u e => by
  rw [upd_ne (ne_of_none e h)]
  exact s b u e
theorem none_of {H G : Hp} {a : Addr} (s : Same H G) (h : G a = none) : H a = none := by
  cases e : H a with
  | none => rfl
  | some o => exact absurd (s _ _ e) (by rw [h]; intro z; cases z)
theorem PSs.ghost {X : Cx} {st : List Stmt} : PSs X st (fun _ _ _ => False) := ⟨fun _ _ _ _ _ _ z => z.elim⟩
theorem PS.ghost {X : Cx} {st : Stmt} : PS X st (fun _ _ _ => False) := ⟨fun _ _ _ _ _ _ z => z.elim⟩
structure TxtI (mg : Str → Option Value) : Prop where
  isi : mg "isinstance" = none
  int : mg "int" = none
  bool : mg "bool" = none
  min : mg "min" = none
  max : mg "max" = none
  dm : mg "divmod" = none
  len : mg "len" = none
  list : mg "list" = none
  range : mg "range" = none
  mn : ∃ t, mg "MOST_NUMBER" = some (.int (10 ^ 60) t)
  ms : ∃ t, mg "MOST_SHIFT" = some (.int 400 t)
/-- below 2 ^ k -/
def Bd (k : Nat) (i : Int) : Prop := i.natAbs < 2 ^ k
theorem Bd.mono {a b : Nat} {i : Int} (h : Bd a i) (ab : a ≤ b) : Bd b i := Nat.lt_of_lt_of_le h (Nat.pow_le_pow_right (by decide) ab)
theorem Bd.mul {a b : Nat} {i j : Int} (h : Bd a i) (k : Bd b j) : Bd (a + b) (i * j) := wide_lt h k
theorem Bd.add {a : Nat} {i j : Int} (h : Bd a i) (k : Bd a j) : Bd (a + 1) (i + j) := by
  unfold Bd at *
  have := Int.natAbs_add_le i j
  rw [Nat.pow_succ]
  omega
theorem Bd.neg {a : Nat} {i : Int} (h : Bd a i) : Bd a (-i) := by
  unfold Bd at *
  rw [Int.natAbs_neg]
  exact h
theorem Bd.sub {a : Nat} {i j : Int} (h : Bd a i) (k : Bd a j) : Bd (a + 1) (i - j) := by
  rw [Int.sub_eq_add_neg]
  exact h.add k.neg
theorem Bd.of {a : Nat} {i : Int} (h0 : 0 ≤ i) (h : i < 2 ^ a) : Bd a i := by
  unfold Bd
  have : ((i.natAbs : Nat) : Int) < ((2 ^ a : Nat) : Int) := by
    rw [Int.natAbs_of_nonneg h0]
    simpa using h
  exact Int.ofNat_lt.mp this
theorem Bd.le {a : Nat} {i j : Int} (h0 : 0 ≤ i) (h : i ≤ j) (k : Bd a j) : Bd a i := by
  unfold Bd at *
  omega
theorem Bd.w {a b : Nat} {i j : Int} (h : Bd a i) (k : Bd b j) (h0 : 0 < a := by decide) (h1 : 0 < b := by decide) (h2 : a + b ≤ 1000000 := by decide) : CMulW i j := wide_mul h k h0 h1 h2
theorem Bd.d {i j : Int} {b : Nat} (k : Bd b j) (h : 0 < j) (h0 : 0 < b := by decide) (h9 : b ≤ 9000 := by decide) : CDivW i j := wide_div h k h0 h9
theorem Bd.pl {i j : Int} {b : Nat} (k : Bd b j) (h : 0 < j) (h0 : 0 < b := by decide) (h9 : b ≤ 9000 := by decide) : CDivP i j := by
  refine ⟨h, ?_⟩
  have hl := PySem.Flt.log2_lt_of h0 k
  unfold Builtin.divisionGoesByPylong
  simp only [Bool.and_eq_false_iff, decide_eq_false_iff_not]
  left
  split <;> omega
def spWhole : Sp := fun vs H Q _ => ∃ i : Int, vs = [.int i] ∧ Q (.bl true) H
def spBetw : Sp := fun vs H Q _ => ∃ i l m : Int, vs = [.int i, .int l, .int m] ∧ Q (.bl (decide (l ≤ i) && decide (i ≤ m))) H
def spCheck : Sp := fun vs H Q _ => ∃ i l m : Int, vs = [.int i, .int l, .int m] ∧ l ≤ i ∧ i ≤ m ∧ Q .non H
def spUp : Sp := fun vs H Q _ => ∃ (n d : Int) (b : Nat), vs = [.int n, .int d] ∧ 0 < d ∧ Bd b d ∧ 0 < b ∧ b ≤ 9000 ∧ Q (.int (DV.up n d)) H
section
variable {P : Program} {w : World} {K : PySem.W.Frag} {mg : Str → Option Value} {base : Heap}
theorem scWhole : FnScope ["value"] ["value"] (defScope sWhole) := ⟨rfl, rfl, rfl, by decide +kernel, rfl, by decide +kernel, by decide +kernel⟩
theorem ok_whole {f : Addr} {fd : FuncData} (F : Fun K "is_whole" "is_whole" sWhole f fd) (T : TxtI mg) : FnOk P w K mg base CX0 1 f fd ["value"] spWhole := by
  refine F.ok scWhole (fun vs H Q E h => ?_) (fun cdv A outer s H vs Q E hr h => ?_)
  · obtain ⟨i, rfl, _⟩ := h
    rfl
  · obtain ⟨i, rfl, k⟩ := h
    refine ⟨_, pss_one (ps_ret (pe_and (pe_callB (id := "isinstance") call_isi (by rfl) T.isi (by decide +kernel) (pa_cons (pv 0) (pa_cons (pe_bltn (v := .ty "int") (by rfl) T.int (by decide +kernel) rfl) pa_nil)))
      (pe_one (pe_not (pe_callB (id := "isinstance") call_isi (by rfl) T.isi (by decide +kernel) (pa_cons (pv 0) (pa_cons (pe_bltn (v := .ty "bool") (by rfl) T.bool (by decide +kernel) rfl) pa_nil))))))), ?_⟩
    refine ⟨_, rfl, .int i, .ty "int", .type "int", .type "int", true, rfl, .ty _, .base (.int _), rfl, _, rfl, ?_⟩
    refine iteT ?_
    refine ⟨_, rfl, .int i, .ty "bool", .type "int", .type "bool", false, rfl, .ty _, .base (.int _), rfl, _, rfl, ?_⟩
    exact k
theorem scBetw : FnScope ["value", "least", "most"] ["value", "least", "most"] (defScope sBetw) := ⟨rfl, rfl, rfl, by decide +kernel, rfl, by decide +kernel, by decide +kernel⟩
theorem ok_betw {f fW : Addr} {fd fdW : FuncData} (F : Fun K "is_between" "is_between" sBetw f fd)
    (GW : FnOk P w K mg base CX0 1 fW fdW ["value"] spWhole) (kW : PySem.W.keepIn K (.ref fW) = true) (bW : Binds K fdW ["value"] []) (gW : mg "is_whole" = some (.ref fW)) : FnOk P w K mg base CX0 2 f fd ["value", "least", "most"] spBetw := by
  refine F.ok scBetw (fun vs H Q E h => ?_) (fun cdv A outer s H vs Q E hr h => ?_)
  · obtain ⟨i, l, m, rfl, _⟩ := h
    rfl
  · obtain ⟨i, l, m, rfl, k⟩ := h
    refine ⟨_, pss_one (ps_ret (pe_and (pe_call GW hr rfl gW kW bW .nil pass0 (pa_cons (pv 0) pa_nil)) (pe_one (pe_chain op_le op_le (pv 1) (pv 0) (pv 2))))), ?_⟩
    refine ⟨_, rfl, i, rfl, _, rfl, ?_⟩
    refine iteT ?_
    refine ⟨_, rfl, _, rfl, l, i, rfl, rfl, _, rfl, ?_⟩
    refine ite2 (fun h1 => ?_) (fun h1 => ?_)
    · refine ⟨_, rfl, i, m, rfl, rfl, ?_⟩
      rw [h1, Bool.true_and] at k
      exact k
    · rw [Bool.eq_false_iff.mpr h1, Bool.false_and] at k
      exact k
theorem scCheck : FnScope ["number", "least", "most"] ["number", "least", "most"] (defScope sCheck) := ⟨rfl, rfl, rfl, by decide +kernel, rfl, by decide +kernel, by decide +kernel⟩
theorem ok_check {f fB : Addr} {fd fdB : FuncData} (F : Fun K "check_between" "check_between" sCheck f fd)
    (GB : FnOk P w K mg base CX0 2 fB fdB ["value", "least", "most"] spBetw) (kB : PySem.W.keepIn K (.ref fB) = true) (bB : Binds K fdB ["value", "least", "most"] []) (gB : mg "is_between" = some (.ref fB)) : FnOk P w K mg base CX0 3 f fd ["number", "least", "most"] spCheck := by
  refine F.ok scCheck (fun vs H Q E h => ?_) (fun cdv A outer s H vs Q E hr h => ?_)
  · obtain ⟨i, l, m, rfl, _⟩ := h
    rfl
  · obtain ⟨i, l, m, rfl, h1, h2, k⟩ := h
    refine ⟨_, pss_one (ps_if (pt_not (pt_val (pe_call GB hr rfl gB kB bB .nil pass0 (pa_cons (pv 0) (pa_cons (pv 1) (pa_cons (pv 2) pa_nil)))))) (pss_one PS.ghost) pss_nil), ?_⟩
    refine ⟨_, rfl, _, rfl, _, rfl, i, l, m, rfl, ?_⟩
    rw [decide_eq_true h1, decide_eq_true h2]
    exact ⟨_, rfl, iteF k⟩
theorem scUp : FnScope ["number", "by"] ["number", "by"] (defScope sUp) := ⟨rfl, rfl, rfl, by decide +kernel, rfl, by decide +kernel, by decide +kernel⟩
theorem ok_up {f : Addr} {fd : FuncData} (F : Fun K "upward" "upward" sUp f fd) : FnOk P w K mg base CX0 1 f fd ["number", "by"] spUp := by
  refine F.ok scUp (fun vs H Q E h => ?_) (fun cdv A outer s H vs Q E hr h => ?_)
  · obtain ⟨n, d, b, rfl, _⟩ := h
    rfl
  · obtain ⟨n, d, b, rfl, h0, hb, b0, b1, k⟩ := h
    refine ⟨_, pss_one (ps_ret (pe_un un_neg (pe_op op_fdivW (pe_un un_neg (pv 0)) (pv 1)))), ?_⟩
    exact ⟨_, rfl, _, rfl, _, rfl, _, _, rfl, rfl, wide_div h0 hb b0 b1, _, rfl, k⟩
end
end KD

set_option Elab.async false
set_option linter.all false
set_option maxRecDepth 100000
set_option maxHeartbeats 8000000
/-! Dividers, the program, b: the classes -/
namespace KD
open PySem L2
open DV (Dv)
abbrev sDI : Stmt := inClass (top 12) 0
abbrev sQuot : Stmt := inClass (top 12) 2
abbrev sRI : Stmt := inClass (top 13) 0
abbrev sRB : Stmt := inClass (top 13) 1
abbrev sFew : Stmt := inClass (top 13) 2
abbrev sFit : Stmt := inClass (top 13) 3
abbrev sWF : Stmt := inClass (top 13) 4
abbrev sRF : Stmt := inClass (top 13) 5
abbrev sWQ : Stmt := inClass (top 13) 6
abbrev sRQ : Stmt := inClass (top 13) 7
abbrev sCR : Stmt := inClass (top 13) 8
abbrev sSB : Stmt := inClass (top 13) 9
/-- the fields of a divider -/
def dFl (D : Dv) : List (Str × V) := putF "shift" (.int (D.s : Nat)) (putF "offset" (.int D.o) (putF "multiplier" (.int D.m) (putF "by" (.int D.b) [])))
theorem dFl_b (D : Dv) : (dFl D).lookup ("by" : Str) = some (.int D.b) := by kernel_rfl
theorem dFl_m (D : Dv) : (dFl D).lookup ("multiplier" : Str) = some (.int D.m) := by kernel_rfl
theorem dFl_o (D : Dv) : (dFl D).lookup ("offset" : Str) = some (.int D.o) := by kernel_rfl
theorem dFl_s (D : Dv) : (dFl D).lookup ("shift" : Str) = some (.int (D.s : Nat)) := by kernel_rfl
theorem dFl_q (D : Dv) : (dFl D).lookup ("quotient" : Str) = none := by kernel_rfl
/-- the fields of its rests -/
def rFl (D : Dv) : List (Str × V) := putF "gain" (.int D.g) (putF "whole" (.int D.W) (putF "offset" (.int D.o) (putF "times" (.int D.m) (putF "by" (.int D.b) []))))
theorem rFl_b (D : Dv) : (rFl D).lookup ("by" : Str) = some (.int D.b) := by kernel_rfl
theorem rFl_t (D : Dv) : (rFl D).lookup ("times" : Str) = some (.int D.m) := by kernel_rfl
theorem rFl_o (D : Dv) : (rFl D).lookup ("offset" : Str) = some (.int D.o) := by kernel_rfl
theorem rFl_w (D : Dv) : (rFl D).lookup ("whole" : Str) = some (.int D.W) := by kernel_rfl
theorem rFl_g (D : Dv) : (rFl D).lookup ("gain" : Str) = some (.int D.g) := by kernel_rfl
theorem rFl_n1 (D : Dv) : (rFl D).lookup ("rests_below" : Str) = none := by kernel_rfl
theorem rFl_n2 (D : Dv) : (rFl D).lookup ("few" : Str) = none := by kernel_rfl
theorem rFl_n3 (D : Dv) : (rFl D).lookup ("fit" : Str) = none := by kernel_rfl
theorem rFl_n4 (D : Dv) : (rFl D).lookup ("wrong_from" : Str) = none := by kernel_rfl
theorem rFl_n5 (D : Dv) : (rFl D).lookup ("right_from" : Str) = none := by kernel_rfl
theorem rFl_n6 (D : Dv) : (rFl D).lookup ("wrong_q" : Str) = none := by kernel_rfl
theorem rFl_n7 (D : Dv) : (rFl D).lookup ("right_q" : Str) = none := by kernel_rfl
theorem rFl_n8 (D : Dv) : (rFl D).lookup ("count_right" : Str) = none := by kernel_rfl
theorem rFl_n9 (D : Dv) : (rFl D).lookup ("sum_below" : Str) = none := by kernel_rfl
structure TxtD (K : PySem.W.Frag) (mg : Str → Option Value) (C : Addr) : Prop where
  cl : Cls K C
  nB : NoAttr K C "by"
  nM : NoAttr K C "multiplier"
  nO : NoAttr K C "offset"
  nS : NoAttr K C "shift"
  mgC : mg "Divider" = some (.ref C)
structure TxtS (K : PySem.W.Frag) (mg : Str → Option Value) (C : Addr) : Prop where
  cl : Cls K C
  nB : NoAttr K C "by"
  nT : NoAttr K C "times"
  nO : NoAttr K C "offset"
  nW : NoAttr K C "whole"
  nG : NoAttr K C "gain"
  mgC : mg "Rests" = some (.ref C)
def DvAt (C : Addr) (H : Hp) (p : Addr) (D : Dv) : Prop := ∃ dx, H p = some (.ins C dx (dFl D))
def RsAt (C : Addr) (H : Hp) (p : Addr) (D : Dv) : Prop := ∃ dx, H p = some (.ins C dx (rFl D))
theorem DvAt.keep {C : Addr} {H H' : Hp} {p : Addr} {D : Dv} (h : DvAt C H p D) (s : Same H H') : DvAt C H' p D := by
  obtain ⟨dx, e⟩ := h
  exact ⟨dx, s _ _ e⟩
theorem RsAt.keep {C : Addr} {H H' : Hp} {p : Addr} {D : Dv} (h : RsAt C H p D) (s : Same H H') : RsAt C H' p D := by
  obtain ⟨dx, e⟩ := h
  exact ⟨dx, s _ _ e⟩
/-- the numbers of a divider are as they should be -/
structure Lim (D : Dv) : Prop where
  b2 : 2 ≤ D.b
  b1 : D.b ≤ 10 ^ 60
  m0 : 0 ≤ D.m
  m1 : D.m ≤ 10 ^ 60
  o0 : 0 ≤ D.o
  o1 : D.o ≤ 10 ^ 60
  s1 : D.s ≤ 400
theorem Lim.ok {D : Dv} (L : Lim D) : D.Ok := ⟨L.b2, L.m0, L.o0⟩
theorem e60 : (10 : Int) ^ 60 < 2 ^ 200 := by decide
theorem Lim.bb {D : Dv} (L : Lim D) : Bd 200 D.b := Bd.of (by have := L.b2; omega) (by have := L.b1; have := e60; omega)
theorem Lim.bm {D : Dv} (L : Lim D) : Bd 200 D.m := Bd.of L.m0 (by have := L.m1; have := e60; omega)
theorem Lim.bo {D : Dv} (L : Lim D) : Bd 200 D.o := Bd.of L.o0 (by have := L.o1; have := e60; omega)
theorem Lim.bW {D : Dv} (L : Lim D) : Bd 401 D.W := by
  have e : D.W = ((2 ^ D.s : Nat) : Int) := by
    show (2 : Int) ^ D.s = _
    rw [Int.natCast_pow]
    rfl
  unfold Bd
  rw [e, Int.natAbs_natCast]
  exact Nat.pow_lt_pow_right (by decide) (by have := L.s1; omega)
theorem Lim.bg {D : Dv} (L : Lim D) : Bd 402 D.g := L.bW.sub ((L.bm.mul L.bb).mono (by decide))
theorem one60 {i : Int} (h0 : 0 ≤ i) (h : i ≤ 10 ^ 60) : Bd 200 i := Bd.of h0 (by have := e60; omega)
/-- all but what stands at p is kept -/
def But (p : Addr) (H H' : Hp) : Prop := ∀ b o, H b = some o → b ≠ p → H' b = some o
theorem But.same {p : Addr} {H H' : Hp} (s : Same H H') : But p H H' := fun b o e _ => s b o e
theorem But.trans {p : Addr} {A B C : Hp} (h : But p A B) (k : But p B C) : But p A C := fun b o e n => k b o (h b o e n) n
theorem But.upd {p : Addr} {H : Hp} {o : HO} : But p H (upd H p o) := fun b u e n => by
  rw [upd_ne n]
  exact e
theorem But.fresh {p : Addr} {H G G' : Hp} (s : Same H G) (b : But p G G') (h : H p = none) : Same H G' := fun a u e => b a u (s a u e) fun z => by
  rw [z, h] at e
  cases e
def spDI (C : Addr) : Sp := fun vs H Q _ => ∃ (p dx : Addr) (D : Dv), vs = [.ref p, .int D.b, .int D.m, .int D.o, .int (D.s : Nat)] ∧ H p = some (.ins C dx []) ∧ Lim D ∧ ∀ H', But p H H' → H' p = some (.ins C dx (dFl D)) → Q .non H'
def spQuot (C : Addr) : Sp := fun vs H Q _ => ∃ (p : Addr) (D : Dv) (x : Int), vs = [.ref p, .int x] ∧ DvAt C H p D ∧ Lim D ∧ 0 ≤ x ∧ x ≤ 10 ^ 60 ∧ Q (.int (D.told x)) H
def spRI (C CR : Addr) : Sp := fun vs H Q _ => ∃ (p dx q : Addr) (D : Dv), vs = [.ref p, .ref q] ∧ H p = some (.ins CR dx []) ∧ DvAt C H q D ∧ Lim D ∧ ∀ H', But p H H' → H' p = some (.ins CR dx (rFl D)) → Q .non H'
def spRB (C : Addr) : Sp := fun vs H Q _ => ∃ (p : Addr) (D : Dv) (x : Int), vs = [.ref p, .int x] ∧ RsAt C H p D ∧ Lim D ∧ Q (.int (D.rb x)) H
def spFew (C : Addr) : Sp := fun vs H Q _ => ∃ (p : Addr) (D : Dv) (q : Int), vs = [.ref p, .int q] ∧ RsAt C H p D ∧ Lim D ∧ Bd 1000 q ∧ Q (.int (D.few q)) H
def spFit (C : Addr) : Sp := fun vs H Q _ => ∃ (p : Addr) (D : Dv) (q : Int), vs = [.ref p, .int q] ∧ RsAt C H p D ∧ Lim D ∧ Bd 1000 q ∧ Q (.int (D.fit q)) H
def optI : Option Int → V
  | none => .non
  | some n => .int n
def spWF (C : Addr) : Sp := fun vs H Q _ => ∃ (p : Addr) (D : Dv) (q r : Int), vs = [.ref p, .int q, .int r] ∧ RsAt C H p D ∧ Lim D ∧ Bd 1000 q ∧ Q (optI (D.wf q r)) H
def spRF (C : Addr) : Sp := fun vs H Q _ => ∃ (p : Addr) (D : Dv) (q r : Int), vs = [.ref p, .int q, .int r] ∧ RsAt C H p D ∧ Lim D ∧ Bd 1000 q ∧ Q (optI (D.rf q r)) H
def spWQ (C : Addr) : Sp := fun vs H Q _ => ∃ (p : Addr) (D : Dv) (q : Int), vs = [.ref p, .int q] ∧ RsAt C H p D ∧ Lim D ∧ Bd 1000 q ∧ Q (optI (D.wq q)) H
def spRQ (C : Addr) : Sp := fun vs H Q _ => ∃ (p : Addr) (D : Dv) (q : Int), vs = [.ref p, .int q] ∧ RsAt C H p D ∧ Lim D ∧ Bd 301 q ∧ Q (optI (D.rq q)) H
section
variable {P : Program} {w : World} {K : PySem.W.Frag} {mg : Str → Option Value} {base : Heap}
theorem scDI : FnScope ["self", "by", "multiplier", "offset", "shift"] ["self", "by", "multiplier", "offset", "shift"] (defScope sDI) := ⟨rfl, rfl, rfl, by decide +kernel, rfl, by decide +kernel, by decide +kernel⟩
theorem ok_dinit {f C fC : Addr} {fd fdC : FuncData} (F : Fun K "__init__" "Divider.__init__" sDI f fd) (T : TxtI mg) (TD : TxtD K mg C)
    (GC : FnOk P w K mg base CX0 3 fC fdC ["number", "least", "most"] spCheck) (kC : PySem.W.keepIn K (.ref fC) = true) (bC : Binds K fdC ["number", "least", "most"] []) (gC : mg "check_between" = some (.ref fC)) : FnOk P w K mg base CX0 4 f fd ["self", "by", "multiplier", "offset", "shift"] (spDI C) := by
  obtain ⟨t1, hmn⟩ := T.mn
  obtain ⟨t2, hms⟩ := T.ms
  refine F.ok scDI (fun vs H Q E h => ?_) (fun cdv A outer s H vs Q E hr h => ?_)
  · obtain ⟨p, dx, D, rfl, _⟩ := h
    rfl
  · obtain ⟨p, dx, D, rfl, hp, L, k⟩ := h
    refine ⟨_, pss_cons (ps_expr (pe_call GC hr rfl gC kC bC .nil pass0 (pa_cons (pv 1) (pa_cons pe_int (pa_cons (pe_glob (v := .int (10 ^ 60)) (by rfl) hmn ⟨t1, rfl⟩) pa_nil)))))
      (pss_cons (ps_expr (pe_call GC hr rfl gC kC bC .nil pass0 (pa_cons (pv 2) (pa_cons pe_int (pa_cons (pe_glob (v := .int (10 ^ 60)) (by rfl) hmn ⟨t1, rfl⟩) pa_nil)))))
      (pss_cons (ps_expr (pe_call GC hr rfl gC kC bC .nil pass0 (pa_cons (pv 3) (pa_cons pe_int (pa_cons (pe_glob (v := .int (10 ^ 60)) (by rfl) hmn ⟨t1, rfl⟩) pa_nil)))))
      (pss_cons (ps_expr (pe_call GC hr rfl gC kC bC .nil pass0 (pa_cons (pv 4) (pa_cons pe_int (pa_cons (pe_glob (v := .int 400) (by rfl) hms ⟨t2, rfl⟩) pa_nil)))))
      (pss_cons (ps_fld (pv 0) (pv 1) rfl)
      (pss_cons (ps_fld (pv 0) (pv 2) rfl)
      (pss_cons (ps_fld (pv 0) (pv 3) rfl)
      (pss_one (ps_fld (pv 0) (pv 4) rfl)))))))), ?_⟩
    have := L.b2
    refine ⟨_, rfl, _, 2, _, rfl, L.b2, L.b1, ?_⟩
    refine ⟨_, rfl, _, 0, _, rfl, L.m0, L.m1, ?_⟩
    refine ⟨_, rfl, _, 0, _, rfl, L.o0, L.o1, ?_⟩
    refine ⟨_, rfl, _, 0, _, rfl, by omega, by have := L.s1; omega, ?_⟩
    refine ⟨_, rfl, _, rfl, p, C, dx, [], rfl, hp, TD.cl, TD.nB, (by show 0 < 1000; decide), ?_⟩
    refine ⟨_, rfl, _, rfl, p, C, dx, _, rfl, upd_same, TD.cl, TD.nM, (by show 1 < 1000; decide), ?_⟩
    refine ⟨_, rfl, _, rfl, p, C, dx, _, rfl, upd_same, TD.cl, TD.nO, (by show 2 < 1000; decide), ?_⟩
    refine ⟨_, rfl, _, rfl, p, C, dx, _, rfl, upd_same, TD.cl, TD.nS, (by show 3 < 1000; decide), ?_⟩
    exact k _ (But.trans But.upd (But.trans But.upd (But.trans But.upd But.upd))) upd_same
theorem scQuot : FnScope ["self", "x"] ["self", "x"] (defScope sQuot) := ⟨rfl, rfl, rfl, by decide +kernel, rfl, by decide +kernel, by decide +kernel⟩
theorem ok_quot {f C fC : Addr} {fd fdC : FuncData} (F : Fun K "quotient" "Divider.quotient" sQuot f fd) (T : TxtI mg) (TD : TxtD K mg C)
    (GC : FnOk P w K mg base CX0 3 fC fdC ["number", "least", "most"] spCheck) (kC : PySem.W.keepIn K (.ref fC) = true) (bC : Binds K fdC ["number", "least", "most"] []) (gC : mg "check_between" = some (.ref fC)) : FnOk P w K mg base CX0 4 f fd ["self", "x"] (spQuot C) := by
  obtain ⟨t1, hmn⟩ := T.mn
  refine F.ok scQuot (fun vs H Q E h => ?_) (fun cdv A outer s H vs Q E hr h => ?_)
  · obtain ⟨p, D, x, rfl, _⟩ := h
    rfl
  · obtain ⟨p, D, x, rfl, ⟨dx, hp⟩, L, x0, x1, k⟩ := h
    refine ⟨_, pss_cons (ps_expr (pe_call GC hr rfl gC kC bC .nil pass0 (pa_cons (pv 1) (pa_cons pe_int (pa_cons (pe_glob (v := .int (10 ^ 60)) (by rfl) hmn ⟨t1, rfl⟩) pa_nil)))))
      (pss_one (ps_ret (pe_op op_shrN (pe_op op_add (pe_op op_mulW (pv 1) (pe_fld (pv 0) rfl)) (pe_fld (pv 0) rfl)) (pe_fld (pv 0) rfl)))), ?_⟩
    refine ⟨_, rfl, _, 0, _, rfl, x0, x1, ?_⟩
    refine ⟨_, rfl, _, rfl, p, C, dx, _, _, rfl, hp, TD.cl, TD.nM, dFl_m D, _, _, rfl, rfl, (one60 x0 x1).w L.bm, ?_⟩
    refine ⟨_, rfl, p, C, dx, _, _, rfl, hp, TD.cl, TD.nO, dFl_o D, _, _, rfl, rfl, ?_⟩
    exact ⟨_, rfl, p, C, dx, _, _, rfl, hp, TD.cl, TD.nS, dFl_s D, _, D.s, rfl, rfl, k⟩
theorem scRI : FnScope ["self", "divider"] ["self", "divider"] (defScope sRI) := ⟨rfl, rfl, rfl, by decide +kernel, rfl, by decide +kernel, by decide +kernel⟩
theorem ok_rinit {f C CR : Addr} {fd : FuncData} (F : Fun K "__init__" "Rests.__init__" sRI f fd) (TD : TxtD K mg C) (TS : TxtS K mg CR) : FnOk P w K mg base CX0 1 f fd ["self", "divider"] (spRI C CR) := by
  refine F.ok scRI (fun vs H Q E h => ?_) (fun cdv A outer s H vs Q E hr h => ?_)
  · obtain ⟨p, dx, q, D, rfl, _⟩ := h
    rfl
  · obtain ⟨p, dx, q, D, rfl, hp, ⟨dq, hq⟩, L, k⟩ := h
    have qp : q ≠ p := fun z => by
      rw [z, hp] at hq
      have e := HO.ins.inj (Option.some.inj hq)
      have : (dFl D).lookup ("by" : Str) = none := by rw [← e.2.2]; rfl
      rw [dFl_b] at this
      cases this
    refine ⟨_, pss_cons (ps_fld (pv 0) (pe_fld (pv 1) rfl) rfl)
      (pss_cons (ps_fld (pv 0) (pe_fld (pv 1) rfl) rfl)
      (pss_cons (ps_fld (pv 0) (pe_fld (pv 1) rfl) rfl)
      (pss_cons (ps_fld (pv 0) (pe_op op_oneShl pe_int (pe_fld (pv 1) rfl)) rfl)
      (pss_one (ps_fld (pv 0) (pe_op op_sub (pe_fld (pv 0) rfl) (pe_op op_mulW (pe_fld (pv 0) rfl) (pe_fld (pv 0) rfl))) rfl))))), ?_⟩
    have at_ : ∀ {G : Hp} {o : HO}, G q = some (.ins C dq (dFl D)) → (upd G p o) q = some (.ins C dq (dFl D)) := fun h => by rw [upd_ne qp]; exact h
    refine ⟨_, rfl, q, C, dq, _, _, rfl, hq, TD.cl, TD.nB, dFl_b D, _, rfl, p, CR, dx, [], rfl, hp, TS.cl, TS.nB, (by show 0 < 1000; decide), ?_⟩
    refine ⟨_, rfl, q, C, dq, _, _, rfl, at_ hq, TD.cl, TD.nM, dFl_m D, _, rfl, p, CR, dx, _, rfl, upd_same, TS.cl, TS.nT, (by show 1 < 1000; decide), ?_⟩
    refine ⟨_, rfl, q, C, dq, _, _, rfl, at_ (at_ hq), TD.cl, TD.nO, dFl_o D, _, rfl, p, CR, dx, _, rfl, upd_same, TS.cl, TS.nO, (by show 2 < 1000; decide), ?_⟩
    refine ⟨_, rfl, q, C, dq, _, _, rfl, at_ (at_ (at_ hq)), TD.cl, TD.nS, dFl_s D, D.s, rfl, rfl, by have := L.s1; omega, _, rfl, p, CR, dx, _, rfl, upd_same, TS.cl, TS.nW, (by show 3 < 1000; decide), ?_⟩
    refine ⟨_, rfl, p, CR, dx, _, .int D.W, rfl, upd_same, TS.cl, TS.nW, (by kernel_rfl), ?_⟩
    refine ⟨_, rfl, p, CR, dx, _, .int D.m, rfl, upd_same, TS.cl, TS.nT, (by kernel_rfl), ?_⟩
    refine ⟨_, rfl, p, CR, dx, _, .int D.b, rfl, upd_same, TS.cl, TS.nB, (by kernel_rfl), _, _, rfl, rfl, L.bm.w L.bb, _, _, rfl, rfl, ?_⟩
    refine ⟨_, rfl, p, CR, dx, _, rfl, upd_same, TS.cl, TS.nG, (by show 4 < 1000; decide), ?_⟩
    exact k _ (But.trans But.upd (But.trans But.upd (But.trans But.upd (But.trans But.upd But.upd)))) upd_same
end
end KD

set_option Elab.async false
set_option linter.all false
set_option maxRecDepth 100000
set_option maxHeartbeats 8000000
/-! Dividers, the program, c: rests -/
namespace KD
open PySem L2
open DV (Dv)
theorem iteT' {b : Bool} {p q : Prop} (h : b = true) (x : p) : if b = true then p else q := by rw [if_pos h]; exact x
theorem iteF' {b : Bool} {p q : Prop} (h : b = false) (x : q) : if b = true then p else q := by rw [if_neg (by rw [h]; exact Bool.false_ne_true)]; exact x
section
variable {P : Program} {w : World} {K : PySem.W.Frag} {mg : Str → Option Value} {base : Heap}
theorem scRB : FnScope ["self", "product"] ["self", "product"] (defScope sRB) := ⟨rfl, rfl, rfl, by decide +kernel, rfl, by decide +kernel, by decide +kernel⟩
theorem ok_rb {f C fU : Addr} {fd fdU : FuncData} (F : Fun K "rests_below" "Rests.rests_below" sRB f fd) (T : TxtI mg) (TS : TxtS K mg C)
    (GU : FnOk P w K mg base CX0 1 fU fdU ["number", "by"] spUp) (kU : PySem.W.keepIn K (.ref fU) = true) (bU : Binds K fdU ["number", "by"] []) (gU : mg "upward" = some (.ref fU)) : FnOk P w K mg base CX0 2 f fd ["self", "product"] (spRB C) := by
  refine F.ok scRB (fun vs H Q E h => ?_) (fun cdv A outer s H vs Q E hr h => ?_)
  · obtain ⟨p, D, x, rfl, _⟩ := h
    rfl
  · obtain ⟨p, D, x, rfl, ⟨dx, hp⟩, L, k⟩ := h
    refine ⟨_, pss_cons (ps_if (pt_cmpR op_le (pv 1) pe_int (nomark _)) (pss_one (ps_ret pe_int)) pss_nil)
      (pss_one (ps_ret (pe_ifExp (pt_cmpR op_eq (pe_fld (pv 0) rfl) pe_int (nomark _)) (pe_fld (pv 0) rfl) (pe_callB (call_min2 rfl) (by rfl) T.min (by kernel_rfl) (pa_cons (pe_call GU hr rfl gU kU bU .nil pass0 (pa_cons (pv 1) (pa_cons (pe_fld (pv 0) rfl) pa_nil))) (pa_cons (pe_fld (pv 0) rfl) pa_nil)))))), ?_⟩
    have k2 : Q (.int (if x ≤ 0 then 0 else if D.m = 0 then D.b else DV.mn (DV.up x D.m) D.b)) H := k
    refine ⟨_, rfl, x, 0, rfl, rfl, _, rfl, ?_⟩
    refine ite2 (fun h => ?_) (fun h => ?_)
    · rw [if_pos (of_decide_eq_true h)] at k2
      exact k2
    · have h' : ¬ x ≤ 0 := fun z => h (decide_eq_true z)
      rw [if_neg h'] at k2
      refine ⟨_, rfl, p, C, dx, _, _, rfl, hp, TS.cl, TS.nT, rFl_t D, rfl, _, rfl, ?_⟩
      by_cases hz : D.m = 0
      · rw [if_pos hz] at k2
        refine iteT' (decide_eq_true (congrArg V.int hz)) ?_
        exact ⟨_, rfl, p, C, dx, _, _, rfl, hp, TS.cl, TS.nB, rFl_b D, k2⟩
      · rw [if_neg hz] at k2
        refine iteF' (decide_eq_false fun z => hz (V.int.inj z)) ?_
        have := L.m0
        refine ⟨_, rfl, _, rfl, p, C, dx, _, _, rfl, hp, TS.cl, TS.nT, rFl_t D, _, _, 200, rfl, by omega, L.bm, by decide, by decide, ?_⟩
        exact ⟨_, rfl, p, C, dx, _, _, rfl, hp, TS.cl, TS.nB, rFl_b D, _, _, rfl, k2⟩
theorem scFew : FnScope ["self", "q"] ["self", "q"] (defScope sFew) := ⟨rfl, rfl, rfl, by decide +kernel, rfl, by decide +kernel, by decide +kernel⟩
theorem ok_few {f C fR : Addr} {fd fdR : FuncData} (F : Fun K "few" "Rests.few" sFew f fd) (TS : TxtS K mg C)
    (GR : FnOk P w K mg base CX0 2 fR fdR ["self", "product"] (spRB C)) (mR : Meth K C "rests_below" fR) (bR : Binds K fdR ["self", "product"] []) : FnOk P w K mg base CX0 3 f fd ["self", "q"] (spFew C) := by
  refine F.ok scFew (fun vs H Q E h => ?_) (fun cdv A outer s H vs Q E hr h => ?_)
  · obtain ⟨p, D, q, rfl, _⟩ := h
    rfl
  · obtain ⟨p, D, q, rfl, ⟨dx, hp⟩, L, hq, k⟩ := h
    refine ⟨_, pss_one (ps_ret (pe_meth (pv 0) TS.cl mR GR hr bR .nil pass0 (pa_cons (pe_op op_sub (pe_op op_mulW (pe_fld (pv 0) rfl) (pv 1)) (pe_fld (pv 0) rfl)) pa_nil))), ?_⟩
    refine ⟨_, rfl, p, dx, _, rfl, hp, rFl_n1 D, ?_⟩
    refine ⟨_, rfl, p, C, dx, _, _, rfl, hp, TS.cl, TS.nG, rFl_g D, _, rfl, _, _, rfl, rfl, L.bg.w hq, ?_⟩
    exact ⟨_, rfl, p, C, dx, _, _, rfl, hp, TS.cl, TS.nO, rFl_o D, _, _, rfl, rfl, p, D, _, rfl, ⟨dx, hp⟩, L, k⟩
theorem scFit : FnScope ["self", "q"] ["self", "q"] (defScope sFit) := ⟨rfl, rfl, rfl, by decide +kernel, rfl, by decide +kernel, by decide +kernel⟩
theorem ok_fit {f C fR : Addr} {fd fdR : FuncData} (F : Fun K "fit" "Rests.fit" sFit f fd) (TS : TxtS K mg C)
    (GR : FnOk P w K mg base CX0 2 fR fdR ["self", "product"] (spRB C)) (mR : Meth K C "rests_below" fR) (bR : Binds K fdR ["self", "product"] []) : FnOk P w K mg base CX0 3 f fd ["self", "q"] (spFit C) := by
  refine F.ok scFit (fun vs H Q E h => ?_) (fun cdv A outer s H vs Q E hr h => ?_)
  · obtain ⟨p, D, q, rfl, _⟩ := h
    rfl
  · obtain ⟨p, D, q, rfl, ⟨dx, hp⟩, L, hq, k⟩ := h
    refine ⟨_, pss_one (ps_ret (pe_meth (pv 0) TS.cl mR GR hr bR .nil pass0 (pa_cons (pe_op op_add (pe_op op_sub (pe_op op_mulW (pe_fld (pv 0) rfl) (pv 1)) (pe_fld (pv 0) rfl)) (pe_fld (pv 0) rfl)) pa_nil))), ?_⟩
    refine ⟨_, rfl, p, dx, _, rfl, hp, rFl_n1 D, ?_⟩
    refine ⟨_, rfl, p, C, dx, _, _, rfl, hp, TS.cl, TS.nG, rFl_g D, _, rfl, _, _, rfl, rfl, L.bg.w hq, ?_⟩
    refine ⟨_, rfl, p, C, dx, _, _, rfl, hp, TS.cl, TS.nO, rFl_o D, _, _, rfl, rfl, ?_⟩
    exact ⟨_, rfl, p, C, dx, _, _, rfl, hp, TS.cl, TS.nW, rFl_w D, _, _, rfl, rfl, p, D, _, rfl, ⟨dx, hp⟩, L, k⟩
theorem scWF : FnScope ["self", "q", "r", "found"] ["self", "q", "r"] (defScope sWF) := ⟨rfl, rfl, rfl, by decide +kernel, rfl, by decide +kernel, by decide +kernel⟩
theorem ok_wf {f C fA fB : Addr} {fd fdA fdB : FuncData} (F : Fun K "wrong_from" "Rests.wrong_from" sWF f fd) (T : TxtI mg) (TS : TxtS K mg C)
    (GA : FnOk P w K mg base CX0 3 fA fdA ["self", "q"] (spFew C)) (mA : Meth K C "few" fA) (bA : Binds K fdA ["self", "q"] [])
    (GB : FnOk P w K mg base CX0 3 fB fdB ["self", "q"] (spFit C)) (mB : Meth K C "fit" fB) (bB : Binds K fdB ["self", "q"] []) : FnOk P w K mg base CX0 4 f fd ["self", "q", "r"] (spWF C) := by
  refine F.ok scWF (fun vs H Q E h => ?_) (fun cdv A outer s H vs Q E hr h => ?_)
  · obtain ⟨p, D, q, r, rfl, _⟩ := h
    rfl
  · obtain ⟨p, D, q, r, rfl, ⟨dx, hp⟩, L, hq, k⟩ := h
    refine ⟨_, pss_cons (ps_if (pt_cmpR op_lt (pv 2) (pe_meth (pv 0) TS.cl mA GA hr bA .nil pass0 (pa_cons (pv 1) pa_nil)) (nomark _)) (pss_one (ps_ret (pv 2))) pss_nil)
      (pss_cons (ps_set (i := 3) scWF.nd rfl (.inl rfl) (pe_callB (call_max2 rfl) (by rfl) T.max (by kernel_rfl) (pa_cons (pv 2) (pa_cons (pe_meth (pv 0) TS.cl mB GB hr bB .nil pass0 (pa_cons (pv 1) pa_nil)) pa_nil))))
      (pss_one (ps_ret (pe_ifExp (pt_cmpR op_lt (pv 3) (pe_fld (pv 0) rfl) (nomark _)) (pv 3) pe_non)))), ?_⟩
    have k2 : Q (optI (if r < D.few q then some r else if DV.mx r (D.fit q) < D.b then some (DV.mx r (D.fit q)) else none)) H := k
    refine ⟨_, rfl, _, rfl, p, dx, _, rfl, hp, rFl_n2 D, _, rfl, p, D, q, rfl, ⟨dx, hp⟩, L, hq, _, _, rfl, rfl, _, rfl, ?_⟩
    refine ite2 (fun h => ?_) (fun h => ?_)
    · rw [if_pos (of_decide_eq_true h)] at k2
      exact ⟨_, rfl, k2⟩
    · rw [if_neg fun z => h (decide_eq_true z)] at k2
      refine ⟨_, rfl, _, rfl, p, dx, _, rfl, hp, rFl_n3 D, _, rfl, p, D, q, rfl, ⟨dx, hp⟩, L, hq, _, _, rfl, ?_⟩
      refine ⟨_, rfl, _, rfl, p, C, dx, _, _, rfl, hp, TS.cl, TS.nB, rFl_b D, _, _, rfl, rfl, _, rfl, ?_⟩
      by_cases hb : DV.mx r (D.fit q) < D.b
      · rw [if_pos hb] at k2
        refine iteT' (decide_eq_true hb) ?_
        exact ⟨_, rfl, k2⟩
      · rw [if_neg hb] at k2
        refine iteF' (decide_eq_false hb) ?_
        exact k2
theorem scRF : FnScope ["self", "q", "r", "found"] ["self", "q", "r"] (defScope sRF) := ⟨rfl, rfl, rfl, by decide +kernel, rfl, by decide +kernel, by decide +kernel⟩
theorem ok_rf {f C fA fB : Addr} {fd fdA fdB : FuncData} (F : Fun K "right_from" "Rests.right_from" sRF f fd) (T : TxtI mg) (TS : TxtS K mg C)
    (GA : FnOk P w K mg base CX0 3 fA fdA ["self", "q"] (spFew C)) (mA : Meth K C "few" fA) (bA : Binds K fdA ["self", "q"] [])
    (GB : FnOk P w K mg base CX0 3 fB fdB ["self", "q"] (spFit C)) (mB : Meth K C "fit" fB) (bB : Binds K fdB ["self", "q"] []) : FnOk P w K mg base CX0 4 f fd ["self", "q", "r"] (spRF C) := by
  refine F.ok scRF (fun vs H Q E h => ?_) (fun cdv A outer s H vs Q E hr h => ?_)
  · obtain ⟨p, D, q, r, rfl, _⟩ := h
    rfl
  · obtain ⟨p, D, q, r, rfl, ⟨dx, hp⟩, L, hq, k⟩ := h
    refine ⟨_, pss_cons (ps_set (i := 3) scRF.nd rfl (.inl rfl) (pe_callB (call_max2 rfl) (by rfl) T.max (by kernel_rfl) (pa_cons (pv 2) (pa_cons (pe_meth (pv 0) TS.cl mA GA hr bA .nil pass0 (pa_cons (pv 1) pa_nil)) pa_nil))))
      (pss_one (ps_ret (pe_ifExp (pt_cmpR op_lt (pv 3) (pe_meth (pv 0) TS.cl mB GB hr bB .nil pass0 (pa_cons (pv 1) pa_nil)) (nomark _)) (pv 3) pe_non))), ?_⟩
    have k2 : Q (optI (if DV.mx r (D.few q) < D.fit q then some (DV.mx r (D.few q)) else none)) H := k
    refine ⟨_, rfl, _, rfl, p, dx, _, rfl, hp, rFl_n2 D, _, rfl, p, D, q, rfl, ⟨dx, hp⟩, L, hq, _, _, rfl, ?_⟩
    refine ⟨_, rfl, _, rfl, p, dx, _, rfl, hp, rFl_n3 D, _, rfl, p, D, q, rfl, ⟨dx, hp⟩, L, hq, _, _, rfl, rfl, _, rfl, ?_⟩
    by_cases hb : DV.mx r (D.few q) < D.fit q
    · rw [if_pos hb] at k2
      refine iteT' (decide_eq_true hb) ?_
      exact ⟨_, rfl, k2⟩
    · rw [if_neg hb] at k2
      refine iteF' (decide_eq_false hb) ?_
      exact k2
end
end KD

set_option Elab.async false
set_option linter.all false
set_option maxRecDepth 100000
set_option maxHeartbeats 8000000
/-! Dividers, the program, d: blocks, sums -/
namespace KD
open PySem L2
open DV (Dv)
theorem natAbs_div {i j : Int} (h : 0 < j) : (i / j).natAbs ≤ i.natAbs := by
  have h1 := Int.emod_add_mul_ediv i j
  have h2 := Int.emod_nonneg i (show j ≠ 0 by omega)
  have h3 := Int.emod_lt_of_pos i h
  by_cases c : 0 ≤ i / j
  · have := DV.mul_le (g := i / j) c (show 1 ≤ j by omega)
    rw [Int.mul_comm (i / j) j] at this
    omega
  · have t := DV.mul_le (g := -(i / j + 1)) (by omega) (show 1 ≤ j by omega)
    simp only [Int.neg_mul, Int.mul_one, Int.add_mul, Int.one_mul] at t
    rw [Int.mul_comm (i / j) j] at t
    omega
theorem Bd.div {a : Nat} {i j : Int} (h : Bd a i) (k : 0 < j) : Bd a (i / j) := Nat.lt_of_le_of_lt (natAbs_div k) h
theorem Bd.mx {a : Nat} {i j : Int} (h : Bd a i) (k : Bd a j) : Bd a (DV.mx i j) := by
  unfold DV.mx
  split
  · exact k
  · exact h
theorem Bd.mn {a : Nat} {i j : Int} (h : Bd a i) (k : Bd a j) : Bd a (DV.mn i j) := by
  unfold DV.mn
  split
  · exact k
  · exact h
theorem Bd.up {a : Nat} {i j : Int} (h : Bd a i) (k : 0 < j) : Bd a (DV.up i j) := (h.neg.div k).neg
def spFS : Sp := fun vs H Q _ => ∃ (N : Nat) (d f a : Int), vs = [.int (N : Int), .int d, .int f, .int a] ∧ (0 < N → 0 < d) ∧ 0 ≤ f ∧ (0 < N → 0 ≤ a) ∧ Bd 2000 (N : Int) ∧ Bd 2000 d ∧ Bd 2000 f ∧ Bd 2000 a ∧ Q (.int (DV.FS N d f a)) H
def spSB (C : Addr) : Sp := fun vs H Q _ => ∃ (p : Addr) (D : Dv) (st : Int) (N : Nat), vs = [.ref p, .int st, .int (N : Int)] ∧ RsAt C H p D ∧ Lim D ∧ D.m ≠ 0 ∧ Bd 410 st ∧ Bd 300 (N : Int) ∧ Q (.int (D.SB st N)) H
section
variable {P : Program} {w : World} {K : PySem.W.Frag} {mg : Str → Option Value} {base : Heap}
theorem scWQ : FnScope ["self", "q"] ["self", "q"] (defScope sWQ) := ⟨rfl, rfl, rfl, by decide +kernel, rfl, by decide +kernel, by decide +kernel⟩
theorem ok_wq {f C fA fU : Addr} {fd fdA fdU : FuncData} (F : Fun K "wrong_q" "Rests.wrong_q" sWQ f fd) (T : TxtI mg) (TS : TxtS K mg C)
    (GA : FnOk P w K mg base CX0 4 fA fdA ["self", "q", "r"] (spWF C)) (mA : Meth K C "wrong_from" fA) (bA : Binds K fdA ["self", "q", "r"] [])
    (GU : FnOk P w K mg base CX0 1 fU fdU ["number", "by"] spUp) (kU : PySem.W.keepIn K (.ref fU) = true) (bU : Binds K fdU ["number", "by"] []) (gU : mg "upward" = some (.ref fU)) : FnOk P w K mg base CX0 5 f fd ["self", "q"] (spWQ C) := by
  refine F.ok scWQ (fun vs H Q E h => ?_) (fun cdv A outer s H vs Q E hr h => ?_)
  · obtain ⟨p, D, q, rfl, _⟩ := h
    rfl
  · obtain ⟨p, D, q, rfl, ⟨dx, hp⟩, L, hq, k⟩ := h
    have hr1 : Room 1 _ := hr.mono (by decide)
    have fld : ∀ {n : Str} {v : V}, True := fun {_ _} => trivial
    refine ⟨_, pss_cons (ps_if (pt_cmpR op_notN (pe_meth (pv 0) TS.cl mA GA hr bA .nil pass0 (pa_cons (pv 1) (pa_cons pe_int pa_nil))) pe_non (nomark _)) (pss_one (ps_ret (pv 1))) pss_nil)
      (pss_cons (ps_if (pt_cmpR op_gt (pe_fld (pv 0) rfl) pe_int (nomark _)) (pss_one (ps_ret (pe_callB (call_max2 rfl) (by rfl) T.max (by kernel_rfl) (pa_cons (pv 1) (pa_cons (pe_op op_add (pe_op op_fdivW (pe_fld (pv 0) rfl) (pe_fld (pv 0) rfl)) pe_int) pa_nil))))) pss_nil)
      (pss_cons (ps_if (pt_cmpR op_lt (pe_fld (pv 0) rfl) pe_int (nomark _)) (pss_one (ps_ret (pe_callB (call_max2 rfl) (by rfl) T.max (by kernel_rfl) (pa_cons (pv 1) (pa_cons (pe_call GU hr1 rfl gU kU bU .nil pass0 (pa_cons (pe_op op_sub (pe_op op_sub (pe_fld (pv 0) rfl) (pe_fld (pv 0) rfl)) (pe_op op_mulW (pe_fld (pv 0) rfl) (pe_op op_sub (pe_fld (pv 0) rfl) pe_int))) (pa_cons (pe_un un_neg (pe_fld (pv 0) rfl)) pa_nil))) pa_nil))))) pss_nil)
      (pss_one (ps_ret pe_non)))), ?_⟩
    have k2 : Q (optI (if D.wf q 0 ≠ none then some q else if 0 < D.g then some (DV.mx q (D.o / D.g + 1)) else if D.g < 0 then some (DV.mx q (DV.up (D.W - D.o - D.m * (D.b - 1)) (-D.g))) else none)) H := k
    refine ⟨_, rfl, p, dx, _, rfl, hp, rFl_n4 D, _, rfl, p, D, q, 0, rfl, ⟨dx, hp⟩, L, hq, rfl, _, rfl, ?_⟩
    cases e : D.wf q 0 with
    | some f0 =>
      rw [e, if_pos (by intro z; cases z)] at k2
      exact iteT' rfl ⟨_, rfl, k2⟩
    | none =>
      rw [e, if_neg (fun z => z rfl)] at k2
      refine iteF' rfl ?_
      refine ⟨_, rfl, p, C, dx, _, _, rfl, hp, TS.cl, TS.nG, rFl_g D, _, _, rfl, rfl, _, rfl, ?_⟩
      refine ite2 (fun h => ?_) (fun h => ?_)
      · have hg : 0 < D.g := of_decide_eq_true h
        rw [if_pos hg] at k2
        refine ⟨_, rfl, _, rfl, p, C, dx, _, _, rfl, hp, TS.cl, TS.nO, rFl_o D, _, rfl, p, C, dx, _, _, rfl, hp, TS.cl, TS.nG, rFl_g D, _, _, rfl, rfl, L.bg.d hg, _, _, rfl, rfl, _, _, rfl, k2⟩
      · have hg : ¬ 0 < D.g := fun z => h (decide_eq_true z)
        rw [if_neg hg] at k2
        refine ⟨_, rfl, p, C, dx, _, _, rfl, hp, TS.cl, TS.nG, rFl_g D, _, _, rfl, rfl, _, rfl, ?_⟩
        refine ite2 (fun h => ?_) (fun h => ?_)
        · have hg : D.g < 0 := of_decide_eq_true h
          rw [if_pos hg] at k2
          refine ⟨_, rfl, _, rfl, p, C, dx, _, _, rfl, hp, TS.cl, TS.nW, rFl_w D, _, rfl, p, C, dx, _, _, rfl, hp, TS.cl, TS.nO, rFl_o D, _, _, rfl, rfl, ?_⟩
          refine ⟨_, rfl, p, C, dx, _, _, rfl, hp, TS.cl, TS.nT, rFl_t D, _, rfl, p, C, dx, _, _, rfl, hp, TS.cl, TS.nB, rFl_b D, _, _, rfl, rfl, _, _, rfl, rfl, L.bm.w (L.bb.sub (show Bd 200 1 by unfold Bd; decide)), _, _, rfl, rfl, ?_⟩
          refine ⟨_, rfl, p, C, dx, _, _, rfl, hp, TS.cl, TS.nG, rFl_g D, _, rfl, ?_⟩
          exact ⟨_, _, 402, rfl, by omega, L.bg.neg, by decide, by decide, _, _, rfl, k2⟩
        · rw [if_neg fun z => h (decide_eq_true z)] at k2
          exact k2
theorem scRQ : FnScope ["self", "q", "first"] ["self", "q"] (defScope sRQ) := ⟨rfl, rfl, rfl, by decide +kernel, rfl, by decide +kernel, by decide +kernel⟩
theorem ok_rq {f C fA : Addr} {fd fdA : FuncData} (F : Fun K "right_q" "Rests.right_q" sRQ f fd) (T : TxtI mg) (TS : TxtS K mg C)
    (GA : FnOk P w K mg base CX0 4 fA fdA ["self", "q", "r"] (spRF C)) (mA : Meth K C "right_from" fA) (bA : Binds K fdA ["self", "q", "r"] []) : FnOk P w K mg base CX0 5 f fd ["self", "q"] (spRQ C) := by
  refine F.ok scRQ (fun vs H Q E h => ?_) (fun cdv A outer s H vs Q E hr h => ?_)
  · obtain ⟨p, D, q, rfl, _⟩ := h
    rfl
  · obtain ⟨p, D, q, rfl, ⟨dx, hp⟩, L, hq, k⟩ := h
    refine ⟨_, pss_cons (ps_if (pt_cmpR op_notN (pe_meth (pv 0) TS.cl mA GA hr bA .nil pass0 (pa_cons (pv 1) (pa_cons pe_int pa_nil))) pe_non (nomark _)) (pss_one (ps_ret (pv 1))) pss_nil)
      (pss_cons (ps_if (pt_cmpR op_le (pe_fld (pv 0) rfl) pe_int (nomark _)) (pss_one (ps_ret pe_non)) pss_nil)
      (pss_cons (ps_set (i := 2) scRQ.nd rfl (.inl rfl) (pe_callB (call_max2 rfl) (by rfl) T.max (by kernel_rfl) (pa_cons (pv 1) (pa_cons (pe_op op_add (pe_op op_fdivW (pe_op op_sub (pe_fld (pv 0) rfl) (pe_fld (pv 0) rfl)) (pe_fld (pv 0) rfl)) pe_int) pa_nil))))
      (pss_one (ps_ret (pe_ifExp (pt_cmpR op_notN (pe_meth (pv 0) TS.cl mA GA hr bA .nil pass0 (pa_cons (pv 2) (pa_cons pe_int pa_nil))) pe_non (nomark _)) (pv 2) pe_non))))), ?_⟩
    have k2 : Q (optI (if D.rf q 0 ≠ none then some q else if D.g ≤ 0 then none else if D.rf (DV.mx q ((D.o - D.W) / D.g + 1)) 0 ≠ none then some (DV.mx q ((D.o - D.W) / D.g + 1)) else none)) H := k
    refine ⟨_, rfl, p, dx, _, rfl, hp, rFl_n5 D, _, rfl, p, D, q, 0, rfl, ⟨dx, hp⟩, L, hq.mono (by decide), rfl, _, rfl, ?_⟩
    cases e : D.rf q 0 with
    | some f0 =>
      rw [e, if_pos (by intro z; cases z)] at k2
      exact iteT' rfl ⟨_, rfl, k2⟩
    | none =>
      rw [e, if_neg (fun z => z rfl)] at k2
      refine iteF' rfl ?_
      refine ⟨_, rfl, p, C, dx, _, _, rfl, hp, TS.cl, TS.nG, rFl_g D, _, _, rfl, rfl, _, rfl, ?_⟩
      refine ite2 (fun h => ?_) (fun h => ?_)
      · rw [if_pos (of_decide_eq_true h)] at k2
        exact k2
      · have hg : ¬ D.g ≤ 0 := fun z => h (decide_eq_true z)
        rw [if_neg hg] at k2
        refine ⟨_, rfl, _, rfl, p, C, dx, _, _, rfl, hp, TS.cl, TS.nO, rFl_o D, _, rfl, p, C, dx, _, _, rfl, hp, TS.cl, TS.nW, rFl_w D, _, _, rfl, rfl, _, rfl, p, C, dx, _, _, rfl, hp, TS.cl, TS.nG, rFl_g D, _, _, rfl, rfl, L.bg.d (by omega), _, _, rfl, rfl, _, _, rfl, ?_⟩
        have hB : Bd 1000 (DV.mx q ((D.o - D.W) / D.g + 1)) := (hq.mono (by decide)).mx ((((((L.bo.mono (b := 401) (by decide)).sub L.bW).div (show 0 < D.g by omega)).add (show Bd 402 1 by unfold Bd; exact Nat.one_lt_two_pow (by decide))).mono (by decide)))
        refine ⟨_, rfl, p, dx, _, rfl, hp, rFl_n5 D, _, rfl, p, D, _, 0, rfl, ⟨dx, hp⟩, L, hB, rfl, _, rfl, ?_⟩
        cases e2 : D.rf (DV.mx q ((D.o - D.W) / D.g + 1)) 0 with
        | some f0 =>
          rw [e2, if_pos (by intro z; cases z)] at k2
          exact iteT' (by show (!decide (optI (D.rf (DV.mx q ((D.o - D.W) / D.g + 1)) 0) = V.non)) = true; rw [e2]; rfl) ⟨_, rfl, k2⟩
        | none =>
          rw [e2, if_neg (fun z => z rfl)] at k2
          exact iteF' (by show (!decide (optI (D.rf (DV.mx q ((D.o - D.W) / D.g + 1)) 0) = V.non)) = false; rw [e2]; rfl) k2
theorem scFS : FnScope ["many", "divisor", "factor", "added", "total", "last"] ["many", "divisor", "factor", "added"] (defScope sFloor) := ⟨rfl, rfl, rfl, by decide +kernel, rfl, by decide +kernel, by decide +kernel⟩
theorem ok_floor {f : Addr} {fd : FuncData} (F : Fun K "floor_sum" "floor_sum" sFloor f fd) : FnOk P w K mg base CX0 1 f fd ["many", "divisor", "factor", "added"] spFS := by
  refine F.ok scFS (fun vs H Q E h => ?_) (fun cdv A outer s H vs Q E hr h => ?_)
  · obtain ⟨N, d, f, a, rfl, _⟩ := h
    rfl
  · obtain ⟨N, d, f, a, rfl, hd, hf, ha, bN, bd, bf, ba, k⟩ := h
    refine ⟨_, pss_cons (ps_set (i := 4) scFS.nd rfl (.inl rfl) pe_int)
      (pss_cons (ps_while PassesOwn.never (pt_cmpR op_gt (pv 0) pe_int (nomark _))
        (pss_cons (ps_aug (i := 4) scFS.nd rfl (.inl rfl) (pe_op op_add (pe_op op_mulW (pe_op op_fdiv (pe_op op_mulW (pv 0) (pe_op op_sub (pv 0) pe_int)) pe_int) (pe_op op_fdivW (pv 2) (pv 1))) (pe_op op_mulW (pv 0) (pe_op op_fdivW (pv 3) (pv 1)))) ip_add)
        (pss_cons (ps_par (i := 2) (j := 3) rfl scFS.nd rfl rfl (by decide) rfl rfl (pa_cons (pe_op op_mod (pv 2) (pv 1)) (pa_cons (pe_op op_mod (pv 3) (pv 1)) pa_nil)) (by rfl))
        (pss_cons (ps_set (i := 5) scFS.nd rfl (.inl rfl) (pe_op op_add (pe_op op_mulW (pv 2) (pv 0)) (pv 3)))
        (pss_cons (ps_par (i := 0) (j := 3) rfl scFS.nd rfl rfl (by decide) rfl rfl (pa_cons (pe_op op_fdivW (pv 5) (pv 1)) (pa_cons (pe_op op_mod (pv 5) (pv 1)) pa_nil)) (by rfl))
        (pss_one (ps_par (i := 2) (j := 1) rfl scFS.nd rfl rfl (by decide) rfl rfl (pa_cons (pv 1) (pa_cons (pv 2) pa_nil)) (by rfl))))))))
      (pss_one (ps_ret (pv 4)))), ?_⟩
    refine while_by (fun σ G => ∃ (M : Nat) (d' f' a' t : Int) (v : Option V), σ = [some (.int (M : Int)), some (.int d'), some (.int f'), some (.int a'), some (.int t), v] ∧ G = H ∧ t + DV.FS M d' f' a' = DV.FS N d f a ∧ (0 < M → 0 < d') ∧ 0 ≤ f' ∧ (0 < M → 0 ≤ a') ∧ Bd 2000 (M : Int) ∧ Bd 2000 d' ∧ Bd 2000 f' ∧ Bd 2000 a')
      (fun σ _ => match σ with
        | some (.int m) :: some (.int d) :: _ => if 0 < m then d.toNat else 0
        | _ => 0) ⟨N, d, f, a, 0, none, rfl, rfl, by omega, hd, hf, ha, bN, bd, bf, ba⟩ ?_ ?_
    · rintro σ G ⟨M, d', f', a', t, v, rfl, rfl, hs, hd', hf', ha', bM, bd', bf', ba'⟩
      refine ⟨_, rfl, _, _, rfl, rfl, _, rfl, ?_⟩
      by_cases h0 : M = 0
      · refine iteF' (decide_eq_false (by omega)) ?_
        subst h0
        refine ⟨_, rfl, ?_⟩
        have e : t = DV.FS N d f a := by rw [← hs]; show t = t + 0; omega
        rw [e]
        exact k
      · refine iteT' (decide_eq_true (by omega)) ?_
        have dp := hd' (by omega)
        obtain ⟨c1, c2, c3, c4, c5, c6, c7, c8⟩ := DV.fs_step (n := M) dp hf' (ha' (by omega))
        have b1 : Bd 2001 ((M : Int) - 1) := bM.sub (show Bd 2000 1 by exact Bd.mono (show Bd 1 1 by unfold Bd; decide) (by decide))
        have b2 : Bd 4001 ((M : Int) * ((M : Int) - 1)) := bM.mul b1
        have b3 : Bd 4001 ((M : Int) * ((M : Int) - 1) / 2) := b2.div (by decide)
        have b4 := bf'.div dp
        have b5 := ba'.div dp
        refine ⟨_, rfl, _, rfl, _, rfl, _, _, rfl, rfl, _, _, rfl, rfl, bM.w b1, _, _, rfl, rfl, ⟨by decide, by decide⟩, _, rfl, _, rfl, _, _, rfl, rfl, bd'.d dp, _, _, rfl, rfl, b3.w b4, _, rfl, _, rfl, _, rfl, _, _, rfl, rfl, bd'.d dp, _, _, rfl, rfl, bM.w b5, _, _, rfl, rfl, ?_⟩
        refine ⟨_, _, rfl, rfl, ?_⟩
        refine ⟨_, rfl, _, rfl, _, _, rfl, rfl, dp, _, rfl, _, rfl, _, _, rfl, rfl, dp, _, _, rfl, ?_⟩
        have b6 : Bd 2000 (f' % d') := Bd.le c5 (by omega) bd'
        have b7 : Bd 2000 (a' % d') := Bd.le (Int.emod_nonneg _ (by omega)) (by have := Int.emod_lt_of_pos a' dp; omega) bd'
        refine ⟨_, rfl, _, rfl, _, _, rfl, rfl, b6.w bM, _, rfl, _, _, rfl, rfl, ?_⟩
        refine ⟨_, rfl, _, rfl, _, _, rfl, rfl, bd'.d dp, _, rfl, _, rfl, _, _, rfl, rfl, dp, _, _, rfl, ?_⟩
        refine ⟨_, rfl, _, rfl, _, _, rfl, ?_⟩
        obtain ⟨M2, hM2⟩ : ∃ M2 : Nat, (f' % d' * (M : Int) + a' % d') / d' = (M2 : Int) := ⟨((f' % d' * (M : Int) + a' % d') / d').toNat, by omega⟩
        rw [hM2] at c2 c3 c4 c1
        rw [Int.toNat_natCast] at c1
        have b8 : Bd 2000 ((f' % d' * (M : Int) + a' % d') % d') := Bd.le c7 (by omega) bd'
        refine ⟨⟨M2, f' % d', d', (f' % d' * (M : Int) + a' % d') % d', t + ((M : Int) * ((M : Int) - 1) / 2 * (f' / d') + (M : Int) * (a' / d')), some (.int (f' % d' * (M : Int) + a' % d')), (by rw [← hM2]; rfl), rfl, by rw [← hs, c1]; omega, fun h => c4 (by omega), by omega, fun _ => c7, Bd.le c2 c3 bM, b6, bd', b8⟩, ?_⟩
        show (if (0 : Int) < (f' % d' * (M : Int) + a' % d') / d' then (f' % d').toNat else 0) < if (0 : Int) < (M : Int) then d'.toNat else 0
        rw [hM2, if_pos (show (0 : Int) < (M : Int) by omega)]
        split
        · omega
        · omega
    · intro σ G Q1 Q2 h q
      obtain ⟨x, e, i, j, e1, e2, b, e3, q1⟩ := q
      exact ⟨x, e, i, j, e1, e2, b, e3, h _ _ q1⟩
end
end KD

set_option Elab.async false
set_option linter.all false
set_option maxRecDepth 100000
set_option maxHeartbeats 8000000
/-! Dividers, the program, e: counts -/
namespace KD
open PySem L2
open DV (Dv)
theorem one_bd {k : Nat} (h : 1 ≤ k := by decide) : Bd k 1 := Bd.mono (show Bd 1 1 by unfold Bd; decide) h
section
variable {P : Program} {w : World} {K : PySem.W.Frag} {mg : Str → Option Value} {base : Heap}
abbrev nmSB : List Str := ["self", "start", "many", "gain", "added", "first", "most", "full"]
theorem scSB : FnScope nmSB ["self", "start", "many"] (defScope sSB) := ⟨rfl, rfl, rfl, by decide +kernel, rfl, by decide +kernel, by decide +kernel⟩
theorem ok_sb {f C fR fU fF : Addr} {fd fdR fdU fdF : FuncData} (F : Fun K "sum_below" "Rests.sum_below" sSB f fd) (T : TxtI mg) (TS : TxtS K mg C)
    (GR : FnOk P w K mg base CX0 2 fR fdR ["self", "product"] (spRB C)) (mR : Meth K C "rests_below" fR) (bR : Binds K fdR ["self", "product"] [])
    (GU : FnOk P w K mg base CX0 1 fU fdU ["number", "by"] spUp) (kU : PySem.W.keepIn K (.ref fU) = true) (bU : Binds K fdU ["number", "by"] []) (gU : mg "upward" = some (.ref fU))
    (GF : FnOk P w K mg base CX0 1 fF fdF ["many", "divisor", "factor", "added"] spFS) (kF : PySem.W.keepIn K (.ref fF) = true) (bF : Binds K fdF ["many", "divisor", "factor", "added"] []) (gF : mg "floor_sum" = some (.ref fF)) :
    FnOk P w K mg base CX0 3 f fd ["self", "start", "many"] (spSB C) := by
  refine F.ok scSB (fun vs H Q E h => ?_) (fun cdv A outer s H vs Q E hr h => ?_)
  · obtain ⟨p, D, st, N, rfl, _⟩ := h
    rfl
  · obtain ⟨p, D, st, N, rfl, ⟨dx, hp⟩, L, hm, bst, bN, k⟩ := h
    have hr1 : Room 1 _ := hr.mono (by decide)
    have m0 := L.m0
    have b2 := L.b2
    obtain ⟨tB, pB, rB⟩ : ∃ tB, PSs (cxOf CX0 P w K mg base nmSB "Rests.sum_below" (defScope sSB) f cdv A outer s H E).nox ((defBody sSB).drop 2) tB ∧
        ∀ (g' st' : Int), 0 ≤ g' → Bd 402 g' → Bd 800 st' → D.SB st N = DV.sb D.b D.m g' st' N → tB { nx := fun _ H' => Q .non H', rt := Q } [some (.ref p), some (.int st'), some (.int (N : Int)), some (.int g'), none, none, none, none] H := by
      refine ⟨_, pss_cons (ps_set (i := 4) scSB.nd rfl (.inl rfl) (pe_op op_sub (pe_op op_add (pv 1) (pe_fld (pv 0) rfl)) pe_int))
        (pss_cons (ps_set (i := 5) scSB.nd rfl (.inl rfl) (pe_ifExp (pt_cmpR op_eq (pv 3) pe_int (nomark _)) (pv 2) (pe_callB (call_max2 rfl) (by rfl) T.max (by kernel_rfl) (pa_cons pe_int (pa_cons (pe_callB (call_min2 rfl) (by rfl) T.min (by kernel_rfl) (pa_cons (pv 2) (pa_cons (pe_call GU hr1 rfl gU kU bU .nil pass0 (pa_cons (pe_un un_neg (pv 4)) (pa_cons (pv 3) pa_nil))) pa_nil))) pa_nil)))))
        (pss_cons (ps_set (i := 6) scSB.nd rfl (.inl rfl) (pe_op op_mulW (pe_fld (pv 0) rfl) (pe_fld (pv 0) rfl)))
        (pss_cons (ps_set (i := 7) scSB.nd rfl (.inl rfl) (pe_ifExp (pt_cmpR op_eq (pv 3) pe_int (nomark _)) (pv 2) (pe_callB (call_max2 rfl) (by rfl) T.max (by kernel_rfl) (pa_cons (pv 5) (pa_cons (pe_callB (call_min2 rfl) (by rfl) T.min (by kernel_rfl) (pa_cons (pv 2) (pa_cons (pe_call GU hr1 rfl gU kU bU .nil pass0 (pa_cons (pe_op op_sub (pv 6) (pv 4)) (pa_cons (pv 3) pa_nil))) pa_nil))) pa_nil)))))
        (pss_cons (ps_if (pt_cmpR op_eq (pv 3) pe_int (nomark _)) (pss_one (ps_ret (pe_op op_mulW (pv 2) (pe_meth (pv 0) TS.cl mR GR hr bR .nil pass0 (pa_cons (pv 1) pa_nil))))) pss_nil)
        (pss_one (ps_ret (pe_op op_add (pe_call GF hr1 rfl gF kF bF .nil pass0 (pa_cons (pe_op op_sub (pv 7) (pv 5)) (pa_cons (pe_fld (pv 0) rfl) (pa_cons (pv 3) (pa_cons (pe_op op_add (pv 4) (pe_op op_mulW (pv 3) (pv 5))) pa_nil))))) (pe_op op_mulW (pe_op op_sub (pv 2) (pv 7)) (pe_fld (pv 0) rfl))))))))), ?_⟩
      intro g' st' g0 bg bs e
      have bA : Bd 802 (st' + D.m - 1) := (bs.add (L.bm.mono (by decide))).sub one_bd
      refine ⟨_, rfl, _, rfl, p, C, dx, _, _, rfl, hp, TS.cl, TS.nT, rFl_t D, _, _, rfl, rfl, _, _, rfl, rfl, ?_⟩
      by_cases gz : g' = 0
      · subst gz
        refine ⟨_, rfl, rfl, _, rfl, iteT' (decide_eq_true rfl) ⟨_, rfl, ?_⟩⟩
        refine ⟨_, rfl, p, C, dx, _, _, rfl, hp, TS.cl, TS.nT, rFl_t D, _, rfl, p, C, dx, _, _, rfl, hp, TS.cl, TS.nB, rFl_b D, _, _, rfl, rfl, L.bm.w L.bb, ?_⟩
        refine ⟨_, rfl, rfl, _, rfl, iteT' (decide_eq_true rfl) ⟨_, rfl, ?_⟩⟩
        refine ⟨_, rfl, rfl, _, rfl, iteT' (decide_eq_true rfl) ?_⟩
        refine ⟨_, rfl, _, rfl, p, dx, _, rfl, hp, rFl_n1 D, _, rfl, p, D, st', rfl, ⟨dx, hp⟩, L, _, _, rfl, rfl, bN.w (Bd.le (DV.rb_nonneg L.m0 (by omega)) (DV.rb_le L.m0 (by omega)) L.bb : Bd 200 (D.rb st')), ?_⟩
        rw [e, DV.sb_zero] at k
        exact k
      · have gp : 0 < g' := by omega
        have mp : 0 < D.m := by omega
        obtain ⟨x1, x2, x3, x4, x5⟩ := DV.sb_pos (b := D.b) (m := D.m) (g := g') (start := st') mp (by omega) gp N
        have ne : ¬ (V.int g' = V.int 0) := fun z => gz (V.int.inj z)
        refine ⟨_, rfl, rfl, _, rfl, iteF' (decide_eq_false ne) ?_⟩
        refine ⟨_, rfl, _, rfl, _, rfl, _, rfl, _, _, 402, rfl, gp, bg, by decide, by decide, _, _, rfl, _, _, rfl, ?_⟩
        refine ⟨_, rfl, p, C, dx, _, _, rfl, hp, TS.cl, TS.nT, rFl_t D, _, rfl, p, C, dx, _, _, rfl, hp, TS.cl, TS.nB, rFl_b D, _, _, rfl, rfl, L.bm.w L.bb, ?_⟩
        refine ⟨_, rfl, rfl, _, rfl, iteF' (decide_eq_false ne) ?_⟩
        obtain ⟨A0, hA0⟩ : ∃ A0, A0 = st' + D.m - 1 := ⟨_, rfl⟩
        obtain ⟨F0, hF0⟩ : ∃ F0, F0 = DV.sbF D.m g' A0 N := ⟨_, rfl⟩
        obtain ⟨L0, hL0⟩ : ∃ L0, L0 = DV.sbL D.b D.m g' A0 N := ⟨_, rfl⟩
        rw [← hA0, ← hF0, ← hL0] at x1 x5
        rw [← hA0, ← hF0] at x2
        rw [← hA0, ← hF0, ← hL0] at x3
        rw [← hA0, ← hL0] at x4
        rw [← hA0] at bA
        have eF : DV.mx 0 (DV.mn (N : Int) (DV.up (-A0) g')) = F0 := hF0.symm
        have eL : DV.mx F0 (DV.mn (N : Int) (DV.up (D.m * D.b - A0) g')) = L0 := by rw [hL0, hF0]; rfl
        have bF : Bd 300 F0 := Bd.le x2 (by omega) bN
        obtain ⟨nn, hnn⟩ : ∃ nn : Nat, L0 - F0 = (nn : Int) := ⟨(L0 - F0).toNat, by omega⟩
        refine ⟨_, rfl, _, rfl, _, rfl, _, rfl, _, _, rfl, rfl, _, rfl, _, _, 402, rfl, gp, bg, by decide, by decide, _, _, rfl, _, _, rfl, ?_⟩
        refine ⟨_, rfl, rfl, _, rfl, iteF' (decide_eq_false ne) ?_⟩
        have bW : CMulW g' (DV.mx 0 (DV.mn (N : Int) (DV.up (-(st' + D.m - 1)) g'))) := by rw [← hA0, eF]; exact bg.w bF
        refine ⟨_, rfl, _, rfl, _, _, rfl, rfl, _, rfl, p, C, dx, _, _, rfl, hp, TS.cl, TS.nT, rFl_t D, _, rfl, _, rfl, _, rfl, _, rfl, _, _, rfl, rfl, bW, _, _, rfl, rfl, ?_⟩
        refine ⟨nn, D.m, g', A0 + g' * F0, ?_, fun _ => mp, g0, fun h => x5 (by omega), ?_, L.bm.mono (by decide), bg.mono (by decide), (bA.add ((bg.mul bF).mono (by decide))).mono (by decide), ?_⟩
        · show [V.int (DV.mx (DV.mx 0 (DV.mn (N : Int) (DV.up (-(st' + D.m - 1)) g'))) (DV.mn (N : Int) (DV.up (D.m * D.b - (st' + D.m - 1)) g')) - DV.mx 0 (DV.mn (N : Int) (DV.up (-(st' + D.m - 1)) g'))), V.int D.m, V.int g', V.int (st' + D.m - 1 + g' * DV.mx 0 (DV.mn (N : Int) (DV.up (-(st' + D.m - 1)) g')))] = _
          rw [← hA0, eF, eL, hnn]
        · exact Bd.mono (Bd.le (by omega) (show (nn : Int) ≤ (N : Int) by omega) bN) (by decide)
        · have bW2 : CMulW ((N : Int) - DV.mx (DV.mx 0 (DV.mn (N : Int) (DV.up (-(st' + D.m - 1)) g'))) (DV.mn (N : Int) (DV.up (D.m * D.b - (st' + D.m - 1)) g'))) D.b := by
            rw [← hA0, eF, eL]
            exact Bd.w (Bd.le (by omega) (show (N : Int) - L0 ≤ (N : Int) by omega) bN) L.bb
          refine ⟨_, rfl, _, rfl, _, _, rfl, rfl, _, rfl, p, C, dx, _, _, rfl, hp, TS.cl, TS.nB, rFl_b D, _, _, rfl, rfl, bW2, _, _, rfl, rfl, ?_⟩
          show Q (.int (DV.FS nn D.m g' (A0 + g' * F0) + ((N : Int) - DV.mx (DV.mx 0 (DV.mn (N : Int) (DV.up (-(st' + D.m - 1)) g'))) (DV.mn (N : Int) (DV.up (D.m * D.b - (st' + D.m - 1)) g'))) * D.b)) H
          rw [← hA0, eF, eL]
          have : (L0 - F0).toNat = nn := by omega
          rw [e, x1, this] at k
          exact k
    refine ⟨_, pss_cons (ps_set (i := 3) scSB.nd rfl (.inl rfl) (pe_fld (pv 0) rfl))
      (pss_cons (ps_if (pt_cmpR op_lt (pv 3) pe_int (nomark _))
        (pss_one (ps_par (i := 1) (j := 3) rfl scSB.nd rfl rfl (by decide) rfl rfl (pa_cons (pe_op op_add (pv 1) (pe_op op_mulW (pv 3) (pe_op op_sub (pv 2) pe_int))) (pa_cons (pe_un un_neg (pv 3)) pa_nil)) (by rfl))) pss_nil) pB), ?_⟩
    refine ⟨_, rfl, p, C, dx, _, _, rfl, hp, TS.cl, TS.nG, rFl_g D, ?_⟩
    refine ⟨_, rfl, _, _, rfl, rfl, _, rfl, ?_⟩
    refine ite2 (fun h => ?_) (fun h => ?_)
    · have hg : D.g < 0 := of_decide_eq_true h
      have b1 : Bd 301 ((N : Int) - 1) := bN.sub one_bd
      refine ⟨_, rfl, _, rfl, _, rfl, _, _, rfl, rfl, _, _, rfl, rfl, L.bg.w b1, _, _, rfl, rfl, _, rfl, _, rfl, _, _, rfl, ?_⟩
      exact rB (-D.g) (st + D.g * ((N : Int) - 1)) (by omega) L.bg.neg (((bst.mono (by decide)).add (L.bg.mul b1)).mono (by decide)) (DV.sb_neg N)
    · have hg : ¬ D.g < 0 := fun z => h (decide_eq_true z)
      exact rB D.g st (by omega) L.bg (bst.mono (by decide)) rfl
end
end KD

set_option Elab.async false
set_option linter.all false
set_option maxRecDepth 100000
set_option maxHeartbeats 8000000
/-! Dividers, the program, f: counts, questions -/
namespace DV
variable {D : Dv}
theorem cr_x (K : D.Ok) {x : Int} (h : 0 ≤ x) : D.cr (x + 1).toNat = mx 0 (mn (D.fit (x / D.b)) (x % D.b + 1) - mn (D.few (x / D.b)) (x % D.b + 1)) + (if D.m = 0 then (if D.o / D.W < x / D.b then D.b else 0) else D.SB (D.W - D.o) (x / D.b).toNat - D.SB (-D.o) (x / D.b).toNat) := by
  obtain ⟨e, r0, r1, q0⟩ := split_x K h
  obtain ⟨bn, hb⟩ : ∃ bn : Nat, (bn : Int) = D.b := ⟨D.b.toNat, by have := K.hb; omega⟩
  obtain ⟨q, hq⟩ : ∃ q : Nat, x / D.b = (q : Int) := ⟨(x / D.b).toNat, by omega⟩
  obtain ⟨r, hr⟩ : ∃ r : Nat, x % D.b = (r : Int) := ⟨(x % D.b).toNat, by omega⟩
  rw [hq, hr] at e
  rw [hq, hr, Int.toNat_natCast]
  have ex : (x + 1).toNat = bn * q + r + 1 := by
    have : (x + 1) = ((bn * q + r + 1 : Nat) : Int) := by
      rw [Int.natCast_add, Int.natCast_add, Int.natCast_mul, hb]
      omega
    rw [this, Int.toNat_natCast]
  rw [ex]
  split
  · rename_i hz
    exact cr_zero K hz hb q r (by omega)
  · exact cr_sum K hb q r (by omega)
end DV
namespace KD
open PySem L2
open DV (Dv)
abbrev sDR : Stmt := top 15
abbrev sDW : Stmt := top 16
abbrev sDN : Stmt := top 17
abbrev sDM : Stmt := top 18
def spCR (C : Addr) : Sp := fun vs H Q _ => ∃ (p : Addr) (D : Dv) (x : Int), vs = [.ref p, .int x] ∧ RsAt C H p D ∧ Lim D ∧ 0 ≤ x ∧ x ≤ 10 ^ 60 ∧ ∀ H', Same H H' → Q (.int (D.cr (x + 1).toNat)) H'
def spDR (C : Addr) : Sp := fun vs H Q _ => ∃ (p : Addr) (D : Dv) (x : Int), vs = [.ref p, .int x] ∧ DvAt C H p D ∧ Lim D ∧ 0 ≤ x ∧ x ≤ 10 ^ 60 ∧ Q (.bl (decide (D.R x))) H
def spDW (C : Addr) : Sp := fun vs H Q _ => ∃ (p : Addr) (D : Dv) (x : Int), vs = [.ref p, .int x] ∧ DvAt C H p D ∧ Lim D ∧ 0 ≤ x ∧ x ≤ 10 ^ 60 ∧ ∀ H', Same H H' → Q (optI (D.nw x)) H'
def spDN (C : Addr) : Sp := fun vs H Q _ => ∃ (p : Addr) (D : Dv) (x : Int), vs = [.ref p, .int x] ∧ DvAt C H p D ∧ Lim D ∧ 0 ≤ x ∧ x ≤ 10 ^ 60 ∧ ∀ H', Same H H' → Q (optI (D.nr x)) H'
def spDM (C : Addr) : Sp := fun vs H Q _ => ∃ (p : Addr) (D : Dv) (x : Int), vs = [.ref p, .int x] ∧ DvAt C H p D ∧ Lim D ∧ 0 ≤ x ∧ x ≤ 10 ^ 60 ∧ ∀ H', Same H H' → Q (.int (D.cw x)) H'
section
variable {P : Program} {w : World} {K : PySem.W.Frag} {mg : Str → Option Value} {base : Heap}
abbrev nmCR : List Str := ["self", "x", "q", "r", "last", "told"]
theorem scCR : FnScope nmCR ["self", "x"] (defScope sCR) := ⟨rfl, rfl, rfl, by decide +kernel, rfl, by decide +kernel, by decide +kernel⟩
theorem ok_cr {f C fA fB fS : Addr} {fd fdA fdB fdS : FuncData} (F : Fun K "count_right" "Rests.count_right" sCR f fd) (T : TxtI mg) (TS : TxtS K mg C)
    (GA : FnOk P w K mg base CX0 3 fA fdA ["self", "q"] (spFew C)) (mA : Meth K C "few" fA) (bA : Binds K fdA ["self", "q"] [])
    (GB : FnOk P w K mg base CX0 3 fB fdB ["self", "q"] (spFit C)) (mB : Meth K C "fit" fB) (bB : Binds K fdB ["self", "q"] [])
    (GS : FnOk P w K mg base CX0 3 fS fdS ["self", "start", "many"] (spSB C)) (mS : Meth K C "sum_below" fS) (bS : Binds K fdS ["self", "start", "many"] []) : FnOk P w K mg base CX0 4 f fd ["self", "x"] (spCR C) := by
  refine F.ok scCR (fun vs H Q E h => ?_) (fun cdv A outer s H vs Q E hr h => ?_)
  · obtain ⟨p, D, x, rfl, _⟩ := h
    rfl
  · obtain ⟨p, D, x, rfl, ⟨dx, hp⟩, L, x0, x1, k⟩ := h
    refine ⟨_, pss_cons (ps_asg (pe_callB call_divmodW (by rfl) T.dm (by kernel_rfl) (pa_cons (pv 1) (pa_cons (pe_fld (pv 0) rfl) pa_nil))) (pg_tup rfl (pgs_cons (pg_name (i := 2) scCR.nd rfl (.inl rfl)) (pgs_cons (pg_name (i := 3) scCR.nd rfl (.inl rfl)) pgs_nil))))
      (pss_cons (ps_set (i := 4) scCR.nd rfl (.inl rfl) (pe_callB (call_max2 rfl) (by rfl) T.max (by kernel_rfl) (pa_cons pe_int (pa_cons (pe_op op_sub
          (pe_callB (call_min2 rfl) (by rfl) T.min (by kernel_rfl) (pa_cons (pe_meth (pv 0) TS.cl mB GB hr bB .nil pass0 (pa_cons (pv 2) pa_nil)) (pa_cons (pe_op op_add (pv 3) pe_int) pa_nil)))
          (pe_callB (call_min2 rfl) (by rfl) T.min (by kernel_rfl) (pa_cons (pe_meth (pv 0) TS.cl mA GA hr bA .nil pass0 (pa_cons (pv 2) pa_nil)) (pa_cons (pe_op op_add (pv 3) pe_int) pa_nil)))) pa_nil))))
      (pss_cons (ps_if (pt_cmpR op_eq (pe_fld (pv 0) rfl) pe_int (nomark _))
        (pss_cons (ps_set (i := 5) scCR.nd rfl (.inl rfl) (pe_op op_fdivW (pe_fld (pv 0) rfl) (pe_fld (pv 0) rfl)))
        (pss_one (ps_ret (pe_op op_add (pv 4) (pe_ifExp (pt_cmpR op_lt (pv 5) (pv 2) (nomark _)) (pe_fld (pv 0) rfl) pe_int))))) pss_nil)
      (pss_one (ps_ret (pe_op op_sub (pe_op op_add (pv 4) (pe_meth (pv 0) TS.cl mS GS hr bS .nil pass0 (pa_cons (pe_op op_sub (pe_fld (pv 0) rfl) (pe_fld (pv 0) rfl)) (pa_cons (pv 2) pa_nil)))) (pe_meth (pv 0) TS.cl mS GS hr bS .nil pass0 (pa_cons (pe_un un_neg (pe_fld (pv 0) rfl)) (pa_cons (pv 2) pa_nil)))))))), ?_⟩
    have ok := L.ok
    have b2 := L.b2
    obtain ⟨_, r0, r1, q0⟩ := DV.split_x ok x0
    have bq : Bd 300 (x / D.b) := ((one60 x0 x1).div (by omega)).mono (by decide)
    refine ⟨_, rfl, _, rfl, p, C, dx, _, _, rfl, hp, TS.cl, TS.nB, rFl_b D, _, _, rfl, L.bb.pl (by omega), fun t nt => ?_⟩
    have st := Same.new (o := .tup [.int (x / D.b), .int (x % D.b)]) nt
    have hp2 := st _ _ hp
    have kk := k _ st
    rw [DV.cr_x ok x0] at kk
    refine ⟨t, _, rfl, SqT.of upd_same, rfl, _, _, rfl, _, _, rfl, rfl, ?_⟩
    refine ⟨_, rfl, p, dx, _, rfl, hp2, rFl_n3 D, _, rfl, p, D, _, rfl, ⟨dx, hp2⟩, L, bq.mono (by decide), _, rfl, _, _, rfl, rfl, _, _, rfl, ?_⟩
    refine ⟨_, rfl, p, dx, _, rfl, hp2, rFl_n2 D, _, rfl, p, D, _, rfl, ⟨dx, hp2⟩, L, bq.mono (by decide), _, rfl, _, _, rfl, rfl, _, _, rfl, ?_⟩
    refine ⟨_, _, rfl, rfl, _, _, rfl, ?_⟩
    obtain ⟨la, hla⟩ : ∃ la, la = DV.mx 0 (DV.mn (D.fit (x / D.b)) (x % D.b + 1) - DV.mn (D.few (x / D.b)) (x % D.b + 1)) := ⟨_, rfl⟩
    rw [← hla] at kk
    refine ⟨_, rfl, p, C, dx, _, _, rfl, hp2, TS.cl, TS.nT, rFl_t D, rfl, _, rfl, ?_⟩
    by_cases hm : D.m = 0
    · rw [if_pos hm] at kk
      refine iteT' (decide_eq_true (congrArg V.int hm)) ?_
      have := D.W_pos
      refine ⟨_, rfl, p, C, dx, _, _, rfl, hp2, TS.cl, TS.nO, rFl_o D, _, rfl, p, C, dx, _, _, rfl, hp2, TS.cl, TS.nW, rFl_w D, _, _, rfl, rfl, L.bW.d D.W_pos, ?_⟩
      refine ⟨_, rfl, _, rfl, _, rfl, _, _, rfl, rfl, _, rfl, ?_⟩
      by_cases c : D.o / D.W < x / D.b
      · rw [if_pos c] at kk
        refine iteT' (decide_eq_true c) ?_
        refine ⟨_, rfl, p, C, dx, _, _, rfl, hp2, TS.cl, TS.nB, rFl_b D, _, _, rfl, rfl, ?_⟩
        rw [hla] at kk
        exact kk
      · rw [if_neg c] at kk
        refine iteF' (decide_eq_false c) ?_
        refine ⟨_, _, rfl, rfl, ?_⟩
        rw [hla] at kk
        exact kk
    · rw [if_neg hm] at kk
      refine iteF' (decide_eq_false fun z => hm (V.int.inj z)) ?_
      obtain ⟨qn, hqn⟩ : ∃ qn : Nat, x / D.b = (qn : Int) := ⟨(x / D.b).toNat, by omega⟩
      have bqn : Bd 300 (qn : Int) := by rw [← hqn]; exact bq
      have et : (x / D.b).toNat = qn := by omega
      rw [et] at kk
      refine ⟨_, rfl, _, rfl, p, dx, _, rfl, hp2, rFl_n9 D, _, rfl, p, C, dx, _, _, rfl, hp2, TS.cl, TS.nW, rFl_w D, _, rfl, p, C, dx, _, _, rfl, hp2, TS.cl, TS.nO, rFl_o D, _, _, rfl, rfl, _, rfl, p, D, D.W - D.o, qn, ?_, ⟨dx, hp2⟩, L, hm, (L.bW.sub (L.bo.mono (by decide))).mono (by decide), bqn, ?_⟩
      · show [V.ref p, V.int (D.W - D.o), V.int (x / D.b)] = _
        rw [hqn]
      refine ⟨_, _, rfl, rfl, _, rfl, p, dx, _, rfl, hp2, rFl_n9 D, _, rfl, p, C, dx, _, _, rfl, hp2, TS.cl, TS.nO, rFl_o D, _, rfl, _, rfl, p, D, -D.o, qn, ?_, ⟨dx, hp2⟩, L, hm, (L.bo.neg).mono (by decide), bqn, ?_⟩
      · show [V.ref p, V.int (-D.o), V.int (x / D.b)] = _
        rw [hqn]
      refine ⟨_, _, rfl, rfl, ?_⟩
      rw [hla, ← Int.add_sub_assoc] at kk
      exact kk
theorem scDR : FnScope ["divider", "x"] ["divider", "x"] (defScope sDR) := ⟨rfl, rfl, rfl, by decide +kernel, rfl, by decide +kernel, by decide +kernel⟩
theorem ok_dr {f C fQ : Addr} {fd fdQ : FuncData} (F : Fun K "divider_right" "divider_right" sDR f fd) (TD : TxtD K mg C)
    (GQ : FnOk P w K mg base CX0 4 fQ fdQ ["self", "x"] (spQuot C)) (mQ : Meth K C "quotient" fQ) (bQ : Binds K fdQ ["self", "x"] []) : FnOk P w K mg base CX0 5 f fd ["divider", "x"] (spDR C) := by
  refine F.ok scDR (fun vs H Q E h => ?_) (fun cdv A outer s H vs Q E hr h => ?_)
  · obtain ⟨p, D, x, rfl, _⟩ := h
    rfl
  · obtain ⟨p, D, x, rfl, ⟨dx, hp⟩, L, x0, x1, k⟩ := h
    refine ⟨_, pss_one (ps_ret (pe_cmpR op_eq (pe_meth (pv 0) TD.cl mQ GQ hr bQ .nil pass0 (pa_cons (pv 1) pa_nil)) (pe_op op_fdivW (pv 1) (pe_fld (pv 0) rfl)) (nomark _))), ?_⟩
    have b2 := L.b2
    refine ⟨_, rfl, p, dx, _, rfl, hp, dFl_q D, _, rfl, p, D, x, rfl, ⟨dx, hp⟩, L, x0, x1, _, rfl, _, rfl, p, C, dx, _, _, rfl, hp, TD.cl, TD.nB, dFl_b D, _, _, rfl, rfl, L.bb.d (by omega), rfl, ?_⟩
    have e : decide (V.int (D.told x) = V.int (x / D.b)) = decide (D.R x) := by
      by_cases z : D.R x
      · rw [decide_eq_true z]
        exact decide_eq_true (congrArg V.int z)
      · rw [decide_eq_false z]
        exact decide_eq_false fun y => z (V.int.inj y)
    show Q (.bl (decide (V.int (D.told x) = V.int (x / D.b)))) H
    rw [e]
    exact k
theorem scDM : FnScope ["divider", "x"] ["divider", "x"] (defScope sDM) := ⟨rfl, rfl, rfl, by decide +kernel, rfl, by decide +kernel, by decide +kernel⟩
theorem ok_dm {f C CS fC fI fN : Addr} {fd fdC fdI fdN : FuncData} (F : Fun K "divider_many" "divider_many" sDM f fd) (T : TxtI mg) (TD : TxtD K mg C) (TS : TxtS K mg CS)
    (GC : FnOk P w K mg base CX0 3 fC fdC ["number", "least", "most"] spCheck) (kC : PySem.W.keepIn K (.ref fC) = true) (bC : Binds K fdC ["number", "least", "most"] []) (gC : mg "check_between" = some (.ref fC))
    (M : Mk K CS fI) (GI : FnOk P w K mg base CX0 1 fI fdI ["self", "divider"] (spRI C CS)) (bI : Binds K fdI ["self", "divider"] [])
    (GN : FnOk P w K mg base CX0 4 fN fdN ["self", "x"] (spCR CS)) (mN : Meth K CS "count_right" fN) (bN : Binds K fdN ["self", "x"] []) : FnOk P w K mg base CX0 5 f fd ["divider", "x"] (spDM C) := by
  obtain ⟨t1, hmn⟩ := T.mn
  refine F.ok scDM (fun vs H Q E h => ?_) (fun cdv A outer s H vs Q E hr h => ?_)
  · obtain ⟨p, D, x, rfl, _⟩ := h
    rfl
  · obtain ⟨p, D, x, rfl, hD, L, x0, x1, k⟩ := h
    have hr3 : Room 3 _ := hr.mono (by decide)
    have hr2 : Room 2 _ := hr.mono (by decide)
    refine ⟨_, pss_cons (ps_expr (pe_call GC hr3 rfl gC kC bC .nil pass0 (pa_cons (pv 1) (pa_cons pe_int (pa_cons (pe_glob (v := .int (10 ^ 60)) (by rfl) hmn ⟨t1, rfl⟩) pa_nil)))))
      (pss_one (ps_ret (pe_op op_sub (pe_op op_add (pv 1) pe_int) (pe_meth (pe_make M GI hr2 (by rfl) TS.mgC bI .nil pass0 (pa_cons (pv 0) pa_nil)) TS.cl mN GN hr bN .nil pass0 (pa_cons (pv 1) pa_nil))))), ?_⟩
    refine ⟨_, rfl, _, 0, _, rfl, x0, x1, ?_⟩
    refine ⟨_, rfl, _, _, rfl, rfl, _, rfl, fun q dq nq ndq ne => ?_⟩
    have s1 := (Same.new (o := .own q) ndq).trans (Same.new (o := .ins CS dq []) (by rw [upd_ne ne.symm]; exact nq))
    refine ⟨q, dq, p, D, rfl, upd_same, hD.keep s1, L, fun G b1 hq => ⟨rfl, ?_⟩⟩
    have sG : Same H G := But.fresh s1 b1 nq
    refine ⟨q, dq, _, rfl, hq, rFl_n8 D, _, rfl, q, D, x, rfl, ⟨dq, hq⟩, L, x0, x1, fun G2 s2 => ?_⟩
    exact ⟨_, _, rfl, rfl, k _ (sG.trans s2)⟩
theorem wq_bd {D : Dv} (L : Lim D) {q q1 : Int} (hq : Bd 301 q) (h : D.wq q = some q1) : Bd 1000 q1 := by
  unfold Dv.wq at h
  split at h
  · cases h; exact hq.mono (by decide)
  split at h
  · rename_i hg
    cases h
    exact (hq.mono (by decide)).mx (((L.bo.div hg).add one_bd).mono (by decide))
  split at h
  · rename_i hg
    cases h
    exact (hq.mono (by decide)).mx (Bd.mono (Bd.up (((L.bW.sub (L.bo.mono (by decide))).mono (show 402 ≤ 402 by decide)).sub ((L.bm.mul (L.bb.sub (one_bd (k := 200)))).mono (show 401 ≤ 402 by decide))) (by omega)) (by decide))
  · cases h
theorem rq_bd {D : Dv} (L : Lim D) {q q1 : Int} (hq : Bd 301 q) (h : D.rq q = some q1) : Bd 1000 q1 := by
  unfold Dv.rq at h
  split at h
  · cases h; exact hq.mono (by decide)
  split at h
  · cases h
  rename_i hg
  split at h
  · cases h
    exact (hq.mono (by decide)).mx (Bd.mono ((((L.bo.mono (show 200 ≤ 401 by decide)).sub L.bW).div (show 0 < D.g by omega)).add one_bd) (by decide))
  · cases h
abbrev nmDW : List Str := ["divider", "x", "rests", "q", "r", "found"]
theorem scDW : FnScope nmDW ["divider", "x"] (defScope sDW) := ⟨rfl, rfl, rfl, by decide +kernel, rfl, by decide +kernel, by decide +kernel⟩
theorem ok_dw {f C CS fC fI fW fQ : Addr} {fd fdC fdI fdW fdQ : FuncData} (F : Fun K "divider_wrong" "divider_wrong" sDW f fd) (T : TxtI mg) (TD : TxtD K mg C) (TS : TxtS K mg CS)
    (GC : FnOk P w K mg base CX0 3 fC fdC ["number", "least", "most"] spCheck) (kC : PySem.W.keepIn K (.ref fC) = true) (bC : Binds K fdC ["number", "least", "most"] []) (gC : mg "check_between" = some (.ref fC))
    (M : Mk K CS fI) (GI : FnOk P w K mg base CX0 1 fI fdI ["self", "divider"] (spRI C CS)) (bI : Binds K fdI ["self", "divider"] [])
    (GW : FnOk P w K mg base CX0 4 fW fdW ["self", "q", "r"] (spWF CS)) (mW : Meth K CS "wrong_from" fW) (bW : Binds K fdW ["self", "q", "r"] [])
    (GQ : FnOk P w K mg base CX0 5 fQ fdQ ["self", "q"] (spWQ CS)) (mQ : Meth K CS "wrong_q" fQ) (bQ : Binds K fdQ ["self", "q"] []) : FnOk P w K mg base CX0 6 f fd ["divider", "x"] (spDW C) := by
  obtain ⟨t1, hmn⟩ := T.mn
  refine F.ok scDW (fun vs H Q E h => ?_) (fun cdv A outer s H vs Q E hr h => ?_)
  · obtain ⟨p, D, x, rfl, _⟩ := h
    rfl
  · obtain ⟨p, D, x, rfl, hD, L, x0, x1, k⟩ := h
    have hr3 : Room 3 _ := hr.mono (by decide)
    have hr4 : Room 4 _ := hr.mono (by decide)
    have hr2 : Room 2 _ := hr.mono (by decide)
    refine ⟨_, pss_cons (ps_expr (pe_call GC hr3 rfl gC kC bC .nil pass0 (pa_cons (pv 1) (pa_cons pe_int (pa_cons (pe_glob (v := .int (10 ^ 60)) (by rfl) hmn ⟨t1, rfl⟩) pa_nil)))))
      (pss_cons (ps_set (i := 2) scDW.nd rfl (.inl rfl) (pe_make M GI hr2 (by rfl) TS.mgC bI .nil pass0 (pa_cons (pv 0) pa_nil)))
      (pss_cons (ps_asg (pe_callB call_divmodW (by rfl) T.dm (by kernel_rfl) (pa_cons (pv 1) (pa_cons (pe_fld (pv 0) rfl) pa_nil))) (pg_tup rfl (pgs_cons (pg_name (i := 3) scDW.nd rfl (.inl rfl)) (pgs_cons (pg_name (i := 4) scDW.nd rfl (.inl rfl)) pgs_nil))))
      (pss_cons (ps_set (i := 5) scDW.nd rfl (.inl rfl) (pe_meth (pv 2) TS.cl mW GW hr4 bW .nil pass0 (pa_cons (pv 3) (pa_cons (pv 4) pa_nil))))
      (pss_cons (ps_if (pt_cmpR op_isN (pv 5) pe_non (nomark _))
        (pss_cons (ps_set (i := 3) scDW.nd rfl (.inl rfl) (pe_meth (pv 2) TS.cl mQ GQ hr bQ .nil pass0 (pa_cons (pe_op op_add (pv 3) pe_int) pa_nil)))
        (pss_one (ps_set (i := 5) scDW.nd rfl (.inl rfl) (pe_ifExp (pt_cmpR op_isN (pv 3) pe_non (nomark _)) pe_non (pe_meth (pv 2) TS.cl mW GW hr4 bW .nil pass0 (pa_cons (pv 3) (pa_cons pe_int pa_nil))))))) pss_nil)
      (pss_one (ps_ret (pe_ifExp (pt_cmpR op_isN (pv 5) pe_non (nomark _)) pe_non (pe_op op_add (pe_op op_mulW (pe_fld (pv 0) rfl) (pv 3)) (pv 5))))))))), ?_⟩
    refine ⟨_, rfl, _, 0, _, rfl, x0, x1, ?_⟩
    refine ⟨_, rfl, fun q dq nq ndq ne => ?_⟩
    have s1 := (Same.new (o := .own q) ndq).trans (Same.new (o := .ins CS dq []) (by rw [upd_ne ne.symm]; exact nq))
    refine ⟨q, dq, p, D, rfl, upd_same, hD.keep s1, L, fun G b1 hq => ⟨rfl, ?_⟩⟩
    have sG : Same H G := But.fresh s1 b1 nq
    obtain ⟨dx, hpG⟩ := hD.keep sG
    have b2 := L.b2
    obtain ⟨_, r0, r1, q0⟩ := DV.split_x L.ok x0
    have bq : Bd 300 (x / D.b) := ((one60 x0 x1).div (by omega)).mono (by decide)
    refine ⟨_, rfl, _, rfl, p, C, dx, _, _, rfl, hpG, TD.cl, TD.nB, dFl_b D, _, _, rfl, L.bb.pl (by omega), fun t nt => ?_⟩
    have st := Same.new (o := .tup [.int (x / D.b), .int (x % D.b)]) nt
    refine ⟨t, _, rfl, SqT.of upd_same, rfl, _, _, rfl, _, _, rfl, rfl, ?_⟩
    have hq2 := st _ _ hq
    have hp2 := st _ _ hpG
    have kk := k _ (sG.trans st)
    unfold Dv.nw at kk
    refine ⟨_, rfl, q, dq, _, rfl, hq2, rFl_n4 D, _, rfl, _, rfl, q, D, _, _, rfl, ⟨dq, hq2⟩, L, bq.mono (by decide), ?_⟩
    have bq1 : Bd 301 (x / D.b + 1) := bq.add one_bd
    cases e : D.wf (x / D.b) (x % D.b) with
    | some f0 =>
      rw [e] at kk
      refine ⟨_, rfl, rfl, _, rfl, iteF' rfl ?_⟩
      refine ⟨_, rfl, rfl, _, rfl, iteF' rfl ?_⟩
      exact ⟨_, rfl, p, C, dx, _, _, rfl, hp2, TD.cl, TD.nB, dFl_b D, _, rfl, _, _, rfl, rfl, L.bb.w bq, _, rfl, _, _, rfl, rfl, kk⟩
    | none =>
      rw [e] at kk
      refine ⟨_, rfl, rfl, _, rfl, iteT' rfl ?_⟩
      refine ⟨_, rfl, q, dq, _, rfl, hq2, rFl_n6 D, _, rfl, _, _, rfl, rfl, q, D, _, rfl, ⟨dq, hq2⟩, L, bq1.mono (by decide), ?_⟩
      cases e2 : D.wq (x / D.b + 1) with
      | none =>
        rw [e2] at kk
        refine ⟨_, rfl, rfl, _, rfl, iteT' rfl ?_⟩
        exact ⟨_, rfl, rfl, _, rfl, iteT' rfl kk⟩
      | some q1 =>
        rw [e2] at kk
        have bq2 := wq_bd L bq1 e2
        refine ⟨_, rfl, rfl, _, rfl, iteF' rfl ?_⟩
        refine ⟨_, rfl, q, dq, _, rfl, hq2, rFl_n4 D, _, rfl, q, D, q1, 0, rfl, ⟨dq, hq2⟩, L, bq2, ?_⟩
        have kk2 : Q (optI ((D.wf q1 0).map fun f => D.b * q1 + f)) (upd G t (.tup [.int (x / D.b), .int (x % D.b)])) := kk
        cases e3 : D.wf q1 0 with
        | none =>
          rw [e3] at kk2
          exact ⟨_, rfl, rfl, _, rfl, iteT' rfl kk2⟩
        | some f0 =>
          rw [e3] at kk2
          refine ⟨_, rfl, rfl, _, rfl, iteF' rfl ?_⟩
          exact ⟨_, rfl, p, C, dx, _, _, rfl, hp2, TD.cl, TD.nB, dFl_b D, _, rfl, _, _, rfl, rfl, L.bb.w bq2, _, rfl, _, _, rfl, rfl, kk2⟩
abbrev nmDN : List Str := ["divider", "x", "rests", "q", "r", "found"]
theorem scDN : FnScope nmDN ["divider", "x"] (defScope sDN) := ⟨rfl, rfl, rfl, by decide +kernel, rfl, by decide +kernel, by decide +kernel⟩
theorem ok_dn {f C CS fC fI fW fQ : Addr} {fd fdC fdI fdW fdQ : FuncData} (F : Fun K "divider_next" "divider_next" sDN f fd) (T : TxtI mg) (TD : TxtD K mg C) (TS : TxtS K mg CS)
    (GC : FnOk P w K mg base CX0 3 fC fdC ["number", "least", "most"] spCheck) (kC : PySem.W.keepIn K (.ref fC) = true) (bC : Binds K fdC ["number", "least", "most"] []) (gC : mg "check_between" = some (.ref fC))
    (M : Mk K CS fI) (GI : FnOk P w K mg base CX0 1 fI fdI ["self", "divider"] (spRI C CS)) (bI : Binds K fdI ["self", "divider"] [])
    (GW : FnOk P w K mg base CX0 4 fW fdW ["self", "q", "r"] (spRF CS)) (mW : Meth K CS "right_from" fW) (bW : Binds K fdW ["self", "q", "r"] [])
    (GQ : FnOk P w K mg base CX0 5 fQ fdQ ["self", "q"] (spRQ CS)) (mQ : Meth K CS "right_q" fQ) (bQ : Binds K fdQ ["self", "q"] []) : FnOk P w K mg base CX0 6 f fd ["divider", "x"] (spDN C) := by
  obtain ⟨t1, hmn⟩ := T.mn
  refine F.ok scDN (fun vs H Q E h => ?_) (fun cdv A outer s H vs Q E hr h => ?_)
  · obtain ⟨p, D, x, rfl, _⟩ := h
    rfl
  · obtain ⟨p, D, x, rfl, hD, L, x0, x1, k⟩ := h
    have hr3 : Room 3 _ := hr.mono (by decide)
    have hr4 : Room 4 _ := hr.mono (by decide)
    have hr2 : Room 2 _ := hr.mono (by decide)
    refine ⟨_, pss_cons (ps_expr (pe_call GC hr3 rfl gC kC bC .nil pass0 (pa_cons (pv 1) (pa_cons pe_int (pa_cons (pe_glob (v := .int (10 ^ 60)) (by rfl) hmn ⟨t1, rfl⟩) pa_nil)))))
      (pss_cons (ps_set (i := 2) scDN.nd rfl (.inl rfl) (pe_make M GI hr2 (by rfl) TS.mgC bI .nil pass0 (pa_cons (pv 0) pa_nil)))
      (pss_cons (ps_asg (pe_callB call_divmodW (by rfl) T.dm (by kernel_rfl) (pa_cons (pv 1) (pa_cons (pe_fld (pv 0) rfl) pa_nil))) (pg_tup rfl (pgs_cons (pg_name (i := 3) scDN.nd rfl (.inl rfl)) (pgs_cons (pg_name (i := 4) scDN.nd rfl (.inl rfl)) pgs_nil))))
      (pss_cons (ps_set (i := 5) scDN.nd rfl (.inl rfl) (pe_meth (pv 2) TS.cl mW GW hr4 bW .nil pass0 (pa_cons (pv 3) (pa_cons (pv 4) pa_nil))))
      (pss_cons (ps_if (pt_cmpR op_isN (pv 5) pe_non (nomark _))
        (pss_cons (ps_set (i := 3) scDN.nd rfl (.inl rfl) (pe_meth (pv 2) TS.cl mQ GQ hr bQ .nil pass0 (pa_cons (pe_op op_add (pv 3) pe_int) pa_nil)))
        (pss_one (ps_set (i := 5) scDN.nd rfl (.inl rfl) (pe_ifExp (pt_cmpR op_isN (pv 3) pe_non (nomark _)) pe_non (pe_meth (pv 2) TS.cl mW GW hr4 bW .nil pass0 (pa_cons (pv 3) (pa_cons pe_int pa_nil))))))) pss_nil)
      (pss_one (ps_ret (pe_ifExp (pt_cmpR op_isN (pv 5) pe_non (nomark _)) pe_non (pe_op op_add (pe_op op_mulW (pe_fld (pv 0) rfl) (pv 3)) (pv 5))))))))), ?_⟩
    refine ⟨_, rfl, _, 0, _, rfl, x0, x1, ?_⟩
    refine ⟨_, rfl, fun q dq nq ndq ne => ?_⟩
    have s1 := (Same.new (o := .own q) ndq).trans (Same.new (o := .ins CS dq []) (by rw [upd_ne ne.symm]; exact nq))
    refine ⟨q, dq, p, D, rfl, upd_same, hD.keep s1, L, fun G b1 hq => ⟨rfl, ?_⟩⟩
    have sG : Same H G := But.fresh s1 b1 nq
    obtain ⟨dx, hpG⟩ := hD.keep sG
    have b2 := L.b2
    obtain ⟨_, r0, r1, q0⟩ := DV.split_x L.ok x0
    have bq : Bd 300 (x / D.b) := ((one60 x0 x1).div (by omega)).mono (by decide)
    refine ⟨_, rfl, _, rfl, p, C, dx, _, _, rfl, hpG, TD.cl, TD.nB, dFl_b D, _, _, rfl, L.bb.pl (by omega), fun t nt => ?_⟩
    have st := Same.new (o := .tup [.int (x / D.b), .int (x % D.b)]) nt
    refine ⟨t, _, rfl, SqT.of upd_same, rfl, _, _, rfl, _, _, rfl, rfl, ?_⟩
    have hq2 := st _ _ hq
    have hp2 := st _ _ hpG
    have kk := k _ (sG.trans st)
    unfold Dv.nr at kk
    refine ⟨_, rfl, q, dq, _, rfl, hq2, rFl_n5 D, _, rfl, _, rfl, q, D, _, _, rfl, ⟨dq, hq2⟩, L, bq.mono (by decide), ?_⟩
    have bq1 : Bd 301 (x / D.b + 1) := bq.add one_bd
    cases e : D.rf (x / D.b) (x % D.b) with
    | some f0 =>
      rw [e] at kk
      refine ⟨_, rfl, rfl, _, rfl, iteF' rfl ?_⟩
      refine ⟨_, rfl, rfl, _, rfl, iteF' rfl ?_⟩
      exact ⟨_, rfl, p, C, dx, _, _, rfl, hp2, TD.cl, TD.nB, dFl_b D, _, rfl, _, _, rfl, rfl, L.bb.w bq, _, rfl, _, _, rfl, rfl, kk⟩
    | none =>
      rw [e] at kk
      refine ⟨_, rfl, rfl, _, rfl, iteT' rfl ?_⟩
      refine ⟨_, rfl, q, dq, _, rfl, hq2, rFl_n7 D, _, rfl, _, _, rfl, rfl, q, D, _, rfl, ⟨dq, hq2⟩, L, bq1.mono (by decide), ?_⟩
      cases e2 : D.rq (x / D.b + 1) with
      | none =>
        rw [e2] at kk
        refine ⟨_, rfl, rfl, _, rfl, iteT' rfl ?_⟩
        exact ⟨_, rfl, rfl, _, rfl, iteT' rfl kk⟩
      | some q1 =>
        rw [e2] at kk
        have bq2 := rq_bd L bq1 e2
        refine ⟨_, rfl, rfl, _, rfl, iteF' rfl ?_⟩
        refine ⟨_, rfl, q, dq, _, rfl, hq2, rFl_n5 D, _, rfl, q, D, q1, 0, rfl, ⟨dq, hq2⟩, L, bq2, ?_⟩
        have kk2 : Q (optI ((D.rf q1 0).map fun f => D.b * q1 + f)) (upd G t (.tup [.int (x / D.b), .int (x % D.b)])) := kk
        cases e3 : D.rf q1 0 with
        | none =>
          rw [e3] at kk2
          exact ⟨_, rfl, rfl, _, rfl, iteT' rfl kk2⟩
        | some f0 =>
          rw [e3] at kk2
          refine ⟨_, rfl, rfl, _, rfl, iteF' rfl ?_⟩
          exact ⟨_, rfl, p, C, dx, _, _, rfl, hp2, TD.cl, TD.nB, dFl_b D, _, rfl, _, _, rfl, rfl, L.bb.w bq2, _, rfl, _, _, rfl, rfl, kk2⟩
end
end KD

set_option Elab.async false
set_option linter.all false
set_option maxRecDepth 100000
set_option maxHeartbeats 8000000
/-! Dividers, the program, g: times -/
namespace KD
open PySem L2
open DV (Dv)
abbrev sTB : Stmt := top 19
abbrev sTF : Stmt := top 20
abbrev sLS : Stmt := top 21
theorem bd_pow {n : Nat} (h : n ≤ 400) : Bd 401 ((2 : Int) ^ n) := by
  have e : (2 : Int) ^ n = ((2 ^ n : Nat) : Int) := by
    rw [Int.natCast_pow]
    rfl
  unfold Bd
  rw [e, Int.natAbs_natCast]
  exact Nat.pow_lt_pow_right (by decide) (by omega)
theorem take_more {α : Type} {l : List α} {i : Nat} {x : α} (h : l[i]? = some x) : l.take (i + 1) = l.take i ++ [x] := by
  rw [List.take_succ, h]
  rfl
/-- some times are right -/
def Ex (b t : Int) (s : Nat) : Prop := ∃ m, 0 ≤ m ∧ DV.AllR b t s m
def spTB (K : PySem.W.Frag) : Sp := fun vs H Q _ => ∃ (b t : Int) (s : Nat), vs = [.int b, .int t, .int (s : Nat)] ∧ 2 ≤ b ∧ b ≤ 10 ^ 60 ∧ 1 ≤ t ∧ t ≤ 10 ^ 60 ∧ s ≤ 400 ∧
  (∀ H', Same H H' → ¬ Ex b t s → Q .non H') ∧ (∀ H' p l g, Same H H' → SqT K H' p [.int l, .int g] → 0 ≤ l → l ≤ g → (∀ m, 0 ≤ m → (DV.AllR b t s m ↔ l ≤ m ∧ m ≤ g)) → Q (.ref p) H')
def spLS : Sp := fun vs H Q _ => ∃ b t : Int, vs = [.int b, .int t] ∧ 2 ≤ b ∧ b ≤ 10 ^ 60 ∧ 1 ≤ t ∧ t ≤ 10 ^ 60 ∧ b * (t + 1) ≤ 2 ^ 400 ∧ ∀ (n : Nat) H', Same H H' → n ≤ 400 → Ex b t n → (∀ k, k < n → ¬ Ex b t k) → Q (.int (n : Nat)) H'
section
variable {P : Program} {w : World} {K : PySem.W.Frag} {mg : Str → Option Value} {base : Heap}
abbrev nmTB : List Str := ["by", "top", "shift", "whole", "least", "tight", "greatest", "x"]
theorem scTB : FnScope nmTB ["by", "top", "shift"] (defScope sTB) := ⟨rfl, rfl, rfl, by decide +kernel, rfl, by decide +kernel, by decide +kernel⟩
theorem ok_tb {f fU : Addr} {fd fdU : FuncData} (F : Fun K "times_between" "times_between" sTB f fd) (T : TxtI mg)
    (GU : FnOk P w K mg base CX0 1 fU fdU ["number", "by"] spUp) (kU : PySem.W.keepIn K (.ref fU) = true) (bU : Binds K fdU ["number", "by"] []) (gU : mg "upward" = some (.ref fU)) : FnOk P w K mg base CX0 2 f fd ["by", "top", "shift"] (spTB K) := by
  refine F.ok scTB (fun vs H Q E h => ?_) (fun cdv A outer s H vs Q E hr h => ?_)
  · obtain ⟨b, t, n, rfl, _⟩ := h
    rfl
  · obtain ⟨b, t, n, rfl, b2, b1, t0, t1, hn, kN, kY⟩ := h
    obtain ⟨tR, pR, rR⟩ : ∃ tR, PSs (cxOf CX0 P w K mg base nmTB "times_between" (defScope sTB) f cdv A outer s H E).nox ((defBody sTB).drop 4) tR ∧
        ∀ (G : Hp) (a : Addr), Same H G → SqL K G a ((DV.tight b t).map V.int) → tR { nx := fun _ H' => Q .non H', rt := Q } [some (.int b), some (.int t), some (.int (n : Nat)), some (.int (2 ^ n)), some (.int (DV.tLeast b t n)), some (.ref a), none, none] G := by
      refine ⟨_, pss_cons (ps_set (i := 6) scTB.nd rfl (.inl rfl) (pe_callB (cr_min rfl) (by rfl) T.min (by kernel_rfl) (pa_cons
          (pe_lc (own := [("x", 7)]) (g := gName 7) (tt := tYes) rfl scTB.nd (pi_list (pv 5)) (blkOk_by (own := [("x", 7)]) (N := nmTB) (sc := defScope sTB) (by decide +kernel)) (fun _ _ _ _ _ => pg_name (i := 7) scTB.nd rfl (Or.inl rfl)) (fun _ _ _ _ _ => pts_nil)
            (fun _ _ _ _ _ => pe_op op_fdivW (pe_op op_sub (pe_op op_mulW (pv 3) (pe_op op_add (pe_op op_fdivW (pv 7) (pv 0)) pe_int)) pe_int) (pv 7))) pa_nil)))
        (pss_one (ps_ret (pe_ifExp (pt_cmpR op_le (pv 4) (pv 6) (nomark _)) (pe_tup (pa_cons (pv 4) (pa_cons (pv 6) pa_nil))) pe_non))), ?_⟩
      intro G a sG ha
      refine ⟨_, rfl, a, rfl, ⟨_, ha⟩, fun D nD => ?_⟩
      have sD := Same.new (o := .lst []) nD
      have bWn : Bd 401 ((2 : Int) ^ n) := bd_pow hn
      have tl : (DV.tight b t).length ≤ 3 := by unfold DV.tight; split <;> simp
      have tp : 0 < (DV.tight b t).length := by unfold DV.tight; split <;> simp
      refine lc_list (K := K) (a := a) (xs := (DV.tight b t).map V.int) (fun i G3 => Same G G3 ∧ G3 D = some (.lst ((((DV.tight b t).take i).map (DV.gr b n)).map V.int))) ⟨sD, upd_same⟩ (fun i G3 _ ⟨e, _⟩ => e.seq ha) ?_ ?_
      · rintro i y G3 hi ⟨s3, gD⟩
        obtain ⟨x, hx, rfl⟩ : ∃ x, (DV.tight b t)[i]? = some x ∧ y = V.int x := by
          rw [List.getElem?_map] at hi
          cases e : (DV.tight b t)[i]? with
          | none => rw [e] at hi; cases hi
          | some z => rw [e] at hi; exact ⟨z, rfl, (Option.some.inj hi).symm⟩
        obtain ⟨x0, x1⟩ := DV.tight_pos b2 t0 x (List.mem_of_getElem? hx)
        have hil := (List.getElem?_eq_some_iff.mp hx).1
        have bx : Bd 200 x := one60 (by omega) (by omega)
        have bb : Bd 200 b := one60 (by omega) b1
        have bm : Bd 201 (x / b + 1) := (bx.div (by omega)).add one_bd
        refine ⟨rfl, ?_⟩
        unfold tYes
        refine iteT ?_
        refine ⟨_, rfl, _, rfl, _, rfl, _, _, rfl, rfl, bb.d (by omega), _, _, rfl, rfl, _, _, rfl, rfl, bWn.w bm, _, _, rfl, rfl, _, rfl, _, _, rfl, rfl, bx.d (by omega), ?_⟩
        refine ⟨_, gD, small1000 (by rw [List.length_map, List.length_map, List.length_take]; omega), Same.write s3 nD, ?_⟩
        rw [take_more hx, List.map_append, List.map_append, upd_same]
        rfl
      · rintro G3 ⟨s3, gD⟩
        rw [List.length_map, List.take_length] at gD
        refine ⟨D, (DV.tight b t).map (DV.gr b n), rfl, SqL.of gD, by rw [List.length_map]; exact tp, fun g hg hmin => ?_⟩
        have sG3 := sG.trans s3
        have win : ∀ m, 0 ≤ m → (DV.AllR b t n m ↔ DV.tLeast b t n ≤ m ∧ m ≤ g) := fun m hm => by
          rw [DV.window b2 t0 hm]
          constructor
          · rintro ⟨h1, h2⟩
            obtain ⟨x, hx, rfl⟩ := List.mem_map.mp hg
            exact ⟨h1, h2 x hx⟩
          · rintro ⟨h1, h2⟩
            exact ⟨h1, fun x hx => Int.le_trans h2 (hmin _ (List.mem_map.mpr ⟨x, hx, rfl⟩))⟩
        have l0 : 0 ≤ DV.tLeast b t n := by
          unfold DV.tLeast
          split
          · have := (DV.lt_up (n := 2 ^ n) (d := b) (r := 0) (by omega)).mpr (by rw [Int.zero_mul]; exact Int.pow_pos (by decide))
            omega
          · omega
        refine ⟨_, rfl, _, rfl, _, _, rfl, rfl, _, rfl, ?_⟩
        by_cases c : DV.tLeast b t n ≤ g
        · refine iteT' (decide_eq_true c) ?_
          refine ⟨_, rfl, _, rfl, (by show 2 ≤ sizeLine; decide), fun p np => ?_⟩
          exact kY _ p _ g (sG3.trans (Same.new np)) (SqT.of upd_same) l0 c win
        · refine iteF' (decide_eq_false c) ?_
          refine kN _ sG3 ?_
          rintro ⟨m, hm, hA⟩
          have := (win m hm).mp hA
          omega
    refine ⟨_, pss_cons (ps_set (i := 3) scTB.nd rfl (.inr rfl) (pe_op op_oneShl pe_int (pv 2)))
      (pss_cons (ps_set (i := 4) scTB.nd rfl (.inl rfl) (pe_ifExp (pt_cmpR op_ge (pv 1) (pv 0) (nomark _)) (pe_call GU hr rfl gU kU bU .nil pass0 (pa_cons (pv 3) (pa_cons (pv 0) pa_nil))) pe_int))
      (pss_cons (ps_set (i := 5) scTB.nd rfl (.inl rfl) (pe_lst (pa_cons (pv 1) pa_nil)))
      (pss_cons (ps_if (pt_cmpR op_ge (pv 1) (pe_op op_sub (pv 0) pe_int) (nomark _))
        (pss_one (ps_set (i := 5) scTB.nd rfl (.inl rfl) (pe_lst (pa_cons (pv 1) (pa_cons (pe_op op_sub (pv 0) pe_int) (pa_cons (pe_op op_sub (pe_op op_mulW (pe_op op_fdivW (pe_op op_add (pv 1) pe_int) (pv 0)) (pv 0)) pe_int) pa_nil)))))) pss_nil) pR))), ?_⟩
    have bt : Bd 200 t := one60 (by omega) t1
    have bb : Bd 200 b := one60 (by omega) b1
    refine ⟨_, rfl, n, rfl, rfl, by omega, ?_⟩
    have lst : ∀ {Q2 : VK}, Q2 (.int (DV.tLeast b t n)) H → tIf (tTest (tOp (rI0 fun i j => V.bl (decide (j ≤ i))) (tVar 1) (tVar 0))) (tCall spUp [] E0 (tCons (tVar 3) (tCons (tVar 0) tNil))) (tC (V.int 0)) [some (.int b), some (.int t), some (.int (n : Nat)), some (.int (2 ^ n)), none, none, none, none] H Q2 := by
      intro Q2 hQ
      unfold DV.tLeast at hQ
      refine ⟨_, rfl, _, rfl, _, _, rfl, rfl, _, rfl, ?_⟩
      by_cases c : t ≥ b
      · rw [if_pos c] at hQ
        refine iteT' (decide_eq_true c) ?_
        exact ⟨_, rfl, _, rfl, _, _, 200, rfl, by omega, bb, by decide, by decide, hQ⟩
      · rw [if_neg c] at hQ
        exact iteF' (decide_eq_false c) hQ
    refine lst ?_
    refine ⟨_, rfl, (by show 1 ≤ sizeLine; decide), fun a na => ?_⟩
    have sa := Same.new (o := .lst [.int t]) na
    refine ⟨_, rfl, _, rfl, _, _, rfl, rfl, _, _, rfl, rfl, _, rfl, ?_⟩
    by_cases c : t ≥ b - 1
    · refine iteT' (decide_eq_true c) ?_
      refine ⟨_, rfl, _, rfl, _, _, rfl, rfl, _, rfl, _, _, rfl, rfl, _, rfl, _, _, rfl, rfl, bb.d (by omega), _, rfl, _, _, rfl, rfl, Bd.w ((bt.add one_bd).div (show 0 < b by omega)) bb, _, _, rfl, rfl, (by show 3 ≤ sizeLine; decide), fun a2 na2 => ?_⟩
      refine rR _ a2 (sa.trans (Same.new na2)) (SqL.of ?_)
      unfold DV.tight
      rw [if_pos c]
      exact upd_same
    · refine iteF' (decide_eq_false c) ?_
      refine rR _ a sa (SqL.of ?_)
      unfold DV.tight
      rw [if_neg c]
      exact upd_same
end
end KD

set_option Elab.async false
set_option linter.all false
set_option maxRecDepth 100000
set_option maxHeartbeats 8000000
/-! Dividers, the program, h: the least shift -/
namespace KD
open PySem L2
open DV (Dv)
section
variable {P : Program} {w : World} {K : PySem.W.Frag} {mg : Str → Option Value} {base : Heap}
theorem scTF : FnScope ["by", "top", "shift"] ["by", "top", "shift"] (defScope sTF) := ⟨rfl, rfl, rfl, by decide +kernel, rfl, by decide +kernel, by decide +kernel⟩
theorem ok_tf {f fC fT : Addr} {fd fdC fdT : FuncData} (F : Fun K "times_for" "times_for" sTF f fd) (T : TxtI mg)
    (GC : FnOk P w K mg base CX0 3 fC fdC ["number", "least", "most"] spCheck) (kC : PySem.W.keepIn K (.ref fC) = true) (bC : Binds K fdC ["number", "least", "most"] []) (gC : mg "check_between" = some (.ref fC))
    (GT : FnOk P w K mg base CX0 2 fT fdT ["by", "top", "shift"] (spTB K)) (kT : PySem.W.keepIn K (.ref fT) = true) (bT : Binds K fdT ["by", "top", "shift"] []) (gT : mg "times_between" = some (.ref fT)) : FnOk P w K mg base CX0 4 f fd ["by", "top", "shift"] (spTB K) := by
  obtain ⟨t1, hmn⟩ := T.mn
  obtain ⟨t2, hms⟩ := T.ms
  refine F.ok scTF (fun vs H Q E h => ?_) (fun cdv A outer s H vs Q E hr h => ?_)
  · obtain ⟨b, t, n, rfl, _⟩ := h
    rfl
  · have h2 := h
    obtain ⟨b, t, n, rfl, b2, b1, t0, t1', hn, kN, kY⟩ := h
    have hr2 : Room 2 _ := hr.mono (by decide)
    refine ⟨_, pss_cons (ps_expr (pe_call GC hr rfl gC kC bC .nil pass0 (pa_cons (pv 0) (pa_cons pe_int (pa_cons (pe_glob (v := .int (10 ^ 60)) (by rfl) hmn ⟨t1, rfl⟩) pa_nil)))))
      (pss_cons (ps_expr (pe_call GC hr rfl gC kC bC .nil pass0 (pa_cons (pv 1) (pa_cons pe_int (pa_cons (pe_glob (v := .int (10 ^ 60)) (by rfl) hmn ⟨t1, rfl⟩) pa_nil)))))
      (pss_cons (ps_expr (pe_call GC hr rfl gC kC bC .nil pass0 (pa_cons (pv 2) (pa_cons pe_int (pa_cons (pe_glob (v := .int 400) (by rfl) hms ⟨t2, rfl⟩) pa_nil)))))
      (pss_one (ps_ret (pe_call GT hr2 rfl gT kT bT .nil pass0 (pa_cons (pv 0) (pa_cons (pv 1) (pa_cons (pv 2) pa_nil)))))))), ?_⟩
    refine ⟨_, rfl, _, 2, _, rfl, b2, b1, ?_⟩
    refine ⟨_, rfl, _, 1, _, rfl, t0, t1', ?_⟩
    refine ⟨_, rfl, _, 0, _, rfl, by omega, by omega, ?_⟩
    exact ⟨_, rfl, _, rfl, _, rfl, h2⟩
theorem scLS : FnScope ["by", "top", "shift"] ["by", "top"] (defScope sLS) := ⟨rfl, rfl, rfl, by decide +kernel, rfl, by decide +kernel, by decide +kernel⟩
theorem ok_ls {f fC fT : Addr} {fd fdC fdT : FuncData} (F : Fun K "least_shift" "least_shift" sLS f fd) (T : TxtI mg)
    (GC : FnOk P w K mg base CX0 3 fC fdC ["number", "least", "most"] spCheck) (kC : PySem.W.keepIn K (.ref fC) = true) (bC : Binds K fdC ["number", "least", "most"] []) (gC : mg "check_between" = some (.ref fC))
    (GT : FnOk P w K mg base CX0 2 fT fdT ["by", "top", "shift"] (spTB K)) (kT : PySem.W.keepIn K (.ref fT) = true) (bT : Binds K fdT ["by", "top", "shift"] []) (gT : mg "times_between" = some (.ref fT)) : FnOk P w K mg base CX0 4 f fd ["by", "top"] spLS := by
  obtain ⟨t1, hmn⟩ := T.mn
  refine F.ok scLS (fun vs H Q E h => ?_) (fun cdv A outer s H vs Q E hr h => ?_)
  · obtain ⟨b, t, rfl, _⟩ := h
    rfl
  · obtain ⟨b, t, rfl, b2, b1, t0, t1', hl, k⟩ := h
    have hr2 : Room 2 _ := hr.mono (by decide)
    refine ⟨_, pss_cons (ps_expr (pe_call GC hr rfl gC kC bC .nil pass0 (pa_cons (pv 0) (pa_cons pe_int (pa_cons (pe_glob (v := .int (10 ^ 60)) (by rfl) hmn ⟨t1, rfl⟩) pa_nil)))))
      (pss_cons (ps_expr (pe_call GC hr rfl gC kC bC .nil pass0 (pa_cons (pv 1) (pa_cons pe_int (pa_cons (pe_glob (v := .int (10 ^ 60)) (by rfl) hmn ⟨t1, rfl⟩) pa_nil)))))
      (pss_cons (ps_set (i := 2) scLS.nd rfl (.inl rfl) pe_int)
      (pss_cons (ps_while PassesOwn.never (pt_cmpR op_isN (pe_call GT hr2 rfl gT kT bT .nil pass0 (pa_cons (pv 0) (pa_cons (pv 1) (pa_cons (pv 2) pa_nil)))) pe_non (nomark _))
        (pss_one (ps_aug (i := 2) scLS.nd rfl (.inl rfl) pe_int ip_add)))
      (pss_one (ps_ret (pv 2)))))), ?_⟩
    refine ⟨_, rfl, _, 2, _, rfl, b2, b1, ?_⟩
    refine ⟨_, rfl, _, 1, _, rfl, t0, t1', ?_⟩
    refine while_by (fun σ G => ∃ n : Nat, σ = [some (.int b), some (.int t), some (.int (n : Nat))] ∧ Same H G ∧ n ≤ 400 ∧ ∀ k, k < n → ¬ Ex b t k)
      (fun σ _ => match σ with
        | [_, _, some (.int m)] => 401 - m.toNat
        | _ => 0) ⟨0, rfl, Same.refl H, by omega, fun k z => by omega⟩ ?_ ?_
    · rintro σ G ⟨n, rfl, sG, hn, hk⟩
      refine ⟨_, rfl, _, rfl, _, rfl, b, t, n, rfl, b2, b1, t0, t1', hn, fun G2 s2 hN => ?_, fun G2 p l g s2 hp l0 lg hA => ?_⟩
      · have h4 : n ≠ 400 := fun z => hN (by
          rw [z]
          exact DV.some_at b2 t0 (.inl hl))
        refine ⟨rfl, _, rfl, iteT' rfl ?_⟩
        refine ⟨_, rfl, _, _, rfl, rfl, ?_⟩
        refine ⟨⟨n + 1, rfl, sG.trans s2, by omega, fun k z => ?_⟩, ?_⟩
        · by_cases y : k = n
          · rw [y]; exact hN
          · exact hk k (by omega)
        · show 401 - ((n : Int) + 1).toNat < 401 - (n : Int).toNat
          omega
      · refine ⟨rfl, _, rfl, iteF' rfl ?_⟩
        exact ⟨_, rfl, k n _ (sG.trans s2) hn ⟨l, l0, (hA l l0).mpr ⟨Int.le_refl _, lg⟩⟩ hk⟩
    · rintro σ G Q1 Q2 h ⟨x1, e1, x2, e2, x3, e3, b', t', n', e4, c1, c2, c3, c4, c5, c6, c7⟩
      refine ⟨x1, e1, x2, e2, x3, e3, b', t', n', e4, c1, c2, c3, c4, c5, fun G2 s2 hN => ?_, fun G2 p l g s2 hp l0 lg hA => ?_⟩
      · obtain ⟨d1, kk, d2, d3⟩ := c6 G2 s2 hN
        exact ⟨d1, kk, d2, h _ _ d3⟩
      · obtain ⟨d1, kk, d2, d3⟩ := c7 G2 p l g s2 hp l0 lg hA
        exact ⟨d1, kk, d2, h _ _ d3⟩
end
end KD

set_option Elab.async false
set_option linter.all false
set_option maxRecDepth 100000
set_option maxHeartbeats 4000000
/-! Part D: the law's draws -/
namespace KDB
open PySem L2
abbrev sBag : Stmt := KD.top 23
abbrev sDraw : Stmt := KD.top 24
/-! ### the bag -/
def bagL (c : Addr) (p q r z : Int) : List (Key × V) := [(.inr "cells", .ref c), (.inr "at", .int p), (.inr "digits", .int q), (.inr "count", .int r), (.inr "fold", .int z)]
section
variable (c : Addr) (p q r z y : Int)
theorem get_cells : valV (bagL c p q r z) (.inr "cells" : Key) = some (.ref c) := by kernel_rfl
theorem get_at : valV (bagL c p q r z) (.inr "at" : Key) = some (.int p) := by kernel_rfl
theorem get_digits : valV (bagL c p q r z) (.inr "digits" : Key) = some (.int q) := by kernel_rfl
theorem get_count : valV (bagL c p q r z) (.inr "count" : Key) = some (.int r) := by kernel_rfl
theorem get_fold : valV (bagL c p q r z) (.inr "fold" : Key) = some (.int z) := by kernel_rfl
theorem put_at : putK (bagL c p q r z) (.inr "at" : Key) (.int y) = bagL c y q r z := by kernel_rfl
theorem put_digits : putK (bagL c p q r z) (.inr "digits" : Key) (.int y) = bagL c p y r z := by kernel_rfl
theorem put_count : putK (bagL c p q r z) (.inr "count" : Key) (.int y) = bagL c p q y z := by kernel_rfl
theorem put_fold : putK (bagL c p q r z) (.inr "fold" : Key) (.int y) = bagL c p q r y := by kernel_rfl
theorem bag_new : mergeK [] (bagL c p q r z) = bagL c p q r z := by kernel_rfl
end
/-- a bag stands at b, behind at most m draws -/
structure Bag (H : Hp) (b : Addr) (m : Nat) (c : Addr) (ns : List Int) (p q r z : Int) : Prop where
  at_ : H b = some (.dK (bagL c p q r z))
  cs : H c = some (.lst (ns.map V.int))
  len : ns.length ≤ 63
  p0 : 0 ≤ p
  q0 : 0 ≤ q
  r0 : 0 ≤ r
  rm : r ≤ m
  z0 : 0 ≤ z
  z1 : z < 2147483648
section
variable {H : Hp} {b : Addr} {m : Nat} {c : Addr} {ns : List Int} {p q r z : Int}
theorem Bag.g_cells (B : Bag H b m c ns p q r z) : DGet H b (.str "cells") (some (.ref c)) := by
  rw [← get_cells c p q r z]
  exact DGet.k (k := .inr "cells") B.at_
theorem Bag.g_at (B : Bag H b m c ns p q r z) : DGet H b (.str "at") (some (.int p)) := by
  rw [← get_at c p q r z]
  exact DGet.k (k := .inr "at") B.at_
theorem Bag.g_digits (B : Bag H b m c ns p q r z) : DGet H b (.str "digits") (some (.int q)) := by
  rw [← get_digits c p q r z]
  exact DGet.k (k := .inr "digits") B.at_
theorem Bag.g_count (B : Bag H b m c ns p q r z) : DGet H b (.str "count") (some (.int r)) := by
  rw [← get_count c p q r z]
  exact DGet.k (k := .inr "count") B.at_
theorem Bag.g_fold (B : Bag H b m c ns p q r z) : DGet H b (.str "fold") (some (.int z)) := by
  rw [← get_fold c p q r z]
  exact DGet.k (k := .inr "fold") B.at_
theorem few5 : (bagL c p q r z).length < sizeLine := by
  show 5 < sizeLine
  decide
theorem Bag.p_at (B : Bag H b m c ns p q r z) (y : Int) : DPut H b (.str "at") (.int y) (upd H b (.dK (bagL c y q r z))) := by
  rw [← put_at c p q r z y]
  exact DPut.k (k := .inr "at") B.at_ few5
theorem Bag.p_digits (B : Bag H b m c ns p q r z) (y : Int) : DPut H b (.str "digits") (.int y) (upd H b (.dK (bagL c p y r z))) := by
  rw [← put_digits c p q r z y]
  exact DPut.k (k := .inr "digits") B.at_ few5
theorem Bag.p_count (B : Bag H b m c ns p q r z) (y : Int) : DPut H b (.str "count") (.int y) (upd H b (.dK (bagL c p q y z))) := by
  rw [← put_count c p q r z y]
  exact DPut.k (k := .inr "count") B.at_ few5
theorem Bag.p_fold (B : Bag H b m c ns p q r z) (y : Int) : DPut H b (.str "fold") (.int y) (upd H b (.dK (bagL c p q r y))) := by
  rw [← put_fold c p q r z y]
  exact DPut.k (k := .inr "fold") B.at_ few5
end
def BagAt (c : Addr) (H : Hp) (b : Addr) (m : Nat) : Prop := ∃ ns p q r z, Bag H b m c ns p q r z
theorem BagAt.keep {c : Addr} {H H' : Hp} {b : Addr} {m : Nat} (h : BagAt c H b m) (s : Same H H') : BagAt c H' b m := by
  obtain ⟨ns, p, q, r, z, B⟩ := h
  exact ⟨ns, p, q, r, z, s _ _ B.at_, s _ _ B.cs, B.len, B.p0, B.q0, B.r0, B.rm, B.z0, B.z1⟩
theorem bag_upd {H : Hp} {b c : Addr} {m m' : Nat} {ns : List Int} {p q r z p' q' r' z' : Int} (B : Bag H b m c ns p q r z) (hp : 0 ≤ p') (hq : 0 ≤ q') (hr : 0 ≤ r') (hm : r' ≤ m') (hz : 0 ≤ z') (hz1 : z' < 2147483648) :
    Bag (upd H b (.dK (bagL c p' q' r' z'))) b m' c ns p' q' r' z' :=
  ⟨upd_same, by rw [upd_ne (ne_of B.cs B.at_ (by intro z; cases z))]; exact B.cs, B.len, hp, hq, hr, hm, hz, hz1⟩
def spBag (K : PySem.W.Frag) : Sp := fun vs H Q _ => ∃ (a : Addr) (ns : List Int), vs = [.ref a] ∧ SqL K H a (ns.map V.int) ∧ ns.length ≤ 63 ∧ ∀ (b c : Addr) (H' : Hp), Same H H' → BagAt c H' b 0 → Q (.ref b) H'
/-- all but b is kept -/
def But (b : Addr) (H H' : Hp) : Prop := ∀ x o, H x = some o → x ≠ b → H' x = some o
theorem But.refl (b : Addr) (H : Hp) : But b H H := fun _ _ h _ => h
theorem But.trans {b : Addr} {H H1 H2 : Hp} (h1 : But b H H1) (h2 : But b H1 H2) : But b H H2 := fun x o h n => h2 x o (h1 x o h n) n
theorem But.upd {b : Addr} {H H1 : Hp} {o : HO} (h1 : But b H H1) : But b H (upd H1 b o) := fun x u h n => by rw [upd_ne n]; exact h1 x u h n
def spDraw : Sp := fun vs H Q _ => ∃ (b c : Addr) (lim : Int) (m : Nat), vs = [.ref b, .int lim] ∧ BagAt c H b m ∧ m ≤ 100000 ∧ 0 < lim ∧ lim ≤ 1000000000000000 ∧
  ∀ (r : Int) (H' : Hp), 0 ≤ r → r < lim → BagAt c H' b (m + 1) → But b H H' → Q (.int r) H'
/-- the names that the module does not have -/
structure TxtB (mg : Str → Option Value) : Prop where
  len : mg "len" = none
  int : mg "int" = none
  list : mg "list" = none
  range : mg "range" = none
section
variable {P : Program} {w : World} {K : PySem.W.Frag} {mg : Str → Option Value} {base : Heap}
theorem scB : FnScope ["_law_script", "_law_fold", "_law_cell"] ["_law_script"] (defScope sBag) := ⟨rfl, rfl, rfl, by decide +kernel, rfl, by decide +kernel, by decide +kernel⟩
theorem ok_bag {f : Addr} {fd : FuncData} (F : Fun K "_law_bag" "_law_bag" sBag f fd) (T : TxtB mg) : FnOk P w K mg base CX0 1 f fd ["_law_script"] (spBag K) := by
  refine F.ok scB (fun vs H Q E h => ?_) (fun cdv A outer s H vs Q E hr h => ?_)
  · obtain ⟨a, ns, rfl, _⟩ := h
    rfl
  · obtain ⟨a, ns, rfl, hS, hlen, k⟩ := h
    have hu := hu_of hr
    refine ⟨_, pss_cons (ps_set (i := 1) scB.nd rfl (Or.inl rfl) pe_int)
      (pss_cons (ps_for PassesOwn.never rfl (pi_list (pv 0)) (pg_name (i := 2) scB.nd rfl (Or.inl rfl))
        (pss_one (ps_set (i := 1) scB.nd rfl (Or.inl rfl) (pe_op op_mod (pe_callTy call_int1 (by rfl) T.int (by decide +kernel) (pa_cons (pe_op op_add (pe_op op_mul (pv 1) pe_int) (pv 2)) pa_nil)) pe_int))))
      (pss_one (ps_ret (pe_disp (pps_cons pe_str (pe_callTy call_list_of (by rfl) T.list (by decide +kernel) (pa_cons (pv 0) pa_nil)) (pps_cons pe_str pe_int (pps_cons pe_str pe_int (pps_cons pe_str pe_int (pps_cons pe_str (pv 1) pps_nil))))) (by rfl) (by rfl) (fun z => by cases z) (by decide))))), ?_⟩
    refine ⟨_, rfl, a, rfl, ⟨_, hS⟩, for_list (K := K) (a := a) (xs := ns.map V.int) (fun i σ H2 => ∃ (z : Int) (v : Option V), σ = [some (.ref a), some (.int z), v] ∧ H2 = H ∧ 0 ≤ z ∧ z < 1000000021)
      ⟨0, none, rfl, rfl, by decide, by decide⟩ (fun i σ H2 _ ⟨_, _, _, e, _⟩ => by rw [e]; exact hS) ?_ ?_⟩
    · rintro i y σ H2 hi ⟨z, v, rfl, rfl, z0, z1⟩
      obtain ⟨n, rfl⟩ : ∃ n, y = V.int n := by
        rw [List.getElem?_map] at hi
        cases e : ns[i]? with
        | none => rw [e] at hi; cases hi
        | some n => rw [e] at hi; exact ⟨n, (Option.some.inj hi).symm⟩
      refine ⟨_, rfl, _, _, rfl, rfl, .inl ⟨by omega, by omega⟩, _, rfl, _, _, rfl, rfl, .inl ⟨_, rfl, _, _, rfl, rfl, (by show (0 : Int) < 1000000021; decide), ?_⟩⟩
      exact ⟨_, _, rfl, rfl, Int.emod_nonneg _ (by decide), Int.emod_lt_of_pos _ (by decide)⟩
    · rintro σ H2 ⟨z, v, rfl, rfl, z0, z1⟩
      intro p hp
      have s1 : Same H2 (upd H2 p (.dK [])) := fun b o e => by rw [upd_ne (ne_of_none e hp)]; exact e
      refine ⟨_, rfl, a, _, rfl, .inl (s1.seq hS), fun l hl => ?_⟩
      have npl : p ≠ l := fun e => by rw [e, upd_same] at hl; cases hl
      refine ⟨_, rfl, by rw [upd_ne npl]; exact upd_same, bagL l 0 0 0 z, rfl, by show 5 ≤ 15; decide, ?_⟩
      refine k p l _ (fun b o e => ?_) ⟨ns, 0, 0, 0, z, ?_, ?_, hlen, Int.le_refl _, Int.le_refl _, Int.le_refl _, Int.le_refl _, z0, by omega⟩
      · have bp := ne_of_none e hp
        have bl : b ≠ l := fun z => by rw [← z, upd_ne bp, e] at hl; cases hl
        rw [upd_ne bp, upd_ne bl, upd_ne bp]
        exact e
      · rw [bag_new]
        exact upd_same
      · rw [upd_ne npl.symm]
        exact upd_same
theorem scD : FnScope ["_law_bag_here", "_law_limit", "_law_cell", "_law_digit", "_law_base", "_law_found"] ["_law_bag_here", "_law_limit"] (defScope sDraw) := ⟨rfl, rfl, rfl, by decide +kernel, rfl, by decide +kernel, by decide +kernel⟩
theorem ok_draw {f : Addr} {fd : FuncData} (F : Fun K "_law_draw" "_law_draw" sDraw f fd) (T : TxtB mg) : FnOk P w K mg base CX0 1 f fd ["_law_bag_here", "_law_limit"] spDraw := by
  refine F.ok scD (fun vs H Q E h => ?_) (fun cdv A outer s H vs Q E hr h => ?_)
  · obtain ⟨b, c, lim, m, rfl, _⟩ := h
    rfl
  · obtain ⟨b, c, lim, m, rfl, hB, hm, h0, h1, k⟩ := h
    have hu := hu_of hr
    -- the end: a digit, or a number of the fold
    obtain ⟨t2, p2, r2⟩ : ∃ t2, PSs (cxOf CX0 P w K mg base ["_law_bag_here", "_law_limit", "_law_cell", "_law_digit", "_law_base", "_law_found"] "_law_draw" (defScope sDraw) f cdv A outer s H E).nox ((defBody sDraw).drop 2) t2 ∧
        ∀ (H1 : Hp) (v : Option V), BagAt c H1 b (m + 1) → But b H H1 → t2 { nx := fun _ H' => Q .non H', rt := Q } [some (.ref b), some (.int lim), v, none, none, none] H1 := by
      refine ⟨_, pss_cons (ps_if (pt_cmpR op_gt (pe_dget hu (pv 0) pe_str (fun _ _ => rfl)) pe_int (nomark _))
          (pss_cons (ps_set (i := 3) scD.nd rfl (Or.inl rfl) (pe_op op_mod (pe_callTy call_int1 (by rfl) T.int (by decide +kernel) (pa_cons (pe_dget hu (pv 0) pe_str (fun _ _ => rfl)) pa_nil)) (pv 1)))
          (pss_cons (ps_dput hu (pv 0) pe_str (pe_op op_fdivW (pe_dget hu (pv 0) pe_str (fun _ _ => rfl)) (pv 1)) rfl)
          (pss_one (ps_ret (pv 3))))) pss_nil)
        (pss_cons (ps_set (i := 4) scD.nd rfl (Or.inl rfl) (pe_op op_add (pe_op op_add (pe_dget hu (pv 0) pe_str (fun _ _ => rfl)) (pe_op op_mul (pe_dget hu (pv 0) pe_str (fun _ _ => rfl)) pe_int)) pe_int))
        (pss_cons (ps_set (i := 5) scD.nd rfl (Or.inl rfl) (pe_op op_fdiv (pe_callTy call_int1 (by rfl) T.int (by decide +kernel) (pa_cons (pe_op op_mod (pe_op op_pow (pv 4) pe_int) pe_int) pa_nil)) pe_int))
        (pss_one (ps_ret (pe_ifExp (pt_cmpR op_lt (pv 1) (pe_op op_pow pe_int pe_int) (nomark _)) (pe_op op_mod (pv 5) (pv 1)) (pe_op op_mod (pe_callTy call_int1 (by rfl) T.int (by decide +kernel) (pa_cons (pe_op op_pow (pv 5) pe_int) pa_nil)) (pv 1))))))), ?_⟩
      intro H1 v ⟨ns, p, q, r, z, B⟩ hk
      refine ⟨_, rfl, b, _, rfl, B.g_digits, _, _, rfl, rfl, _, rfl, ?_⟩
      refine ite2 (fun hq => ?_) (fun hq => ?_)
      · refine ⟨_, rfl, b, _, rfl, B.g_digits, .inl ⟨_, rfl, _, rfl, _, _, rfl, rfl, h0, ?_⟩⟩
        have hw : CDivW q lim := wide_div (b := 60) h0 (by
          have e : (2 : Nat) ^ 60 = 1152921504606846976 := by decide
          rw [e]
          omega) (by decide) (by decide)
        refine ⟨_, rfl, b, _, rfl, B.g_digits, _, rfl, q, lim, rfl, rfl, hw, _, rfl, b, _, rfl, B.p_digits _, _, rfl, ?_⟩
        exact k _ _ (Int.emod_nonneg _ (by omega)) (Int.emod_lt_of_pos _ h0) ⟨ns, _, _, _, _, bag_upd B B.p0 (Int.ediv_nonneg B.q0 (by omega)) B.r0 B.rm B.z0 B.z1⟩ hk.upd
      · refine ⟨_, rfl, b, _, rfl, B.g_fold, _, rfl, b, _, rfl, B.g_count, r, 7919, rfl, rfl, .inl ⟨by have := B.r0; omega, by have := B.rm; omega⟩, z, _, rfl, rfl, z + r * 7919, 37, rfl, rfl, ?_⟩
        have hb0 : 0 ≤ z + r * 7919 + 37 := by
          have := B.r0
          have := B.z0
          omega
        have hb1 : (z + r * 7919 + 37).natAbs < 2 ^ 64 := by
          have e : (2 : Nat) ^ 64 = 18446744073709551616 := by decide
          rw [e]
          have := B.rm
          have := B.r0
          have := B.z1
          omega
        have hl : ∀ x y : Int, 0 ≤ x % lim ∧ x % lim < lim := fun x _ => ⟨Int.emod_nonneg _ (by omega), Int.emod_lt_of_pos _ h0⟩
        refine ⟨_, rfl, _, 17, rfl, rfl, ⟨by decide, by decide, hb1⟩, _, _, rfl, rfl, (by show (0 : Int) < 2305843009213693951; decide), .inl ⟨_, rfl, _, 128, rfl, rfl, ⟨by decide, by decide⟩, ?_⟩⟩
        have f0 : 0 ≤ (z + r * 7919 + 37) ^ Int.toNat 17 % 2305843009213693951 / 128 := Int.ediv_nonneg (Int.emod_nonneg _ (by decide)) (by decide)
        have f1 : (z + r * 7919 + 37) ^ Int.toNat 17 % 2305843009213693951 / 128 < 18446744073709551616 := by
          have := Int.emod_lt_of_pos ((z + r * 7919 + 37) ^ Int.toNat 17) (show (0 : Int) < 2305843009213693951 by decide)
          omega
        have f2 : ((z + r * 7919 + 37) ^ Int.toNat 17 % 2305843009213693951 / 128).natAbs < 2 ^ 64 := by
          have e : (2 : Nat) ^ 64 = 18446744073709551616 := by decide
          rw [e]
          omega
        have B' : BagAt c H1 b (m + 1) := ⟨ns, p, q, r, z, B⟩
        refine ⟨_, rfl, 10, 15, rfl, rfl, ⟨by decide, by decide, by decide⟩, _, _, rfl, rfl, _, rfl, ?_⟩
        refine ite2 (fun _ => ?_) (fun _ => ?_)
        · exact ⟨_, rfl, _, rfl, _, _, rfl, rfl, h0, k _ _ (hl _ 0).1 (hl _ 0).2 B' hk⟩
        · exact ⟨_, rfl, _, 3, rfl, rfl, ⟨by decide, by decide, f2⟩, .inl ⟨_, rfl, _, rfl, _, _, rfl, rfl, h0, k _ _ (hl _ 0).1 (hl _ 0).2 B' hk⟩⟩
    refine ⟨_, pss_cons (ps_dput hu (pv 0) pe_str (pe_op op_add (pe_dget hu (pv 0) pe_str (fun _ _ => rfl)) pe_int) rfl)
      (pss_cons (ps_if (PW.pt (pw_and (pt_cmpR op_eq (pe_dget hu (pv 0) pe_str (fun _ _ => rfl)) pe_int (nomark _)) (pw_and1 (pt_cmpR op_lt (pe_dget hu (pv 0) pe_str (fun _ _ => rfl)) (pe_callB call_len_seq (by rfl) T.len PySem.boot_len (pa_cons (pe_dget hu (pv 0) pe_str (fun _ _ => rfl)) pa_nil)) (nomark _)))))
        (pss_cons (ps_set (i := 2) scD.nd rfl (Or.inl rfl) (pe_ix ix_list (pe_dget hu (pv 0) pe_str (fun _ _ => rfl)) (pe_dget hu (pv 0) pe_str (fun _ _ => rfl)) (fun _ _ => rfl)))
        (pss_cons (ps_dput hu (pv 0) pe_str (pe_op op_add (pe_dget hu (pv 0) pe_str (fun _ _ => rfl)) pe_int) rfl)
        (pss_one (ps_if (pt_cmpR op_ge (pv 2) (pe_op op_pow pe_int pe_int) (nomark _))
          (pss_one (ps_dput hu (pv 0) pe_str (pe_op op_sub (pv 2) (pe_op op_pow pe_int pe_int)) rfl))
          (pss_one (ps_dput hu (pv 0) pe_str (pe_op op_mod (pe_callTy call_int1 (by rfl) T.int (by decide +kernel) (pa_cons (pe_op op_add (pe_op op_mul (pe_dget hu (pv 0) pe_str (fun _ _ => rfl)) pe_int) (pv 2)) pa_nil)) pe_int) rfl))))))
        pss_nil) p2), ?_⟩
    obtain ⟨ns, p, q, r, z, B⟩ := hB
    refine ⟨_, rfl, b, _, rfl, B.g_count, r, 1, rfl, rfl, _, rfl, b, _, rfl, B.p_count _, ?_⟩
    have B1 : Bag (upd H b (.dK (bagL c p q (r + 1) z))) b (m + 1) c ns p q (r + 1) z := bag_upd B B.p0 B.q0 (by have := B.r0; omega) (by have := B.rm; omega) B.z0 B.z1
    have k1 : But b H (upd H b (.dK (bagL c p q (r + 1) z))) := (But.refl b H).upd
    refine ⟨_, rfl, b, _, rfl, B1.g_digits, rfl, _, rfl, ?_⟩
    refine ite2 (fun hq => ?_) (fun hq => ?_)
    · refine ⟨_, rfl, b, _, rfl, B1.g_at, _, rfl, b, _, rfl, B1.g_cells, c, _, rfl, .inl (SqL.of B1.cs), _, _, rfl, rfl, _, rfl, ?_⟩
      refine ite2 (fun hp => ?_) (fun hp => ?_)
      · have hp' : p < ((ns.map V.int).length : Int) := of_decide_eq_true hp
        rw [List.length_map] at hp'
        have hpn : p.toNat < ns.length := by have := B.p0; omega
        obtain ⟨cell, hcell⟩ : ∃ cell : Int, ns[p.toNat]? = some cell := ⟨_, List.getElem?_eq_getElem hpn⟩
        have hit : (ns.map V.int)[p.toNat]? = some (V.int cell) := by simp [hcell]
        have hat : atI (ns.map V.int) p = some (V.int cell) := by
          have e : p = (p.toNat : Int) := by have := B.p0; omega
          rw [e]
          exact atI_nat hit
        have B2 : Bag (upd (upd H b (.dK (bagL c p q (r + 1) z))) b (.dK (bagL c (p + 1) q (r + 1) z))) b (m + 1) c ns (p + 1) q (r + 1) z := bag_upd B1 (by have := B.p0; omega) B1.q0 B1.r0 B1.rm B1.z0 B1.z1
        refine ⟨_, rfl, b, _, rfl, B1.g_cells, _, rfl, b, _, rfl, B1.g_at, c, _, p, _, rfl, rfl, SqL.of B1.cs, hat, ?_⟩
        refine ⟨_, rfl, b, _, rfl, B1.g_at, p, 1, rfl, rfl, _, rfl, b, _, rfl, B1.p_at _, ?_⟩
        refine ⟨_, rfl, 10, 18, rfl, rfl, ⟨by decide, by decide, by decide⟩, _, _, rfl, rfl, _, rfl, ?_⟩
        refine ite2 (fun hc => ?_) (fun hc => ?_)
        · have hc' : (10 : Int) ^ Int.toNat 18 ≤ cell := of_decide_eq_true hc
          refine ⟨_, rfl, 10, 18, rfl, rfl, ⟨by decide, by decide, by decide⟩, _, _, rfl, rfl, _, rfl, b, _, rfl, B2.p_digits _, ?_⟩
          exact r2 _ _ ⟨ns, _, _, _, _, bag_upd B2 B2.p0 (by omega) B2.r0 B2.rm B2.z0 B2.z1⟩ k1.upd.upd
        · refine ⟨_, rfl, b, _, rfl, B2.g_fold, z, 69069, rfl, rfl, .inl ⟨by have := B.z0; omega, by have := B.z1; omega⟩, _, rfl, _, cell, rfl, rfl, .inl ⟨_, rfl, _, 2147483629, rfl, rfl, (by show (0 : Int) < 2147483629; decide), _, rfl, b, _, rfl, B2.p_fold _, ?_⟩⟩
          refine r2 _ _ ⟨ns, _, _, _, _, bag_upd B2 B2.p0 B2.q0 B2.r0 B2.rm (Int.emod_nonneg _ (by decide)) ?_⟩ k1.upd.upd
          have := Int.emod_lt_of_pos (z * 69069 + cell) (show (0 : Int) < 2147483629 by decide)
          omega
      · exact r2 _ none ⟨ns, p, q, _, z, B1⟩ k1
    · exact r2 _ none ⟨ns, p, q, _, z, B1⟩ k1
end
end KDB

set_option Elab.async false
set_option linter.all false
set_option maxRecDepth 100000
set_option maxHeartbeats 4000000
/-! ranges of great numbers, walked -/
namespace LR
open PySem PySem.F
open Sem (wp)
theorem owner : Manifest.owners.lookup (String.ofList ['r', 'o', 't', 'a', 'r', 'e', 't', 'i', '_', 'e', 'g', 'n', 'a', 'r', 'g', 'n', 'o', 'l'].reverse) = some Manifest.sig_longrange_iterator := by kernel_rfl
theorem slot_next : Slot "longrange_iterator" "__next__" "longrange_iterator.__next__" :=
  .of (owner := "longrange_iterator") (n := "__next__") (by rw [typeLookup_type, builtinLookup_eq_fast]; kernel_rfl) (by decide +kernel) (by decide +kernel) (by decide +kernel)
    (by first | exact .inl (by decide +kernel) | exact .inr (by decide +kernel)) (by rw [isSubtype_type]; kernel_rfl)
theorem slot_iter : Slot "longrange_iterator" "__iter__" "longrange_iterator.__iter__" :=
  .of (owner := "longrange_iterator") (n := "__iter__") (by rw [typeLookup_type, builtinLookup_eq_fast]; kernel_rfl) (by decide +kernel) (by decide +kernel) (by decide +kernel)
    (by first | exact .inl (by decide +kernel) | exact .inr (by decide +kernel)) (by rw [isSubtype_type]; kernel_rfl)
theorem entry_next : entryFor table "longrange_iterator.__next__" = some Builtin.«longrange_iterator.__next__» := entryFor_of_tree (by kernel_rfl)
theorem args_next (a : Value) : argsOk "longrange_iterator.__next__" ⟨[a], []⟩ := by
  unfold argsOk; rw [signature?_of (id := "longrange_iterator.__next__") (n := ['_', '_', 't', 'x', 'e', 'n', '_', '_']) (o := ['r', 'o', 't', 'a', 'r', 'e', 't', 'i', '_', 'e', 'g', 'n', 'a', 'r', 'g', 'n', 'o', 'l']) (by kernel_rfl) owner]; kernel_rfl
theorem args_iter (a : Value) : argsOk "longrange_iterator.__iter__" ⟨[a], []⟩ := by
  unfold argsOk; rw [signature?_of (id := "longrange_iterator.__iter__") (n := ['_', '_', 'r', 'e', 't', 'i', '_', '_']) (o := ['r', 'o', 't', 'a', 'r', 'e', 't', 'i', '_', 'e', 'g', 'n', 'a', 'r', 'g', 'n', 'o', 'l']) (by kernel_rfl) owner]; kernel_rfl
theorem entry_iter : entryFor table "longrange_iterator.__iter__" = some Builtin.«dict_keyiterator.__iter__» :=
  entryFor_alias (id' := "dict_keyiterator.__iter__") (by kernel_rfl) (by first | rfl | decide +kernel | (unfold String.splitOn; simp +decide [String.splitOnAux])) (by decide +kernel) (by kernel_rfl)
abbrev IsLR (h : Heap) (it : Addr) (x left step : Int) : Prop := h.get? it = some { cls := .type "longrange_iterator", dict := none, data := .fields #[rawInt x, rawInt left, rawInt step], slots := #[] }
section
variable {prog : Program} {w : World} {A : Around} {E : Value → Shared → Prop} {s : Shared}
theorem iter_self {it : Addr} {x left step : Int} {Q : Value → Shared → Prop} (hit : IsLR s.heap it x left step) (h : Q (.ref it) s) : wpAny (model prog w) A (pyIter (.ref it)) Q E s := by
  have hT : s.TypeIs (.ref it) "longrange_iterator" := ⟨_, hit, rfl⟩
  refine wpAny_pyIter_slot hT slot_iter (wpAny_call_entry slot_iter hT entry_iter ?_ (args_iter _))
  show wpAny _ _ (ret (.ref it)) _ _ s
  exact wpAny_pure ⟨_, rfl, "longrange_iterator", _, hT, slot_next.lookup, h⟩
theorem iter_range {r : Addr} {a b c : Int} {t u v : Tok} {Q : Value → Shared → Prop} (hr : IsRange s.heap r a b c t u v) (hsmall : Builtin.Range.small a b c = false)
    (hQ : Q (.ref s.heap.objs.size) { s with heap := s.heap.push { cls := .type "longrange_iterator", data := .fields #[rawInt a, rawInt (Builtin.Range.rangeSize a b c), rawInt c] } }) :
    wpAny (model prog w) A (pyIter (.ref r)) Q E s := by
  have hT : s.TypeIs (.ref r) "range" := ⟨_, hr, rfl⟩
  refine wpAny_pyIter_slot hT F.slot_range_iter (call_meets F.slot_range_iter hT F.entry_range_iter (F.args_range_iter_1 _)
    (AutoRange.range___iter___range_0 r a b c t u v (by unfold Builtin.Range.small at hsmall; rw [hsmall]; rfl)) ⟨hr, ?_⟩)
  unfold Builtin.Range.small at hsmall
  rw [hsmall]
  exact ⟨"longrange_iterator", _, ⟨_, Heap.get?_push_size _ rfl, rfl⟩, slot_next.lookup, hQ⟩
theorem meets_next (it : Addr) (x left step : Int) (hc0 : ¬left ≤ 0) :
    Meets (Builtin.«longrange_iterator.__next__» ⟨[.ref it], []⟩) (fun _ R s => s.heap.get? it = some { cls := .type "longrange_iterator", dict := none, data := .fields #[rawInt x, rawInt left, rawInt step], slots := #[] } ∧ R (.ok (.ret (Value.int x s.toks))) { s with heap := (s.heap.update it (Obj.mapFields fun x_1 => x_1.setIfInBounds 0 (rawInt (x + step)))).update it (Obj.mapFields fun x => x.setIfInBounds 1 (rawInt (left - 1))), toks := s.toks + 1 }) :=
  .of_wp fun prog w A R s h => by
    obtain ⟨hp, g, d, tk, os⟩ := s
    obtain ⟨hl, h⟩ := h
    wp_walk
    exact ⟨_, rfl, h⟩
theorem bound_next (it : Addr) : bound "longrange_iterator.__next__" ⟨[.ref it], []⟩ = pure #[some (.ref it)] := by
  first
  | kernel_rfl
  | rfl
theorem int_field {it : Addr} {o : Obj} {vs : Array Value} {i : Nat} {v : Int} {id : String} {Q : Int → Shared → Prop} (h : s.heap.get? it = some o) (hd : o.data = .fields vs) (hv : vs[i]? = some (rawInt v)) (q : Q v s) : wpAny (model prog w) A (Builtin.Iterators_pickling.intField id (.ref it) i) Q E s := by
  unfold Builtin.Iterators_pickling.intField
  refine wpAny_bind (wpAny_field h hd hv ?_)
  exact wpAny_pure q
theorem next_item {it : Addr} {x left step : Int} {Q : Option Value → Shared → Prop} (hit : IsLR s.heap it x left step) (hleft : 0 < left)
    (hQ : ∀ h', IsLR h' it (x + step) (left - 1) step → Heap.SameBut it s.heap h' → Q (some (.int x s.toks)) { s with heap := h', toks := s.toks + 1 }) :
    wpAny (model prog w) A (pyNext (.ref it)) Q E s := by
  have hT : s.TypeIs (.ref it) "longrange_iterator" := ⟨_, hit, rfl⟩
  unfold pyNext
  refine wpAny_bind (wpAny_attempt (wpAny_callSpecial?_slot (name := Str.ofString "__next__") hT slot_next
    (call_meets slot_next hT entry_next (args_next _) (meets_next it x left step (by omega)) ⟨hit, ?_⟩)))
  exact wpAny_pure (hQ _ (Heap.get?_update_self _ (Heap.get?_update_self _ hit rfl) rfl) ((Heap.SameBut.update ..).trans (Heap.SameBut.update ..)))
theorem next_end {it : Addr} {x left step : Int} {Q : Option Value → Shared → Prop} (hh : A.handled = none) (hit : IsLR s.heap it x left step) (hleft : left ≤ 0)
    (hQ : ∀ h', Heap.ExtBut it s.heap h' → Q none { s with heap := h' }) : wpAny (model prog w) A (pyNext (.ref it)) Q E s := by
  have hT : s.TypeIs (.ref it) "longrange_iterator" := ⟨_, hit, rfl⟩
  unfold pyNext
  refine wpAny_bind (wpAny_attempt (wpAny_callSpecial?_slot (name := Str.ofString "__next__") hT slot_next
    (wpAny_call_entry slot_next hT entry_next ?_ (args_next _))))
  show wpAny _ _ (bound "longrange_iterator.__next__" ⟨[.ref it], []⟩ >>= _) _ _ s
  rw [bound_next]
  show wpAny _ _ (Builtin.Iterators_pickling.intField "longrange_iterator.__next__" (.ref it) 0 >>= _) _ _ s
  refine wpAny_bind (int_field hit rfl (v := x) rfl ?_)
  show wpAny _ _ (Builtin.Iterators_pickling.intField "longrange_iterator.__next__" (.ref it) 1 >>= _) _ _ s
  refine wpAny_bind (int_field hit rfl (v := left) rfl ?_)
  show wpAny _ _ (Builtin.Iterators_pickling.intField "longrange_iterator.__next__" (.ref it) 2 >>= _) _ _ s
  refine wpAny_bind (int_field hit rfl (v := step) rfl ?_)
  show wpAny _ _ (if left ≤ 0 then _ else _) _ _ s
  rw [if_pos hleft]
  refine wpAny_bind (wpAny_rule ?_)
  show wpAny _ _ (newExc (.type "StopIteration") [] >>= _) _ _ _
  refine wpAny_bind ?_
  simp only [newExc, newTuple]
  refine wpAny_bind (wpAny_newObj_type ?_ (by size_fits))
  refine wpAny_bind (m := firstArgMember _ _) (wpAny_of_eq (a := Value.none) (by first | rfl | (simp only [firstArgMember]; rfl)) ?_)
  refine wpAny_newObj_type ?_ (by size_fits)
  refine wpAny_bind ?_
  simp only [raiseNew]
  refine wpAny_bind (wpAny_handled ?_)
  first | rw [show A.in1.handled = none from hh] | rw [hh]
  refine wpAny_bind (wpAny_pure (wpAny_throw ?_))
  refine wpAny_bind (wpAny_isInstance (T := "StopIteration") (b := true) ⟨_, Heap.get?_push_size _ rfl, rfl⟩ isSubtype_stop ?_)
  exact wpAny_pure (hQ _ (((Heap.ExtBut.refl it s.heap).push _).push _))
end
end LR

set_option Elab.async false
set_option linter.all false
set_option maxRecDepth 100000
set_option maxHeartbeats 4000000
/-! ranges of great numbers, the rule -/
namespace L2
open PySem PySem.Spec PyProof.Rows
open LR (IsLR)
theorem turn_long {P : Program} {w : World} {K : PySem.W.Frag} {tg : Expr} (it : Addr) (lo : Int) (n : Nat) : Turn P w K tg (Itr lo n) [it] it (fun i h => IsLR h it (lo + (i : Nat) * 1) ((n : Int) - (i : Nat)) 1) where
  mem := by simp
  obj := fun i h st b hb => by
    have e : b = it := by simpa using hb
    subst e
    exact ⟨_, st, fun v z => by
      have z' : Data.fields _ = Data.cell v := z
      cases z'⟩
  keep := fun i h h' st k => k it (by simp) _ st
  item := by
    intro X hP hw hK hc i pins s σ H E I hf st hg
    subst hP hw hK
    obtain ⟨f0, f1, f2, f3, f4, f5⟩ := hf it (by simp)
    have hi : i < n := hg
    refine LR.next_item st (by omega) fun h' hit' hs' => ?_
    have I1 : Inv X pins σ H { s with heap := h', toks := s.toks + 1 } := I.turned (fun b o hb e => hs'.extBut b o hb e) f0 f1 f3 f4 f5
    have e1 : lo + ((i + 1 : Nat) : Int) * 1 = lo + (i : Int) * 1 + 1 := by omega
    have e2 : (n : Int) - ((i + 1 : Nat) : Int) = (n : Int) - (i : Int) - 1 := by omega
    have st' : IsLR h' it (lo + ((i + 1 : Nat) : Int) * 1) ((n : Int) - ((i + 1 : Nat) : Int)) 1 := by rw [e1, e2]; exact hit'
    refine ⟨_, rfl, go_of (s := { s with heap := h', toks := s.toks + 1 }) (n := "longrange_iterator") st' rfl rfl (by decide) ⟨.int (lo + i), H, I1, ⟨s.toks, ?_⟩, ⟨rfl, rfl⟩, st', fun b hb => (hf b hb).1⟩⟩
    rw [Int.mul_one]
  done := by
    intro X hP hw hK hc i pins s σ H E I hf st hg
    subst hP hw hK
    obtain ⟨f0, f1, f2, f3, f4, f5⟩ := hf it (by simp)
    exact LR.next_end (I.ok.hd hc) st (by have : n ≤ i := hg; omega) fun h' eb => ⟨rfl, I.turned (t' := s.toks) (fun b o hb e => eb b o hb e) f0 f1 f3 f4 f5⟩
  self := fun _ _ _ _ _ st h => LR.iter_self st h
section
variable {X : Cx} {tg : Expr}
theorem range_any {pins : List (Addr × Obj)} {σ : St} {H : Hp} {s : Shared} {R : It → Hp → Prop} {E : Value → Shared → Prop} {lo hi : Int} {t u v : Tok} {tk : Nat} (I : Inv X pins σ H s)
    (q : R (Itr lo (hi - lo).toNat) H) : wpAny (model X.prog X.w) X.A (pyIter (.ref s.heap.objs.size)) (PIE X pins σ tg R) E { s with heap := s.heap.push { cls := .type "range", data := .fields #[.int lo t, .int hi u, .int 1 v] }, toks := tk } := by
  have I1 : Inv X pins σ H { s with heap := s.heap.push { cls := .type "range", data := .fields #[.int lo t, .int hi u, .int 1 v] }, toks := tk } := I.kept fun b o e => Heap.get?_push_of_some _ e
  cases hs : Builtin.Range.small lo hi 1 with
  | true =>
    refine wpAny_pyIter_range (IsRange.new ..) hs ?_
    refine ⟨(s.heap.push { cls := .type "range", data := .fields #[.int lo t, .int hi u, .int 1 v] }).objs.size, [(s.heap.push { cls := .type "range", data := .fields #[.int lo t, .int hi u, .int 1 v] }).objs.size], _, _, H, rfl,
      I1.kept (t' := tk) fun b o e => Heap.get?_push_of_some _ e, turn_range _ lo (hi - lo).toNat, ?_, fun b hb => ?_, q⟩
    · have e1 : lo + ((0 : Nat) : Int) * 1 = lo := by simp
      have e2 : (((hi - lo).toNat : Nat) : Int) - ((0 : Nat) : Int) = Builtin.Range.rangeSize lo hi 1 := by rw [rangeSize_one]; split <;> omega
      show IsRangeIter _ _ (lo + ((0 : Nat) : Int) * 1) ((((hi - lo).toNat : Nat) : Int) - ((0 : Nat) : Int)) 1
      rw [e1, e2]
      exact Heap.get?_push_size _ rfl
    · have e : b = (s.heap.push { cls := .type "range", data := .fields #[.int lo t, .int hi u, .int 1 v] }).objs.size := by simpa using hb
      subst e
      exact I1.fpOk (Nat.le_refl _) (I1.hok.fresh (Nat.le_refl _))
  | false =>
    refine LR.iter_range (IsRange.new ..) hs ?_
    refine ⟨(s.heap.push { cls := .type "range", data := .fields #[.int lo t, .int hi u, .int 1 v] }).objs.size, [(s.heap.push { cls := .type "range", data := .fields #[.int lo t, .int hi u, .int 1 v] }).objs.size], _, _, H, rfl,
      I1.kept (t' := tk) fun b o e => Heap.get?_push_of_some _ e, turn_long _ lo (hi - lo).toNat, ?_, fun b hb => ?_, q⟩
    · have e1 : lo + ((0 : Nat) : Int) * 1 = lo := by simp
      have e2 : (((hi - lo).toNat : Nat) : Int) - ((0 : Nat) : Int) = Builtin.Range.rangeSize lo hi 1 := by rw [rangeSize_one]; split <;> omega
      show IsLR _ _ (lo + ((0 : Nat) : Int) * 1) ((((hi - lo).toNat : Nat) : Int) - ((0 : Nat) : Int)) 1
      rw [e1, e2]
      exact Heap.get?_push_size _ rfl
    · have e : b = (s.heap.push { cls := .type "range", data := .fields #[.int lo t, .int hi u, .int 1 v] }).objs.size := by simpa using hb
      subst e
      exact I1.fpOk (Nat.le_refl _) (I1.hok.fresh (Nat.le_refl _))
def iRngB (ta : TA) : TI := fun σ H R => ta σ H fun vs H1 => ∃ i j : Int, vs = [.int i, .int j] ∧ R (Itr i (j - i).toNat) H1
theorem pi_rangeB {a b : Expr} {ta : TA} {p pos : Pos} (hg : Gl X "range") (hm : X.mg "range" = none) (ha : PA X [a, b] ta) (hs : starEach [a, b] X.env = [(false, eval a X.env), (false, eval b X.env)] := by rfl) (hs2 : starEach [b] X.env = [(false, eval b X.env)] := by rfl) :
    PI X tg (.Call (.Name "range" p) [a, b] [] pos) (iRngB ta) := by
  refine ⟨fun pins s σ H R I h => ?_⟩
  refine Call_ (ld_blt I hg hm boot_range (PyProof.Rows.callWith_type1 (thn (ha.run pos pins s σ H _ I h) fun us s1 ⟨vs, H1, I1, r1, q1⟩ => ?_) (by rw [hs, hs2]) (by rw [hs2]; rfl)))
  obtain ⟨i, j, e, q⟩ := q1
  subst e
  cases r1 with
  | cons r rr =>
    cases rr with
    | cons r' rr =>
      cases rr
      obtain ⟨t, rfl⟩ := r
      obtain ⟨t', rfl⟩ := r'
      exact call_range_2 (range_any I1 q)
end
end L2

set_option Elab.async false
set_option linter.all false
set_option maxRecDepth 100000
set_option maxHeartbeats 8000000
/-! k62, the law, a: picks, powers, great numbers, what is right -/
namespace KD
open PySem L2
open DV (Dv)
open KDB (TxtB BagAt spBag spDraw)
abbrev sPick : Stmt := top 25
abbrev sPower : Stmt := top 26
abbrev sGreat : Stmt := top 27
abbrev sIsR : Stmt := top 28
abbrev sHolds : Stmt := top 29
abbrev sFalls : Stmt := top 30
abbrev sFar : Stmt := top 31
abbrev sLaw : Stmt := top 32
theorem bag_obj {c : Addr} {H : Hp} {b : Addr} {m : Nat} (B : BagAt c H b m) : ∃ o, H b = some (.dK o) := by
  obtain ⟨ns, p, q, r, z, B⟩ := B
  exact ⟨_, B.at_⟩
theorem BagAt.up {c : Addr} {H : Hp} {b : Addr} {m n : Nat} (B : BagAt c H b m) (h : m ≤ n) : BagAt c H b n := by
  obtain ⟨ns, p, q, r, z, B⟩ := B
  exact ⟨ns, p, q, r, z, B.at_, B.cs, B.len, B.p0, B.q0, B.r0, Int.le_trans B.rm (by omega), B.z0, B.z1⟩
theorem bag_ne {c : Addr} {H : Hp} {b a : Addr} {m : Nat} {o : HO} (B : BagAt c H b m) (h : H a = some o) (ho : ∀ l, o ≠ .dK l) : a ≠ b := fun z => by
  obtain ⟨l, e⟩ := bag_obj B
  rw [z, e] at h
  exact ho l (Option.some.inj h).symm
theorem DvAt.but {C : Addr} {H H' : Hp} {p : Addr} {D : Dv} {c b : Addr} {m : Nat} (h : DvAt C H p D) (B : BagAt c H b m) (k : But b H H') : DvAt C H' p D := by
  obtain ⟨dx, e⟩ := h
  exact ⟨dx, k _ _ e (bag_ne B e (by intro l z; cases z))⟩
def spPick : Sp := fun vs H Q _ => ∃ (b c a : Addr) (m : Nat) (xs : List V), vs = [.ref b, .ref a] ∧ BagAt c H b m ∧ m ≤ 100000 ∧ H a = some (.lst xs) ∧ xs ≠ [] ∧ xs.length ≤ 1000 ∧ ∀ v H', v ∈ xs → BagAt c H' b (m + 1) → But b H H' → Q v H'
def spPower : Sp := fun vs H Q _ => ∃ n : Nat, vs = [.int (n : Nat)] ∧ n ≤ 400 ∧ Q (.int (2 ^ n)) H
def spGreat : Sp := fun vs H Q _ => ∃ (b c : Addr) (m : Nat) (most : Int), vs = [.ref b, .int most] ∧ BagAt c H b m ∧ m ≤ 90000 ∧ 0 < most ∧ ∀ r H', 0 ≤ r → r < most → BagAt c H' b (m + 20) → But b H H' → Q (.int r) H'
def spIsR (C : Addr) : Sp := fun vs H Q _ => ∃ (p : Addr) (D : Dv) (x : Int), vs = [.ref p, .int x] ∧ DvAt C H p D ∧ Lim D ∧ Bd 2000 x ∧ Q (.bl (decide (D.R x))) H
section
variable {P : Program} {w : World} {K : PySem.W.Frag} {mg : Str → Option Value} {base : Heap}
theorem scPick : FnScope ["_law_bag_here", "_law_pool"] ["_law_bag_here", "_law_pool"] (defScope sPick) := ⟨rfl, rfl, rfl, by decide +kernel, rfl, by decide +kernel, by decide +kernel⟩
theorem ok_pick {f fD : Addr} {fd fdD : FuncData} (F : Fun K "_law_pick" "_law_pick" sPick f fd) (T : TxtB mg)
    (GD : FnOk P w K mg base CX0 1 fD fdD ["_law_bag_here", "_law_limit"] spDraw) (kD : PySem.W.keepIn K (.ref fD) = true) (bD : Binds K fdD ["_law_bag_here", "_law_limit"] []) (gD : mg "_law_draw" = some (.ref fD)) : FnOk P w K mg base CX0 2 f fd ["_law_bag_here", "_law_pool"] spPick := by
  refine F.ok scPick (fun vs H Q E h => ?_) (fun cdv A outer s H vs Q E hr h => ?_)
  · obtain ⟨b, c, a, m, xs, rfl, _⟩ := h
    rfl
  · obtain ⟨b, c, a, m, xs, rfl, hB, hm, ha, hne, hlen, k⟩ := h
    refine ⟨_, pss_one (ps_ret (pe_ix ix_list (pv 1) (pe_call GD hr rfl gD kD bD .nil pass0 (pa_cons (pv 0) (pa_cons (pe_callB call_len_seq (by rfl) T.len PySem.boot_len (pa_cons (pv 1) pa_nil)) pa_nil))) (fun _ _ => rfl))), ?_⟩
    have hp : 0 < xs.length := List.length_pos_iff.mpr hne
    refine ⟨_, rfl, _, rfl, _, rfl, a, _, rfl, .inl (SqL.of ha), b, c, _, m, rfl, hB, hm, by omega, by omega, fun r G r0 r1 B e => ?_⟩
    obtain ⟨n, rfl⟩ : ∃ n : Nat, r = (n : Int) := ⟨r.toNat, by omega⟩
    have hn : n < xs.length := by omega
    have ga : G a = some (.lst xs) := e _ _ ha (bag_ne hB ha (by intro l z; cases z))
    exact ⟨a, xs, _, xs[n], rfl, rfl, SqL.of ga, atI_nat (List.getElem?_eq_getElem hn), k _ _ (List.getElem_mem hn) B e⟩
theorem scPower : FnScope ["_law_bits", "_law_found", "_law_k"] ["_law_bits"] (defScope sPower) := ⟨rfl, rfl, rfl, by decide +kernel, rfl, by decide +kernel, by decide +kernel⟩
theorem ok_power {f : Addr} {fd : FuncData} (F : Fun K "_law_power" "_law_power" sPower f fd) (T : TxtB mg) : FnOk P w K mg base CX0 1 f fd ["_law_bits"] spPower := by
  refine F.ok scPower (fun vs H Q E h => ?_) (fun cdv A outer s H vs Q E hr h => ?_)
  · obtain ⟨n, rfl, _⟩ := h
    rfl
  · obtain ⟨n, rfl, hn, k⟩ := h
    refine ⟨_, pss_cons (ps_set (i := 1) scPower.nd rfl (.inl rfl) pe_int)
      (pss_cons (ps_for PassesOwn.never rfl (pi_range1 (by rfl) T.range (pa_cons (pv 0) pa_nil)) (pg_name (i := 2) scPower.nd rfl (Or.inl rfl))
        (pss_one (ps_set (i := 1) scPower.nd rfl (.inl rfl) (pe_op op_mul (pv 1) pe_int))))
      (pss_one (ps_ret (pv 1)))), ?_⟩
    refine ⟨_, rfl, (n : Int), rfl, by omega, by omega, ?_⟩
    rw [Int.toNat_natCast]
    refine for_range (lo := 0) (n := n) (fun i σ G => ∃ v, σ = [some (.int (n : Nat)), some (.int (2 ^ i)), v] ∧ G = H) ⟨none, rfl, rfl⟩ ?_ ?_
    · rintro i σ G hi ⟨v, rfl, rfl⟩
      refine ⟨_, rfl, _, _, rfl, rfl, .inr ⟨by decide, by decide⟩, ?_⟩
      exact ⟨_, by rw [show (2 : Int) ^ (i + 1) = 2 ^ i * 2 from Int.pow_succ ..]; rfl, rfl⟩
    · rintro σ G ⟨v, rfl, rfl⟩
      exact ⟨_, rfl, k⟩
theorem scGreat : FnScope ["_law_bag_here", "_law_most", "_law_found", "_law_k"] ["_law_bag_here", "_law_most"] (defScope sGreat) := ⟨rfl, rfl, rfl, by decide +kernel, rfl, by decide +kernel, by decide +kernel⟩
theorem ok_great {f fD : Addr} {fd fdD : FuncData} (F : Fun K "_law_great" "_law_great" sGreat f fd) (T : TxtB mg)
    (GD : FnOk P w K mg base CX0 1 fD fdD ["_law_bag_here", "_law_limit"] spDraw) (kD : PySem.W.keepIn K (.ref fD) = true) (bD : Binds K fdD ["_law_bag_here", "_law_limit"] []) (gD : mg "_law_draw" = some (.ref fD)) : FnOk P w K mg base CX0 2 f fd ["_law_bag_here", "_law_most"] spGreat := by
  refine F.ok scGreat (fun vs H Q E h => ?_) (fun cdv A outer s H vs Q E hr h => ?_)
  · obtain ⟨b, c, m, most, rfl, _⟩ := h
    rfl
  · obtain ⟨b, c, m, most, rfl, hB, hm, h0, k⟩ := h
    refine ⟨_, pss_cons (ps_set (i := 2) scGreat.nd rfl (.inl rfl) pe_int)
      (pss_cons (ps_for PassesOwn.never rfl (pi_range1 (by rfl) T.range (pa_cons (pe_call GD hr rfl gD kD bD .nil pass0 (pa_cons (pv 0) (pa_cons pe_int pa_nil))) pa_nil)) (pg_name (i := 3) scGreat.nd rfl (Or.inl rfl))
        (pss_one (ps_set (i := 2) scGreat.nd rfl (.inl rfl) (pe_op op_add (pe_op op_mul (pv 2) (pe_op op_pow pe_int pe_int)) (pe_call GD hr rfl gD kD bD .nil pass0 (pa_cons (pv 0) (pa_cons (pe_op op_pow pe_int pe_int) pa_nil)))))))
      (pss_one (ps_ret (pe_op op_mod (pe_callTy call_int1 (by rfl) T.int (by decide +kernel) (pa_cons (pv 2) pa_nil)) (pv 1))))), ?_⟩
    refine ⟨_, rfl, b, c, 10, m, rfl, hB, by omega, by decide, by decide, fun r G r0 r1 B e => ?_⟩
    obtain ⟨n, rfl⟩ : ∃ n : Nat, r = (n : Int) := ⟨r.toNat, by omega⟩
    refine ⟨(n : Int), rfl, by omega, by omega, ?_⟩
    rw [Int.toNat_natCast]
    refine for_range (lo := 0) (n := n) (fun i σ G2 => ∃ (z : Int) (v : Option V), σ = [some (.ref b), some (.int most), some (.int z), v] ∧ BagAt c G2 b (m + 1 + i) ∧ But b H G2) ⟨0, none, rfl, B, e⟩ ?_ ?_
    · rintro i σ G2 hi ⟨z, v, rfl, B2, e2⟩
      refine ⟨_, rfl, 10, 6, rfl, rfl, ⟨by decide, by decide, by decide⟩, _, _, rfl, rfl, .inr ⟨by decide, by decide⟩, _, rfl, 10, 6, rfl, rfl, ⟨by decide, by decide, by decide⟩, b, c, _, _, rfl, B2, by omega, by decide, by decide, fun r2 G3 r20 r21 B3 e3 => ?_⟩
      exact ⟨_, _, rfl, rfl, _, _, rfl, B3, But.trans e2 e3⟩
    · rintro σ G2 ⟨z, v, rfl, B2, e2⟩
      refine ⟨_, rfl, .inl ⟨_, rfl, _, rfl, _, _, rfl, rfl, h0, ?_⟩⟩
      exact k _ _ (Int.emod_nonneg _ (by omega)) (Int.emod_lt_of_pos _ h0) (BagAt.up B2 (by omega)) e2
theorem scIsR : FnScope ["_law_divider", "_law_x"] ["_law_divider", "_law_x"] (defScope sIsR) := ⟨rfl, rfl, rfl, by decide +kernel, rfl, by decide +kernel, by decide +kernel⟩
theorem ok_isr {f C fP : Addr} {fd fdP : FuncData} (F : Fun K "_law_is_right" "_law_is_right" sIsR f fd) (TD : TxtD K mg C)
    (GP : FnOk P w K mg base CX0 1 fP fdP ["_law_bits"] spPower) (kP : PySem.W.keepIn K (.ref fP) = true) (bP : Binds K fdP ["_law_bits"] []) (gP : mg "_law_power" = some (.ref fP)) : FnOk P w K mg base CX0 2 f fd ["_law_divider", "_law_x"] (spIsR C) := by
  refine F.ok scIsR (fun vs H Q E h => ?_) (fun cdv A outer s H vs Q E hr h => ?_)
  · obtain ⟨p, D, x, rfl, _⟩ := h
    rfl
  · obtain ⟨p, D, x, rfl, ⟨dx, hp⟩, L, bx, k⟩ := h
    refine ⟨_, pss_one (ps_ret (pe_cmpR op_eq (pe_op op_fdivW (pe_op op_add (pe_op op_mulW (pv 1) (pe_fld (pv 0) rfl)) (pe_fld (pv 0) rfl)) (pe_call GP hr rfl gP kP bP .nil pass0 (pa_cons (pe_fld (pv 0) rfl) pa_nil))) (pe_op op_fdivW (pv 1) (pe_fld (pv 0) rfl)) (nomark _))), ?_⟩
    have b2 := L.b2
    refine ⟨_, rfl, _, rfl, p, C, dx, _, _, rfl, hp, TD.cl, TD.nM, dFl_m D, _, _, rfl, rfl, bx.w L.bm, ?_⟩
    refine ⟨_, rfl, p, C, dx, _, _, rfl, hp, TD.cl, TD.nO, dFl_o D, _, _, rfl, rfl, ?_⟩
    refine ⟨_, rfl, p, C, dx, _, _, rfl, hp, TD.cl, TD.nS, dFl_s D, D.s, rfl, L.s1, _, _, rfl, rfl, L.bW.d D.W_pos, ?_⟩
    refine ⟨_, rfl, _, rfl, p, C, dx, _, _, rfl, hp, TD.cl, TD.nB, dFl_b D, _, _, rfl, rfl, L.bb.d (by omega), rfl, ?_⟩
    have e : decide (V.int (D.told x) = V.int (x / D.b)) = decide (D.R x) := by
      by_cases z : D.R x
      · rw [decide_eq_true z]
        exact decide_eq_true (congrArg V.int z)
      · rw [decide_eq_false z]
        exact decide_eq_false fun y => z (V.int.inj y)
    show Q (.bl (decide (V.int (D.told x) = V.int (x / D.b)))) H
    rw [e]
    exact k
end
end KD

set_option Elab.async false
set_option linter.all false
set_option maxRecDepth 100000
set_option maxHeartbeats 8000000
/-! k62, the law, b: one that holds, one that falls -/
namespace DV
variable {D : Dv}
theorem nr_self (K : D.Ok) {x : Int} (h0 : 0 ≤ x) (h : D.R x) : D.nr x = some x := by
  cases e : D.nr x with
  | none => exact absurd h (nr_none K h0 e x (Int.le_refl _))
  | some y =>
    obtain ⟨h1, h2, h3⟩ := nr_some K h0 e
    by_cases z : x < y
    · exact absurd h (h3 x (Int.le_refl _) z)
    · rw [show y = x by omega]
theorem nw_is (K : D.Ok) {x f : Int} (h0 : 0 ≤ x) (h1 : x ≤ f) (h2 : ∀ z, x ≤ z → z < f → D.R z) (h3 : ¬ D.R f) : D.nw x = some f := by
  cases e : D.nw x with
  | none => exact absurd (nw_none K h0 e f h1) h3
  | some y =>
    obtain ⟨k1, k2, k3⟩ := nw_some K h0 e
    have : y = f := by
      by_cases a : y < f
      · exact absurd (h2 y k1 a) k2
      · by_cases b : f < y
        · exact absurd (k3 f h1 b) h3
        · omega
    rw [this]
theorem cr_all {n : Nat} (h : ∀ i : Nat, i < n → D.R (i : Int)) : D.cr n = n := by
  have e : D.cr n = S (fun _ => 1) n := S_congr fun i hi => by
    unfold Dv.ind
    rw [if_pos (h i hi)]
  rw [e, S_const]
  omega
theorem cw_zero {x : Int} (h0 : 0 ≤ x) (h : ∀ z, 0 ≤ z → z ≤ x → D.R z) : D.cw x = 0 := by
  unfold Dv.cw
  rw [cr_all fun i hi => h _ (by omega) (by omega)]
  omega
/-- from x on, n more -/
theorem cw_more {x : Int} (h0 : 0 ≤ x) (n : Nat) : D.cw (x + n) - D.cw x = S (fun i => if D.R (x + 1 + (i : Int)) then 0 else 1) n := by
  unfold Dv.cw
  have e : (x + (n : Int) + 1).toNat = (x + 1).toNat + n := by omega
  have e2 : D.cr ((x + 1).toNat + n) = D.cr (x + 1).toNat + S (fun i => D.ind ((x + 1).toNat + i)) n := S_split _ _ _
  rw [e, e2]
  have e3 : S (fun i => if D.R (x + 1 + (i : Int)) then (0 : Int) else 1) n + S (fun i => D.ind ((x + 1).toNat + i)) n = n := by
    rw [← S_add]
    have : S (fun i => (if D.R (x + 1 + (i : Int)) then (0 : Int) else 1) + D.ind ((x + 1).toNat + i)) n = S (fun _ => 1) n := S_congr fun i _ => by
      unfold Dv.ind
      have : (((x + 1).toNat + i : Nat) : Int) = x + 1 + (i : Int) := by omega
      rw [this]
      split <;> rfl
    rw [this, S_const]
    omega
  omega
theorem cw_next {x y : Int} (h0 : 0 ≤ x) (h1 : x < y) (h2 : ∀ z, x < z → z < y → D.R z) (h3 : ¬ D.R y) : D.cw y - D.cw x = 1 := by
  obtain ⟨n, hn⟩ : ∃ n : Nat, y = x + ((n + 1 : Nat) : Int) := ⟨(y - x - 1).toNat, by omega⟩
  rw [hn, cw_more h0 (n + 1)]
  show S _ n + (if D.R (x + 1 + (n : Int)) then (0 : Int) else 1) = _
  have : S (fun i => if D.R (x + 1 + (i : Int)) then (0 : Int) else 1) n = S (fun _ => 0) n := S_congr fun i hi => if_pos (h2 _ (by omega) (by omega))
  rw [this, S_const, if_neg (by rw [show x + 1 + (n : Int) = y by omega]; exact h3)]
  omega
theorem cw_bad {x y : Int} (h0 : 0 ≤ x) (h1 : x < y) (h2 : ∀ z, x < z → z < y → ¬ D.R z) (h3 : D.R y) : D.cw y - D.cw x = y - 1 - x := by
  obtain ⟨n, hn⟩ : ∃ n : Nat, y = x + ((n + 1 : Nat) : Int) := ⟨(y - x - 1).toNat, by omega⟩
  rw [hn, cw_more h0 (n + 1)]
  show S _ n + (if D.R (x + 1 + (n : Int)) then (0 : Int) else 1) = _
  have : S (fun i => if D.R (x + 1 + (i : Int)) then (0 : Int) else 1) n = S (fun _ => 1) n := S_congr fun i hi => if_neg (h2 _ (by omega) (by omega))
  rw [this, S_const, if_pos (by rw [show x + 1 + (n : Int) = y by omega]; exact h3)]
  omega
theorem cw_one {y : Int} (h1 : 0 ≤ y) (h2 : ∀ z, 0 ≤ z → z < y → D.R z) (h3 : ¬ D.R y) : D.cw y = 1 := by
  by_cases c : 0 < y
  · have a := cw_zero (D := D) (x := y - 1) (by omega) fun z a b => h2 z a (by omega)
    have b := cw_next (D := D) (x := y - 1) (y := y) (by omega) (by omega) (fun z a b => by omega) h3
    omega
  · have : y = 0 := by omega
    subst this
    unfold Dv.cw
    show (0 : Int) + 1 - S D.ind 1 = 1
    show (0 : Int) + 1 - (0 + D.ind 0) = 1
    unfold Dv.ind
    rw [if_neg (show ¬ D.R ((0 : Nat) : Int) from h3)]
    rfl
end DV
namespace KD
open PySem L2
open DV (Dv)
open KDB (TxtB BagAt spBag spDraw)
def spHolds (C : Addr) : Sp := fun vs H Q _ => ∃ (b c p : Addr) (m : Nat) (D : Dv) (t : Int), vs = [.ref b, .ref p, .int t] ∧ BagAt c H b m ∧ m ≤ 50000 ∧ DvAt C H p D ∧ Lim D ∧ 1 ≤ t ∧ t ≤ 10 ^ 59 ∧ (∀ z, 0 ≤ z → z ≤ t → D.R z) ∧ ∀ H', BagAt c H' b (m + 200) → But b H H' → Q (.bl true) H'
def spFalls (C : Addr) : Sp := fun vs H Q _ => ∃ (b c p : Addr) (m : Nat) (D : Dv) (t : Int), vs = [.ref b, .ref p, .int t] ∧ BagAt c H b m ∧ m ≤ 50000 ∧ DvAt C H p D ∧ Lim D ∧ 1 ≤ t ∧ t ≤ 10 ^ 59 ∧ ¬ (∀ z, 0 ≤ z → z ≤ t → D.R z) ∧ ∀ H', BagAt c H' b (m + 200) → But b H H' → Q (.bl true) H'
theorem nw_bd {D : Dv} (L : Lim D) {x y : Int} (x0 : 0 ≤ x) (x1 : x ≤ 10 ^ 60) (h : D.nw x = some y) : Bd 2000 y := by
  have b2 := L.b2
  have bq : Bd 300 (x / D.b) := ((one60 x0 x1).div (by omega)).mono (by decide)
  obtain ⟨_, r0, r1, q0⟩ := DV.split_x L.ok x0
  unfold Dv.nw at h
  split at h
  · rename_i f hf
    obtain ⟨f0, f1, _⟩ := DV.wf_some L.ok r0 r1 hf
    cases h
    exact Bd.mono (((L.bb.mul bq)).add ((Bd.le (by omega) (show f ≤ D.b by omega) L.bb).mono (show 200 ≤ 500 by decide))) (by decide)
  · split at h
    · cases h
    · rename_i q hq
      have bq2 := wq_bd L (bq.add one_bd) hq
      cases e : D.wf q 0 with
      | none => rw [e] at h; cases h
      | some f =>
        obtain ⟨f0, f1, _⟩ := DV.wf_some L.ok (by omega) (by omega) e
        rw [e] at h
        have hy : D.b * q + f = y := Option.some.inj h
        subst hy
        exact Bd.mono (((L.bb.mul bq2)).add ((Bd.le (by omega) (show f ≤ D.b by omega) L.bb).mono (show 200 ≤ 1200 by decide))) (by decide)
section
variable {P : Program} {w : World} {K : PySem.W.Frag} {mg : Str → Option Value} {base : Heap}
theorem scHolds : FnScope ["_law_bag_here", "_law_divider", "_law_top", "_law_first", "_law_k", "_law_x"] ["_law_bag_here", "_law_divider", "_law_top"] (defScope sHolds) := ⟨rfl, rfl, rfl, by decide +kernel, rfl, by decide +kernel, by decide +kernel⟩
theorem ok_holds {f C fP fG fI fR fW fN fM : Addr} {fd fdP fdG fdI fdR fdW fdN fdM : FuncData} (F : Fun K "_law_holds_to" "_law_holds_to" sHolds f fd) (T : TxtI mg) (TD : TxtD K mg C)
    (GP : FnOk P w K mg base CX0 2 fP fdP ["_law_bag_here", "_law_pool"] spPick) (kP : PySem.W.keepIn K (.ref fP) = true) (bP : Binds K fdP ["_law_bag_here", "_law_pool"] []) (gP : mg "_law_pick" = some (.ref fP))
    (GG : FnOk P w K mg base CX0 2 fG fdG ["_law_bag_here", "_law_most"] spGreat) (kG : PySem.W.keepIn K (.ref fG) = true) (bG : Binds K fdG ["_law_bag_here", "_law_most"] []) (gG : mg "_law_great" = some (.ref fG))
    (GI : FnOk P w K mg base CX0 2 fI fdI ["_law_divider", "_law_x"] (spIsR C)) (kI : PySem.W.keepIn K (.ref fI) = true) (bI : Binds K fdI ["_law_divider", "_law_x"] []) (gI : mg "_law_is_right" = some (.ref fI))
    (GR : FnOk P w K mg base CX0 5 fR fdR ["divider", "x"] (spDR C)) (kR : PySem.W.keepIn K (.ref fR) = true) (bR : Binds K fdR ["divider", "x"] []) (gR : mg "divider_right" = some (.ref fR))
    (GW : FnOk P w K mg base CX0 6 fW fdW ["divider", "x"] (spDW C)) (kW : PySem.W.keepIn K (.ref fW) = true) (bW : Binds K fdW ["divider", "x"] []) (gW : mg "divider_wrong" = some (.ref fW))
    (GN : FnOk P w K mg base CX0 6 fN fdN ["divider", "x"] (spDN C)) (kN : PySem.W.keepIn K (.ref fN) = true) (bN : Binds K fdN ["divider", "x"] []) (gN : mg "divider_next" = some (.ref fN))
    (GM : FnOk P w K mg base CX0 5 fM fdM ["divider", "x"] (spDM C)) (kM : PySem.W.keepIn K (.ref fM) = true) (bM : Binds K fdM ["divider", "x"] []) (gM : mg "divider_many" = some (.ref fM)) :
    FnOk P w K mg base CX0 7 f fd ["_law_bag_here", "_law_divider", "_law_top"] (spHolds C) := by
  refine F.ok scHolds (fun vs H Q E h => ?_) (fun cdv A outer s H vs Q E hr h => ?_)
  · obtain ⟨b, c, p, m, D, t, rfl, _⟩ := h
    rfl
  · obtain ⟨b, c, p, m, D, t, rfl, hB, hm, hD, L, t0, t1, hA, k⟩ := h
    have hr2 : Room 2 _ := hr.mono (by decide)
    have hr5 : Room 5 _ := hr.mono (by decide)
    have L0 : t ≤ 10 ^ 60 := Int.le_trans t1 (by decide)
    refine ⟨_, pss_cons (ps_set (i := 3) scHolds.nd rfl (.inl rfl) (pe_call GW hr rfl gW kW bW .nil pass0 (pa_cons (pv 1) (pa_cons pe_int pa_nil))))
      (pss_cons (ps_if (PW.pt (pw_and (pt_cmpR op_notN (pv 3) pe_non (nomark _)) (pw_and1 (PW.pt (pw_or (pt_cmpR op_le (pv 3) (pv 2) (nomark _)) (pw_or1 (pt_val (pe_call GI hr2 rfl gI kI bI .nil pass0 (pa_cons (pv 1) (pa_cons (pv 3) pa_nil)))))))))) (pss_one (ps_ret pe_bl)) pss_nil)
      (pss_cons (ps_for PassesOwn.never rfl (pi_range1 (by rfl) T.range (pa_cons pe_int pa_nil)) (pg_name (i := 4) scHolds.nd rfl (Or.inl rfl))
        (pss_cons (ps_set (i := 5) scHolds.nd rfl (.inl rfl) (pe_call GP hr2 rfl gP kP bP .nil pass0 (pa_cons (pv 0) (pa_cons (pe_lst (pa_cons (pv 2) (pa_cons (pe_op op_sub (pv 2) (pe_op op_mod (pv 2) (pe_fld (pv 1) rfl)))
            (pa_cons (pe_callB (call_max2 rfl) (by rfl) T.max (by kernel_rfl) (pa_cons pe_int (pa_cons (pe_op op_sub (pe_op op_sub (pv 2) (pe_op op_mod (pv 2) (pe_fld (pv 1) rfl))) pe_int) pa_nil)))
            (pa_cons (pe_call GG hr2 rfl gG kG bG .nil pass0 (pa_cons (pv 0) (pa_cons (pe_op op_add (pv 2) pe_int) pa_nil))) pa_nil))))) pa_nil))))
        (pss_one (ps_if (PW.pt (pw_or (pt_not (pt_val (pe_call GI hr2 rfl gI kI bI .nil pass0 (pa_cons (pv 1) (pa_cons (pv 5) pa_nil))))) (pw_or (pt_not (pt_val (pe_call GR hr5 rfl gR kR bR .nil pass0 (pa_cons (pv 1) (pa_cons (pv 5) pa_nil))))) (pw_or1 (pt_cmpR op_ne (pe_call GN hr rfl gN kN bN .nil pass0 (pa_cons (pv 1) (pa_cons (pv 5) pa_nil))) (pv 5) (nomark _)))))) (pss_one (ps_ret pe_bl)) pss_nil))))
      (pss_one (ps_ret (pe_cmpR op_eq (pe_call GM hr5 rfl gM kM bM .nil pass0 (pa_cons (pv 1) (pa_cons (pv 2) pa_nil))) pe_int (nomark _)))))), ?_⟩
    refine ⟨_, rfl, p, D, 0, rfl, hD, L, by omega, by decide, fun G sG => ?_⟩
    have hDG := hD.keep sG
    have BG := hB.keep sG
    have first : ∀ {Q2 : Bool → Hp → Prop} {v : V}, v = optI (D.nw 0) → Q2 false G → tAnd (tTest (tOp (fun x y H Q => y = V.non ∧ Q (V.bl !decide (x = V.non)) H) (tVar 3) (tC V.non))) (tOr (tTest (tOp (rI0 fun i j => V.bl (decide (i ≤ j))) (tVar 3) (tVar 2))) (fun σ H Q => tCall (spIsR C) [] E0 (tCons (tVar 1) (tCons (tVar 3) tNil)) σ H fun x H' => ∃ k, x = .bl k ∧ Q k H')) [some (.ref b), some (.ref p), some (.int t), some v, none, none] G Q2 := by
      intro Q2 v hv hQ
      subst hv
      refine ⟨_, rfl, rfl, _, rfl, ?_⟩
      cases e : D.nw 0 with
      | none => exact iteF' rfl hQ
      | some y =>
        obtain ⟨y0, y1, y2⟩ := DV.nw_some L.ok (Int.le_refl 0) e
        have hy : ¬ y ≤ t := fun z => y1 (hA y y0 z)
        refine iteT' rfl ?_
        refine ⟨_, rfl, _, rfl, _, _, rfl, rfl, _, rfl, ?_⟩
        refine iteF' (decide_eq_false hy) ?_
        refine ⟨_, rfl, _, rfl, p, D, y, rfl, hDG, L, nw_bd L (Int.le_refl 0) (by decide) e, ?_⟩
        rw [decide_eq_false y1]
        exact ⟨_, rfl, hQ⟩
    refine first rfl (iteF ?_)
    have b2 := L.b2
    have m0 := Int.emod_nonneg t (show D.b ≠ 0 by omega)
    have m1 := Int.emod_lt_of_pos t (show 0 < D.b by omega)
    have m2 : t % D.b ≤ t := by
      have e := Int.emod_add_mul_ediv t D.b
      have := Int.mul_nonneg (show 0 ≤ D.b by omega) (Int.ediv_nonneg (show 0 ≤ t by omega) (show 0 ≤ D.b by omega))
      omega
    refine ⟨6, rfl, by decide, by decide, for_range (lo := 0) (n := 6) (fun i σ G2 => ∃ v3 v4 v5, σ = [some (.ref b), some (.ref p), some (.int t), v3, v4, v5] ∧ BagAt c G2 b (m + 25 * i) ∧ But b H G2) ⟨_, none, none, rfl, BG, But.same sG⟩ ?_ ?_⟩
    · rintro i σ G2 hi ⟨v3, v4, v5, rfl, B2, e2⟩
      obtain ⟨dx, hp⟩ := hD.but hB e2
      refine ⟨_, rfl, _, rfl, _, rfl, _, rfl, _, rfl, p, C, dx, _, _, rfl, hp, TD.cl, TD.nB, dFl_b D, _, _, rfl, rfl, (by show 0 < D.b; omega), _, _, rfl, rfl, ?_⟩
      refine ⟨_, rfl, _, rfl, _, rfl, p, C, dx, _, _, rfl, hp, TD.cl, TD.nB, dFl_b D, _, _, rfl, rfl, (by show 0 < D.b; omega), _, _, rfl, rfl, _, _, rfl, rfl, _, _, rfl, ?_⟩
      refine ⟨_, rfl, _, rfl, _, _, rfl, rfl, b, c, _, _, rfl, B2, by omega, by omega, fun r G3 r0 r1 B3 e3 => ?_⟩
      refine ⟨(by show 4 ≤ sizeLine; decide), fun a na => ?_⟩
      have sa := Same.new (o := .lst [.int t, .int (t - t % D.b), .int (DV.mx 0 (t - t % D.b - 1)), .int r]) na
      refine ⟨b, c, a, _, _, rfl, B3.keep sa, by omega, upd_same, by simp, by simp, fun v G4 hv B4 e4 => ?_⟩
      obtain ⟨x, rfl, x0, xt⟩ : ∃ x, v = V.int x ∧ 0 ≤ x ∧ x ≤ t := by
        have hv2 : v ∈ [V.int t, .int (t - t % D.b), .int (DV.mx 0 (t - t % D.b - 1)), .int r] := hv
        simp only [List.mem_cons, List.mem_nil_iff, or_false] at hv2
        rw [DV.mx_eq] at hv2
        rcases hv2 with h | h | h | h
        · exact ⟨_, h, by omega, by omega⟩
        · exact ⟨_, h, by omega, by omega⟩
        · exact ⟨_, h, by omega, by omega⟩
        · exact ⟨_, h, by omega, by omega⟩
      have eA : But b H G4 := But.trans e2 (But.trans e3 (But.trans (But.same sa) e4))
      have D4 := hD.but hB eA
      have hR := hA x x0 xt
      refine ⟨_, rfl, _, rfl, p, D, x, rfl, D4, L, (one60 x0 (by omega)).mono (by decide), ?_⟩
      rw [decide_eq_true hR]
      refine ⟨_, rfl, iteF ?_⟩
      refine ⟨_, rfl, _, rfl, p, D, x, rfl, D4, L, x0, by omega, ?_⟩
      rw [decide_eq_true hR]
      refine ⟨_, rfl, iteF ?_⟩
      refine ⟨_, rfl, _, rfl, p, D, x, rfl, D4, L, x0, by omega, fun G5 s5 => ?_⟩
      rw [DV.nr_self L.ok x0 hR]
      refine ⟨_, rfl, rfl, _, rfl, iteF' (by show (!decide (V.int x = V.int x)) = false; rw [decide_eq_true rfl]; rfl) ?_⟩
      exact ⟨_, _, _, rfl, BagAt.up (B4.keep s5) (by omega), But.trans eA (But.same s5)⟩
    · rintro σ G2 ⟨v3, v4, v5, rfl, B2, e2⟩
      refine ⟨_, rfl, _, rfl, p, D, t, rfl, hD.but hB e2, L, by omega, L0, fun G3 s3 => ?_⟩
      rw [DV.cw_zero (by omega) hA]
      refine ⟨rfl, ?_⟩
      exact k _ (BagAt.up (B2.keep s3) (by omega)) (But.trans e2 (But.same s3))
end
end KD

set_option Elab.async false
set_option linter.all false
set_option maxRecDepth 100000
set_option maxHeartbeats 8000000
/-! k62, the law, c: one that falls -/
namespace KD
open PySem L2
open DV (Dv)
open KDB (TxtB BagAt spBag spDraw)
theorem first_wrong {D : Dv} (K : D.Ok) {t : Int} (h : ¬ (∀ z, 0 ≤ z → z ≤ t → D.R z)) : ∃ y, D.nw 0 = some y ∧ 0 ≤ y ∧ y ≤ t ∧ ¬ D.R y ∧ ∀ z, 0 ≤ z → z < y → D.R z := by
  cases e : D.nw 0 with
  | none => exact absurd (fun z z0 _ => DV.nw_none K (Int.le_refl 0) e z z0) h
  | some y =>
    obtain ⟨y0, y1, y2⟩ := DV.nw_some K (Int.le_refl 0) e
    refine ⟨y, rfl, y0, ?_, y1, y2⟩
    by_cases c : y ≤ t
    · exact c
    · exact absurd (fun z z0 zt => y2 z z0 (by omega)) h
section
variable {P : Program} {w : World} {K : PySem.W.Frag} {mg : Str → Option Value} {base : Heap}
theorem scFalls : FnScope ["_law_bag_here", "_law_divider", "_law_top", "_law_first", "_law_k", "_law_x"] ["_law_bag_here", "_law_divider", "_law_top"] (defScope sFalls) := ⟨rfl, rfl, rfl, by decide +kernel, rfl, by decide +kernel, by decide +kernel⟩
theorem ok_falls {f C fG fI fW fM : Addr} {fd fdG fdI fdW fdM : FuncData} (F : Fun K "_law_falls_by" "_law_falls_by" sFalls f fd) (T : TxtI mg)
    (GG : FnOk P w K mg base CX0 2 fG fdG ["_law_bag_here", "_law_most"] spGreat) (kG : PySem.W.keepIn K (.ref fG) = true) (bG : Binds K fdG ["_law_bag_here", "_law_most"] []) (gG : mg "_law_great" = some (.ref fG))
    (GI : FnOk P w K mg base CX0 2 fI fdI ["_law_divider", "_law_x"] (spIsR C)) (kI : PySem.W.keepIn K (.ref fI) = true) (bI : Binds K fdI ["_law_divider", "_law_x"] []) (gI : mg "_law_is_right" = some (.ref fI))
    (GW : FnOk P w K mg base CX0 6 fW fdW ["divider", "x"] (spDW C)) (kW : PySem.W.keepIn K (.ref fW) = true) (bW : Binds K fdW ["divider", "x"] []) (gW : mg "divider_wrong" = some (.ref fW))
    (GM : FnOk P w K mg base CX0 5 fM fdM ["divider", "x"] (spDM C)) (kM : PySem.W.keepIn K (.ref fM) = true) (bM : Binds K fdM ["divider", "x"] []) (gM : mg "divider_many" = some (.ref fM)) :
    FnOk P w K mg base CX0 7 f fd ["_law_bag_here", "_law_divider", "_law_top"] (spFalls C) := by
  refine F.ok scFalls (fun vs H Q E h => ?_) (fun cdv A outer s H vs Q E hr h => ?_)
  · obtain ⟨b, c, p, m, D, t, rfl, _⟩ := h
    rfl
  · obtain ⟨b, c, p, m, D, t, rfl, hB, hm, hD, L, t0, t1, hA, k⟩ := h
    have hr2 : Room 2 _ := hr.mono (by decide)
    have hr5 : Room 5 _ := hr.mono (by decide)
    have L0 : t ≤ 10 ^ 60 := Int.le_trans t1 (by decide)
    refine ⟨_, pss_cons (ps_set (i := 3) scFalls.nd rfl (.inl rfl) (pe_call GW hr rfl gW kW bW .nil pass0 (pa_cons (pv 1) (pa_cons pe_int pa_nil))))
      (pss_cons (ps_if (PW.pt (pw_or (pt_cmpR op_isN (pv 3) pe_non (nomark _)) (pw_or (pt_cmpR op_gt (pv 3) (pv 2) (nomark _)) (pw_or (pt_val (pe_call GI hr2 rfl gI kI bI .nil pass0 (pa_cons (pv 1) (pa_cons (pv 3) pa_nil)))) (pw_or1 (pt_cmpR op_ne (pe_call GM hr5 rfl gM kM bM .nil pass0 (pa_cons (pv 1) (pa_cons (pv 3) pa_nil))) pe_int (nomark _))))))) (pss_one (ps_ret pe_bl)) pss_nil)
      (pss_cons (ps_for PassesOwn.never rfl (pi_range1 (by rfl) T.range (pa_cons pe_int pa_nil)) (pg_name (i := 4) scFalls.nd rfl (Or.inl rfl))
        (pss_cons (ps_set (i := 5) scFalls.nd rfl (.inl rfl) (pe_call GG hr2 rfl gG kG bG .nil pass0 (pa_cons (pv 0) (pa_cons (pe_op op_add (pv 3) pe_int) pa_nil))))
        (pss_one (ps_if (PW.pt (pw_and (pt_cmpR op_lt (pv 5) (pv 3) (nomark _)) (pw_and1 (PW.pt (pw_or (pt_not (pt_val (pe_call GI hr2 rfl gI kI bI .nil pass0 (pa_cons (pv 1) (pa_cons (pv 5) pa_nil))))) (pw_or1 (pt_cmpR op_ne (pe_call GW hr rfl gW kW bW .nil pass0 (pa_cons (pv 1) (pa_cons (pv 5) pa_nil))) (pv 3) (nomark _)))))))) (pss_one (ps_ret pe_bl)) pss_nil))))
      (pss_one (ps_ret (pe_or (pe_cmpR op_eq (pv 3) pe_int (nomark _)) (pe_one (pe_cmpR op_eq (pe_call GM hr5 rfl gM kM bM .nil pass0 (pa_cons (pv 1) (pa_cons (pe_op op_sub (pv 3) pe_int) pa_nil))) pe_int (nomark _)))))))), ?_⟩
    obtain ⟨y, hy, y0, yt, yw, yr⟩ := first_wrong L.ok hA
    refine ⟨_, rfl, p, D, 0, rfl, hD, L, by omega, by decide, fun G sG => ?_⟩
    rw [hy]
    have hDG := hD.keep sG
    have BG := hB.keep sG
    refine ⟨_, rfl, rfl, _, rfl, iteF' rfl ?_⟩
    refine ⟨_, rfl, _, rfl, _, _, rfl, rfl, _, rfl, iteF' (decide_eq_false (by omega)) ?_⟩
    refine ⟨_, rfl, _, rfl, p, D, y, rfl, hDG, L, (one60 y0 (by omega)).mono (by decide), ?_⟩
    rw [decide_eq_false yw]
    refine ⟨_, rfl, iteF ?_⟩
    refine ⟨_, rfl, _, rfl, p, D, y, rfl, hDG, L, y0, by omega, fun G1 s1 => ?_⟩
    rw [DV.cw_one y0 yr yw]
    refine ⟨rfl, _, rfl, iteF' (by show (!decide (V.int 1 = V.int 1)) = false; rw [decide_eq_true rfl]; rfl) ?_⟩
    refine ⟨4, rfl, by decide, by decide, for_range (lo := 0) (n := 4) (fun i σ G2 => ∃ v4 v5, σ = [some (.ref b), some (.ref p), some (.int t), some (.int y), v4, v5] ∧ BagAt c G2 b (m + 25 * i) ∧ But b H G2) ⟨none, none, rfl, BG.keep s1, But.same (sG.trans s1)⟩ ?_ ?_⟩
    · rintro i σ G2 hi ⟨v4, v5, rfl, B2, e2⟩
      refine ⟨_, rfl, _, rfl, _, _, rfl, rfl, b, c, _, _, rfl, B2, by omega, by omega, fun x G3 x0 xy B3 e3 => ?_⟩
      have eA : But b H G3 := But.trans e2 e3
      have D3 := hD.but hB eA
      refine ⟨_, rfl, _, rfl, _, _, rfl, rfl, _, rfl, ?_⟩
      by_cases c2 : x < y
      · refine iteT' (decide_eq_true c2) ?_
        refine ⟨_, rfl, _, rfl, p, D, x, rfl, D3, L, (one60 x0 (by omega)).mono (by decide), ?_⟩
        rw [decide_eq_true (yr x x0 c2)]
        refine ⟨_, rfl, iteF ?_⟩
        refine ⟨_, rfl, _, rfl, p, D, x, rfl, D3, L, x0, by omega, fun G5 s5 => ?_⟩
        rw [DV.nw_is L.ok x0 (by omega) (fun z a b => yr z (by omega) b) yw]
        refine ⟨_, rfl, rfl, _, rfl, iteF' (by show (!decide (V.int y = V.int y)) = false; rw [decide_eq_true rfl]; rfl) ?_⟩
        exact ⟨_, _, rfl, BagAt.up (B3.keep s5) (by omega), But.trans eA (But.same s5)⟩
      · refine iteF' (decide_eq_false c2) ?_
        refine iteF ?_
        exact ⟨_, _, rfl, BagAt.up B3 (by omega), eA⟩
    · rintro σ G2 ⟨v4, v5, rfl, B2, e2⟩
      refine ⟨_, rfl, rfl, _, rfl, ?_⟩
      by_cases c2 : y = 0
      · refine iteT' (decide_eq_true (congrArg V.int c2)) ?_
        exact k _ (BagAt.up B2 (by omega)) e2
      · refine iteF' (decide_eq_false fun z => c2 (V.int.inj z)) ?_
        refine ⟨_, rfl, _, rfl, _, _, rfl, rfl, p, D, y - 1, rfl, hD.but hB e2, L, by omega, by omega, fun G3 s3 => ?_⟩
        rw [DV.cw_zero (by omega) fun z a b => yr z a (by omega)]
        refine ⟨rfl, ?_⟩
        exact k _ (BagAt.up (B2.keep s3) (by omega)) (But.trans e2 (But.same s3))
end
end KD

set_option Elab.async false
set_option linter.all false
set_option maxRecDepth 100000
set_option maxHeartbeats 8000000
/-! k62, the law, d: counts far away -/
namespace KD
open PySem L2
open DV (Dv)
open KDB (TxtB BagAt spBag spDraw)
/-- the wrong ones behind x -/
def wl (D : Dv) (x : Int) : Nat → List Int
  | 0 => []
  | n + 1 => wl D x n ++ if D.R (x + 1 + (n : Int)) then [] else [x + 1 + (n : Int)]
theorem wl_len {D : Dv} {x : Int} : ∀ n : Nat, ((wl D x n).length : Int) = DV.S (fun i => if D.R (x + 1 + (i : Int)) then 0 else 1) n
  | 0 => rfl
  | n + 1 => by
    have ih := wl_len (D := D) (x := x) n
    show (((wl D x n) ++ if D.R (x + 1 + (n : Int)) then [] else [x + 1 + (n : Int)]).length : Int) = DV.S _ n + (if D.R (x + 1 + (n : Int)) then (0 : Int) else 1)
    rw [← ih, List.length_append]
    split <;> simp
theorem wl_mem {D : Dv} {x y : Int} : ∀ {n : Nat}, y ∈ wl D x n ↔ x < y ∧ y < x + 1 + n ∧ ¬ D.R y
  | 0 => by
    show y ∈ [] ↔ _
    constructor
    · intro h; cases h
    · rintro ⟨a, b, _⟩; omega
  | n + 1 => by
    show y ∈ wl D x n ++ _ ↔ _
    rw [List.mem_append, wl_mem (n := n)]
    constructor
    · rintro (⟨a, b, c⟩ | h)
      · exact ⟨a, by omega, c⟩
      · split at h
        · cases h
        · rename_i hr
          have e := List.mem_singleton.mp h
          rw [e]
          exact ⟨by omega, by omega, hr⟩
    · rintro ⟨a, b, c⟩
      by_cases z : y = x + 1 + (n : Int)
      · right
        rw [if_neg (by rw [← z]; exact c), z]
        exact List.mem_singleton.mpr rfl
      · left
        exact ⟨a, by omega, c⟩
theorem wl_le {D : Dv} {x : Int} (n : Nat) : (wl D x n).length ≤ n := by
  have h := wl_len (D := D) (x := x) n
  have : ∀ k : Nat, DV.S (fun i => if D.R (x + 1 + (i : Int)) then (0 : Int) else 1) k ≤ k := fun k => by
    induction k with
    | zero => exact Int.le_refl _
    | succ k ih =>
      show DV.S _ k + (if D.R (x + 1 + (k : Int)) then (0 : Int) else 1) ≤ _
      split <;> omega
  have := this n
  omega
theorem wl_sorted {D : Dv} {x : Int} : ∀ n : Nat, (wl D x n).Pairwise (· < ·)
  | 0 => List.Pairwise.nil
  | n + 1 => by
    show ((wl D x n) ++ _).Pairwise _
    rw [List.pairwise_append]
    refine ⟨wl_sorted n, ?_, ?_⟩
    · split
      · exact List.Pairwise.nil
      · exact List.pairwise_singleton _ _
    · intro a ha b hb
      have h1 := wl_mem.mp ha
      split at hb
      · cases hb
      · have := List.mem_singleton.mp hb
        omega
/-- the first of them is the next wrong one -/
theorem wl_head {D : Dv} (K : D.Ok) {x : Int} (x0 : 0 ≤ x) {n : Nat} {f : Int} {r : List Int} (h : wl D x n = f :: r) : D.nw (x + 1) = some f := by
  have hs := wl_sorted (D := D) (x := x) n
  rw [h] at hs
  have hf : f ∈ wl D x n := by rw [h]; exact List.mem_cons_self ..
  obtain ⟨a, b, c⟩ := wl_mem.mp hf
  refine DV.nw_is K (by omega) (by omega) (fun z z0 z1 => ?_) c
  by_cases hz : D.R z
  · exact hz
  · have hm : z ∈ wl D x n := wl_mem.mpr ⟨by omega, by omega, hz⟩
    rw [h] at hm
    rcases List.mem_cons.mp hm with e | e
    · omega
    · have := (List.pairwise_cons.mp hs).1 z e
      omega
theorem inV_int (w : Int) : ∀ ns : List Int, inV (.int w) (ns.map V.int) = decide (w ∈ ns)
  | [] => by simp [inV]
  | n :: ns => by
    have ih := inV_int w ns
    unfold inV at ih ⊢
    rw [List.map_cons, List.any_cons, ih]
    by_cases h : w = n
    · subst h
      simp [eqV]
    · have h2 : ¬ n = w := fun z => h z.symm
      simp [eqV, h, h2]
theorem flat_int : ∀ ns : List Int, (ns.map V.int).all flatV = true
  | [] => rfl
  | n :: ns => by
    rw [List.map_cons, List.all_cons, flat_int ns]
    rfl
theorem dpI {K : PySem.W.Frag} {H : Hp} : ∀ ls : List Int, DpAll K H (ls.map V.int) (ls.map PyData.int)
  | [] => .nil
  | x :: xs => .cons (.int x) (dpI xs)
theorem layI : ∀ ls : List Int, PyData.canLayAll0 (ls.map PyData.int) = true
  | [] => rfl
  | x :: xs => by
    rw [List.map_cons, PyData.canLayAll0, Bool.and_eq_true]
    exact ⟨by simp [PyData.canLay0], layI xs⟩
theorem depI : ∀ ls : List Int, PyData.depthAll (ls.map PyData.int) = 0
  | [] => rfl
  | x :: xs => by
    rw [List.map_cons]
    simp only [PyData.depthAll, PyData.depth, depI xs]
    decide
theorem shapedI (ls : List Int) : SeqAt.shaped (.list (ls.map PyData.int)) = true := by
  unfold SeqAt.shaped
  have h1 : (PyData.list (ls.map PyData.int)).canLay0 = true := by
    simp only [PyData.canLay0]
    exact layI ls
  have h2 : (PyData.list (ls.map PyData.int)).depth ≤ 64 := by
    simp only [PyData.depth, depI]
    decide
  rw [h1, decide_eq_true h2]
  rfl
def spFar (C : Addr) : Sp := fun vs H Q _ => ∃ (b c p : Addr) (m : Nat) (D : Dv) (x : Int), vs = [.ref b, .ref p, .int x] ∧ BagAt c H b m ∧ m ≤ 50000 ∧ DvAt C H p D ∧ Lim D ∧ 0 ≤ x ∧ x ≤ 10 ^ 60 - 89 ∧ ∀ H', BagAt c H' b (m + 200) → But b H H' → Q (.bl true) H'
section
variable {P : Program} {w : World} {K : PySem.W.Frag} {mg : Str → Option Value} {base : Heap}
abbrev nmFar : List Str := ["_law_bag_here", "_law_divider", "_law_x", "_law_wide", "_law_wrong", "_law_y", "_law_late", "_law_right"]
theorem scFar : FnScope nmFar ["_law_bag_here", "_law_divider", "_law_x"] (defScope sFar) := ⟨rfl, rfl, rfl, by decide +kernel, rfl, by decide +kernel, by decide +kernel⟩
theorem ok_far {f C fD fI fR fW fN fM : Addr} {fd fdD fdI fdR fdW fdN fdM : FuncData} (F : Fun K "_law_far_counts" "_law_far_counts" sFar f fd) (T : TxtI mg)
    (GD : FnOk P w K mg base CX0 1 fD fdD ["_law_bag_here", "_law_limit"] spDraw) (kD : PySem.W.keepIn K (.ref fD) = true) (bD : Binds K fdD ["_law_bag_here", "_law_limit"] []) (gD : mg "_law_draw" = some (.ref fD))
    (GI : FnOk P w K mg base CX0 2 fI fdI ["_law_divider", "_law_x"] (spIsR C)) (kI : PySem.W.keepIn K (.ref fI) = true) (bI : Binds K fdI ["_law_divider", "_law_x"] []) (gI : mg "_law_is_right" = some (.ref fI))
    (GR : FnOk P w K mg base CX0 5 fR fdR ["divider", "x"] (spDR C)) (kR : PySem.W.keepIn K (.ref fR) = true) (bR : Binds K fdR ["divider", "x"] []) (gR : mg "divider_right" = some (.ref fR))
    (GW : FnOk P w K mg base CX0 6 fW fdW ["divider", "x"] (spDW C)) (kW : PySem.W.keepIn K (.ref fW) = true) (bW : Binds K fdW ["divider", "x"] []) (gW : mg "divider_wrong" = some (.ref fW))
    (GN : FnOk P w K mg base CX0 6 fN fdN ["divider", "x"] (spDN C)) (kN : PySem.W.keepIn K (.ref fN) = true) (bN : Binds K fdN ["divider", "x"] []) (gN : mg "divider_next" = some (.ref fN))
    (GM : FnOk P w K mg base CX0 5 fM fdM ["divider", "x"] (spDM C)) (kM : PySem.W.keepIn K (.ref fM) = true) (bM : Binds K fdM ["divider", "x"] []) (gM : mg "divider_many" = some (.ref fM)) :
    FnOk P w K mg base CX0 7 f fd ["_law_bag_here", "_law_divider", "_law_x"] (spFar C) := by
  refine F.ok scFar (fun vs H Q E h => ?_) (fun cdv A outer s H vs Q E hr h => ?_)
  · obtain ⟨b, c, p, m, D, x, rfl, _⟩ := h
    rfl
  · obtain ⟨b, c, p, m, D, x, rfl, hB, hm, hD, L, x0, x1, k⟩ := h
    have hr1 : Room 1 _ := hr.mono (by decide)
    have hr2 : Room 2 _ := hr.mono (by decide)
    have hr5 : Room 5 _ := hr.mono (by decide)
    refine ⟨_, pss_cons (ps_set (i := 3) scFar.nd rfl (.inl rfl) (pe_op op_add pe_int (pe_call GD hr1 rfl gD kD bD .nil pass0 (pa_cons (pv 0) (pa_cons pe_int pa_nil)))))
      (pss_cons (ps_setLc (i := 4) (own := [("_law_y", 5)]) (g := gName 5) rfl scFar.nd rfl rfl (sw_true rfl rfl rfl (by decide +kernel)) (pi_rangeB (by rfl) T.range (pa_cons (pe_op op_add (pv 2) pe_int) (pa_cons (pe_op op_add (pe_op op_add (pv 2) (pv 3)) pe_int) pa_nil)))
          (blkOk_by (own := [("_law_y", 5)]) (N := nmFar) (sc := defScope sFar) (by decide +kernel)) (fun _ _ _ _ _ => pg_name (i := 5) scFar.nd rfl (Or.inl rfl)) (fun _ _ _ _ _ => pts_one (pt_not (pt_val (pe_call GI hr2 rfl gI kI bI .nil pass0 (pa_cons (pv 1) (pa_cons (pv 5) pa_nil)))))) (fun _ _ _ _ _ => pv 5))
      (pss_cons (ps_if (pt_cmpR op_ne (pe_op op_sub (pe_call GM hr5 rfl gM kM bM .nil pass0 (pa_cons (pv 1) (pa_cons (pe_op op_add (pv 2) (pv 3)) pa_nil))) (pe_call GM hr5 rfl gM kM bM .nil pass0 (pa_cons (pv 1) (pa_cons (pv 2) pa_nil)))) (pe_callB call_len_seq (by rfl) T.len PySem.boot_len (pa_cons (pv 4) pa_nil)) (nomark _)) (pss_one (ps_ret pe_bl)) pss_nil)
      (pss_cons (ps_for PassesOwn.never rfl (pi_rangeB (by rfl) T.range (pa_cons (pe_op op_add (pv 2) pe_int) (pa_cons (pe_op op_add (pv 2) pe_int) pa_nil))) (pg_name (i := 5) scFar.nd rfl (Or.inl rfl))
        (pss_one (ps_if (pt_cmpR op_ne (pe_call GR hr5 rfl gR kR bR .nil pass0 (pa_cons (pv 1) (pa_cons (pv 5) pa_nil))) (pe_cmpR op_notIn_seq (pv 5) (pv 4) (by rfl)) (nomark _)) (pss_one (ps_ret pe_bl)) pss_nil)))
      (pss_cons (ps_set (i := 6) scFar.nd rfl (.inl rfl) (pe_call GW hr rfl gW kW bW .nil pass0 (pa_cons (pv 1) (pa_cons (pe_op op_add (pv 2) pe_int) pa_nil))))
      (pss_cons (ps_if (pt_cmpR op_notN (pv 6) pe_non (nomark _))
        (pss_cons (ps_if (pt_cmpR op_gt (pv 6) (pe_op op_pow pe_int pe_int) (nomark _)) (pss_one (ps_ret pe_bl)) pss_nil)
        (pss_cons (ps_if (PW.pt (pw_or (pt_cmpR op_ne (pe_op op_sub (pe_call GM hr5 rfl gM kM bM .nil pass0 (pa_cons (pv 1) (pa_cons (pv 6) pa_nil))) (pe_call GM hr5 rfl gM kM bM .nil pass0 (pa_cons (pv 1) (pa_cons (pv 2) pa_nil)))) pe_int (nomark _)) (pw_or1 (PW.pt (pw_and (pt_cmpR (op_neD hr.units) (pv 4) (pe_lst pa_nil) (nomark _)) (pw_and1 (pt_cmpR op_ne (pv 6) (pe_ix ix_list (pv 4) pe_int (fun _ _ => rfl)) (nomark _)))))))) (pss_one (ps_ret pe_bl)) pss_nil)
        (pss_cons (ps_set (i := 7) scFar.nd rfl (.inl rfl) (pe_call GN hr rfl gN kN bN .nil pass0 (pa_cons (pv 1) (pa_cons (pv 6) pa_nil))))
        (pss_one (ps_if (PW.pt (pw_and (pt_cmpR op_notN (pv 7) pe_non (nomark _)) (pw_and1 (pt_cmpR op_lt (pv 7) (pe_op op_pow pe_int pe_int) (nomark _)))))
          (pss_cons (ps_if (PW.pt (pw_or (pt_not (pt_val (pe_call GI hr2 rfl gI kI bI .nil pass0 (pa_cons (pv 1) (pa_cons (pv 7) pa_nil))))) (pw_or1 (pt_val (pe_call GI hr2 rfl gI kI bI .nil pass0 (pa_cons (pv 1) (pa_cons (pe_op op_sub (pv 7) pe_int) pa_nil))))))) (pss_one (ps_ret pe_bl)) pss_nil)
          (pss_one (ps_ret (pe_cmpR op_eq (pe_op op_sub (pe_call GM hr5 rfl gM kM bM .nil pass0 (pa_cons (pv 1) (pa_cons (pv 7) pa_nil))) (pe_call GM hr5 rfl gM kM bM .nil pass0 (pa_cons (pv 1) (pa_cons (pv 6) pa_nil)))) (pe_op op_sub (pe_op op_sub (pv 7) pe_int) (pv 6)) (nomark _))))) pss_nil))))) pss_nil)
      (pss_one (ps_ret (pe_or (pe_cmpR op_notN (pv 6) pe_non (nomark _)) (pe_one (pe_cmpR (op_eqD hr.units) (pv 4) (pe_lst pa_nil) (nomark _))))))))))), ?_⟩
    refine ⟨_, rfl, b, c, 60, m, rfl, hB, by omega, by decide, by decide, fun r G r0 r1 B e => ⟨_, _, rfl, rfl, ?_⟩⟩
    obtain ⟨n, hn⟩ : ∃ n : Nat, 30 + r = (n : Int) := ⟨(30 + r).toNat, by omega⟩
    have hDG := hD.but hB e
    refine ⟨_, rfl, _, _, rfl, rfl, _, rfl, _, rfl, _, _, rfl, rfl, _, _, rfl, rfl, _, _, rfl, fun A0 nA => ?_⟩
    have ej : (x + (30 + r) + 1 - (x + 1)).toNat = n := by omega
    rw [ej]
    have sA := Same.new (o := .lst []) nA
    refine lc_range (lo := x + 1) (n := n) (fun i G3 => Same G G3 ∧ G3 A0 = some (.lst ((wl D x i).map V.int))) ⟨sA, upd_same⟩ ?_ ?_
    · rintro i G3 hi ⟨s3, gA⟩
      refine ⟨rfl, ?_⟩
      refine ⟨_, rfl, _, rfl, p, D, x + 1 + (i : Int), rfl, hDG.keep s3, L, (one60 (by omega) (by omega)).mono (by decide), _, rfl, ?_⟩
      by_cases hR : D.R (x + 1 + (i : Int))
      · refine iteF' (by rw [decide_eq_true hR]; rfl) ?_
        refine ⟨s3, ?_⟩
        show _ = some (HO.lst ((wl D x i ++ if D.R (x + 1 + (i : Int)) then [] else [x + 1 + (i : Int)]).map V.int))
        rw [if_pos hR, List.append_nil]
        exact gA
      · refine iteT' (by rw [decide_eq_false hR]; rfl) ?_
        refine ⟨_, rfl, _, gA, small1000 (by rw [List.length_map]; have := wl_le (D := D) (x := x) i; omega), Same.write s3 nA, ?_⟩
        show _ = some (HO.lst ((wl D x i ++ if D.R (x + 1 + (i : Int)) then [] else [x + 1 + (i : Int)]).map V.int))
        rw [if_neg hR, List.map_append, upd_same]
        rfl
    rintro G3 ⟨s3, gA⟩
    have hn30 : 30 ≤ n ∧ n ≤ 89 := by omega
    have ewl : ((wl D x n).length : Int) = D.cw (x + (30 + r)) - D.cw x := by rw [hn, wl_len, DV.cw_more x0]
    have e3 : But b H G3 := But.trans e (But.same s3)
    have D3 := hD.but hB e3
    have B3 := B.keep s3
    refine ⟨_, rfl, _, rfl, _, rfl, _, _, rfl, rfl, p, D, _, rfl, D3, L, by omega, by omega, fun G4 s4 => ?_⟩
    refine ⟨_, rfl, _, rfl, p, D, x, rfl, D3.keep s4, L, x0, by omega, fun G5 s5 => ?_⟩
    have s35 := s4.trans s5
    have gA5 := s35 _ _ gA
    refine ⟨_, _, rfl, rfl, _, rfl, A0, _, rfl, .inl (SqL.of gA5), rfl, _, rfl, ?_⟩
    refine iteF' (by
      show (!decide (V.int (D.cw (x + (30 + r)) - D.cw x) = V.int (((wl D x n).map V.int).length : Int))) = false
      rw [List.length_map, ewl, decide_eq_true rfl]
      rfl) ?_
    refine ⟨_, rfl, _, _, rfl, rfl, _, rfl, _, _, rfl, rfl, _, _, rfl, ?_⟩
    have ej2 : (x + 13 - (x + 1)).toNat = 12 := by omega
    rw [ej2]
    refine for_range (lo := x + 1) (n := 12) (fun i σ G6 => ∃ v5, σ = [some (.ref b), some (.ref p), some (.int x), some (.int (30 + r)), some (.ref A0), v5, none, none] ∧ Same G5 G6) ⟨none, rfl, Same.refl _⟩ ?_ ?_
    · rintro i σ G6 hi ⟨v5, rfl, s6⟩
      have D6 := D3.keep (s35.trans s6)
      refine ⟨_, rfl, _, rfl, p, D, x + 1 + (i : Int), rfl, D6, L, by omega, by omega, ?_⟩
      refine ⟨_, rfl, _, rfl, A0, _, rfl, .inl (SqL.of (s6 _ _ gA5)), rfl, flat_int _, rfl, _, rfl, ?_⟩
      refine iteF' ?_ ⟨_, rfl, s6⟩
      show (!decide (V.bl (decide (D.R (x + 1 + (i : Int)))) = V.bl (!inV (V.int (x + 1 + (i : Int))) ((wl D x n).map V.int)))) = false
      rw [inV_int]
      have em : x + 1 + (i : Int) ∈ wl D x n ↔ ¬ D.R (x + 1 + (i : Int)) := by
        rw [wl_mem]
        constructor
        · exact fun h => h.2.2
        · exact fun h => ⟨by omega, by omega, h⟩
      by_cases hR : D.R (x + 1 + (i : Int))
      · rw [decide_eq_true hR, decide_eq_false (fun z => em.mp z hR)]
        decide +kernel
      · rw [decide_eq_false hR, decide_eq_true (em.mpr hR)]
        decide +kernel
    rintro σ G6 ⟨v5, rfl, s6⟩
    have sG6 := s3.trans (s35.trans s6)
    have D6 := D3.keep (s35.trans s6)
    have gA6 := s6 _ _ gA5
    refine ⟨_, rfl, _, rfl, _, _, rfl, rfl, p, D, x + 1, rfl, D6, L, by omega, by omega, fun G7 s7 => ?_⟩
    have D7 := D6.keep s7
    have gA7 := s7 _ _ gA6
    have fin : ∀ {G8 : Hp}, Same G7 G8 → Q (.bl true) G8 := fun {G8} s8 => k _ (BagAt.up (B.keep (sG6.trans (s7.trans s8))) (by omega)) (But.trans e (But.same (sG6.trans (s7.trans s8))))
    cases hl : D.nw (x + 1) with
    | none =>
      have w0 : wl D x n = [] := by
        cases e0 : wl D x n with
        | nil => rfl
        | cons f r2 =>
          have := wl_head L.ok x0 e0
          rw [hl] at this
          cases this
      refine ⟨_, rfl, rfl, _, rfl, iteF' rfl ?_⟩
      refine ⟨_, rfl, rfl, _, rfl, iteF' rfl ?_⟩
      refine ⟨_, rfl, (by show 0 ≤ sizeLine; decide), fun z nz => ?_⟩
      have sz := Same.new (o := .lst []) nz
      rw [w0] at gA7
      refine ⟨.list [], .list [], .lst (SqL.of (sz _ _ gA7)) .nil, .lst (SqL.of upd_same) .nil, by decide +kernel, by decide +kernel, ?_⟩
      rw [show PyData.eqv (.list []) (.list []) = true from by decide +kernel]
      exact fin sz
    | some y =>
      obtain ⟨y0, y1, y2⟩ := DV.nw_some L.ok (by omega) hl
      refine ⟨_, rfl, rfl, _, rfl, iteT' rfl ?_⟩
      refine ⟨_, rfl, 10, 59, rfl, rfl, ⟨by decide, by decide, by decide⟩, _, _, rfl, rfl, _, rfl, ?_⟩
      refine ite2 (fun h => ?_) (fun h => ?_)
      · exact fin (Same.refl _)
      have hy59 : y ≤ 10 ^ 59 := by
        have : ¬ (10 : Int) ^ Int.toNat 59 < y := fun z => h (decide_eq_true z)
        have e59 : Int.toNat 59 = 59 := rfl
        rw [e59] at this
        omega
      have hy60 : y ≤ 10 ^ 60 := Int.le_trans hy59 (by decide)
      refine ⟨_, rfl, _, rfl, p, D, y, rfl, D7, L, by omega, hy60, fun G8 s8 => ?_⟩
      refine ⟨_, rfl, _, rfl, p, D, x, rfl, D7.keep s8, L, x0, by omega, fun G9 s9 => ?_⟩
      have s79 := s8.trans s9
      refine ⟨_, _, rfl, rfl, rfl, _, rfl, ?_⟩
      refine iteF' (by
        show (!decide (V.int (D.cw y - D.cw x) = V.int 1)) = false
        rw [DV.cw_next x0 (by omega) (fun z a b => y2 z (by omega) b) y1]
        decide +kernel) ?_
      have gA9 := s79 _ _ gA7
      have skip : ∀ {Qb : Bool → Hp → Prop}, (∀ G10, Same G9 G10 → Qb false G10) → tAnd (tTest (tOp (rNeD K) (tVar 4) (tLst tNil))) (tTest (tOp rNe (tVar 6) (tOp (rIxL K) (tVar 4) (tC (V.int 0))))) [some (.ref b), some (.ref p), some (.int x), some (.int (30 + r)), some (.ref A0), v5, some (.int y), none] G9 Qb := by
        intro Qb hQ
        refine ⟨_, rfl, (by show 0 ≤ sizeLine; decide), fun z nz => ?_⟩
        have sz := Same.new (o := .lst []) nz
        refine ⟨.list ((wl D x n).map PyData.int), .list [], .lst (SqL.of (sz _ _ gA9)) (dpI _), .lst (SqL.of upd_same) .nil, shapedI _, by decide +kernel, _, rfl, ?_⟩
        cases e0 : wl D x n with
        | nil => exact iteF' (show (!PyData.eqv (.list []) (.list [])) = false by decide +kernel) (hQ _ sz)
        | cons f r2 =>
          refine iteT' (show (!PyData.eqv (.list ((f :: r2).map PyData.int)) (.list [])) = true by simp [PyData.eqv, PyData.eqvAll]) ?_
          have hf := wl_head L.ok x0 e0
          rw [hl] at hf
          have hyf : y = f := Option.some.inj hf
          rw [e0] at gA9
          refine ⟨_, rfl, _, rfl, A0, _, 0, V.int f, rfl, rfl, SqL.of (sz _ _ gA9), atI_nat (j := 0) rfl, rfl, _, rfl, ?_⟩
          rw [show (!decide (V.int y = V.int f)) = false by rw [hyf, decide_eq_true rfl]; rfl]
          exact hQ _ sz
      refine skip fun G10 s10 => iteF ?_
      have s710 := s79.trans s10
      refine ⟨_, rfl, _, rfl, p, D, y, rfl, D7.keep s710, L, by omega, hy60, fun G11 s11 => ?_⟩
      have s711 := s710.trans s11
      cases hr' : D.nr y with
      | none =>
        refine ⟨_, rfl, rfl, _, rfl, iteF' rfl (iteF ?_)⟩
        exact ⟨_, rfl, rfl, _, rfl, iteT' rfl (fin s711)⟩
      | some z =>
        obtain ⟨z0, z1, z2⟩ := DV.nr_some L.ok (by omega) hr'
        have yz : y < z := by
          by_cases c1 : y = z
          · rw [c1] at y1
            exact absurd z1 y1
          · omega
        refine ⟨_, rfl, rfl, _, rfl, iteT' rfl ?_⟩
        refine ⟨_, rfl, 10, 59, rfl, rfl, ⟨by decide, by decide, by decide⟩, _, _, rfl, rfl, _, rfl, ?_⟩
        refine ite2 (fun h => ?_) (fun h => ?_)
        · have hz59 : z < 10 ^ 59 := of_decide_eq_true h
          have hz60 : z ≤ 10 ^ 60 := Int.le_trans (Int.le_of_lt hz59) (by decide)
          have D11 := D7.keep s711
          refine ⟨_, rfl, _, rfl, p, D, z, rfl, D11, L, (one60 (by omega) hz60).mono (by decide), ?_⟩
          rw [decide_eq_true z1]
          refine ⟨_, rfl, iteF ?_⟩
          refine ⟨_, rfl, _, rfl, _, _, rfl, rfl, p, D, z - 1, rfl, D11, L, (one60 (by omega) (by omega)).mono (by decide), ?_⟩
          rw [decide_eq_false (z2 (z - 1) (by omega) (by omega))]
          refine ⟨_, rfl, iteF ?_⟩
          refine ⟨_, rfl, _, rfl, p, D, z, rfl, D11, L, by omega, hz60, fun G12 s12 => ?_⟩
          refine ⟨_, rfl, _, rfl, p, D, y, rfl, D11.keep s12, L, by omega, hy60, fun G13 s13 => ?_⟩
          refine ⟨_, _, rfl, rfl, _, rfl, _, _, rfl, rfl, _, rfl, _, _, rfl, rfl, rfl, ?_⟩
          show Q (.bl (decide (V.int (D.cw z - D.cw y) = V.int (z - 1 - y)))) G13
          rw [DV.cw_bad (by omega) yz (fun t a b => z2 t (by omega) b) z1, decide_eq_true rfl]
          exact fin (s711.trans (s12.trans s13))
        · exact ⟨_, rfl, rfl, _, rfl, iteT' rfl (fin s711)⟩
end
end KD

set_option Elab.async false
set_option linter.all false
set_option maxRecDepth 100000
set_option maxHeartbeats 8000000
/-! k62, the law, e: bounds -/
namespace DV
theorem pow_add_int (a b : Nat) : (2 : Int) ^ (a + b) = 2 ^ a * 2 ^ b := Int.pow_add ..
theorem pow_le {a b : Nat} (h : a ≤ b) : (2 : Int) ^ a ≤ 2 ^ b := by
  obtain ⟨k, rfl⟩ : ∃ k, b = a + k := ⟨b - a, by omega⟩
  rw [pow_add_int]
  have h1 : (0 : Int) < 2 ^ a := Int.pow_pos (by decide)
  have h2 : (0 : Int) < 2 ^ k := Int.pow_pos (by decide)
  have := mul_le (g := (2 : Int) ^ a) (by omega) (show (1 : Int) ≤ 2 ^ k by omega)
  omega
/-- times that are right are not great -/
theorem most_bd {b t m : Int} {few e : Nat} (hb : 2 ≤ b) (ht : 1 ≤ t) (ht2 : t ≤ 10 ^ 50) (hm : 0 ≤ m) (he : e ≤ 19) (hfew : ∀ k, k < few → ¬ ∃ m, 0 ≤ m ∧ AllR b t k m) (hA : AllR b t (few + e) m) : m ≤ 10 ^ 58 := by
  obtain ⟨W, hW⟩ : ∃ W : Int, W = 2 ^ (few + e) := ⟨_, rfl⟩
  have hWp : 0 < W := by rw [hW]; exact Int.pow_pos (by decide)
  have h1 := (R0_iff.mp (hA t (by omega) (Int.le_refl _))).2
  rw [← hW] at h1
  have e19 : (2 : Int) ^ e ≤ 2 ^ 19 := pow_le he
  have e0 : (0 : Int) < 2 ^ e := Int.pow_pos (by decide)
  by_cases c : t < b
  · have f0 : few = 0 := by
      by_cases z : few = 0
      · exact z
      · exact absurd (some_at hb ht (.inr c)) (hfew 0 (by omega))
    rw [Int.ediv_eq_zero_of_lt (by omega) c, Int.mul_zero] at h1
    have : W = 2 ^ e := by rw [hW, f0, Nat.zero_add]
    have h2 := Int.mul_le_mul_of_nonneg_right ht hm
    rw [Int.one_mul] at h2
    have : m < 2 ^ 19 := by omega
    exact Int.le_of_lt (Int.lt_trans this (by decide))
  · have te := Int.emod_add_mul_ediv t b
    have t0 := Int.emod_nonneg t (show b ≠ 0 by omega)
    -- b t m < 2 W t
    have k1 : b * (t * m) < b * (W * (t / b) + W) := Int.mul_lt_mul_of_pos_left h1 (by omega)
    have k2 : b * (W * (t / b) + W) = W * (b * (t / b) + b) := by
      rw [Int.mul_add, Int.mul_add, ← Int.mul_assoc, Int.mul_comm b W, Int.mul_assoc]
    have k3 : W * (b * (t / b) + b) ≤ W * (t * 2) := mul_le (by omega) (by omega)
    have k4 : b * (t * m) = t * (b * m) := by rw [← Int.mul_assoc, Int.mul_comm b t, Int.mul_assoc]
    have k5 : W * (t * 2) = t * (2 * W) := by rw [← Int.mul_assoc, Int.mul_comm W t, Int.mul_assoc, Int.mul_comm W 2]
    have k6 : b * m < 2 * W := Int.lt_of_mul_lt_mul_left (a := t) (by omega) (by omega)
    by_cases z : few = 0
    · have : W = 2 ^ e := by rw [hW, z, Nat.zero_add]
      have h2 := Int.mul_le_mul_of_nonneg_right (show (1 : Int) ≤ b by omega) hm
      rw [Int.one_mul] at h2
      have : m < 2 ^ 20 := by
        have : (2 : Int) ^ 20 = 2 * 2 ^ 19 := by decide
        omega
      exact Int.le_of_lt (Int.lt_trans this (by decide))
    · have l1 : 2 ^ (few - 1) < b * (t + 1) := by
        by_cases y : b * (t + 1) ≤ 2 ^ (few - 1)
        · exact absurd (some_at hb ht (.inl y)) (hfew (few - 1) (by omega))
        · omega
      have l2 : W = 2 ^ (few - 1) * (2 * 2 ^ e) := by
        rw [hW, show few + e = (few - 1) + (1 + e) by omega, pow_add_int, pow_add_int 1 e]
        rfl
      have l3 : W ≤ (b * (t + 1)) * (2 * 2 ^ e) := by rw [l2]; exact Int.mul_le_mul_of_nonneg_right (by omega) (by omega)
      have l4 : (b * (t + 1)) * (2 * 2 ^ e) ≤ (b * (t + 1)) * 2 ^ 20 := mul_le (Int.mul_nonneg (by omega) (by omega)) (by
        have : (2 : Int) ^ 20 = 2 * 2 ^ 19 := by decide
        omega)
      have l5 : b * m < b * ((t + 1) * 2 ^ 21) := by
        have : b * ((t + 1) * 2 ^ 21) = 2 * ((b * (t + 1)) * 2 ^ 20) := by
          rw [show (2 : Int) ^ 21 = 2 * 2 ^ 20 from by decide, Int.mul_comm (t + 1), ← Int.mul_assoc, Int.mul_comm b, Int.mul_assoc, Int.mul_assoc, Int.mul_comm (2 ^ 20) (b * (t + 1))] <;> first | rfl | skip
          all_goals rw [Int.mul_comm (2 ^ 20) _]
        omega
      have l6 : m < (t + 1) * 2 ^ 21 := Int.lt_of_mul_lt_mul_left (a := b) l5 (by omega)
      have l7 : (t + 1) * 2 ^ 21 ≤ (10 ^ 50 + 1) * 2 ^ 21 := Int.mul_le_mul_of_nonneg_right (by omega) (by decide)
      exact Int.le_of_lt (Int.lt_of_lt_of_le l6 (Int.le_trans l7 (by decide)))
theorem few_bd {b t : Int} {few : Nat} (hb : 2 ≤ b) (hb2 : b ≤ 10 ^ 25 + 1) (ht : 1 ≤ t) (ht2 : t ≤ 10 ^ 50) (hfew : ∀ k, k < few → ¬ ∃ m, 0 ≤ m ∧ AllR b t k m) : few ≤ 251 := by
  by_cases c : few ≤ 251
  · exact c
  · refine absurd (some_at hb ht (.inl ?_)) (hfew 251 (by omega))
    have h1 : b * (t + 1) ≤ (10 ^ 25 + 1) * (10 ^ 50 + 1) := Int.mul_le_mul hb2 (by omega) (by omega) (by decide)
    exact Int.le_trans h1 (by decide)
theorem near_bd {b t : Int} {few : Nat} (hb : 2 ≤ b) (ht : 1 ≤ t) (hf : 0 < few) (hfew : ∀ k, k < few → ¬ ∃ m, 0 ≤ m ∧ AllR b t k m) : (2 : Int) ^ (few - 1) / b ≤ t := by
  have l1 : (2 : Int) ^ (few - 1) < b * (t + 1) := by
    by_cases y : b * (t + 1) ≤ 2 ^ (few - 1)
    · exact absurd (some_at hb ht (.inl y)) (hfew (few - 1) (by omega))
    · omega
  have : (2 : Int) ^ (few - 1) / b < t + 1 := by
    rw [Int.ediv_lt_iff_lt_mul (by omega), Int.mul_comm]
    exact l1
  omega
end DV

set_option Elab.async false
set_option linter.all false
set_option maxRecDepth 100000
set_option maxHeartbeats 16000000
/-! k62: the law -/
namespace KD
open PySem L2
open DV (Dv)
open KDB (TxtB BagAt spBag spDraw)
def spLaw (K : PySem.W.Frag) : Sp := fun vs H Q _ => ∃ (a : Addr) (ns : List Int), vs = [.ref a] ∧ SqL K H a (ns.map V.int) ∧ ns.length ≤ 63 ∧ ∀ H', Q (.bl true) H'
theorem seq_by {t u : TS} {D : Ends} {σ : L2.St} {H : Hp} (G : L2.St → Hp → Prop) (hu : ∀ σ' H', G σ' H' → u D σ' H') (ht : (∀ σ' H', G σ' H' → u D σ' H') → t { D with nx := u D } σ H) : tSeq t u D σ H := ht hu
theorem add_to {Q : VK} {i j k : Int} {H : Hp} (e : i + j = k) (q : Q (.int k) H) : Q ((fun i j => V.int (i + j)) i j) H := by
  subst e
  exact q
abbrev nmLaw : List Str := ["_law_script", "_law_bag_here", "_law_turn", "_law_by", "_law_top", "_law_few", "_law_shift", "_law_least", "_law_most", "_law_between", "_law_times", "_law_near", "_law_more", "_law_odd", "_law_far"]
theorem scLaw : FnScope nmLaw ["_law_script"] (defScope sLaw) := ⟨rfl, rfl, rfl, by decide +kernel, rfl, by decide +kernel, by decide +kernel⟩
section
variable {P : Program} {w : World} {K : PySem.W.Frag} {mg : Str → Option Value} {base : Heap}
theorem ok_law {f C fDI f1 f2 f3 f4 f5 f6 f7 f8 f9 f10 : Addr} {fd fdDI fd1 fd2 fd3 fd4 fd5 fd6 fd7 fd8 fd9 fd10 : FuncData} (F : Fun K "law" "law" sLaw f fd) (T : TxtI mg) (TD : TxtD K mg C)
    (GB : FnOk P w K mg base CX0 1 f1 fd1 ["_law_script"] (spBag K)) (kB : PySem.W.keepIn K (.ref f1) = true) (bB : Binds K fd1 ["_law_script"] []) (gB : mg "_law_bag" = some (.ref f1))
    (GD : FnOk P w K mg base CX0 1 f2 fd2 ["_law_bag_here", "_law_limit"] spDraw) (kD : PySem.W.keepIn K (.ref f2) = true) (bD : Binds K fd2 ["_law_bag_here", "_law_limit"] []) (gD : mg "_law_draw" = some (.ref f2))
    (GP : FnOk P w K mg base CX0 2 f3 fd3 ["_law_bag_here", "_law_pool"] spPick) (kP : PySem.W.keepIn K (.ref f3) = true) (bP : Binds K fd3 ["_law_bag_here", "_law_pool"] []) (gP : mg "_law_pick" = some (.ref f3))
    (GW : FnOk P w K mg base CX0 1 f4 fd4 ["_law_bits"] spPower) (kW : PySem.W.keepIn K (.ref f4) = true) (bW : Binds K fd4 ["_law_bits"] []) (gW : mg "_law_power" = some (.ref f4))
    (GG : FnOk P w K mg base CX0 2 f5 fd5 ["_law_bag_here", "_law_most"] spGreat) (kG : PySem.W.keepIn K (.ref f5) = true) (bG : Binds K fd5 ["_law_bag_here", "_law_most"] []) (gG : mg "_law_great" = some (.ref f5))
    (GH : FnOk P w K mg base CX0 7 f6 fd6 ["_law_bag_here", "_law_divider", "_law_top"] (spHolds C)) (kH : PySem.W.keepIn K (.ref f6) = true) (bH : Binds K fd6 ["_law_bag_here", "_law_divider", "_law_top"] []) (gH : mg "_law_holds_to" = some (.ref f6))
    (GF : FnOk P w K mg base CX0 7 f7 fd7 ["_law_bag_here", "_law_divider", "_law_top"] (spFalls C)) (kF : PySem.W.keepIn K (.ref f7) = true) (bF : Binds K fd7 ["_law_bag_here", "_law_divider", "_law_top"] []) (gF : mg "_law_falls_by" = some (.ref f7))
    (GX : FnOk P w K mg base CX0 7 f8 fd8 ["_law_bag_here", "_law_divider", "_law_x"] (spFar C)) (kX : PySem.W.keepIn K (.ref f8) = true) (bX : Binds K fd8 ["_law_bag_here", "_law_divider", "_law_x"] []) (gX : mg "_law_far_counts" = some (.ref f8))
    (GT : FnOk P w K mg base CX0 4 f9 fd9 ["by", "top", "shift"] (spTB K)) (kT : PySem.W.keepIn K (.ref f9) = true) (bT : Binds K fd9 ["by", "top", "shift"] []) (gT : mg "times_for" = some (.ref f9))
    (GL : FnOk P w K mg base CX0 4 f10 fd10 ["by", "top"] spLS) (kL : PySem.W.keepIn K (.ref f10) = true) (bL : Binds K fd10 ["by", "top"] []) (gL : mg "least_shift" = some (.ref f10))
    (MD : Mk K C fDI) (GDI : FnOk P w K mg base CX0 4 fDI fdDI ["self", "by", "multiplier", "offset", "shift"] (spDI C)) (bDI : Binds K fdDI ["self", "by", "multiplier", "offset", "shift"] []) :
    FnOk P w K mg base CX0 8 f fd ["_law_script"] (spLaw K) := by
  have sc := scLaw
  refine F.ok scLaw (fun vs H Q E h => ?_) (fun cdv A outer s H vs Q E hr h => ?_)
  · obtain ⟨a, ns, rfl, _⟩ := h
    rfl
  · obtain ⟨a, ns, rfl, hS, hlen, k⟩ := h
    have hr7 : Room 7 _ := hr
    have hr1 : Room 1 _ := hr.mono (by decide)
    have hr2 : Room 2 _ := hr.mono (by decide)
    have hr4 : Room 4 _ := hr.mono (by decide)
    have hr5 : Room 5 _ := hr.mono (by decide)
    refine ⟨_, pss_cons (ps_set (i := 1) sc.nd rfl (.inl rfl) (pe_call GB hr1 rfl gB kB bB .nil pass0 (pa_cons (pv 0) pa_nil)))
        (pss_cons (ps_for PassesOwn.never rfl (pi_range1 (by rfl) T.range (pa_cons (pe_op op_add pe_int (pe_callB (call_min2 rfl) (by rfl) T.min (by kernel_rfl) (pa_cons pe_int (pa_cons (pe_callB call_len_seq (by rfl) T.len PySem.boot_len (pa_cons (pv 0) pa_nil)) pa_nil)))) pa_nil)) (pg_name (i := 2) sc.nd rfl (Or.inl rfl)) (pss_cons (ps_set (i := 3) sc.nd rfl (.inl rfl) (pe_op op_add pe_int (pe_call GG hr2 rfl gG kG bG .nil pass0 (pa_cons (pv 1) (pa_cons (pe_call GP hr2 rfl gP kP bP .nil pass0 (pa_cons (pv 1) (pa_cons (pe_lst (pa_cons pe_int (pa_cons pe_int (pa_cons (pe_op op_pow pe_int pe_int) (pa_cons (pe_op op_pow pe_int pe_int) pa_nil))))) pa_nil))) pa_nil)))))
        (pss_cons (ps_set (i := 4) sc.nd rfl (.inl rfl) (pe_op op_add pe_int (pe_call GG hr2 rfl gG kG bG .nil pass0 (pa_cons (pv 1) (pa_cons (pe_call GP hr2 rfl gP kP bP .nil pass0 (pa_cons (pv 1) (pa_cons (pe_lst (pa_cons (pv 3) (pa_cons (pe_op op_mul pe_int (pv 3)) (pa_cons (pe_op op_pow pe_int pe_int) (pa_cons (pe_op op_pow pe_int pe_int) (pa_cons (pe_op op_pow pe_int pe_int) pa_nil)))))) pa_nil))) pa_nil)))))
        (pss_cons (ps_set (i := 5) sc.nd rfl (.inl rfl) (pe_call GL hr4 rfl gL kL bL .nil pass0 (pa_cons (pv 3) (pa_cons (pv 4) pa_nil))))
        (pss_cons (ps_set (i := 6) sc.nd rfl (.inl rfl) (pe_op op_add (pv 5) (pe_call GP hr2 rfl gP kP bP .nil pass0 (pa_cons (pv 1) (pa_cons (pe_lst (pa_cons pe_int (pa_cons pe_int (pa_cons pe_int (pa_cons (pe_op op_add pe_int (pe_call GD hr1 rfl gD kD bD .nil pass0 (pa_cons (pv 1) (pa_cons pe_int pa_nil)))) pa_nil))))) pa_nil)))))
        (pss_cons (ps_asg (pe_call GT hr4 rfl gT kT bT .nil pass0 (pa_cons (pv 3) (pa_cons (pv 4) (pa_cons (pv 6) pa_nil)))) (pg_tup rfl (pgs_cons (pg_name (i := 7) sc.nd rfl (.inl rfl)) (pgs_cons (pg_name (i := 8) sc.nd rfl (.inl rfl)) pgs_nil))))
        (pss_cons (ps_set (i := 9) sc.nd rfl (.inl rfl) (pe_op op_add (pv 7) (pe_call GG hr2 rfl gG kG bG .nil pass0 (pa_cons (pv 1) (pa_cons (pe_op op_add (pe_op op_sub (pv 8) (pv 7)) pe_int) pa_nil)))))
        (pss_cons (ps_for PassesOwn.never rfl (pi_list (pe_lst (pa_cons (pv 7) (pa_cons (pv 8) (pa_cons (pv 9) pa_nil))))) (pg_name (i := 10) sc.nd rfl (Or.inl rfl)) (pss_one (ps_if (pt_not (pt_val (pe_call GH hr7 rfl gH kH bH .nil pass0 (pa_cons (pv 1) (pa_cons (pe_make MD GDI hr5 (by rfl) TD.mgC bDI .nil pass0 (pa_cons (pv 3) (pa_cons (pv 10) (pa_cons pe_int (pa_cons (pv 6) pa_nil))))) (pa_cons (pv 4) pa_nil)))))) (pss_one (ps_ret pe_bl)) pss_nil)))
        (pss_cons (ps_for PassesOwn.never rfl (pi_list (pe_lst (pa_cons (pe_op op_sub (pv 7) pe_int) (pa_cons (pe_op op_add (pv 8) pe_int) pa_nil)))) (pg_name (i := 10) sc.nd rfl (Or.inl rfl)) (pss_one (ps_if (PW.pt (pw_and (pt_cmpR op_ge (pv 10) pe_int (nomark _)) (pw_and1 (pt_not (pt_val (pe_call GF hr7 rfl gF kF bF .nil pass0 (pa_cons (pv 1) (pa_cons (pe_make MD GDI hr5 (by rfl) TD.mgC bDI .nil pass0 (pa_cons (pv 3) (pa_cons (pv 10) (pa_cons pe_int (pa_cons (pv 6) pa_nil))))) (pa_cons (pv 4) pa_nil))))))))) (pss_one (ps_ret pe_bl)) pss_nil)))
        (pss_cons (ps_if (PW.pt (pw_and (pt_cmpR op_eq (pv 6) (pv 5) (nomark _)) (pw_and1 (pt_cmpR op_gt (pv 6) pe_int (nomark _))))) (pss_cons (ps_set (i := 11) sc.nd rfl (.inl rfl) (pe_op op_fdivW (pe_call GW hr1 rfl gW kW bW .nil pass0 (pa_cons (pe_op op_sub (pv 6) pe_int) pa_nil)) (pv 3)))
        (pss_cons (ps_if (pt_cmpR op_notN (pe_call GT hr4 rfl gT kT bT .nil pass0 (pa_cons (pv 3) (pa_cons (pv 4) (pa_cons (pe_op op_sub (pv 6) pe_int) pa_nil)))) pe_non (nomark _)) (pss_one (ps_ret pe_bl)) pss_nil)
        (pss_one (ps_for PassesOwn.never rfl (pi_list (pe_lst (pa_cons (pv 11) (pa_cons (pe_op op_add (pv 11) pe_int) pa_nil)))) (pg_name (i := 10) sc.nd rfl (Or.inl rfl)) (pss_one (ps_if (pt_not (pt_val (pe_call GF hr7 rfl gF kF bF .nil pass0 (pa_cons (pv 1) (pa_cons (pe_make MD GDI hr5 (by rfl) TD.mgC bDI .nil pass0 (pa_cons (pv 3) (pa_cons (pv 10) (pa_cons pe_int (pa_cons (pe_op op_sub (pv 6) pe_int) pa_nil))))) (pa_cons (pv 4) pa_nil)))))) (pss_one (ps_ret pe_bl)) pss_nil)))))) pss_nil)
        (pss_cons (ps_set (i := 12) sc.nd rfl (.inl rfl) (pe_call GP hr2 rfl gP kP bP .nil pass0 (pa_cons (pv 1) (pa_cons (pe_lst (pa_cons pe_int (pa_cons pe_int (pa_cons (pe_call GG hr2 rfl gG kG bG .nil pass0 (pa_cons (pv 1) (pa_cons (pe_op op_add (pe_callB (call_min2 rfl) (by rfl) T.min (by kernel_rfl) (pa_cons (pe_call GW hr1 rfl gW kW bW .nil pass0 (pa_cons (pv 6) pa_nil)) (pa_cons (pe_op op_pow pe_int pe_int) pa_nil))) pe_int) pa_nil))) (pa_cons (pe_call GG hr2 rfl gG kG bG .nil pass0 (pa_cons (pv 1) (pa_cons (pe_op op_pow pe_int pe_int) pa_nil))) pa_nil))))) pa_nil))))
        (pss_cons (ps_set (i := 10) sc.nd rfl (.inl rfl) (pe_call GP hr2 rfl gP kP bP .nil pass0 (pa_cons (pv 1) (pa_cons (pe_lst (pa_cons (pv 9) (pa_cons (pe_op op_add (pv 8) pe_int) (pa_cons (pe_callB (call_max2 rfl) (by rfl) T.max (by kernel_rfl) (pa_cons pe_int (pa_cons (pe_op op_sub (pv 7) pe_int) pa_nil))) (pa_cons (pe_call GG hr2 rfl gG kG bG .nil pass0 (pa_cons (pv 1) (pa_cons (pe_op op_add (pe_op op_mul pe_int (pv 8)) pe_int) pa_nil))) pa_nil))))) pa_nil))))
        (pss_cons (ps_set (i := 13) sc.nd rfl (.inl rfl) (pe_make MD GDI hr5 (by rfl) TD.mgC bDI .nil pass0 (pa_cons (pv 3) (pa_cons (pv 10) (pa_cons (pv 12) (pa_cons (pv 6) pa_nil))))))
        (pss_cons (ps_set (i := 14) sc.nd rfl (.inl rfl) (pe_call GP hr2 rfl gP kP bP .nil pass0 (pa_cons (pv 1) (pa_cons (pe_lst (pa_cons pe_int (pa_cons (pe_op op_mul (pv 3) (pe_call GD hr1 rfl gD kD bD .nil pass0 (pa_cons (pv 1) (pa_cons pe_int pa_nil)))) (pa_cons (pe_call GG hr2 rfl gG kG bG .nil pass0 (pa_cons (pv 1) (pa_cons (pe_op op_add (pv 4) pe_int) pa_nil))) (pa_cons (pe_call GG hr2 rfl gG kG bG .nil pass0 (pa_cons (pv 1) (pa_cons (pe_op op_pow pe_int pe_int) pa_nil))) (pa_cons (pe_op op_sub (pe_op op_sub (pe_op op_pow pe_int pe_int) pe_int) (pe_call GD hr1 rfl gD kD bD .nil pass0 (pa_cons (pv 1) (pa_cons pe_int pa_nil)))) pa_nil)))))) pa_nil))))
        (pss_one (ps_if (pt_not (pt_val (pe_call GX hr7 rfl gX kX bX .nil pass0 (pa_cons (pv 1) (pa_cons (pv 13) (pa_cons (pv 14) pa_nil)))))) (pss_one (ps_ret pe_bl)) pss_nil))))))))))))))))
        (pss_one (ps_ret pe_bl))), ?_⟩
    refine ⟨_, rfl, a, ns, rfl, hS, hlen, fun b c H1 s1 B1 => ?_⟩
    refine ⟨_, rfl, a, _, rfl, .inl (s1.seq hS), _, _, rfl, _, _, rfl, rfl, ?_⟩
    obtain ⟨N, hN, hN4⟩ : ∃ N : Nat, (2 + (if ((ns.map V.int).length : Int) < 2 then ((ns.map V.int).length : Int) else 2)) = (N : Int) ∧ N ≤ 4 := by
      split
      · exact ⟨2 + (ns.map V.int).length, by omega, by omega⟩
      · exact ⟨4, rfl, Nat.le_refl _⟩
    refine ⟨(N : Int), by show [V.int (2 + (if ((ns.map V.int).length : Int) < 2 then ((ns.map V.int).length : Int) else 2))] = _; rw [hN], by omega, by omega, ?_⟩
    rw [Int.toNat_natCast]
    refine for_range (lo := 0) (n := N) (fun i σ G => ∃ (v2 v3 v4 v5 v6 v7 v8 v9 v10 v11 v12 v13 v14 : Option V), σ = [some (.ref a), some (.ref b), v2, v3, v4, v5, v6, v7, v8, v9, v10, v11, v12, v13, v14] ∧ BagAt c G b (5000 * i))
      ⟨_, _, _, _, _, _, _, _, _, _, _, _, _, rfl, B1⟩ ?_ ?_
    case refine_2 =>
      rintro σ G ⟨v2, v3, v4, v5, v6, v7, v8, v9, v10, v11, v12, v13, v14, rfl, B⟩
      exact k _
    rintro i σ G0 hi ⟨v2, v3, v4, v5, v6, v7, v8, v9, v10, v11, v12, v13, v14, rfl, B0⟩
    -- by
    refine ⟨_, rfl, _, rfl, 10, 9, rfl, rfl, ⟨by decide, by decide, by decide⟩, 10, 25, rfl, rfl, ⟨by decide, by decide, by decide⟩, (by show 4 ≤ sizeLine; decide), fun p1 n1 => ?_⟩
    have u1 := Same.new (o := .lst [.int 9, .int 300, .int (10 ^ 9), .int (10 ^ 25)]) n1
    refine ⟨b, c, p1, _, _, rfl, B0.keep u1, by omega, upd_same, by simp, by simp, fun w1 G1 hw1 B1' e1 => ?_⟩
    obtain ⟨q1, rfl, q10, q11⟩ : ∃ q, w1 = V.int q ∧ 0 < q ∧ q ≤ 10 ^ 25 := by
      have hv2 : w1 ∈ [V.int 9, .int 300, .int (10 ^ 9), .int (10 ^ 25)] := hw1
      simp only [List.mem_cons, List.mem_nil_iff, or_false] at hv2
      rcases hv2 with h | h | h | h
      · exact ⟨_, h, by decide, by decide⟩
      · exact ⟨_, h, by decide, by decide⟩
      · exact ⟨_, h, by decide, by decide⟩
      · exact ⟨_, h, by decide, by decide⟩
    refine ⟨b, c, _, _, rfl, B1', by omega, q10, fun r1 G2 r10 r11 B2 e2 => ?_⟩
    obtain ⟨by_, hby⟩ : ∃ y, 2 + r1 = y := ⟨_, rfl⟩
    refine ⟨_, _, rfl, rfl, ?_⟩
    simp only [hby]
    have bb2 : 2 ≤ by_ := by omega
    have bb1 : by_ ≤ 10 ^ 25 + 1 := by omega
    have bb60 : by_ ≤ 10 ^ 60 := Int.le_trans bb1 (by decide)
    -- top
    refine ⟨_, rfl, _, rfl, _, rfl, _, rfl, _, _, rfl, rfl, .inl ⟨by decide, by decide⟩, 10, 6, rfl, rfl, ⟨by decide, by decide, by decide⟩, 10, 30, rfl, rfl, ⟨by decide, by decide, by decide⟩, 10, 50, rfl, rfl, ⟨by decide, by decide, by decide⟩, (by show 5 ≤ sizeLine; decide), fun p2 n2 => ?_⟩
    have u2 := Same.new (o := .lst [.int by_, .int (3 * by_), .int (10 ^ 6), .int (10 ^ 30), .int (10 ^ 50)]) n2
    refine ⟨b, c, p2, _, _, rfl, B2.keep u2, by omega, upd_same, by simp, by simp, fun w2 G3 hw2 B3 e3 => ?_⟩
    obtain ⟨q2, rfl, q20, q21⟩ : ∃ q, w2 = V.int q ∧ 0 < q ∧ q ≤ 10 ^ 50 := by
      have hv2 : w2 ∈ [V.int by_, .int (3 * by_), .int (10 ^ 6), .int (10 ^ 30), .int (10 ^ 50)] := hw2
      simp only [List.mem_cons, List.mem_nil_iff, or_false] at hv2
      have x50 : (3 : Int) * (10 ^ 25 + 1) ≤ 10 ^ 50 := by decide
      rcases hv2 with h | h | h | h | h
      · exact ⟨_, h, by omega, by omega⟩
      · exact ⟨_, h, by omega, by omega⟩
      · exact ⟨_, h, by decide, by decide⟩
      · exact ⟨_, h, by decide, by decide⟩
      · exact ⟨_, h, by decide, by decide⟩
    refine ⟨b, c, _, _, rfl, B3, by omega, q20, fun r2 G4 r20 r21 B4 e4 => ?_⟩
    obtain ⟨t, ht⟩ : ∃ y, 1 + r2 = y := ⟨_, rfl⟩
    refine ⟨_, _, rfl, rfl, ?_⟩
    simp only [ht]
    have t1 : 1 ≤ t := by omega
    have t50 : t ≤ 10 ^ 50 := by omega
    have t59 : t ≤ 10 ^ 59 := Int.le_trans t50 (by decide)
    have t60 : t ≤ 10 ^ 60 := Int.le_trans t50 (by decide)
    -- few
    have hl : by_ * (t + 1) ≤ 2 ^ 400 := Int.le_trans (Int.mul_le_mul bb1 (show t + 1 ≤ 10 ^ 50 + 1 by omega) (by omega) (by decide)) (by decide)
    refine ⟨_, rfl, _, rfl, by_, t, rfl, bb2, bb60, t1, t60, hl, fun few G5 s5 few4 hex hmin => ?_⟩
    have B5 := B4.keep s5
    have few251 := DV.few_bd bb2 bb1 t1 t50 hmin
    -- shift
    refine ⟨_, rfl, _, rfl, _, rfl, b, c, 18, _, rfl, B5, by omega, by decide, by decide, fun r3 G6 r30 r31 B6 e6 => ⟨_, _, rfl, rfl, (by show 4 ≤ sizeLine; decide), fun p3 n3 => ?_⟩⟩
    have u3 := Same.new (o := .lst [.int 0, .int 0, .int 1, .int (2 + r3)]) n3
    refine ⟨b, c, p3, _, _, rfl, B6.keep u3, by omega, upd_same, by simp, by simp, fun w3 G7 hw3 B7 e7 => ?_⟩
    obtain ⟨e, rfl, he⟩ : ∃ e : Nat, w3 = V.int (e : Int) ∧ e ≤ 19 := by
      have hv2 : w3 ∈ [V.int 0, .int 0, .int 1, .int (2 + r3)] := hw3
      simp only [List.mem_cons, List.mem_nil_iff, or_false] at hv2
      rcases hv2 with h | h | h | h
      · exact ⟨0, h, by decide⟩
      · exact ⟨0, h, by decide⟩
      · exact ⟨1, h, by decide⟩
      · exact ⟨(2 + r3).toNat, by rw [h]; congr 1; omega, by omega⟩
    obtain ⟨sh, hsh, hsh2⟩ : ∃ sh : Nat, (few : Int) + (e : Int) = (sh : Int) ∧ sh = few + e := ⟨few + e, by omega, rfl⟩
    refine ⟨_, _, rfl, rfl, ?_⟩
    simp only [hsh]
    have sh4 : sh ≤ 400 := by omega
    have exS : Ex by_ t sh := by rw [hsh2]; exact DV.AllR_more hex e
    -- times_for
    refine ⟨_, rfl, _, rfl, _, rfl, by_, t, sh, rfl, bb2, bb60, t1, t60, sh4, fun G8 s8 hN => absurd exS hN, fun G8 pt l g s8 hpt l0 lg hA => ?_⟩
    refine ⟨pt, _, rfl, hpt, rfl, _, _, rfl, _, _, rfl, rfl, ?_⟩
    have B8 := B7.keep s8
    have g58 : g ≤ 10 ^ 58 := DV.most_bd bb2 t1 t50 (by omega) he hmin (by rw [← hsh2]; exact (hA g (by omega)).mpr ⟨lg, Int.le_refl _⟩)
    have two_pos : ∀ n : Nat, (0 : Int) < 2 ^ n := fun n => Int.pow_pos (by decide)
    -- between
    refine ⟨_, rfl, _, rfl, _, rfl, _, rfl, _, _, rfl, rfl, _, _, rfl, rfl, b, c, _, _, rfl, B8, by omega, by omega, fun r4 G9 r40 r41 B9 e9 => ?_⟩
    obtain ⟨bt, hbt⟩ : ∃ y, l + r4 = y := ⟨_, rfl⟩
    refine ⟨_, _, rfl, rfl, ?_⟩
    simp only [hbt]
    have x60 : (10 : Int) ^ 58 + 1 ≤ 10 ^ 60 := by decide
    have lim : ∀ (tm o : Int) (s : Nat), 0 ≤ tm → tm ≤ 10 ^ 60 → 0 ≤ o → o ≤ 10 ^ 60 → s ≤ 400 → Lim ⟨by_, tm, o, s⟩ := fun tm o s h1 h2 h3 h4 h5 => ⟨bb2, bb60, h1, h2, h3, h4, h5⟩
    have mkS : ∀ {G G' : Hp} {q dq : Addr}, G q = none → G dq = none → dq ≠ q → But q (upd (upd G dq (.own q)) q (.ins C dq [])) G' → Same G G' := fun {G G' q dq} nq ndq ne b1 => But.fresh ((Same.new (o := .own q) ndq).trans (Same.new (o := .ins C dq []) (by rw [upd_ne ne.symm]; exact nq))) b1 nq
    have nl : ∀ {xs : List V} (l : List (Key × V)), HO.lst xs ≠ .dK l := fun _ z => by cases z
    -- those that hold
    refine ⟨_, rfl, _, rfl, _, rfl, (by show 3 ≤ sizeLine; decide), fun p4 n4 => ?_⟩
    have u4 := Same.new (o := .lst [.int l, .int g, .int bt]) n4
    have p4b : p4 ≠ b := bag_ne (B9.keep u4) upd_same nl
    refine ⟨p4, rfl, ⟨_, SqL.of upd_same⟩, for_list (K := K) (a := p4) (xs := [V.int l, .int g, .int bt]) (fun j σ G => ∃ v10, σ = [some (.ref a), some (.ref b), some (.int (0 + (i : Int))), some (.int by_), some (.int t), some (.int (few : Nat)), some (.int (sh : Nat)), some (.int l), some (.int g), some (.int bt), v10, v11, v12, v13, v14] ∧ BagAt c G b (5000 * i + 100 + 210 * j) ∧ G p4 = some (.lst [.int l, .int g, .int bt]))
      ⟨_, rfl, BagAt.up (B9.keep u4) (by omega), upd_same⟩ (fun j σ G _ ⟨_, _, _, e⟩ => SqL.of e) ?_ ?_⟩
    · rintro j y σ G hj ⟨v10', rfl, BG, gp⟩
      have hj3 : j < 3 := (List.getElem?_eq_some_iff.mp hj).1
      obtain ⟨tm, rfl, tl, tg⟩ : ∃ tm, y = V.int tm ∧ l ≤ tm ∧ tm ≤ g := by
        have hv2 := List.mem_of_getElem? hj
        simp only [List.mem_cons, List.mem_nil_iff, or_false] at hv2
        rcases hv2 with h | h | h
        · exact ⟨_, h, by omega, by omega⟩
        · exact ⟨_, h, by omega, by omega⟩
        · exact ⟨_, h, by omega, by omega⟩
      refine ⟨_, rfl, _, rfl, _, rfl, _, rfl, fun q dq nq ndq ne => ⟨q, dq, ⟨by_, tm, 0, sh⟩, rfl, upd_same, lim tm 0 sh (by omega) (by omega) (by decide) (by decide) sh4, fun G' b1 hq => ⟨rfl, ?_⟩⟩⟩
      have sG := mkS nq ndq ne b1
      refine ⟨_, rfl, b, c, q, _, ⟨by_, tm, 0, sh⟩, t, rfl, BG.keep sG, by omega, ⟨dq, hq⟩, lim tm 0 sh (by omega) (by omega) (by decide) (by decide) sh4, t1, t59, (hA tm (by omega)).mpr ⟨tl, tg⟩, fun G2 BG2 eG2 => ?_⟩
      refine ⟨_, rfl, iteF ?_⟩
      exact ⟨_, rfl, BagAt.up BG2 (by omega), eG2 _ _ (sG _ _ gp) p4b⟩
    rintro σ G10 ⟨v10', rfl, B10, _⟩
    -- those that fall
    refine ⟨_, rfl, _, _, rfl, rfl, _, rfl, _, _, rfl, rfl, (by show 2 ≤ sizeLine; decide), fun p5 n5 => ?_⟩
    have u5 := Same.new (o := .lst [.int (l - 1), .int (g + 1)]) n5
    have p5b : p5 ≠ b := bag_ne (B10.keep u5) upd_same nl
    refine ⟨p5, rfl, ⟨_, SqL.of upd_same⟩, for_list (K := K) (a := p5) (xs := [V.int (l - 1), .int (g + 1)]) (fun j σ G => ∃ v10, σ = [some (.ref a), some (.ref b), some (.int (0 + (i : Int))), some (.int by_), some (.int t), some (.int (few : Nat)), some (.int (sh : Nat)), some (.int l), some (.int g), some (.int bt), v10, v11, v12, v13, v14] ∧ BagAt c G b (5000 * i + 800 + 210 * j) ∧ G p5 = some (.lst [.int (l - 1), .int (g + 1)]))
      ⟨_, rfl, BagAt.up (B10.keep u5) (by simp), upd_same⟩ (fun j σ G _ ⟨_, _, _, e⟩ => SqL.of e) ?_ ?_⟩
    · rintro j y σ G hj ⟨v10', rfl, BG, gp⟩
      have hj3 : j < 2 := (List.getElem?_eq_some_iff.mp hj).1
      obtain ⟨tm, rfl, tmb, tmo⟩ : ∃ tm, y = V.int tm ∧ tm ≤ 10 ^ 60 ∧ (tm < l ∨ g < tm) := by
        have hv2 := List.mem_of_getElem? hj
        simp only [List.mem_cons, List.mem_nil_iff, or_false] at hv2
        rcases hv2 with h | h
        · exact ⟨_, h, by omega, by omega⟩
        · exact ⟨_, h, by omega, by omega⟩
      refine ⟨_, rfl, _, _, rfl, rfl, _, rfl, ?_⟩
      by_cases c0 : (0 : Int) ≤ tm
      · refine iteT' (decide_eq_true c0) ?_
        refine ⟨_, rfl, _, rfl, _, rfl, _, rfl, fun q dq nq ndq ne => ⟨q, dq, ⟨by_, tm, 0, sh⟩, rfl, upd_same, lim tm 0 sh c0 tmb (by decide) (by decide) sh4, fun G' b1 hq => ⟨rfl, ?_⟩⟩⟩
        have sG := mkS nq ndq ne b1
        refine ⟨_, rfl, b, c, q, _, ⟨by_, tm, 0, sh⟩, t, rfl, BG.keep sG, by omega, ⟨dq, hq⟩, lim tm 0 sh c0 tmb (by decide) (by decide) sh4, t1, t59, (fun h => by have := (hA tm c0).mp h; omega), fun G2 BG2 eG2 => ?_⟩
        refine ⟨_, rfl, iteF ?_⟩
        exact ⟨_, rfl, BagAt.up BG2 (by omega), eG2 _ _ (sG _ _ gp) p5b⟩
      · refine iteF' (decide_eq_false c0) ?_
        refine iteF ?_
        exact ⟨_, rfl, BagAt.up BG (by omega), gp⟩
    rintro σ G11 ⟨v10'', rfl, B11, _⟩
    dsimp only
    refine seq_by (fun σ' H' => ∃ v10 v11, σ' = [some (.ref a), some (.ref b), some (.int (0 + (i : Int))), some (.int by_), some (.int t), some (.int (few : Nat)), some (.int (sh : Nat)), some (.int l), some (.int g), some (.int bt), v10, v11, v12, v13, v14] ∧ BagAt c H' b (5000 * i + 2000)) ?_ (fun rest => ?_)
    · rintro σ G12 ⟨w10, w11, rfl, B12⟩
      -- more
      have mpos : (0 : Int) < (if (10 : Int) ^ 59 < 2 ^ sh then (10 : Int) ^ 59 else 2 ^ sh) + 1 := by
        have := two_pos sh
        split <;> omega
      refine ⟨_, rfl, _, rfl, _, rfl, sh, rfl, sh4, 10, 59, rfl, rfl, ⟨by decide, by decide, by decide⟩, _, _, rfl, _, _, rfl, rfl, b, c, _, _, rfl, B12, by omega, mpos, fun r5 G13 r50 r51 B13 e13 => ?_⟩
      have r5b : r5 ≤ 10 ^ 59 := by
        have r51' : r5 < (if (10 : Int) ^ 59 < 2 ^ sh then (10 : Int) ^ 59 else 2 ^ sh) + 1 := r51
        split at r51' <;> omega
      refine ⟨_, rfl, 10, 40, rfl, rfl, ⟨by decide, by decide, by decide⟩, b, c, _, _, rfl, B13, by omega, by decide, fun r6 G14 r60 r61 B14 e14 => ⟨(by show 4 ≤ sizeLine; decide), fun p6 n6 => ?_⟩⟩
      have r6b : r6 ≤ 10 ^ 59 := by
        have r61' : r6 < 10 ^ 40 := r61
        exact Int.le_trans (Int.le_of_lt r61') (by decide)
      have u6 := Same.new (o := .lst [.int 0, .int 0, .int r5, .int r6]) n6
      refine ⟨b, c, p6, _, _, rfl, B14.keep u6, by omega, upd_same, by simp, by simp, fun w6 G15 hw6 B15 e15 => ?_⟩
      obtain ⟨mo, rfl, mo0, mo1⟩ : ∃ q, w6 = V.int q ∧ 0 ≤ q ∧ q ≤ 10 ^ 60 := by
        have hv2 : w6 ∈ [V.int 0, .int 0, .int r5, .int r6] := hw6
        simp only [List.mem_cons, List.mem_nil_iff, or_false] at hv2
        rcases hv2 with h | h | h | h
        · exact ⟨_, h, by decide, by decide⟩
        · exact ⟨_, h, by decide, by decide⟩
        · exact ⟨_, h, r50, by omega⟩
        · exact ⟨_, h, r60, by omega⟩
      -- times
      refine ⟨_, rfl, _, rfl, _, rfl, _, _, rfl, rfl, _, rfl, _, _, rfl, rfl, _, _, rfl, _, rfl, _, rfl, _, _, rfl, rfl, .inl ⟨by decide, by decide⟩, _, _, rfl, rfl, b, c, _, _, rfl, B15, by omega, by omega, fun r7 G16 r70 r71 B16 e16 => ⟨(by show 4 ≤ sizeLine; decide), fun p7 n7 => ?_⟩⟩
      have r7b : r7 ≤ 10 ^ 59 := by
        have e59 : 2 * (10 : Int) ^ 58 + 9 ≤ 10 ^ 59 := by decide
        have : r7 < 2 * g + 9 := r71
        omega
      have u7 := Same.new (o := .lst [.int bt, .int (g + 1), .int (if l - 1 > 0 then l - 1 else 0), .int r7]) n7
      refine ⟨b, c, p7, _, _, rfl, B16.keep u7, by omega, upd_same, by simp, by simp, fun w7 G17 hw7 B17 e17 => ?_⟩
      obtain ⟨tm, rfl, tm0, tm1⟩ : ∃ q, w7 = V.int q ∧ 0 ≤ q ∧ q ≤ 10 ^ 60 := by
        have hv2 : w7 ∈ [V.int bt, .int (g + 1), .int (if l - 1 > 0 then l - 1 else 0), .int r7] := hw7
        simp only [List.mem_cons, List.mem_nil_iff, or_false] at hv2
        rcases hv2 with h | h | h | h
        · exact ⟨_, h, by omega, by omega⟩
        · exact ⟨_, h, by omega, by omega⟩
        · refine ⟨_, h, ?_, ?_⟩ <;> split <;> omega
        · exact ⟨_, h, r70, by omega⟩
      -- odd
      refine ⟨_, rfl, _, rfl, _, rfl, _, rfl, fun q dq nq ndq ne => ⟨q, dq, ⟨by_, tm, mo, sh⟩, rfl, upd_same, lim tm mo sh tm0 tm1 mo0 mo1 sh4, fun G18 b1 hq => ⟨rfl, ?_⟩⟩⟩
      have sG := mkS nq ndq ne b1
      have B18 := B17.keep sG
      -- far
      refine ⟨_, rfl, _, rfl, _, rfl, b, c, 99, _, rfl, B18, by omega, by decide, by decide, fun r8 G19 r80 r81 B19 e19 => ?_⟩
      have r8s : -(2 ^ 64 : Int) < r8 ∧ r8 < 2 ^ 64 := ⟨by omega, by omega⟩
      refine ⟨_, _, rfl, rfl, .inr r8s, _, rfl, _, rfl, _, _, rfl, rfl, b, c, _, _, rfl, B19, by omega, by omega, fun r9 G20 r90 r91 B20 e20 => ?_⟩
      refine ⟨_, rfl, 10, 55, rfl, rfl, ⟨by decide, by decide, by decide⟩, b, c, _, _, rfl, B20, by omega, by decide, fun rA G21 rA0 rA1 B21 e21 => ?_⟩
      refine ⟨10, 60, rfl, rfl, ⟨by decide, by decide, by decide⟩, _, _, rfl, rfl, _, rfl, b, c, 90, _, rfl, B21, by omega, by decide, by decide, fun rB G22 rB0 rB1 B22 e22 => ⟨_, _, rfl, rfl, (by show 5 ≤ sizeLine; decide), fun p8 n8 => ?_⟩⟩
      have u9 := Same.new (o := .lst [.int 0, .int (by_ * r8), .int r9, .int rA, .int (10 ^ 60 - 89 - rB)]) n8
      refine ⟨b, c, p8, _, _, rfl, B22.keep u9, by omega, upd_same, by simp, by simp, fun w9 G23 hw9 B23 e23 => ?_⟩
      obtain ⟨x, rfl, x0, x1⟩ : ∃ q, w9 = V.int q ∧ 0 ≤ q ∧ q ≤ 10 ^ 60 - 89 := by
        have hv2 : w9 ∈ [V.int 0, .int (by_ * r8), .int r9, .int rA, .int (10 ^ 60 - 89 - rB)] := hw9
        simp only [List.mem_cons, List.mem_nil_iff, or_false] at hv2
        rcases hv2 with h | h | h | h | h
        · exact ⟨_, h, by decide, by decide⟩
        · have h98 : by_ * r8 ≤ (10 ^ 25 + 1) * 98 := Int.mul_le_mul bb1 (show r8 ≤ 98 by omega) r80 (by decide)
          exact ⟨_, h, Int.mul_nonneg (by omega) r80, Int.le_trans h98 (by decide)⟩
        · exact ⟨_, h, r90, by omega⟩
        · have rAb : rA < 10 ^ 55 := rA1
          exact ⟨_, h, rA0, by omega⟩
        · exact ⟨_, h, by omega, by omega⟩
      have dA : DvAt C G18 q ⟨by_, tm, mo, sh⟩ := ⟨dq, hq⟩
      have dB := ((((dA.but B18 e19).but B19 e20).but B20 e21).but B21 e22).keep u9
      have dE := dB.but (B22.keep u9) e23
      refine ⟨_, rfl, _, rfl, _, rfl, b, c, q, _, ⟨by_, tm, mo, sh⟩, x, rfl, B23, by omega, dE, lim tm mo sh tm0 tm1 mo0 mo1 sh4, x0, x1, fun G24 B24 e24 => ?_⟩
      refine ⟨_, rfl, iteF ?_⟩
      exact ⟨_, _, _, _, _, _, _, _, _, _, _, _, _, rfl, BagAt.up B24 (by omega)⟩
    · refine ⟨_, rfl, _, rfl, rfl, _, rfl, ?_⟩
      by_cases c1 : sh = few
      · refine iteT' (decide_eq_true (by rw [c1])) ?_
        refine ⟨_, rfl, _, _, rfl, rfl, _, rfl, ?_⟩
        by_cases c2 : (0 : Int) < (sh : Int)
        · refine iteT' (decide_eq_true c2) ?_
          obtain ⟨sp, hsp⟩ : ∃ sp : Nat, (sh : Int) - 1 = (sp : Int) := ⟨sh - 1, by omega⟩
          have sp4 : sp ≤ 400 := by omega
          have hnot : ¬ Ex by_ t sp := hmin sp (by omega)
          have near1 : (2 : Int) ^ sp / by_ ≤ t := by
            have := DV.near_bd (few := few) bb2 t1 (by omega) hmin
            rwa [show few - 1 = sp by omega] at this
          have near0 : 0 ≤ (2 : Int) ^ sp / by_ := Int.ediv_nonneg (Int.le_of_lt (two_pos sp)) (by omega)
          refine ⟨_, rfl, _, _, rfl, rfl, sp, (by show [V.int ((sh : Int) - 1)] = _; rw [hsp]), sp4, _, rfl, _, _, rfl, rfl, (lim 0 0 0 (by decide) (by decide) (by decide) (by decide) (by decide)).bb.d (by show (0 : Int) < by_; omega), ?_⟩
          refine ⟨_, rfl, _, rfl, _, rfl, _, _, rfl, rfl, by_, t, sp, (by show [V.int by_, V.int t, V.int ((sh : Int) - 1)] = _; rw [hsp]), bb2, bb60, t1, t60, sp4, fun G12 s12 hN => ?_, fun G12 pt2 l2 g2 s12 hpt2 l20 lg2 hA2 => absurd ⟨l2, l20, (hA2 l2 l20).mpr ⟨Int.le_refl _, lg2⟩⟩ hnot⟩
          refine ⟨rfl, _, rfl, iteF' rfl ?_⟩
          have B12 := B11.keep s12
          refine ⟨_, rfl, _, rfl, _, _, rfl, rfl, (by show 2 ≤ sizeLine; decide), fun p8 n8 => ?_⟩
          have u8 := Same.new (o := .lst [.int (2 ^ sp / by_), .int (2 ^ sp / by_ + 1)]) n8
          have p8b : p8 ≠ b := bag_ne (B12.keep u8) upd_same nl
          refine ⟨p8, rfl, ⟨_, SqL.of upd_same⟩, for_list (K := K) (a := p8) (xs := [V.int (2 ^ sp / by_), V.int (2 ^ sp / by_ + 1)]) (fun j σ G => ∃ v10, σ = [some (.ref a), some (.ref b), some (.int (0 + (i : Int))), some (.int by_), some (.int t), some (.int (few : Nat)), some (.int (sh : Nat)), some (.int l), some (.int g), some (.int bt), v10, some (.int (2 ^ sp / by_)), v12, v13, v14] ∧ BagAt c G b (5000 * i + 1300 + 210 * j) ∧ G p8 = some (.lst [.int (2 ^ sp / by_), .int (2 ^ sp / by_ + 1)]))
            ⟨_, rfl, BagAt.up (B12.keep u8) (by show 5000 * i + 800 + 210 * 2 ≤ _; omega), upd_same⟩ (fun j σ G _ ⟨_, _, _, e⟩ => SqL.of e) ?_ ?_⟩
          · rintro j y σ G hj ⟨v10', rfl, BG, gp⟩
            have hj3 : j < 2 := (List.getElem?_eq_some_iff.mp hj).1
            obtain ⟨tm, rfl, tm0, tm1⟩ : ∃ tm, y = V.int tm ∧ 0 ≤ tm ∧ tm ≤ 10 ^ 60 := by
              have hv2 := List.mem_of_getElem? hj
              simp only [List.mem_cons, List.mem_nil_iff, or_false] at hv2
              rcases hv2 with h | h
              · exact ⟨_, h, near0, by omega⟩
              · exact ⟨_, h, by omega, by omega⟩
            refine ⟨_, rfl, _, rfl, _, rfl, _, rfl, _, _, rfl, rfl, fun q dq nq ndq ne => ⟨q, dq, ⟨by_, tm, 0, sp⟩, (by show [V.ref q, V.int by_, V.int tm, V.int 0, V.int ((sh : Int) - 1)] = _; rw [hsp]), upd_same, lim tm 0 sp tm0 tm1 (by decide) (by decide) sp4, fun G' b1 hq => ⟨rfl, ?_⟩⟩⟩
            have sG := mkS nq ndq ne b1
            refine ⟨_, rfl, b, c, q, _, ⟨by_, tm, 0, sp⟩, t, rfl, BG.keep sG, by omega, ⟨dq, hq⟩, lim tm 0 sp tm0 tm1 (by decide) (by decide) sp4, t1, t59, (fun h => hnot ⟨tm, tm0, h⟩), fun G2 BG2 eG2 => ?_⟩
            refine ⟨_, rfl, iteF ?_⟩
            exact ⟨_, rfl, BagAt.up BG2 (by omega), eG2 _ _ (sG _ _ gp) p8b⟩
          rintro σ G13 ⟨v10', rfl, B13, _⟩
          exact rest _ _ ⟨_, _, rfl, BagAt.up B13 (by show 5000 * i + 1300 + 210 * 2 ≤ _; omega)⟩
        · refine iteF' (decide_eq_false c2) ?_
          exact rest _ _ ⟨_, _, rfl, BagAt.up B11 (by show 5000 * i + 800 + 210 * 2 ≤ _; omega)⟩
      · refine iteF' (decide_eq_false fun z => c1 (by have := V.int.inj z; omega)) ?_
        exact rest _ _ ⟨_, _, rfl, BagAt.up B11 (by show 5000 * i + 800 + 210 * 2 ≤ _; omega)⟩
end
end KD

set_option Elab.async false
set_option linter.all false
set_option maxRecDepth 100000
set_option maxHeartbeats 8000000
/-! k62: the facts of the text, the end -/
namespace KD
open PySem L2
open KDB (TxtB ok_bag ok_draw)
section
variable {w : World} {K : PySem.W.Frag} {mg : Str → Option Value} {h : Heap}
theorem all_mk {fa CD CR f4 f6 f10 f11 f14 f15 f16 f17 f18 f19 f20 f21 f23 f24 f25 f26 f27 f28 f29 f30 f31 f32 fd0 fd2 fr0 fr1 fr2 fr3 fr4 fr5 fr6 fr7 fr8 fr9 : Addr} {tiN tiS : Tok} {oc4 kV4 dc4 pm4 cd4 ct4 : Value} {od4 an4 : Option Addr} {sl4 : Array (Option Value)} {oc6 kV6 dc6 pm6 cd6 ct6 : Value} {od6 an6 : Option Addr} {sl6 : Array (Option Value)} {oc10 kV10 dc10 pm10 cd10 ct10 : Value} {od10 an10 : Option Addr} {sl10 : Array (Option Value)} {oc11 kV11 dc11 pm11 cd11 ct11 : Value} {od11 an11 : Option Addr} {sl11 : Array (Option Value)} {oc14 kV14 dc14 pm14 cd14 ct14 : Value} {od14 an14 : Option Addr} {sl14 : Array (Option Value)} {oc15 kV15 dc15 pm15 cd15 ct15 : Value} {od15 an15 : Option Addr} {sl15 : Array (Option Value)} {oc16 kV16 dc16 pm16 cd16 ct16 : Value} {od16 an16 : Option Addr} {sl16 : Array (Option Value)} {oc17 kV17 dc17 pm17 cd17 ct17 : Value} {od17 an17 : Option Addr} {sl17 : Array (Option Value)} {oc18 kV18 dc18 pm18 cd18 ct18 : Value} {od18 an18 : Option Addr} {sl18 : Array (Option Value)} {oc19 kV19 dc19 pm19 cd19 ct19 : Value} {od19 an19 : Option Addr} {sl19 : Array (Option Value)} {oc20 kV20 dc20 pm20 cd20 ct20 : Value} {od20 an20 : Option Addr} {sl20 : Array (Option Value)} {oc21 kV21 dc21 pm21 cd21 ct21 : Value} {od21 an21 : Option Addr} {sl21 : Array (Option Value)} {oc23 kV23 dc23 pm23 cd23 ct23 : Value} {od23 an23 : Option Addr} {sl23 : Array (Option Value)} {oc24 kV24 dc24 pm24 cd24 ct24 : Value} {od24 an24 : Option Addr} {sl24 : Array (Option Value)} {oc25 kV25 dc25 pm25 cd25 ct25 : Value} {od25 an25 : Option Addr} {sl25 : Array (Option Value)} {oc26 kV26 dc26 pm26 cd26 ct26 : Value} {od26 an26 : Option Addr} {sl26 : Array (Option Value)} {oc27 kV27 dc27 pm27 cd27 ct27 : Value} {od27 an27 : Option Addr} {sl27 : Array (Option Value)} {oc28 kV28 dc28 pm28 cd28 ct28 : Value} {od28 an28 : Option Addr} {sl28 : Array (Option Value)} {oc29 kV29 dc29 pm29 cd29 ct29 : Value} {od29 an29 : Option Addr} {sl29 : Array (Option Value)} {oc30 kV30 dc30 pm30 cd30 ct30 : Value} {od30 an30 : Option Addr} {sl30 : Array (Option Value)} {oc31 kV31 dc31 pm31 cd31 ct31 : Value} {od31 an31 : Option Addr} {sl31 : Array (Option Value)} {oc32 kV32 dc32 pm32 cd32 ct32 : Value} {od32 an32 : Option Addr} {sl32 : Array (Option Value)} {ocd0 kVd0 dcd0 pmd0 cdd0 ctd0 : Value} {odd0 and0 : Option Addr} {sld0 : Array (Option Value)} {ocd2 kVd2 dcd2 pmd2 cdd2 ctd2 : Value} {odd2 and2 : Option Addr} {sld2 : Array (Option Value)} {ocr0 kVr0 dcr0 pmr0 cdr0 ctr0 : Value} {odr0 anr0 : Option Addr} {slr0 : Array (Option Value)} {ocr1 kVr1 dcr1 pmr1 cdr1 ctr1 : Value} {odr1 anr1 : Option Addr} {slr1 : Array (Option Value)} {ocr2 kVr2 dcr2 pmr2 cdr2 ctr2 : Value} {odr2 anr2 : Option Addr} {slr2 : Array (Option Value)} {ocr3 kVr3 dcr3 pmr3 cdr3 ctr3 : Value} {odr3 anr3 : Option Addr} {slr3 : Array (Option Value)} {ocr4 kVr4 dcr4 pmr4 cdr4 ctr4 : Value} {odr4 anr4 : Option Addr} {slr4 : Array (Option Value)} {ocr5 kVr5 dcr5 pmr5 cdr5 ctr5 : Value} {odr5 anr5 : Option Addr} {slr5 : Array (Option Value)} {ocr6 kVr6 dcr6 pmr6 cdr6 ctr6 : Value} {odr6 anr6 : Option Addr} {slr6 : Array (Option Value)} {ocr7 kVr7 dcr7 pmr7 cdr7 ctr7 : Value} {odr7 anr7 : Option Addr} {slr7 : Array (Option Value)} {ocr8 kVr8 dcr8 pmr8 cdr8 ctr8 : Value} {odr8 anr8 : Option Addr} {slr8 : Array (Option Value)} {ocr9 kVr9 dcr9 pmr9 cdr9 ctr9 : Value} {odr9 anr9 : Option Addr} {slr9 : Array (Option Value)} (X : K.In h) (G : h.Ns mainGlobals mg) (hfa : mg "law" = some (.ref fa))
    (a4 : PySem.W.nsIn K mainGlobals "is_whole" = some (some (.ref f4))) (l4 : K.lookup f4 = some ⟨oc4, od4, .func (PySem.W.fnOf "is_whole" "is_whole" (defArgs (top 4)) (defBody (top 4)) (defScope (top 4)) .none kV4 dc4 pm4 an4 cd4 ct4), sl4⟩) (c4 : PySem.W.codeIn K cd4 "is_whole" = true) (k4 : PySem.W.keepIn K (.ref f4) = true)
    (a6 : PySem.W.nsIn K mainGlobals "is_between" = some (some (.ref f6))) (l6 : K.lookup f6 = some ⟨oc6, od6, .func (PySem.W.fnOf "is_between" "is_between" (defArgs (top 6)) (defBody (top 6)) (defScope (top 6)) .none kV6 dc6 pm6 an6 cd6 ct6), sl6⟩) (c6 : PySem.W.codeIn K cd6 "is_between" = true) (k6 : PySem.W.keepIn K (.ref f6) = true)
    (a10 : PySem.W.nsIn K mainGlobals "check_between" = some (some (.ref f10))) (l10 : K.lookup f10 = some ⟨oc10, od10, .func (PySem.W.fnOf "check_between" "check_between" (defArgs (top 10)) (defBody (top 10)) (defScope (top 10)) .none kV10 dc10 pm10 an10 cd10 ct10), sl10⟩) (c10 : PySem.W.codeIn K cd10 "check_between" = true) (k10 : PySem.W.keepIn K (.ref f10) = true)
    (a11 : PySem.W.nsIn K mainGlobals "upward" = some (some (.ref f11))) (l11 : K.lookup f11 = some ⟨oc11, od11, .func (PySem.W.fnOf "upward" "upward" (defArgs (top 11)) (defBody (top 11)) (defScope (top 11)) .none kV11 dc11 pm11 an11 cd11 ct11), sl11⟩) (c11 : PySem.W.codeIn K cd11 "upward" = true) (k11 : PySem.W.keepIn K (.ref f11) = true)
    (a14 : PySem.W.nsIn K mainGlobals "floor_sum" = some (some (.ref f14))) (l14 : K.lookup f14 = some ⟨oc14, od14, .func (PySem.W.fnOf "floor_sum" "floor_sum" (defArgs (top 14)) (defBody (top 14)) (defScope (top 14)) .none kV14 dc14 pm14 an14 cd14 ct14), sl14⟩) (c14 : PySem.W.codeIn K cd14 "floor_sum" = true) (k14 : PySem.W.keepIn K (.ref f14) = true)
    (a15 : PySem.W.nsIn K mainGlobals "divider_right" = some (some (.ref f15))) (l15 : K.lookup f15 = some ⟨oc15, od15, .func (PySem.W.fnOf "divider_right" "divider_right" (defArgs (top 15)) (defBody (top 15)) (defScope (top 15)) .none kV15 dc15 pm15 an15 cd15 ct15), sl15⟩) (c15 : PySem.W.codeIn K cd15 "divider_right" = true) (k15 : PySem.W.keepIn K (.ref f15) = true)
    (a16 : PySem.W.nsIn K mainGlobals "divider_wrong" = some (some (.ref f16))) (l16 : K.lookup f16 = some ⟨oc16, od16, .func (PySem.W.fnOf "divider_wrong" "divider_wrong" (defArgs (top 16)) (defBody (top 16)) (defScope (top 16)) .none kV16 dc16 pm16 an16 cd16 ct16), sl16⟩) (c16 : PySem.W.codeIn K cd16 "divider_wrong" = true) (k16 : PySem.W.keepIn K (.ref f16) = true)
    (a17 : PySem.W.nsIn K mainGlobals "divider_next" = some (some (.ref f17))) (l17 : K.lookup f17 = some ⟨oc17, od17, .func (PySem.W.fnOf "divider_next" "divider_next" (defArgs (top 17)) (defBody (top 17)) (defScope (top 17)) .none kV17 dc17 pm17 an17 cd17 ct17), sl17⟩) (c17 : PySem.W.codeIn K cd17 "divider_next" = true) (k17 : PySem.W.keepIn K (.ref f17) = true)
    (a18 : PySem.W.nsIn K mainGlobals "divider_many" = some (some (.ref f18))) (l18 : K.lookup f18 = some ⟨oc18, od18, .func (PySem.W.fnOf "divider_many" "divider_many" (defArgs (top 18)) (defBody (top 18)) (defScope (top 18)) .none kV18 dc18 pm18 an18 cd18 ct18), sl18⟩) (c18 : PySem.W.codeIn K cd18 "divider_many" = true) (k18 : PySem.W.keepIn K (.ref f18) = true)
    (a19 : PySem.W.nsIn K mainGlobals "times_between" = some (some (.ref f19))) (l19 : K.lookup f19 = some ⟨oc19, od19, .func (PySem.W.fnOf "times_between" "times_between" (defArgs (top 19)) (defBody (top 19)) (defScope (top 19)) .none kV19 dc19 pm19 an19 cd19 ct19), sl19⟩) (c19 : PySem.W.codeIn K cd19 "times_between" = true) (k19 : PySem.W.keepIn K (.ref f19) = true)
    (a20 : PySem.W.nsIn K mainGlobals "times_for" = some (some (.ref f20))) (l20 : K.lookup f20 = some ⟨oc20, od20, .func (PySem.W.fnOf "times_for" "times_for" (defArgs (top 20)) (defBody (top 20)) (defScope (top 20)) .none kV20 dc20 pm20 an20 cd20 ct20), sl20⟩) (c20 : PySem.W.codeIn K cd20 "times_for" = true) (k20 : PySem.W.keepIn K (.ref f20) = true)
    (a21 : PySem.W.nsIn K mainGlobals "least_shift" = some (some (.ref f21))) (l21 : K.lookup f21 = some ⟨oc21, od21, .func (PySem.W.fnOf "least_shift" "least_shift" (defArgs (top 21)) (defBody (top 21)) (defScope (top 21)) .none kV21 dc21 pm21 an21 cd21 ct21), sl21⟩) (c21 : PySem.W.codeIn K cd21 "least_shift" = true) (k21 : PySem.W.keepIn K (.ref f21) = true)
    (a23 : PySem.W.nsIn K mainGlobals "_law_bag" = some (some (.ref f23))) (l23 : K.lookup f23 = some ⟨oc23, od23, .func (PySem.W.fnOf "_law_bag" "_law_bag" (defArgs (top 23)) (defBody (top 23)) (defScope (top 23)) .none kV23 dc23 pm23 an23 cd23 ct23), sl23⟩) (c23 : PySem.W.codeIn K cd23 "_law_bag" = true) (k23 : PySem.W.keepIn K (.ref f23) = true)
    (a24 : PySem.W.nsIn K mainGlobals "_law_draw" = some (some (.ref f24))) (l24 : K.lookup f24 = some ⟨oc24, od24, .func (PySem.W.fnOf "_law_draw" "_law_draw" (defArgs (top 24)) (defBody (top 24)) (defScope (top 24)) .none kV24 dc24 pm24 an24 cd24 ct24), sl24⟩) (c24 : PySem.W.codeIn K cd24 "_law_draw" = true) (k24 : PySem.W.keepIn K (.ref f24) = true)
    (a25 : PySem.W.nsIn K mainGlobals "_law_pick" = some (some (.ref f25))) (l25 : K.lookup f25 = some ⟨oc25, od25, .func (PySem.W.fnOf "_law_pick" "_law_pick" (defArgs (top 25)) (defBody (top 25)) (defScope (top 25)) .none kV25 dc25 pm25 an25 cd25 ct25), sl25⟩) (c25 : PySem.W.codeIn K cd25 "_law_pick" = true) (k25 : PySem.W.keepIn K (.ref f25) = true)
    (a26 : PySem.W.nsIn K mainGlobals "_law_power" = some (some (.ref f26))) (l26 : K.lookup f26 = some ⟨oc26, od26, .func (PySem.W.fnOf "_law_power" "_law_power" (defArgs (top 26)) (defBody (top 26)) (defScope (top 26)) .none kV26 dc26 pm26 an26 cd26 ct26), sl26⟩) (c26 : PySem.W.codeIn K cd26 "_law_power" = true) (k26 : PySem.W.keepIn K (.ref f26) = true)
    (a27 : PySem.W.nsIn K mainGlobals "_law_great" = some (some (.ref f27))) (l27 : K.lookup f27 = some ⟨oc27, od27, .func (PySem.W.fnOf "_law_great" "_law_great" (defArgs (top 27)) (defBody (top 27)) (defScope (top 27)) .none kV27 dc27 pm27 an27 cd27 ct27), sl27⟩) (c27 : PySem.W.codeIn K cd27 "_law_great" = true) (k27 : PySem.W.keepIn K (.ref f27) = true)
    (a28 : PySem.W.nsIn K mainGlobals "_law_is_right" = some (some (.ref f28))) (l28 : K.lookup f28 = some ⟨oc28, od28, .func (PySem.W.fnOf "_law_is_right" "_law_is_right" (defArgs (top 28)) (defBody (top 28)) (defScope (top 28)) .none kV28 dc28 pm28 an28 cd28 ct28), sl28⟩) (c28 : PySem.W.codeIn K cd28 "_law_is_right" = true) (k28 : PySem.W.keepIn K (.ref f28) = true)
    (a29 : PySem.W.nsIn K mainGlobals "_law_holds_to" = some (some (.ref f29))) (l29 : K.lookup f29 = some ⟨oc29, od29, .func (PySem.W.fnOf "_law_holds_to" "_law_holds_to" (defArgs (top 29)) (defBody (top 29)) (defScope (top 29)) .none kV29 dc29 pm29 an29 cd29 ct29), sl29⟩) (c29 : PySem.W.codeIn K cd29 "_law_holds_to" = true) (k29 : PySem.W.keepIn K (.ref f29) = true)
    (a30 : PySem.W.nsIn K mainGlobals "_law_falls_by" = some (some (.ref f30))) (l30 : K.lookup f30 = some ⟨oc30, od30, .func (PySem.W.fnOf "_law_falls_by" "_law_falls_by" (defArgs (top 30)) (defBody (top 30)) (defScope (top 30)) .none kV30 dc30 pm30 an30 cd30 ct30), sl30⟩) (c30 : PySem.W.codeIn K cd30 "_law_falls_by" = true) (k30 : PySem.W.keepIn K (.ref f30) = true)
    (a31 : PySem.W.nsIn K mainGlobals "_law_far_counts" = some (some (.ref f31))) (l31 : K.lookup f31 = some ⟨oc31, od31, .func (PySem.W.fnOf "_law_far_counts" "_law_far_counts" (defArgs (top 31)) (defBody (top 31)) (defScope (top 31)) .none kV31 dc31 pm31 an31 cd31 ct31), sl31⟩) (c31 : PySem.W.codeIn K cd31 "_law_far_counts" = true) (k31 : PySem.W.keepIn K (.ref f31) = true)
    (a32 : PySem.W.nsIn K mainGlobals "law" = some (some (.ref f32))) (l32 : K.lookup f32 = some ⟨oc32, od32, .func (PySem.W.fnOf "law" "law" (defArgs (top 32)) (defBody (top 32)) (defScope (top 32)) .none kV32 dc32 pm32 an32 cd32 ct32), sl32⟩) (c32 : PySem.W.codeIn K cd32 "law" = true) (k32 : PySem.W.keepIn K (.ref f32) = true)
    (ad0 : PySem.W.findIn K (.ref CD) "__init__" = some (some (.ref fd0))) (jd0 : PySem.W.isFn K (.ref fd0) = true) (ld0 : K.lookup fd0 = some ⟨ocd0, odd0, .func (PySem.W.fnOf "__init__" "Divider.__init__" (defArgs (inClass (top 12) 0)) (defBody (inClass (top 12) 0)) (defScope (inClass (top 12) 0)) .none kVd0 dcd0 pmd0 and0 cdd0 ctd0), sld0⟩) (cd0 : PySem.W.codeIn K cdd0 "Divider.__init__" = true) (kd0 : PySem.W.keepIn K (.ref fd0) = true)
    (ad2 : PySem.W.findIn K (.ref CD) "quotient" = some (some (.ref fd2))) (jd2 : PySem.W.isFn K (.ref fd2) = true) (ld2 : K.lookup fd2 = some ⟨ocd2, odd2, .func (PySem.W.fnOf "quotient" "Divider.quotient" (defArgs (inClass (top 12) 2)) (defBody (inClass (top 12) 2)) (defScope (inClass (top 12) 2)) .none kVd2 dcd2 pmd2 and2 cdd2 ctd2), sld2⟩) (cd2 : PySem.W.codeIn K cdd2 "Divider.quotient" = true) (kd2 : PySem.W.keepIn K (.ref fd2) = true)
    (ar0 : PySem.W.findIn K (.ref CR) "__init__" = some (some (.ref fr0))) (jr0 : PySem.W.isFn K (.ref fr0) = true) (lr0 : K.lookup fr0 = some ⟨ocr0, odr0, .func (PySem.W.fnOf "__init__" "Rests.__init__" (defArgs (inClass (top 13) 0)) (defBody (inClass (top 13) 0)) (defScope (inClass (top 13) 0)) .none kVr0 dcr0 pmr0 anr0 cdr0 ctr0), slr0⟩) (cr0 : PySem.W.codeIn K cdr0 "Rests.__init__" = true) (kr0 : PySem.W.keepIn K (.ref fr0) = true)
    (ar1 : PySem.W.findIn K (.ref CR) "rests_below" = some (some (.ref fr1))) (jr1 : PySem.W.isFn K (.ref fr1) = true) (lr1 : K.lookup fr1 = some ⟨ocr1, odr1, .func (PySem.W.fnOf "rests_below" "Rests.rests_below" (defArgs (inClass (top 13) 1)) (defBody (inClass (top 13) 1)) (defScope (inClass (top 13) 1)) .none kVr1 dcr1 pmr1 anr1 cdr1 ctr1), slr1⟩) (cr1 : PySem.W.codeIn K cdr1 "Rests.rests_below" = true) (kr1 : PySem.W.keepIn K (.ref fr1) = true)
    (ar2 : PySem.W.findIn K (.ref CR) "few" = some (some (.ref fr2))) (jr2 : PySem.W.isFn K (.ref fr2) = true) (lr2 : K.lookup fr2 = some ⟨ocr2, odr2, .func (PySem.W.fnOf "few" "Rests.few" (defArgs (inClass (top 13) 2)) (defBody (inClass (top 13) 2)) (defScope (inClass (top 13) 2)) .none kVr2 dcr2 pmr2 anr2 cdr2 ctr2), slr2⟩) (cr2 : PySem.W.codeIn K cdr2 "Rests.few" = true) (kr2 : PySem.W.keepIn K (.ref fr2) = true)
    (ar3 : PySem.W.findIn K (.ref CR) "fit" = some (some (.ref fr3))) (jr3 : PySem.W.isFn K (.ref fr3) = true) (lr3 : K.lookup fr3 = some ⟨ocr3, odr3, .func (PySem.W.fnOf "fit" "Rests.fit" (defArgs (inClass (top 13) 3)) (defBody (inClass (top 13) 3)) (defScope (inClass (top 13) 3)) .none kVr3 dcr3 pmr3 anr3 cdr3 ctr3), slr3⟩) (cr3 : PySem.W.codeIn K cdr3 "Rests.fit" = true) (kr3 : PySem.W.keepIn K (.ref fr3) = true)
    (ar4 : PySem.W.findIn K (.ref CR) "wrong_from" = some (some (.ref fr4))) (jr4 : PySem.W.isFn K (.ref fr4) = true) (lr4 : K.lookup fr4 = some ⟨ocr4, odr4, .func (PySem.W.fnOf "wrong_from" "Rests.wrong_from" (defArgs (inClass (top 13) 4)) (defBody (inClass (top 13) 4)) (defScope (inClass (top 13) 4)) .none kVr4 dcr4 pmr4 anr4 cdr4 ctr4), slr4⟩) (cr4 : PySem.W.codeIn K cdr4 "Rests.wrong_from" = true) (kr4 : PySem.W.keepIn K (.ref fr4) = true)
    (ar5 : PySem.W.findIn K (.ref CR) "right_from" = some (some (.ref fr5))) (jr5 : PySem.W.isFn K (.ref fr5) = true) (lr5 : K.lookup fr5 = some ⟨ocr5, odr5, .func (PySem.W.fnOf "right_from" "Rests.right_from" (defArgs (inClass (top 13) 5)) (defBody (inClass (top 13) 5)) (defScope (inClass (top 13) 5)) .none kVr5 dcr5 pmr5 anr5 cdr5 ctr5), slr5⟩) (cr5 : PySem.W.codeIn K cdr5 "Rests.right_from" = true) (kr5 : PySem.W.keepIn K (.ref fr5) = true)
    (ar6 : PySem.W.findIn K (.ref CR) "wrong_q" = some (some (.ref fr6))) (jr6 : PySem.W.isFn K (.ref fr6) = true) (lr6 : K.lookup fr6 = some ⟨ocr6, odr6, .func (PySem.W.fnOf "wrong_q" "Rests.wrong_q" (defArgs (inClass (top 13) 6)) (defBody (inClass (top 13) 6)) (defScope (inClass (top 13) 6)) .none kVr6 dcr6 pmr6 anr6 cdr6 ctr6), slr6⟩) (cr6 : PySem.W.codeIn K cdr6 "Rests.wrong_q" = true) (kr6 : PySem.W.keepIn K (.ref fr6) = true)
    (ar7 : PySem.W.findIn K (.ref CR) "right_q" = some (some (.ref fr7))) (jr7 : PySem.W.isFn K (.ref fr7) = true) (lr7 : K.lookup fr7 = some ⟨ocr7, odr7, .func (PySem.W.fnOf "right_q" "Rests.right_q" (defArgs (inClass (top 13) 7)) (defBody (inClass (top 13) 7)) (defScope (inClass (top 13) 7)) .none kVr7 dcr7 pmr7 anr7 cdr7 ctr7), slr7⟩) (cr7 : PySem.W.codeIn K cdr7 "Rests.right_q" = true) (kr7 : PySem.W.keepIn K (.ref fr7) = true)
    (ar8 : PySem.W.findIn K (.ref CR) "count_right" = some (some (.ref fr8))) (jr8 : PySem.W.isFn K (.ref fr8) = true) (lr8 : K.lookup fr8 = some ⟨ocr8, odr8, .func (PySem.W.fnOf "count_right" "Rests.count_right" (defArgs (inClass (top 13) 8)) (defBody (inClass (top 13) 8)) (defScope (inClass (top 13) 8)) .none kVr8 dcr8 pmr8 anr8 cdr8 ctr8), slr8⟩) (cr8 : PySem.W.codeIn K cdr8 "Rests.count_right" = true) (kr8 : PySem.W.keepIn K (.ref fr8) = true)
    (ar9 : PySem.W.findIn K (.ref CR) "sum_below" = some (some (.ref fr9))) (jr9 : PySem.W.isFn K (.ref fr9) = true) (lr9 : K.lookup fr9 = some ⟨ocr9, odr9, .func (PySem.W.fnOf "sum_below" "Rests.sum_below" (defArgs (inClass (top 13) 9)) (defBody (inClass (top 13) 9)) (defScope (inClass (top 13) 9)) .none kVr9 dcr9 pmr9 anr9 cdr9 ctr9), slr9⟩) (cr9 : PySem.W.codeIn K cdr9 "Rests.sum_below" = true) (kr9 : PySem.W.keepIn K (.ref fr9) = true)
    (d_g : PySem.W.nsIn K mainGlobals "Divider" = some (some (.ref CD)))
    (d_pg : PySem.W.plainGet K CD Str.empty = true)
    (d_hd : PySem.W.hasDictIn K CD = true)
    (d_po : PySem.W.plainOver K CD = true)
    (d_sa : PySem.W.findIn K (.ref CD) "__setattr__" = some (some (.builtin "object.__setattr__")))
    (d_mk : PySem.W.makesIn K CD = true)
    (d_kc : PySem.W.keepIn K (.ref CD) = true)
    (d_nby : PySem.W.findIn K (.ref CD) "by" = some none)
    (d_nmultiplier : PySem.W.findIn K (.ref CD) "multiplier" = some none)
    (d_noffset : PySem.W.findIn K (.ref CD) "offset" = some none)
    (d_nshift : PySem.W.findIn K (.ref CD) "shift" = some none)
    (r_g : PySem.W.nsIn K mainGlobals "Rests" = some (some (.ref CR)))
    (r_pg : PySem.W.plainGet K CR Str.empty = true)
    (r_hd : PySem.W.hasDictIn K CR = true)
    (r_po : PySem.W.plainOver K CR = true)
    (r_sa : PySem.W.findIn K (.ref CR) "__setattr__" = some (some (.builtin "object.__setattr__")))
    (r_mk : PySem.W.makesIn K CR = true)
    (r_kc : PySem.W.keepIn K (.ref CR) = true)
    (r_nby : PySem.W.findIn K (.ref CR) "by" = some none)
    (r_ntimes : PySem.W.findIn K (.ref CR) "times" = some none)
    (r_noffset : PySem.W.findIn K (.ref CR) "offset" = some none)
    (r_nwhole : PySem.W.findIn K (.ref CR) "whole" = some none)
    (r_ngain : PySem.W.findIn K (.ref CR) "gain" = some none)
    (aiN : PySem.W.nsIn K mainGlobals "MOST_NUMBER" = some (some (.int 1000000000000000000000000000000000000000000000000000000000000 tiN)))
    (aiS : PySem.W.nsIn K mainGlobals "MOST_SHIFT" = some (some (.int 400 tiS)))
    (z0 : PySem.W.nsIn K mainGlobals "isinstance" = some none)
    (z1 : PySem.W.nsIn K mainGlobals "int" = some none)
    (z2 : PySem.W.nsIn K mainGlobals "bool" = some none)
    (z3 : PySem.W.nsIn K mainGlobals "min" = some none)
    (z4 : PySem.W.nsIn K mainGlobals "max" = some none)
    (z5 : PySem.W.nsIn K mainGlobals "divmod" = some none)
    (z6 : PySem.W.nsIn K mainGlobals "len" = some none)
    (z7 : PySem.W.nsIn K mainGlobals "list" = some none)
    (z8 : PySem.W.nsIn K mainGlobals "range" = some none) :
    ∃ fd : FuncData, (∀ (s : Shared) (v : Value), BindsTo s fd ⟨[v], []⟩ [("_law_script", v)]) ∧ ∀ base : Heap, K.In base → base.Ns mainGlobals mg → FnOk PP w K mg base CX0 8 fa fd ["_law_script"] (spLaw K) := by
  have e := hfa.symm.trans (PySem.W.mg_of X G a32)
  cases e
  have F4 := fun_mk (st := top 4) l4 c4 k4
  have g4 := PySem.W.mg_of X G a4
  have b4 := F4.binds (ps := ["value"]) fun _ _ _ _ _ _ us hl => match us, hl with | [_], _ => rfl
  have F6 := fun_mk (st := top 6) l6 c6 k6
  have g6 := PySem.W.mg_of X G a6
  have b6 := F6.binds (ps := ["value", "least", "most"]) fun _ _ _ _ _ _ us hl => match us, hl with | [_, _, _], _ => rfl
  have F10 := fun_mk (st := top 10) l10 c10 k10
  have g10 := PySem.W.mg_of X G a10
  have b10 := F10.binds (ps := ["number", "least", "most"]) fun _ _ _ _ _ _ us hl => match us, hl with | [_, _, _], _ => rfl
  have F11 := fun_mk (st := top 11) l11 c11 k11
  have g11 := PySem.W.mg_of X G a11
  have b11 := F11.binds (ps := ["number", "by"]) fun _ _ _ _ _ _ us hl => match us, hl with | [_, _], _ => rfl
  have F14 := fun_mk (st := top 14) l14 c14 k14
  have g14 := PySem.W.mg_of X G a14
  have b14 := F14.binds (ps := ["many", "divisor", "factor", "added"]) fun _ _ _ _ _ _ us hl => match us, hl with | [_, _, _, _], _ => rfl
  have F15 := fun_mk (st := top 15) l15 c15 k15
  have g15 := PySem.W.mg_of X G a15
  have b15 := F15.binds (ps := ["divider", "x"]) fun _ _ _ _ _ _ us hl => match us, hl with | [_, _], _ => rfl
  have F16 := fun_mk (st := top 16) l16 c16 k16
  have g16 := PySem.W.mg_of X G a16
  have b16 := F16.binds (ps := ["divider", "x"]) fun _ _ _ _ _ _ us hl => match us, hl with | [_, _], _ => rfl
  have F17 := fun_mk (st := top 17) l17 c17 k17
  have g17 := PySem.W.mg_of X G a17
  have b17 := F17.binds (ps := ["divider", "x"]) fun _ _ _ _ _ _ us hl => match us, hl with | [_, _], _ => rfl
  have F18 := fun_mk (st := top 18) l18 c18 k18
  have g18 := PySem.W.mg_of X G a18
  have b18 := F18.binds (ps := ["divider", "x"]) fun _ _ _ _ _ _ us hl => match us, hl with | [_, _], _ => rfl
  have F19 := fun_mk (st := top 19) l19 c19 k19
  have g19 := PySem.W.mg_of X G a19
  have b19 := F19.binds (ps := ["by", "top", "shift"]) fun _ _ _ _ _ _ us hl => match us, hl with | [_, _, _], _ => rfl
  have F20 := fun_mk (st := top 20) l20 c20 k20
  have g20 := PySem.W.mg_of X G a20
  have b20 := F20.binds (ps := ["by", "top", "shift"]) fun _ _ _ _ _ _ us hl => match us, hl with | [_, _, _], _ => rfl
  have F21 := fun_mk (st := top 21) l21 c21 k21
  have g21 := PySem.W.mg_of X G a21
  have b21 := F21.binds (ps := ["by", "top"]) fun _ _ _ _ _ _ us hl => match us, hl with | [_, _], _ => rfl
  have F23 := fun_mk (st := top 23) l23 c23 k23
  have g23 := PySem.W.mg_of X G a23
  have b23 := F23.binds (ps := ["_law_script"]) fun _ _ _ _ _ _ us hl => match us, hl with | [_], _ => rfl
  have F24 := fun_mk (st := top 24) l24 c24 k24
  have g24 := PySem.W.mg_of X G a24
  have b24 := F24.binds (ps := ["_law_bag_here", "_law_limit"]) fun _ _ _ _ _ _ us hl => match us, hl with | [_, _], _ => rfl
  have F25 := fun_mk (st := top 25) l25 c25 k25
  have g25 := PySem.W.mg_of X G a25
  have b25 := F25.binds (ps := ["_law_bag_here", "_law_pool"]) fun _ _ _ _ _ _ us hl => match us, hl with | [_, _], _ => rfl
  have F26 := fun_mk (st := top 26) l26 c26 k26
  have g26 := PySem.W.mg_of X G a26
  have b26 := F26.binds (ps := ["_law_bits"]) fun _ _ _ _ _ _ us hl => match us, hl with | [_], _ => rfl
  have F27 := fun_mk (st := top 27) l27 c27 k27
  have g27 := PySem.W.mg_of X G a27
  have b27 := F27.binds (ps := ["_law_bag_here", "_law_most"]) fun _ _ _ _ _ _ us hl => match us, hl with | [_, _], _ => rfl
  have F28 := fun_mk (st := top 28) l28 c28 k28
  have g28 := PySem.W.mg_of X G a28
  have b28 := F28.binds (ps := ["_law_divider", "_law_x"]) fun _ _ _ _ _ _ us hl => match us, hl with | [_, _], _ => rfl
  have F29 := fun_mk (st := top 29) l29 c29 k29
  have g29 := PySem.W.mg_of X G a29
  have b29 := F29.binds (ps := ["_law_bag_here", "_law_divider", "_law_top"]) fun _ _ _ _ _ _ us hl => match us, hl with | [_, _, _], _ => rfl
  have F30 := fun_mk (st := top 30) l30 c30 k30
  have g30 := PySem.W.mg_of X G a30
  have b30 := F30.binds (ps := ["_law_bag_here", "_law_divider", "_law_top"]) fun _ _ _ _ _ _ us hl => match us, hl with | [_, _, _], _ => rfl
  have F31 := fun_mk (st := top 31) l31 c31 k31
  have g31 := PySem.W.mg_of X G a31
  have b31 := F31.binds (ps := ["_law_bag_here", "_law_divider", "_law_x"]) fun _ _ _ _ _ _ us hl => match us, hl with | [_, _, _], _ => rfl
  have F32 := fun_mk (st := top 32) l32 c32 k32
  have g32 := PySem.W.mg_of X G a32
  have Fd0 := fun_mk (st := inClass (top 12) 0) ld0 cd0 kd0
  have bd0 := Fd0.binds (ps := ["self", "by", "multiplier", "offset", "shift"]) fun _ _ _ _ _ _ us hl => match us, hl with | [_, _, _, _, _], _ => rfl
  have Fd2 := fun_mk (st := inClass (top 12) 2) ld2 cd2 kd2
  have bd2 := Fd2.binds (ps := ["self", "x"]) fun _ _ _ _ _ _ us hl => match us, hl with | [_, _], _ => rfl
  have md2 : Meth K CD "quotient" fd2 := ⟨ad2, jd2, kd2⟩
  have Fr0 := fun_mk (st := inClass (top 13) 0) lr0 cr0 kr0
  have br0 := Fr0.binds (ps := ["self", "divider"]) fun _ _ _ _ _ _ us hl => match us, hl with | [_, _], _ => rfl
  have Fr1 := fun_mk (st := inClass (top 13) 1) lr1 cr1 kr1
  have br1 := Fr1.binds (ps := ["self", "product"]) fun _ _ _ _ _ _ us hl => match us, hl with | [_, _], _ => rfl
  have mr1 : Meth K CR "rests_below" fr1 := ⟨ar1, jr1, kr1⟩
  have Fr2 := fun_mk (st := inClass (top 13) 2) lr2 cr2 kr2
  have br2 := Fr2.binds (ps := ["self", "q"]) fun _ _ _ _ _ _ us hl => match us, hl with | [_, _], _ => rfl
  have mr2 : Meth K CR "few" fr2 := ⟨ar2, jr2, kr2⟩
  have Fr3 := fun_mk (st := inClass (top 13) 3) lr3 cr3 kr3
  have br3 := Fr3.binds (ps := ["self", "q"]) fun _ _ _ _ _ _ us hl => match us, hl with | [_, _], _ => rfl
  have mr3 : Meth K CR "fit" fr3 := ⟨ar3, jr3, kr3⟩
  have Fr4 := fun_mk (st := inClass (top 13) 4) lr4 cr4 kr4
  have br4 := Fr4.binds (ps := ["self", "q", "r"]) fun _ _ _ _ _ _ us hl => match us, hl with | [_, _, _], _ => rfl
  have mr4 : Meth K CR "wrong_from" fr4 := ⟨ar4, jr4, kr4⟩
  have Fr5 := fun_mk (st := inClass (top 13) 5) lr5 cr5 kr5
  have br5 := Fr5.binds (ps := ["self", "q", "r"]) fun _ _ _ _ _ _ us hl => match us, hl with | [_, _, _], _ => rfl
  have mr5 : Meth K CR "right_from" fr5 := ⟨ar5, jr5, kr5⟩
  have Fr6 := fun_mk (st := inClass (top 13) 6) lr6 cr6 kr6
  have br6 := Fr6.binds (ps := ["self", "q"]) fun _ _ _ _ _ _ us hl => match us, hl with | [_, _], _ => rfl
  have mr6 : Meth K CR "wrong_q" fr6 := ⟨ar6, jr6, kr6⟩
  have Fr7 := fun_mk (st := inClass (top 13) 7) lr7 cr7 kr7
  have br7 := Fr7.binds (ps := ["self", "q"]) fun _ _ _ _ _ _ us hl => match us, hl with | [_, _], _ => rfl
  have mr7 : Meth K CR "right_q" fr7 := ⟨ar7, jr7, kr7⟩
  have Fr8 := fun_mk (st := inClass (top 13) 8) lr8 cr8 kr8
  have br8 := Fr8.binds (ps := ["self", "x"]) fun _ _ _ _ _ _ us hl => match us, hl with | [_, _], _ => rfl
  have mr8 : Meth K CR "count_right" fr8 := ⟨ar8, jr8, kr8⟩
  have Fr9 := fun_mk (st := inClass (top 13) 9) lr9 cr9 kr9
  have br9 := Fr9.binds (ps := ["self", "start", "many"]) fun _ _ _ _ _ _ us hl => match us, hl with | [_, _, _], _ => rfl
  have mr9 : Meth K CR "sum_below" fr9 := ⟨ar9, jr9, kr9⟩
  have T : TxtI mg := ⟨(PySem.W.mg_none_of X G z0), (PySem.W.mg_none_of X G z1), (PySem.W.mg_none_of X G z2), (PySem.W.mg_none_of X G z3), (PySem.W.mg_none_of X G z4), (PySem.W.mg_none_of X G z5), (PySem.W.mg_none_of X G z6), (PySem.W.mg_none_of X G z7), (PySem.W.mg_none_of X G z8), ⟨_, PySem.W.mg_of X G aiN⟩, ⟨_, PySem.W.mg_of X G aiS⟩⟩
  have TB : TxtB mg := ⟨(PySem.W.mg_none_of X G z6), (PySem.W.mg_none_of X G z1), (PySem.W.mg_none_of X G z7), (PySem.W.mg_none_of X G z8)⟩
  have TD : TxtD K mg CD := ⟨⟨d_pg, d_hd, d_po, d_sa⟩, d_nby, d_nmultiplier, d_noffset, d_nshift, PySem.W.mg_of X G d_g⟩
  have TS : TxtS K mg CR := ⟨⟨r_pg, r_hd, r_po, r_sa⟩, r_nby, r_ntimes, r_noffset, r_nwhole, r_ngain, PySem.W.mg_of X G r_g⟩
  have MD : Mk K CD fd0 := ⟨d_mk, ad0, jd0, d_kc⟩
  have MR : Mk K CR fr0 := ⟨r_mk, ar0, jr0, r_kc⟩
  refine ⟨PySem.W.fnOf "law" "law" (defArgs (top 32)) (defBody (top 32)) (defScope (top 32)) .none kV32 dc32 pm32 an32 cd32 ct32, fun s v => .of_eq rfl, fun base _ _ => ?_⟩
  have O4 := ok_whole (P := PP) (w := w) (base := base) F4 T
  have O6 := ok_betw F6 O4 k4 b4 g4
  have O10 := ok_check F10 O6 k6 b6 g6
  have O11 := ok_up (P := PP) (w := w) (mg := mg) (base := base) F11
  have O14 := ok_floor (P := PP) (w := w) (mg := mg) (base := base) F14
  have Od0 := ok_dinit Fd0 T TD O10 k10 b10 g10
  have Od2 := ok_quot Fd2 T TD O10 k10 b10 g10
  have Or0 := ok_rinit (P := PP) (w := w) (base := base) Fr0 TD TS
  have Or1 := ok_rb Fr1 T TS O11 k11 b11 g11
  have Or2 := ok_few Fr2 TS Or1 mr1 br1
  have Or3 := ok_fit Fr3 TS Or1 mr1 br1
  have Or4 := ok_wf Fr4 T TS Or2 mr2 br2 Or3 mr3 br3
  have Or5 := ok_rf Fr5 T TS Or2 mr2 br2 Or3 mr3 br3
  have Or6 := ok_wq Fr6 T TS Or4 mr4 br4 O11 k11 b11 g11
  have Or7 := ok_rq Fr7 T TS Or5 mr5 br5
  have Or9 := ok_sb Fr9 T TS Or1 mr1 br1 O11 k11 b11 g11 O14 k14 b14 g14
  have Or8 := ok_cr Fr8 T TS Or2 mr2 br2 Or3 mr3 br3 Or9 mr9 br9
  have O15 := ok_dr F15 TD Od2 md2 bd2
  have O18 := ok_dm F18 T TD TS O10 k10 b10 g10 MR Or0 br0 Or8 mr8 br8
  have O16 := ok_dw F16 T TD TS O10 k10 b10 g10 MR Or0 br0 Or4 mr4 br4 Or6 mr6 br6
  have O17 := ok_dn F17 T TD TS O10 k10 b10 g10 MR Or0 br0 Or5 mr5 br5 Or7 mr7 br7
  have O19 := ok_tb F19 T O11 k11 b11 g11
  have O20 := ok_tf F20 T O10 k10 b10 g10 O19 k19 b19 g19
  have O21 := ok_ls F21 T O10 k10 b10 g10 O19 k19 b19 g19
  have O23 := ok_bag (P := PP) (w := w) (base := base) F23 TB
  have O24 := ok_draw (P := PP) (w := w) (K := K) (base := base) F24 TB
  have O25 := ok_pick F25 TB O24 k24 b24 g24
  have O26 := ok_power (P := PP) (w := w) (base := base) F26 TB
  have O27 := ok_great F27 TB O24 k24 b24 g24
  have O28 := ok_isr F28 TD O26 k26 b26 g26
  have O29 := ok_holds F29 T TD O25 k25 b25 g25 O27 k27 b27 g27 O28 k28 b28 g28 O15 k15 b15 g15 O16 k16 b16 g16 O17 k17 b17 g17 O18 k18 b18 g18
  have O30 := ok_falls F30 T O27 k27 b27 g27 O28 k28 b28 g28 O16 k16 b16 g16 O18 k18 b18 g18
  have O31 := ok_far F31 T O24 k24 b24 g24 O28 k28 b28 g28 O15 k15 b15 g15 O16 k16 b16 g16 O17 k17 b17 g17 O18 k18 b18 g18
  exact ok_law F32 T TD O23 k23 b23 g23 O24 k24 b24 g24 O25 k25 b25 g25 O26 k26 b26 g26 O27 k27 b27 g27 O29 k29 b29 g29 O30 k30 b30 g30 O31 k31 b31 g31 O20 k20 b20 g20 O21 k21 b21 g21 MD Od0 bd0
theorem walk {l : PySem.W.OpenLaw} {q : Program} {loose : List Str} {XP : (Str → Option Value) → Heap → Prop} {YP : World → Heap → Prop} {d : DefRec} {K : Params → PySem.W.Frag} (hn : l.most = some 63) (hdf : d.params.defaults = [])
    (hY : ∀ (w : World) (h : Heap), YP w h → (K w.params).In h)
    (F : ∀ (w : World) (mg : Str → Option Value) (fa : Addr) (h : Heap), (K w.params).In h → h.Ns mainGlobals mg → mg d.name = some (.ref fa) →
      ∃ fd : FuncData, (∀ (s : Shared) (u : Value), BindsTo s fd ⟨[u], []⟩ [("_law_script", u)]) ∧ ∀ base : Heap, (K w.params).In base → base.Ns mainGlobals mg → FnOk l.prog w (K w.params) mg base CX0 8 fa fd ["_law_script"] (spLaw (K w.params))) :
    PySem.W.WalkO q loose XP YP l.row.toRowW d [] (fun f vs => PySem.call f vs) :=
  L2.walk_of (n := 63) (k := 8) (x := "_law_script") (CX := fun _ => CX0) (sp := fun w => spLaw (K w.params)) hn (by decide) hdf ⟨rfl, by decide, by decide⟩ hY F (fun _ _ a ns hl _ hS => ⟨a, ns, rfl, hS, hl, fun _ => rfl⟩) fun _ _ _ _ _ z => z
end
end KD

set_option Elab.async false
set_option linter.all false
set_option maxRecDepth 100000
open PySem PySem.W PyProof.Rows
set_option maxRecDepth 100000 in
set_option maxHeartbeats 0 in
theorem PySem.Challenge.cw_tagblocks_k62_whole_great_dividers_holds : PySem.Challenge.rw_tagblocks_k62_whole_great_dividers.Holds := by
  w_on; o_law; k_head; (case hw => w_witness2)
  k_fill
  refine KD.walk (l := PySem.Challenge.rw_tagblocks_k62_whole_great_dividers) rfl rfl (fun w h Y => PySem.W.kIn_of Y) ?F
  case F =>
    intro w mg fa h KX G hmg
    refine' KD.all_mk KX G hmg ?a4 ?l4 ?c4 ?k4 ?a6 ?l6 ?c6 ?k6 ?a10 ?l10 ?c10 ?k10 ?a11 ?l11 ?c11 ?k11 ?a14 ?l14 ?c14 ?k14 ?a15 ?l15 ?c15 ?k15 ?a16 ?l16 ?c16 ?k16 ?a17 ?l17 ?c17 ?k17 ?a18 ?l18 ?c18 ?k18 ?a19 ?l19 ?c19 ?k19 ?a20 ?l20 ?c20 ?k20 ?a21 ?l21 ?c21 ?k21 ?a23 ?l23 ?c23 ?k23 ?a24 ?l24 ?c24 ?k24 ?a25 ?l25 ?c25 ?k25 ?a26 ?l26 ?c26 ?k26 ?a27 ?l27 ?c27 ?k27 ?a28 ?l28 ?c28 ?k28 ?a29 ?l29 ?c29 ?k29 ?a30 ?l30 ?c30 ?k30 ?a31 ?l31 ?c31 ?k31 ?a32 ?l32 ?c32 ?k32 ?ad0 ?jd0 ?ld0 ?cd0 ?kd0 ?ad2 ?jd2 ?ld2 ?cd2 ?kd2 ?ar0 ?jr0 ?lr0 ?cr0 ?kr0 ?ar1 ?jr1 ?lr1 ?cr1 ?kr1 ?ar2 ?jr2 ?lr2 ?cr2 ?kr2 ?ar3 ?jr3 ?lr3 ?cr3 ?kr3 ?ar4 ?jr4 ?lr4 ?cr4 ?kr4 ?ar5 ?jr5 ?lr5 ?cr5 ?kr5 ?ar6 ?jr6 ?lr6 ?cr6 ?kr6 ?ar7 ?jr7 ?lr7 ?cr7 ?kr7 ?ar8 ?jr8 ?lr8 ?cr8 ?kr8 ?ar9 ?jr9 ?lr9 ?cr9 ?kr9 ?d_g ?d_pg ?d_hd ?d_po ?d_sa ?d_mk ?d_kc ?d_nby ?d_nmultiplier ?d_noffset ?d_nshift ?r_g ?r_pg ?r_hd ?r_po ?r_sa ?r_mk ?r_kc ?r_nby ?r_ntimes ?r_noffset ?r_nwhole ?r_ngain ?aiN ?aiS ?z0 ?z1 ?z2 ?z3 ?z4 ?z5 ?z6 ?z7 ?z8
    (case d_g => k_is); (case r_g => k_is); (case a4 => k_is); (case l4 => k_is); (case c4 => k_is); (case k4 => k_is)
    (case a6 => k_is); (case l6 => k_is); (case c6 => k_is); (case k6 => k_is); (case a10 => k_is); (case l10 => k_is)
    (case c10 => k_is); (case k10 => k_is); (case a11 => k_is); (case l11 => k_is); (case c11 => k_is); (case k11 => k_is)
    (case a14 => k_is); (case l14 => k_is); (case c14 => k_is); (case k14 => k_is); (case a15 => k_is); (case l15 => k_is)
    (case c15 => k_is); (case k15 => k_is); (case a16 => k_is); (case l16 => k_is); (case c16 => k_is); (case k16 => k_is)
    (case a17 => k_is); (case l17 => k_is); (case c17 => k_is); (case k17 => k_is); (case a18 => k_is); (case l18 => k_is)
    (case c18 => k_is); (case k18 => k_is); (case a19 => k_is); (case l19 => k_is); (case c19 => k_is); (case k19 => k_is)
    (case a20 => k_is); (case l20 => k_is); (case c20 => k_is); (case k20 => k_is); (case a21 => k_is); (case l21 => k_is)
    (case c21 => k_is); (case k21 => k_is); (case a23 => k_is); (case l23 => k_is); (case c23 => k_is); (case k23 => k_is)
    (case a24 => k_is); (case l24 => k_is); (case c24 => k_is); (case k24 => k_is); (case a25 => k_is); (case l25 => k_is)
    (case c25 => k_is); (case k25 => k_is); (case a26 => k_is); (case l26 => k_is); (case c26 => k_is); (case k26 => k_is)
    (case a27 => k_is); (case l27 => k_is); (case c27 => k_is); (case k27 => k_is); (case a28 => k_is); (case l28 => k_is)
    (case c28 => k_is); (case k28 => k_is); (case a29 => k_is); (case l29 => k_is); (case c29 => k_is); (case k29 => k_is)
    (case a30 => k_is); (case l30 => k_is); (case c30 => k_is); (case k30 => k_is); (case a31 => k_is); (case l31 => k_is)
    (case c31 => k_is); (case k31 => k_is); (case a32 => k_is); (case l32 => k_is); (case c32 => k_is); (case k32 => k_is)
    (case ad0 => k_is); (case jd0 => k_is); (case ld0 => k_is); (case cd0 => k_is); (case kd0 => k_is); (case ad2 => k_is)
    (case jd2 => k_is); (case ld2 => k_is); (case cd2 => k_is); (case kd2 => k_is); (case ar0 => k_is); (case jr0 => k_is)
    (case lr0 => k_is); (case cr0 => k_is); (case kr0 => k_is); (case ar1 => k_is); (case jr1 => k_is); (case lr1 => k_is)
    (case cr1 => k_is); (case kr1 => k_is); (case ar2 => k_is); (case jr2 => k_is); (case lr2 => k_is); (case cr2 => k_is)
    (case kr2 => k_is); (case ar3 => k_is); (case jr3 => k_is); (case lr3 => k_is); (case cr3 => k_is); (case kr3 => k_is)
    (case ar4 => k_is); (case jr4 => k_is); (case lr4 => k_is); (case cr4 => k_is); (case kr4 => k_is); (case ar5 => k_is)
    (case jr5 => k_is); (case lr5 => k_is); (case cr5 => k_is); (case kr5 => k_is); (case ar6 => k_is); (case jr6 => k_is)
    (case lr6 => k_is); (case cr6 => k_is); (case kr6 => k_is); (case ar7 => k_is); (case jr7 => k_is); (case lr7 => k_is)
    (case cr7 => k_is); (case kr7 => k_is); (case ar8 => k_is); (case jr8 => k_is); (case lr8 => k_is); (case cr8 => k_is)
    (case kr8 => k_is); (case ar9 => k_is); (case jr9 => k_is); (case lr9 => k_is); (case cr9 => k_is); (case kr9 => k_is)
    (case d_pg => k_is); (case d_hd => k_is); (case d_po => k_is); (case d_sa => k_is); (case d_mk => k_is); (case d_kc => k_is)
    (case d_nby => k_is); (case d_nmultiplier => k_is); (case d_noffset => k_is); (case d_nshift => k_is); (case r_pg => k_is); (case r_hd => k_is)
    (case r_po => k_is); (case r_sa => k_is); (case r_mk => k_is); (case r_kc => k_is); (case r_nby => k_is); (case r_ntimes => k_is)
    (case r_noffset => k_is); (case r_nwhole => k_is); (case r_ngain => k_is); (case aiN => k_is); (case aiS => k_is); (case z0 => k_is)
    (case z1 => k_is); (case z2 => k_is); (case z3 => k_is); (case z4 => k_is); (case z5 => k_is); (case z6 => k_is)
    (case z7 => k_is); (case z8 => k_is)
