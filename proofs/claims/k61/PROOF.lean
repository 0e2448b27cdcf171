import PyProof.Rows.All
import Wide.All
import OpenK.AllK
import Wide.FinOn
import PyProof.EqAt
import PyProof.EqKinds
import PyProof.TupleCall
import KE.KExcSuper
import KE.KExcIs
import HandS.ForMost
import HandS.Exc
import HandS.ExcOwn
import HandS.WordsExc
import HandS.HotCalls
import HandS.Wide
import HandS.ExcInit
import HandS.TryMany
import HandS.ExcField
import HandS.Star
import HandS.IsInst
import HandS.CallLocal
import HandS.Iter
import HandS.ForDict
import HandS.WideBits
import HandS.Lambda
import HandS.OwnEq
import HandS.Defaults
import HandS.MakeKwOnly
import HandS.Style
import HandS.EndTab
import KE.KDictCopyH
import PySem.Challenge.RW_tagblocks_k61_whole_small_dividers
set_option Elab.async false
set_option linter.all false
/-! Dividers, the mathematics: what is told, sums of quotients, counts -/
namespace DV
/-- rounded up -/
def up (n d : Int) : Int := -((-n) / d)
theorem lt_up {n d r : Int} (hd : 0 < d) : r < up n d ↔ r * d < n := by
  unfold up
  have h := Int.ediv_lt_iff_lt_mul (a := -n) (b := -r) hd
  constructor
  · intro h1
    have h2 : -n / d < -r := by omega
    have h3 := h.mp h2
    rw [Int.neg_mul] at h3
    omega
  · intro h1
    have h3 : -n < -r * d := by rw [Int.neg_mul]; omega
    have := h.mpr h3
    omega
theorem up_le {n d r : Int} (hd : 0 < d) : up n d ≤ r ↔ n ≤ r * d := by
  have := lt_up (n := n) (r := r) hd
  omega
def mn (i j : Int) : Int := if j < i then j else i
def mx (i j : Int) : Int := if j > i then j else i
theorem mn_eq (i j : Int) : mn i j = min i j := by unfold mn; split <;> omega
theorem mx_eq (i j : Int) : mx i j = max i j := by unfold mx; split <;> omega
/-- the rests below a product -/
def rb (b m p : Int) : Int := if p ≤ 0 then 0 else if m = 0 then b else mn (up p m) b
theorem rb_iff {b m p r : Int} (hm : 0 ≤ m) (h0 : 0 ≤ r) (hr : r < b) : r < rb b m p ↔ r * m < p := by
  unfold rb
  split
  · rename_i hp
    have := Int.mul_nonneg h0 hm
    omega
  · rename_i hp
    split
    · rename_i hz
      rw [hz, Int.mul_zero]
      omega
    · rename_i hz
      have := lt_up (n := p) (r := r) (d := m) (by omega)
      unfold mn
      split <;> omega
theorem rb_nonneg {b m p : Int} (hm : 0 ≤ m) (hb : 0 < b) : 0 ≤ rb b m p := by
  unfold rb
  split
  · omega
  · split
    · omega
    · have := lt_up (n := p) (r := 0) (d := m) (by omega)
      unfold mn
      split <;> omega
theorem rb_le {b m p : Int} (hm : 0 ≤ m) (hb : 0 < b) : rb b m p ≤ b := by
  unfold rb
  split
  · omega
  · split
    · omega
    · unfold mn
      split <;> omega
theorem rb_mono {b m p p2 : Int} (hm : 0 ≤ m) (hb : 0 < b) (h : p ≤ p2) : rb b m p ≤ rb b m p2 := by
  by_cases z : rb b m p ≤ rb b m p2
  · exact z
  · have a1 := rb_nonneg (b := b) (m := m) (p := p2) hm hb
    have a2 := rb_le (b := b) (m := m) (p := p) hm hb
    have b1 := (rb_iff (b := b) (m := m) (p := p) (r := rb b m p2) hm a1 (by omega)).mp (by omega)
    have b2 := (rb_iff (b := b) (m := m) (p := p2) (r := rb b m p2) hm a1 (by omega)).mpr (by omega)
    omega
/-! ### sums -/
def S (f : Nat → Int) : Nat → Int
  | 0 => 0
  | n + 1 => S f n + f n
theorem S_congr {f g : Nat → Int} : ∀ {n : Nat}, (∀ i, i < n → f i = g i) → S f n = S g n
  | 0, _ => rfl
  | n + 1, h => by
    show S f n + f n = S g n + g n
    rw [S_congr fun i hi => h i (Nat.lt_succ_of_lt hi), h n (Nat.lt_succ_self n)]
theorem S_add (f g : Nat → Int) : ∀ n : Nat, S (fun i => f i + g i) n = S f n + S g n
  | 0 => rfl
  | n + 1 => by
    show S (fun i => f i + g i) n + (f n + g n) = S f n + f n + (S g n + g n)
    rw [S_add f g n]
    omega
theorem S_const (c : Int) : ∀ n : Nat, S (fun _ => c) n = (n : Int) * c
  | 0 => by simp [S]
  | n + 1 => by
    show S (fun _ => c) n + c = ((n + 1 : Nat) : Int) * c
    rw [S_const c n, Int.natCast_add, Int.add_mul]
    simp
theorem S_sub (f g : Nat → Int) : ∀ n : Nat, S (fun i => f i - g i) n = S f n - S g n
  | 0 => rfl
  | n + 1 => by
    show S (fun i => f i - g i) n + (f n - g n) = S f n + f n - (S g n + g n)
    rw [S_sub f g n]
    omega
theorem S_split (f : Nat → Int) (a : Nat) : ∀ n : Nat, S f (a + n) = S f a + S (fun i => f (a + i)) n
  | 0 => by simp [S]
  | n + 1 => by
    show S f (a + n) + f (a + n) = S f a + (S (fun i => f (a + i)) n + f (a + n))
    rw [S_split f a n]
    omega
theorem S_head (f : Nat → Int) (n : Nat) : S f (n + 1) = f 0 + S (fun i => f (i + 1)) n := by
  have := S_split f 1 n
  rw [Nat.add_comm 1 n] at this
  rw [this]
  show S f 0 + f 0 + _ = _
  have e : (fun i => f (1 + i)) = fun i => f (i + 1) := by funext i; rw [Nat.add_comm]
  rw [e]
  simp [S]
theorem S_rev (f : Nat → Int) : ∀ n : Nat, S (fun i => f (n - 1 - i)) n = S f n
  | 0 => rfl
  | n + 1 => by
    rw [S_head]
    show f (n + 1 - 1 - 0) + S (fun i => f (n + 1 - 1 - (i + 1))) n = S f n + f n
    have e : S (fun i => f (n + 1 - 1 - (i + 1))) n = S (fun i => f (n - 1 - i)) n := S_congr fun i hi => by
      congr 1
      omega
    rw [e, S_rev f n]
    have : n + 1 - 1 - 0 = n := by omega
    rw [this]
    omega
/-! ### a sum of quotients -/
def FS (n : Nat) (d f a : Int) : Int := S (fun i => (f * (i : Int) + a) / d) n
theorem tri (n : Nat) : (n : Int) * ((n : Int) - 1) / 2 + (n : Int) = ((n : Int) + 1) * (((n : Int) + 1) - 1) / 2 := by
  have e : ((n : Int) + 1) * (((n : Int) + 1) - 1) = (n : Int) * ((n : Int) - 1) + (n : Int) * 2 := by
    rw [Int.mul_sub, Int.mul_sub, Int.add_mul, Int.mul_add]
    omega
  rw [e, Int.add_mul_ediv_right _ _ (by decide)]
theorem FS_parts {d f a : Int} (hd : 0 < d) : ∀ n : Nat, FS n d f a = (n : Int) * ((n : Int) - 1) / 2 * (f / d) + (n : Int) * (a / d) + FS n d (f % d) (a % d)
  | 0 => by simp [FS, S]
  | n + 1 => by
    have ih := FS_parts (f := f) (a := a) hd n
    have e1 : FS (n + 1) d f a = FS n d f a + (f * (n : Int) + a) / d := rfl
    have e2 : FS (n + 1) d (f % d) (a % d) = FS n d (f % d) (a % d) + ((f % d) * (n : Int) + a % d) / d := rfl
    have e3 : (f * (n : Int) + a) / d = ((f % d) * (n : Int) + a % d) / d + ((n : Int) * (f / d) + a / d) := by
      have h1 : f * (n : Int) + a = ((f % d) * (n : Int) + a % d) + ((n : Int) * (f / d) + a / d) * d := by
        have a1 := Int.emod_add_mul_ediv f d
        have a2 := Int.emod_add_mul_ediv a d
        have a3 : f * (n : Int) = (f % d) * (n : Int) + (n : Int) * (f / d) * d := by
          have : f * (n : Int) = (f % d + d * (f / d)) * (n : Int) := by rw [a1]
          rw [this, Int.add_mul]
          congr 1
          rw [Int.mul_comm d, Int.mul_assoc, Int.mul_comm d, ← Int.mul_assoc, Int.mul_comm (f / d)]
        have a4 : a = a % d + (a / d) * d := by rw [Int.mul_comm (a / d)]; exact a2.symm
        rw [Int.add_mul]
        omega
      rw [h1, Int.add_mul_ediv_right _ _ (by omega)]
    have t := tri n
    have e4 : ((n + 1 : Nat) : Int) = (n : Int) + 1 := by omega
    rw [e1, e2, e3, ih, e4, ← t, Int.add_mul ((n : Int) * ((n : Int) - 1) / 2) (n : Int) (f / d), Int.add_mul (n : Int) 1 (a / d)]
    omega
/-- the sum turned: rests of both numbers -/
theorem FS_turn {d f a : Int} (hf0 : 0 ≤ f) (hf : f < d) (ha0 : 0 ≤ a) (ha : a < d) : ∀ n : Nat, FS n d f a = FS ((f * (n : Int) + a) / d).toNat f d ((f * (n : Int) + a) % d)
  | 0 => by
    have e : (f * ((0 : Nat) : Int) + a) / d = 0 := by
      rw [show f * ((0 : Nat) : Int) + a = a by simp]
      exact Int.ediv_eq_zero_of_lt ha0 ha
    rw [e]
    rfl
  | n + 1 => by
    have ih := FS_turn hf0 hf ha0 ha n
    have hd : 0 < d := by omega
    have hn : 0 ≤ f * (n : Int) + a := by
      have := Int.mul_nonneg hf0 (Int.natCast_nonneg n)
      omega
    obtain ⟨L, hL⟩ : ∃ L, L = f * (n : Int) + a := ⟨_, rfl⟩
    have hL2 : f * ((n + 1 : Nat) : Int) + a = L + f := by
      have : ((n + 1 : Nat) : Int) = (n : Int) + 1 := by omega
      rw [this, Int.mul_add, hL]
      omega
    have e1 : FS (n + 1) d f a = FS n d f a + L / d := by rw [hL]; rfl
    rw [e1, ih, hL2, ← hL]
    rw [← hL] at hn
    have q1 := Int.emod_add_mul_ediv L d
    have q2 := Int.emod_nonneg L (show d ≠ 0 by omega)
    have q3 := Int.emod_lt_of_pos L hd
    have q4 : 0 ≤ L / d := Int.ediv_nonneg hn (by omega)
    obtain ⟨Y, hY⟩ : ∃ Y : Nat, L / d = (Y : Int) := ⟨(L / d).toNat, by omega⟩
    obtain ⟨c, hc⟩ : ∃ c, c = L % d := ⟨_, rfl⟩
    rw [← hc] at q1 q2 q3
    rw [hY] at q1
    -- f > 0 or nothing
    by_cases hz : f = 0
    · subst hz
      have e : L + 0 = L := by omega
      rw [e, hY, Int.toNat_natCast]
      -- L = a < d
      have : L = a := by rw [hL]; simp
      have : L / d = 0 := by rw [this]; exact Int.ediv_eq_zero_of_lt ha0 ha
      rw [this] at hY
      have : Y = 0 := by omega
      subst this
      simp
    have hfp : 0 < f := by omega
    have step : ∀ z : Int, (z + f) / f = z / f + 1 := fun z => by
      have := Int.add_mul_ediv_right z 1 (show f ≠ 0 by omega)
      rw [Int.one_mul] at this
      exact this
    by_cases hcf : c + f < d
    · have d1 : (L + f) / d = (Y : Int) ∧ (L + f) % d = c + f := by
        have e : L + f = (c + f) + (Y : Int) * d := by rw [Int.mul_comm]; omega
        rw [e, Int.add_mul_ediv_right _ _ (by omega), Int.add_mul_emod_self_right, Int.ediv_eq_zero_of_lt (by omega) hcf, Int.emod_eq_of_lt (by omega) hcf]
        exact ⟨by omega, rfl⟩
      rw [d1.1, d1.2, hY, Int.toNat_natCast, ← hc]
      have e : FS Y f d (c + f) = S (fun i => (d * (i : Int) + c) / f + 1) Y := S_congr fun i _ => by
        rw [← Int.add_assoc, step]
      rw [e, S_add, S_const]
      show FS Y f d c + _ = FS Y f d c + _
      omega
    · have d1 : (L + f) / d = ((Y + 1 : Nat) : Int) ∧ (L + f) % d = c + f - d := by
        have e : L + f = (c + f - d) + ((Y : Int) + 1) * d := by rw [Int.add_mul, Int.mul_comm (Y : Int)]; omega
        rw [e, Int.add_mul_ediv_right _ _ (by omega), Int.add_mul_emod_self_right, Int.ediv_eq_zero_of_lt (by omega) (by omega), Int.emod_eq_of_lt (by omega) (by omega)]
        exact ⟨by omega, rfl⟩
      rw [d1.1, d1.2, hY, Int.toNat_natCast, Int.toNat_natCast, ← hc]
      have e : FS (Y + 1) f d (c + f - d) = (c + f - d) / f + S (fun i => (d * (i : Int) + c) / f + 1) Y := by
        unfold FS
        rw [S_head]
        have e0 : (d * ((0 : Nat) : Int) + (c + f - d)) = c + f - d := by simp
        rw [e0]
        congr 1
        exact S_congr fun i _ => by
          have : d * ((i + 1 : Nat) : Int) + (c + f - d) = (d * (i : Int) + c) + f := by
            have : ((i + 1 : Nat) : Int) = (i : Int) + 1 := by omega
            rw [this, Int.mul_add]
            omega
          rw [this, step]
      rw [e, S_add, S_const, Int.ediv_eq_zero_of_lt (show 0 ≤ c + f - d by omega) (by omega)]
      show FS Y f d c + _ = 0 + (FS Y f d c + _)
      omega
end DV

set_option Elab.async false
set_option linter.all false
/-! Dividers, the mathematics: where one is right -/
namespace DV
structure Dv where
  b : Int
  m : Int
  o : Int
  s : Nat
def Dv.W (D : Dv) : Int := 2 ^ D.s
def Dv.g (D : Dv) : Int := D.W - D.m * D.b
structure Dv.Ok (D : Dv) : Prop where
  hb : 2 ≤ D.b
  hm : 0 ≤ D.m
  ho : 0 ≤ D.o
theorem Dv.W_pos (D : Dv) : 0 < D.W := Int.pow_pos (by decide)
def Dv.rb (D : Dv) (p : Int) : Int := DV.rb D.b D.m p
def Dv.few (D : Dv) (q : Int) : Int := D.rb (D.g * q - D.o)
def Dv.fit (D : Dv) (q : Int) : Int := D.rb (D.g * q - D.o + D.W)
/-- what is told for x -/
def Dv.told (D : Dv) (x : Int) : Int := (x * D.m + D.o) / D.W
def Dv.R (D : Dv) (x : Int) : Prop := D.told x = x / D.b
instance (D : Dv) (x : Int) : Decidable (D.R x) := inferInstanceAs (Decidable (_ = _))
theorem div_of {b q r : Int} (h0 : 0 ≤ r) (hr : r < b) : (b * q + r) / b = q := by
  have e : b * q + r = r + q * b := by rw [Int.mul_comm]; omega
  rw [e, Int.add_mul_ediv_right _ _ (by omega), Int.ediv_eq_zero_of_lt h0 hr]
  omega
theorem div_is {x W q : Int} (hW : 0 < W) : x / W = q ↔ q * W ≤ x ∧ x < q * W + W := by
  constructor
  · intro h
    subst h
    have h1 := Int.emod_add_mul_ediv x W
    have h2 := Int.emod_nonneg x (show W ≠ 0 by omega)
    have h3 := Int.emod_lt_of_pos x hW
    rw [Int.mul_comm]
    omega
  · rintro ⟨h1, h2⟩
    have e : x = (x - q * W) + q * W := by omega
    rw [e, Int.add_mul_ediv_right _ _ (by omega), Int.ediv_eq_zero_of_lt (by omega) (by omega)]
    omega
variable {D : Dv}
theorem R_iff (K : D.Ok) {q r : Int} (h0 : 0 ≤ r) (hr : r < D.b) : D.R (D.b * q + r) ↔ D.g * q - D.o ≤ r * D.m ∧ r * D.m < D.g * q - D.o + D.W := by
  unfold Dv.R Dv.told
  rw [div_of h0 hr, div_is D.W_pos]
  have e : (D.b * q + r) * D.m = q * D.W - D.g * q + r * D.m := by
    unfold Dv.g
    have e1 : (D.b * q + r) * D.m = q * (D.m * D.b) + r * D.m := by
      rw [Int.add_mul]
      congr 1
      rw [Int.mul_comm D.b q, Int.mul_assoc, Int.mul_comm D.b]
    rw [e1, Int.sub_mul, Int.mul_comm q D.W, Int.mul_comm q (D.m * D.b)]
    omega
  rw [e]
  omega
theorem few_iff (K : D.Ok) {q r : Int} (h0 : 0 ≤ r) (hr : r < D.b) : r < D.few q ↔ r * D.m < D.g * q - D.o := rb_iff K.hm h0 hr
theorem fit_iff (K : D.Ok) {q r : Int} (h0 : 0 ≤ r) (hr : r < D.b) : r < D.fit q ↔ r * D.m < D.g * q - D.o + D.W := rb_iff K.hm h0 hr
theorem R_ff (K : D.Ok) {q r : Int} (h0 : 0 ≤ r) (hr : r < D.b) : D.R (D.b * q + r) ↔ D.few q ≤ r ∧ r < D.fit q := by
  rw [R_iff K h0 hr, ← fit_iff K h0 hr]
  have := few_iff K (q := q) h0 hr
  omega
theorem few_pos (K : D.Ok) (q : Int) : 0 ≤ D.few q := rb_nonneg K.hm (by have := K.hb; omega)
theorem fit_pos (K : D.Ok) (q : Int) : 0 ≤ D.fit q := rb_nonneg K.hm (by have := K.hb; omega)
theorem few_b (K : D.Ok) (q : Int) : D.few q ≤ D.b := rb_le K.hm (by have := K.hb; omega)
theorem fit_b (K : D.Ok) (q : Int) : D.fit q ≤ D.b := rb_le K.hm (by have := K.hb; omega)
theorem few_fit (K : D.Ok) (q : Int) : D.few q ≤ D.fit q := rb_mono K.hm (by have := K.hb; omega) (by have := D.W_pos; omega)
/-! ### from a rest on -/
def Dv.wf (D : Dv) (q r : Int) : Option Int := if r < D.few q then some r else if mx r (D.fit q) < D.b then some (mx r (D.fit q)) else none
def Dv.rf (D : Dv) (q r : Int) : Option Int := if mx r (D.few q) < D.fit q then some (mx r (D.few q)) else none
theorem wf_none (K : D.Ok) {q r : Int} (h0 : 0 ≤ r) (h : D.wf q r = none) : ∀ r2, r ≤ r2 → r2 < D.b → D.R (D.b * q + r2) := by
  intro r2 h1 h2
  rw [R_ff K (by omega) h2]
  unfold Dv.wf at h
  rw [mx_eq] at h
  split at h
  · cases h
  · split at h
    · cases h
    · have := fit_b K q
      omega
theorem wf_some (K : D.Ok) {q r f : Int} (h0 : 0 ≤ r) (hr : r < D.b) (h : D.wf q r = some f) : r ≤ f ∧ f < D.b ∧ ¬ D.R (D.b * q + f) ∧ ∀ r2, r ≤ r2 → r2 < f → D.R (D.b * q + r2) := by
  unfold Dv.wf at h
  rw [mx_eq] at h
  have e1 := fit_pos K q
  split at h
  · cases h
    refine ⟨by omega, hr, ?_, fun r2 h1 h2 => by omega⟩
    rw [R_ff K h0 hr]
    omega
  · split at h
    · cases h
      refine ⟨by omega, by omega, ?_, fun r2 h1 h2 => ?_⟩
      · rw [R_ff K (by omega) (by omega)]
        omega
      · rw [R_ff K (by omega) (by omega)]
        omega
    · cases h
theorem rf_none (K : D.Ok) {q r : Int} (h0 : 0 ≤ r) (h : D.rf q r = none) : ∀ r2, r ≤ r2 → r2 < D.b → ¬ D.R (D.b * q + r2) := by
  intro r2 h1 h2
  rw [R_ff K (by omega) h2]
  unfold Dv.rf at h
  rw [mx_eq] at h
  split at h
  · cases h
  · omega
theorem rf_some (K : D.Ok) {q r f : Int} (h0 : 0 ≤ r) (h : D.rf q r = some f) : r ≤ f ∧ f < D.b ∧ D.R (D.b * q + f) ∧ ∀ r2, r ≤ r2 → r2 < f → ¬ D.R (D.b * q + r2) := by
  unfold Dv.rf at h
  rw [mx_eq] at h
  have e1 := fit_b K q
  have e2 := few_pos K q
  split at h
  · cases h
    refine ⟨by omega, by omega, ?_, fun r2 h1 h2 => ?_⟩
    · rw [R_ff K (by omega) (by omega)]
      omega
    · rw [R_ff K (by omega) (by omega)]
      omega
  · cases h
/-! ### the next block -/
def Dv.wq (D : Dv) (q : Int) : Option Int := if D.wf q 0 ≠ none then some q else if 0 < D.g then some (mx q (D.o / D.g + 1)) else if D.g < 0 then some (mx q (up (D.W - D.o - D.m * (D.b - 1)) (-D.g))) else none
def Dv.rq (D : Dv) (q : Int) : Option Int := if D.rf q 0 ≠ none then some q else if D.g ≤ 0 then none else if D.rf (mx q ((D.o - D.W) / D.g + 1)) 0 ≠ none then some (mx q ((D.o - D.W) / D.g + 1)) else none
/-- some rest is wrong -/
def Dv.AW (D : Dv) (q : Int) : Prop := D.wf q 0 ≠ none
theorem aw_iff (K : D.Ok) (q : Int) : D.AW q ↔ 0 < D.g * q - D.o ∨ D.g * q - D.o + D.W ≤ (D.b - 1) * D.m := by
  have hb := K.hb
  have h1 := few_iff K (q := q) (r := 0) (by omega) (by omega)
  have h2 := fit_iff K (q := q) (r := D.b - 1) (by omega) (by omega)
  rw [Int.zero_mul] at h1
  have e1 := fit_pos K q
  unfold Dv.AW Dv.wf
  rw [mx_eq]
  have h3 : max 0 (D.fit q) = D.fit q := by omega
  rw [h3]
  constructor
  · intro h
    by_cases c1 : 0 < D.few q
    · exact .inl (h1.mp c1)
    · rw [if_neg c1] at h
      by_cases c2 : D.fit q < D.b
      · refine .inr ?_
        have : ¬ (D.b - 1 < D.fit q) := by omega
        rw [h2] at this
        omega
      · rw [if_neg c2] at h
        exact absurd rfl h
  · intro h
    by_cases c1 : 0 < D.few q
    · rw [if_pos c1]
      intro z
      cases z
    · rw [if_neg c1]
      rw [h1] at c1
      have c2 : D.fit q < D.b := by
        have : ¬ (D.b - 1 < D.fit q) := by
          rw [h2]
          omega
        omega
      rw [if_pos c2]
      intro z
      cases z
theorem mul_le {g p q : Int} (hg : 0 ≤ g) (h : p ≤ q) : g * p ≤ g * q := Int.mul_le_mul_of_nonneg_left h hg
theorem wq_none (K : D.Ok) {q : Int} (h0 : 0 ≤ q) (h : D.wq q = none) : ∀ q2, q ≤ q2 → ¬ D.AW q2 := by
  intro q2 h2
  unfold Dv.wq at h
  split at h
  · cases h
  rename_i c1
  have hq : ¬ D.AW q := c1
  split at h
  · cases h
  split at h
  · cases h
  · have hg : D.g = 0 := by omega
    rw [aw_iff K] at hq ⊢
    rw [hg, Int.zero_mul] at hq ⊢
    exact hq
theorem wq_some (K : D.Ok) {q q1 : Int} (h0 : 0 ≤ q) (h : D.wq q = some q1) : q ≤ q1 ∧ D.AW q1 ∧ ∀ q2, q ≤ q2 → q2 < q1 → ¬ D.AW q2 := by
  unfold Dv.wq at h
  split at h
  · rename_i c1
    cases h
    exact ⟨by omega, c1, fun q2 a b => by omega⟩
  rename_i c1
  have hq : ¬ D.AW q := c1
  have hq2 := hq
  rw [aw_iff K] at hq2
  have ho := K.ho
  split at h
  · rename_i hg
    cases h
    rw [mx_eq]
    have d1 : D.o / D.g * D.g ≤ D.o ∧ D.o < D.o / D.g * D.g + D.g := (div_is hg).mp rfl
    have e1 : D.g * (D.o / D.g + 1) = D.o / D.g * D.g + D.g := by rw [Int.mul_add, Int.mul_comm]; omega
    have hlt : q < D.o / D.g + 1 := by
      by_cases z : q < D.o / D.g + 1
      · exact z
      · have := mul_le (g := D.g) (by omega) (show D.o / D.g + 1 ≤ q by omega)
        omega
    have e2 : max q (D.o / D.g + 1) = D.o / D.g + 1 := by omega
    rw [e2]
    refine ⟨by omega, ?_, fun q2 a b => ?_⟩
    · rw [aw_iff K]
      left
      omega
    · rw [aw_iff K]
      have a1 := mul_le (g := D.g) (by omega) a
      have a2 := mul_le (g := D.g) (by omega) (show q2 ≤ D.o / D.g by omega)
      rw [Int.mul_comm D.g (D.o / D.g)] at a2
      omega
  split at h
  · rename_i c2 hg
    cases h
    rw [mx_eq]
    have hneg : ∀ p, 0 ≤ p → D.g * p ≤ 0 := fun p hp => by
      have := Int.mul_nonneg (show 0 ≤ -D.g by omega) hp
      rw [Int.neg_mul] at this
      omega
    have key : ∀ p, 0 ≤ p → (D.AW p ↔ up (D.W - D.o - D.m * (D.b - 1)) (-D.g) ≤ p) := fun p hp => by
      rw [aw_iff K, up_le (by omega)]
      have a1 := hneg p hp
      have a2 : p * -D.g = -(D.g * p) := by rw [Int.mul_neg, Int.mul_comm]
      rw [a2, Int.mul_comm (D.b - 1) D.m]
      omega
    have hq3 := hq
    rw [key q h0] at hq3
    have e2 : max q (up (D.W - D.o - D.m * (D.b - 1)) (-D.g)) = up (D.W - D.o - D.m * (D.b - 1)) (-D.g) := by omega
    rw [e2]
    refine ⟨by omega, ?_, fun q2 a b => ?_⟩
    · rw [key _ (by omega)]
      omega
    · rw [key _ (by omega)]
      omega
  · cases h
/-- some rest is right -/
def Dv.AR (D : Dv) (q : Int) : Prop := D.rf q 0 ≠ none
theorem ar_of (K : D.Ok) {q r : Int} (h0 : 0 ≤ r) (hr : r < D.b) (h : D.R (D.b * q + r)) : D.AR q := fun z => rf_none K (by omega) z r h0 hr h
theorem rq_some (K : D.Ok) {q q1 : Int} (h0 : 0 ≤ q) (h : D.rq q = some q1) : q ≤ q1 ∧ D.AR q1 ∧ ∀ q2, q ≤ q2 → q2 < q1 → ¬ D.AR q2 := by
  have hb := K.hb
  unfold Dv.rq at h
  split at h
  · rename_i c1
    cases h
    exact ⟨by omega, c1, fun q2 a b => by omega⟩
  rename_i c1
  split at h
  · cases h
  rename_i hg
  split at h
  · rename_i c2
    cases h
    rw [mx_eq] at c2 ⊢
    have hgp : 0 < D.g := by omega
    refine ⟨by omega, c2, fun q2 a b => ?_⟩
    -- fit q2 = 0
    have d1 := (div_is (x := D.o - D.W) (q := (D.o - D.W) / D.g) hgp).mp rfl
    have hq2 : q2 ≤ (D.o - D.W) / D.g := by omega
    have a2 := mul_le (g := D.g) (by omega) hq2
    rw [Int.mul_comm D.g ((D.o - D.W) / D.g)] at a2
    intro z
    apply z
    have f0 : ¬ (0 < D.fit q2) := by
      rw [fit_iff K (by omega) (by omega), Int.zero_mul]
      omega
    have f1 := few_pos K q2
    unfold Dv.rf
    rw [mx_eq, if_neg (by omega)]
  · cases h
theorem rq_none (K : D.Ok) {q : Int} (h0 : 0 ≤ q) (h : D.rq q = none) : ∀ q2, q ≤ q2 → ¬ D.AR q2 := by
  have hb := K.hb
  have hm := K.hm
  have ho := K.ho
  have hW := D.W_pos
  -- right with the rest 0
  have zero : ∀ p, (D.g * p - D.o ≤ 0 ∧ 0 < D.g * p - D.o + D.W) → D.AR p := fun p hp => ar_of K (r := 0) (by omega) (by omega) ((R_iff K (by omega) (by omega)).mpr (by rw [Int.zero_mul]; exact hp))
  intro q2 h2 hA
  obtain ⟨f, hf⟩ : ∃ f, D.rf q2 0 = some f := by
    cases e : D.rf q2 0 with
    | none => exact absurd e hA
    | some f => exact ⟨f, rfl⟩
  obtain ⟨f0, f1, f2, _⟩ := rf_some K (by omega) hf
  rw [R_iff K f0 f1] at f2
  unfold Dv.rq at h
  split at h
  · cases h
  rename_i c1
  have hq : ¬ D.AR q := c1
  split at h
  · rename_i hg
    -- g ≤ 0
    have hneg : ∀ p, 0 ≤ p → D.g * p ≤ 0 := fun p hp => by
      have := Int.mul_nonneg (show 0 ≤ -D.g by omega) hp
      rw [Int.neg_mul] at this
      omega
    have a1 := hneg q h0
    have a2 : D.g * q2 ≤ D.g * q := by
      have := mul_le (g := -D.g) (by omega) h2
      rw [Int.neg_mul, Int.neg_mul] at this
      omega
    have a3 := Int.mul_nonneg f0 hm
    exact hq (zero q ⟨by omega, by omega⟩)
  rename_i hg
  split at h
  · cases h
  rename_i c2
  have hgp : 0 < D.g := by omega
  obtain ⟨p, hp⟩ : ∃ p, p = mx q ((D.o - D.W) / D.g + 1) := ⟨_, rfl⟩
  rw [← hp] at c2
  rw [mx_eq] at hp
  have hpA : ¬ D.AR p := c2
  have d1 := (div_is (x := D.o - D.W) (q := (D.o - D.W) / D.g) hgp).mp rfl
  have hmb : 0 ≤ D.m * D.b := Int.mul_nonneg hm (by omega)
  have hgW : D.g ≤ D.W := by unfold Dv.g; omega
  by_cases c3 : q < (D.o - D.W) / D.g + 1
  · have e : p = (D.o - D.W) / D.g + 1 := by omega
    have e1 : D.g * p = (D.o - D.W) / D.g * D.g + D.g := by rw [e, Int.mul_add, Int.mul_comm]; omega
    exact hpA (zero p ⟨by omega, by omega⟩)
  · have e : p = q := by omega
    have e1 := mul_le (g := D.g) (by omega) (show (D.o - D.W) / D.g + 1 ≤ q by omega)
    have e2 : D.g * ((D.o - D.W) / D.g + 1) = (D.o - D.W) / D.g * D.g + D.g := by rw [Int.mul_add, Int.mul_comm]; omega
    have P0 : 0 < D.g * q - D.o + D.W := by omega
    have P1 : 0 < D.g * q - D.o := by
      by_cases z : 0 < D.g * q - D.o
      · exact z
      · exact absurd (zero q ⟨by omega, P0⟩) hq
    have a2 := mul_le (g := D.g) (by omega) h2
    -- times is not 0: f * m ≥ g q2 - o > 0
    have hmp : 0 < D.m := by
      by_cases z : 0 < D.m
      · exact z
      · have : D.m = 0 := by omega
        rw [this, Int.mul_zero] at f2
        omega
    -- m < W
    have hmW : D.m ≤ D.W := by
      have : D.m * 1 ≤ D.m * D.b := mul_le (by omega) (by omega)
      unfold Dv.g at hgp
      omega
    -- r: the least one with r * m ≥ g q - o
    obtain ⟨r, hr⟩ : ∃ r, r = up (D.g * q - D.o) D.m := ⟨_, rfl⟩
    have r1 : D.g * q - D.o ≤ r * D.m := (up_le hmp).mp (by omega)
    have r2 : ¬ (D.g * q - D.o ≤ (r - 1) * D.m) := by
      rw [← up_le hmp]
      omega
    rw [Int.sub_mul] at r2
    have r3 : 0 < r := by rw [hr, lt_up hmp]; omega
    have r4 : r ≤ f := by
      rw [hr, up_le hmp]
      omega
    refine hq (ar_of K (r := r) (by omega) (by omega) ?_)
    rw [R_iff K (by omega) (by omega)]
    omega
end DV

set_option Elab.async false
set_option linter.all false
/-! Dividers, the mathematics: the next wrong and right number; how many are wrong -/
namespace DV
variable {D : Dv}
theorem split_x (K : D.Ok) {x : Int} (h : 0 ≤ x) : x = D.b * (x / D.b) + x % D.b ∧ 0 ≤ x % D.b ∧ x % D.b < D.b ∧ 0 ≤ x / D.b := by
  have hb := K.hb
  have h1 := Int.emod_add_mul_ediv x D.b
  exact ⟨by omega, Int.emod_nonneg x (by omega), Int.emod_lt_of_pos x (by omega), Int.ediv_nonneg h (by omega)⟩
/-- x lies in the block q, ahead of it, or behind it -/
theorem blk_lt (K : D.Ok) {p q r t : Int} (h0 : 0 ≤ r) (hr : r < D.b) (ht0 : 0 ≤ t) (ht : t < D.b) (h : D.b * p + r < D.b * q + t) : p < q ∨ (p = q ∧ r < t) := by
  have hb := K.hb
  by_cases z : p < q
  · exact .inl z
  · refine .inr ?_
    by_cases y : p = q
    · subst y
      exact ⟨rfl, by omega⟩
    · exfalso
      have := mul_le (g := D.b) (by omega) (show q + 1 ≤ p by omega)
      rw [Int.mul_add] at this
      omega
def Dv.nw (D : Dv) (x : Int) : Option Int := match D.wf (x / D.b) (x % D.b) with
  | some f => some (D.b * (x / D.b) + f)
  | none => match D.wq (x / D.b + 1) with
    | none => none
    | some q => (D.wf q 0).map fun f => D.b * q + f
def Dv.nr (D : Dv) (x : Int) : Option Int := match D.rf (x / D.b) (x % D.b) with
  | some f => some (D.b * (x / D.b) + f)
  | none => match D.rq (x / D.b + 1) with
    | none => none
    | some q => (D.rf q 0).map fun f => D.b * q + f
theorem nw_none (K : D.Ok) {x : Int} (h0 : 0 ≤ x) (h : D.nw x = none) : ∀ y, x ≤ y → D.R y := by
  intro y hy
  obtain ⟨ex, r0, r1, q0⟩ := split_x K h0
  obtain ⟨ey, t0, t1, p0⟩ := split_x K (show 0 ≤ y by omega)
  unfold Dv.nw at h
  split at h
  · cases h
  rename_i hw
  rw [ey]
  by_cases z : y / D.b = x / D.b
  · have : x % D.b ≤ y % D.b := by rw [z] at ey; omega
    rw [z]
    exact wf_none K r0 hw _ this t1
  · have lt : x / D.b < y / D.b := by
      have hne : x ≠ y := fun e => z (by rw [e])
      rcases blk_lt K r0 r1 t0 t1 (p := x / D.b) (q := y / D.b) (by omega) with c | ⟨c, _⟩
      · exact c
      · exact absurd c.symm z
    split at h
    · rename_i hq
      have := wq_none K (show 0 ≤ x / D.b + 1 by omega) hq (y / D.b) (by omega)
      unfold Dv.AW at this
      exact wf_none K (by omega) (Classical.not_not.mp this) _ t0 t1
    · rename_i q hq
      obtain ⟨a1, a2, a3⟩ := wq_some K (by omega) hq
      cases e : D.wf q 0 with
      | none => exact absurd e a2
      | some f => rw [e] at h; cases h
theorem nw_some (K : D.Ok) {x y : Int} (h0 : 0 ≤ x) (h : D.nw x = some y) : x ≤ y ∧ ¬ D.R y ∧ ∀ z, x ≤ z → z < y → D.R z := by
  obtain ⟨ex, r0, r1, q0⟩ := split_x K h0
  unfold Dv.nw at h
  split at h
  · rename_i f hw
    cases h
    obtain ⟨a1, a2, a3, a4⟩ := wf_some K r0 r1 hw
    refine ⟨by omega, a3, fun z hz1 hz2 => ?_⟩
    have e := a4 (z - D.b * (x / D.b)) (by omega) (by omega)
    rw [show D.b * (x / D.b) + (z - D.b * (x / D.b)) = z by omega] at e
    exact e
  · rename_i hw
    split at h
    · cases h
    · rename_i q hq
      obtain ⟨a1, a2, a3⟩ := wq_some K (by omega) hq
      cases e : D.wf q 0 with
      | none => exact absurd e a2
      | some f =>
        rw [e] at h
        have hy : D.b * q + f = y := Option.some.inj h
        subst hy
        have hb := K.hb
        obtain ⟨b1, b2, b3, b4⟩ := wf_some K (by omega) (by omega) e
        have m1 := mul_le (g := D.b) (by omega) a1
        rw [Int.mul_add] at m1
        refine ⟨by omega, b3, fun z hz1 hz2 => ?_⟩
        obtain ⟨ez, t0, t1, p0⟩ := split_x K (show 0 ≤ z by omega)
        rw [ez]
        by_cases c : z / D.b = x / D.b
        · rw [c]
          rw [c] at ez
          exact wf_none K r0 hw _ (by omega) t1
        · have lt : x / D.b < z / D.b := by
            have hne : x ≠ z := fun e => c (by rw [e])
            rcases blk_lt K r0 r1 t0 t1 (p := x / D.b) (q := z / D.b) (by omega) with c2 | ⟨c2, _⟩
            · exact c2
            · exact absurd c2.symm c
          rcases blk_lt K t0 t1 b1 b2 (p := z / D.b) (q := q) (by omega) with c3 | ⟨c3, c4⟩
          · have := a3 (z / D.b) (by omega) c3
            unfold Dv.AW at this
            exact wf_none K (by omega) (Classical.not_not.mp this) _ t0 t1
          · rw [c3]
            exact b4 _ t0 c4
theorem nr_none (K : D.Ok) {x : Int} (h0 : 0 ≤ x) (h : D.nr x = none) : ∀ y, x ≤ y → ¬ D.R y := by
  intro y hy
  obtain ⟨ex, r0, r1, q0⟩ := split_x K h0
  obtain ⟨ey, t0, t1, p0⟩ := split_x K (show 0 ≤ y by omega)
  unfold Dv.nr at h
  split at h
  · cases h
  rename_i hw
  rw [ey]
  by_cases z : y / D.b = x / D.b
  · have : x % D.b ≤ y % D.b := by rw [z] at ey; omega
    rw [z]
    exact rf_none K r0 hw _ this t1
  · have lt : x / D.b < y / D.b := by
      have hne : x ≠ y := fun e => z (by rw [e])
      rcases blk_lt K r0 r1 t0 t1 (p := x / D.b) (q := y / D.b) (by omega) with c | ⟨c, _⟩
      · exact c
      · exact absurd c.symm z
    split at h
    · rename_i hq
      have := rq_none K (show 0 ≤ x / D.b + 1 by omega) hq (y / D.b) (by omega)
      unfold Dv.AR at this
      exact rf_none K (by omega) (Classical.not_not.mp this) _ t0 t1
    · rename_i q hq
      obtain ⟨a1, a2, a3⟩ := rq_some K (by omega) hq
      cases e : D.rf q 0 with
      | none => exact absurd e a2
      | some f => rw [e] at h; cases h
theorem nr_some (K : D.Ok) {x y : Int} (h0 : 0 ≤ x) (h : D.nr x = some y) : x ≤ y ∧ D.R y ∧ ∀ z, x ≤ z → z < y → ¬ D.R z := by
  obtain ⟨ex, r0, r1, q0⟩ := split_x K h0
  unfold Dv.nr at h
  split at h
  · rename_i f hw
    cases h
    obtain ⟨a1, a2, a3, a4⟩ := rf_some K r0 hw
    refine ⟨by omega, a3, fun z hz1 hz2 => ?_⟩
    have e := a4 (z - D.b * (x / D.b)) (by omega) (by omega)
    rw [show D.b * (x / D.b) + (z - D.b * (x / D.b)) = z by omega] at e
    exact e
  · rename_i hw
    split at h
    · cases h
    · rename_i q hq
      obtain ⟨a1, a2, a3⟩ := rq_some K (by omega) hq
      cases e : D.rf q 0 with
      | none => exact absurd e a2
      | some f =>
        rw [e] at h
        have hy : D.b * q + f = y := Option.some.inj h
        subst hy
        have hb := K.hb
        obtain ⟨b1, b2, b3, b4⟩ := rf_some K (by omega) e
        have m1 := mul_le (g := D.b) (by omega) a1
        rw [Int.mul_add] at m1
        refine ⟨by omega, b3, fun z hz1 hz2 => ?_⟩
        obtain ⟨ez, t0, t1, p0⟩ := split_x K (show 0 ≤ z by omega)
        rw [ez]
        by_cases c : z / D.b = x / D.b
        · rw [c]
          rw [c] at ez
          exact rf_none K r0 hw _ (by omega) t1
        · have lt : x / D.b < z / D.b := by
            have hne : x ≠ z := fun e => c (by rw [e])
            rcases blk_lt K r0 r1 t0 t1 (p := x / D.b) (q := z / D.b) (by omega) with c2 | ⟨c2, _⟩
            · exact c2
            · exact absurd c2.symm c
          rcases blk_lt K t0 t1 b1 b2 (p := z / D.b) (q := q) (by omega) with c3 | ⟨c3, c4⟩
          · have := a3 (z / D.b) (by omega) c3
            unfold Dv.AR at this
            exact rf_none K (by omega) (Classical.not_not.mp this) _ t0 t1
          · rw [c3]
            exact b4 _ t0 c4
/-! ### counts -/
def Dv.ind (D : Dv) (i : Nat) : Int := if D.R (i : Int) then 1 else 0
/-- how many below n are right -/
def Dv.cr (D : Dv) (n : Nat) : Int := S D.ind n
/-- how many up to x are wrong -/
def Dv.cw (D : Dv) (x : Int) : Int := x + 1 - D.cr (x + 1).toNat
theorem cr_in (K : D.Ok) {bn : Nat} (hbn : (bn : Int) = D.b) (q : Nat) : ∀ r : Nat, r ≤ bn → D.cr (bn * q + r) = D.cr (bn * q) + (min (D.fit q) (r : Int) - min (D.few q) (r : Int))
  | 0, _ => by
    have := few_pos K (q : Int)
    have := fit_pos K (q : Int)
    show D.cr (bn * q + 0) = _
    rw [Nat.add_zero]
    omega
  | r + 1, h => by
    have ih := cr_in K hbn q r (by omega)
    have e : D.cr (bn * q + (r + 1)) = D.cr (bn * q + r) + D.ind (bn * q + r) := rfl
    rw [e, ih]
    have h1 : ((bn * q + r : Nat) : Int) = D.b * (q : Int) + (r : Int) := by rw [Int.natCast_add, Int.natCast_mul, hbn]
    have h2 := R_ff K (q := (q : Int)) (r := (r : Int)) (by omega) (by omega)
    have h3 := few_fit K (q : Int)
    unfold Dv.ind
    rw [h1]
    split
    · rename_i hR
      rw [h2] at hR
      omega
    · rename_i hR
      rw [h2] at hR
      omega
theorem cr_blocks (K : D.Ok) {bn : Nat} (hbn : (bn : Int) = D.b) : ∀ q : Nat, D.cr (bn * q) = S (fun i => D.fit (i : Int) - D.few (i : Int)) q
  | 0 => by rw [Nat.mul_zero]; rfl
  | q + 1 => by
    have e := cr_in K hbn q bn (Nat.le_refl _)
    have a1 := fit_b K (q : Int)
    have a2 := few_b K (q : Int)
    rw [Nat.mul_succ, e, cr_blocks K hbn q]
    show _ = S (fun i => D.fit (i : Int) - D.few (i : Int)) q + (D.fit (q : Int) - D.few (q : Int))
    omega
/-- sums of rests below products -/
def Dv.SB (D : Dv) (start : Int) (n : Nat) : Int := S (fun i => D.rb (D.g * (i : Int) + start)) n
theorem cr_sum (K : D.Ok) {bn : Nat} (hbn : (bn : Int) = D.b) (q r : Nat) (hr : r < bn) : D.cr (bn * q + r + 1) = mx 0 (mn (D.fit q) ((r : Int) + 1) - mn (D.few q) ((r : Int) + 1)) + (D.SB (D.W - D.o) q - D.SB (-D.o) q) := by
  have e := cr_in K hbn q (r + 1) (by omega)
  have h3 := few_fit K (q : Int)
  rw [show bn * q + r + 1 = bn * q + (r + 1) by omega, e, cr_blocks K hbn q, S_sub]
  have e1 : S (fun i => D.fit (i : Int)) q = D.SB (D.W - D.o) q := S_congr fun i _ => by
    show D.rb _ = D.rb _
    congr 1
    omega
  have e2 : S (fun i => D.few (i : Int)) q = D.SB (-D.o) q := S_congr fun i _ => by
    show D.rb _ = D.rb _
    congr 1
  rw [e1, e2, mx_eq, mn_eq, mn_eq]
  omega
theorem cr_zero (K : D.Ok) (hz : D.m = 0) {bn : Nat} (hbn : (bn : Int) = D.b) (q r : Nat) (hr : r < bn) : D.cr (bn * q + r + 1) = mx 0 (mn (D.fit q) ((r : Int) + 1) - mn (D.few q) ((r : Int) + 1)) + (if D.o / D.W < (q : Int) then D.b else 0) := by
  have e := cr_in K hbn q (r + 1) (by omega)
  have h3 := few_fit K (q : Int)
  have ho := K.ho
  have hW := D.W_pos
  have hb := K.hb
  have t0 : 0 ≤ D.o / D.W := Int.ediv_nonneg ho (by omega)
  have hg : D.g = D.W := by unfold Dv.g; rw [hz, Int.zero_mul]; omega
  have one : ∀ i : Nat, D.fit (i : Int) - D.few (i : Int) = if (i : Int) = D.o / D.W then D.b else 0 := fun i => by
    have d := div_is (x := D.o) (q := (i : Int)) hW
    unfold Dv.fit Dv.few Dv.rb rb
    rw [hg, hz, Int.mul_comm D.W]
    simp only [if_true]
    by_cases c : D.o / D.W = (i : Int)
    · rw [if_pos (show (i : Int) = D.o / D.W from c.symm)]
      have := d.mp c
      rw [if_neg (by omega), if_pos (by omega)]
      omega
    · rw [if_neg (show ¬ ((i : Int) = D.o / D.W) from fun z => c z.symm)]
      have : ¬ ((i : Int) * D.W ≤ D.o ∧ D.o < (i : Int) * D.W + D.W) := fun z => c (d.mpr z)
      by_cases c2 : (i : Int) * D.W ≤ D.o
      · rw [if_pos (by omega), if_pos (by omega)]
        omega
      · rw [if_neg (by omega), if_neg (by omega)]
        omega
  have sum : ∀ n : Nat, S (fun i => D.fit (i : Int) - D.few (i : Int)) n = if D.o / D.W < (n : Int) then D.b else 0 := fun n => by
    induction n with
    | zero => rw [if_neg (by omega)]; rfl
    | succ n ih =>
      show S (fun i => D.fit (i : Int) - D.few (i : Int)) n + (D.fit (n : Int) - D.few (n : Int)) = _
      rw [ih, one n]
      have : ((n + 1 : Nat) : Int) = (n : Int) + 1 := by omega
      rw [this]
      by_cases c1 : D.o / D.W < (n : Int)
      · rw [if_pos c1, if_neg (by omega), if_pos (by omega)]
        omega
      · rw [if_neg c1]
        by_cases c2 : (n : Int) = D.o / D.W
        · rw [if_pos c2, if_pos (by omega)]
          omega
        · rw [if_neg c2, if_neg (by omega)]
          omega
  rw [show bn * q + r + 1 = bn * q + (r + 1) by omega, e, cr_blocks K hbn q, sum, mx_eq, mn_eq, mn_eq]
  omega
/-! ### sums of rests -/
def clamp (lo hi x : Int) : Int := mx lo (mn hi x)
/-- the sum for a gain from 0 on, by a sum of quotients -/
def sb (b m g start : Int) (n : Nat) : Int := S (fun i => rb b m (g * (i : Int) + start)) n
def sbF (m g added : Int) (n : Int) : Int := mx 0 (mn n (up (-added) g))
def sbL (b m g added : Int) (n : Int) : Int := mx (sbF m g added n) (mn n (up (m * b - added) g))
theorem sb_pos {b m g start : Int} (hm : 0 < m) (hb : 0 < b) (hg : 0 < g) (n : Nat) :
    sb b m g start n = FS (sbL b m g (start + m - 1) n - sbF m g (start + m - 1) n).toNat m g (start + m - 1 + g * sbF m g (start + m - 1) n) + ((n : Int) - sbL b m g (start + m - 1) n) * b ∧
    0 ≤ sbF m g (start + m - 1) n ∧ sbF m g (start + m - 1) n ≤ sbL b m g (start + m - 1) n ∧ sbL b m g (start + m - 1) n ≤ n ∧ (sbF m g (start + m - 1) n < sbL b m g (start + m - 1) n → 0 ≤ start + m - 1 + g * sbF m g (start + m - 1) n) := by
  obtain ⟨A, hA⟩ : ∃ A, A = start + m - 1 := ⟨_, rfl⟩
  rw [← hA]
  obtain ⟨F, hF⟩ : ∃ F, F = sbF m g A n := ⟨_, rfl⟩
  obtain ⟨L, hL⟩ : ∃ L, L = sbL b m g A n := ⟨_, rfl⟩
  rw [← hF, ← hL]
  have hF2 : F = max 0 (min (n : Int) (up (-A) g)) := by rw [hF]; unfold sbF; rw [mx_eq, mn_eq]
  have hL2 : L = max F (min (n : Int) (up (m * b - A) g)) := by rw [hL]; unfold sbL; rw [mx_eq, mn_eq, ← hF]
  have hmb : 0 < m * b := Int.mul_pos hm hb
  have hmb2 : m ≤ m * b := by
    have := mul_le (g := m) (by omega) (show (1 : Int) ≤ b by omega)
    rw [Int.mul_one] at this
    exact this
  -- the three stretches
  have low : ∀ i : Int, 0 ≤ i → i < F → rb b m (g * i + start) = 0 := fun i h0 h1 => by
    have : i < up (-A) g := by omega
    rw [lt_up hg, Int.mul_comm i g] at this
    unfold rb
    rw [if_pos (by omega)]
  have hi : ∀ i : Int, L ≤ i → i < n → rb b m (g * i + start) = b := fun i h0 h1 => by
    have : up (m * b - A) g ≤ i := by omega
    rw [up_le hg, Int.mul_comm i g] at this
    have h1 : b ≤ up (g * i + start) m := by
      have := lt_up (n := g * i + start) (r := b - 1) hm
      have e : (b - 1) * m = m * b - m := by rw [Int.sub_mul, Int.mul_comm]; omega
      rw [e] at this
      omega
    unfold rb
    rw [if_neg (by omega), if_neg (by omega), mn_eq]
    omega
  have mid : ∀ i : Int, F ≤ i → i < L → rb b m (g * i + start) = (g * i + A) / m ∧ 0 ≤ g * i + A := fun i h0 h1 => by
    have h2 : i < up (m * b - A) g := by omega
    have h3 : up (-A) g ≤ i := by omega
    rw [lt_up hg, Int.mul_comm i g] at h2
    rw [up_le hg, Int.mul_comm i g] at h3
    refine ⟨?_, by omega⟩
    have e : (g * i + A) / m = up (g * i + start) m := by
      rw [div_is hm]
      obtain ⟨u, hu⟩ : ∃ u, u = up (g * i + start) m := ⟨_, rfl⟩
      rw [← hu]
      have a1 := (up_le (n := g * i + start) (r := u) hm).mp (by omega)
      have a2 : ¬ (g * i + start ≤ (u - 1) * m) := by
        rw [← up_le hm]
        omega
      rw [Int.sub_mul] at a2
      omega
    have e2 : up (g * i + start) m ≤ b := by
      rw [up_le hm, Int.mul_comm b m]
      omega
    unfold rb
    by_cases c : g * i + start ≤ 0
    · rw [if_pos c]
      symm
      exact Int.ediv_eq_zero_of_lt (by omega) (by omega)
    · rw [if_neg c, if_neg (by omega), mn_eq, e]
      omega
  have c1 : 0 ≤ F := by omega
  have c2 : F ≤ L := by omega
  have c3 : L ≤ n := by omega
  refine ⟨?_, c1, c2, c3, fun c => ?_⟩
  · obtain ⟨f, hf⟩ : ∃ f : Nat, F = (f : Int) := ⟨F.toNat, by omega⟩
    obtain ⟨k, hk⟩ : ∃ k : Nat, L = (f : Int) + (k : Int) := ⟨(L - F).toNat, by omega⟩
    obtain ⟨l, hl⟩ : ∃ l : Nat, n = f + k + l := ⟨n - f - k, by omega⟩
    have e0 : (L - F).toNat = k := by omega
    unfold sb
    rw [hl, S_split, S_split, e0]
    have s1 : S (fun i => rb b m (g * (i : Int) + start)) f = 0 := by
      have : S (fun i => rb b m (g * (i : Int) + start)) f = S (fun _ => 0) f := S_congr fun i hi => low i (by omega) (by omega)
      rw [this, S_const]
      omega
    have s2 : S (fun i => rb b m (g * ((f + i : Nat) : Int) + start)) k = FS k m g (A + g * F) := S_congr fun i hi => by
      rw [(mid ((f + i : Nat) : Int) (by omega) (by omega)).1]
      congr 1
      have : ((f + i : Nat) : Int) = F + (i : Int) := by omega
      rw [this, Int.mul_add]
      omega
    have s3 : S (fun i => rb b m (g * ((f + k + i : Nat) : Int) + start)) l = (l : Int) * b := by
      have : S (fun i => rb b m (g * ((f + k + i : Nat) : Int) + start)) l = S (fun _ => b) l := S_congr fun i hi' => hi ((f + k + i : Nat) : Int) (by omega) (by omega)
      rw [this, S_const]
    rw [s1, s2, s3]
    have : ((f + k + l : Nat) : Int) - L = (l : Int) := by omega
    rw [this]
    omega
  · have := (mid F (by omega) c).2
    omega
theorem sb_zero {b m start : Int} (n : Nat) : sb b m 0 start n = (n : Int) * rb b m start := by
  unfold sb
  have : S (fun i => rb b m (0 * (i : Int) + start)) n = S (fun _ => rb b m start) n := S_congr fun i _ => by
    rw [Int.zero_mul, Int.zero_add]
  rw [this, S_const]
theorem sb_neg {b m g start : Int} (n : Nat) : sb b m g start n = sb b m (-g) (start + g * ((n : Int) - 1)) n := by
  unfold sb
  rw [← S_rev]
  refine S_congr fun i hi => ?_
  congr 1
  have : ((n - 1 - i : Nat) : Int) = (n : Int) - 1 - (i : Int) := by omega
  rw [this, Int.mul_sub, Int.neg_mul]
  omega
end DV

set_option Elab.async false
set_option linter.all false
/-! Dividers, the mathematics: a turn of the sum, the times that are right -/
namespace DV
/-- a turn of floor_sum: from (many, divisor, factor, added), with the rests -/
theorem fs_step {n : Nat} {d f a : Int} (hd : 0 < d) (hf : 0 ≤ f) (ha : 0 ≤ a) :
    FS n d f a = (n : Int) * ((n : Int) - 1) / 2 * (f / d) + (n : Int) * (a / d) + FS (((f % d) * (n : Int) + a % d) / d).toNat (f % d) d (((f % d) * (n : Int) + a % d) % d) ∧
    0 ≤ ((f % d) * (n : Int) + a % d) / d ∧ ((f % d) * (n : Int) + a % d) / d ≤ n ∧ (0 < ((f % d) * (n : Int) + a % d) / d → 0 < f % d) ∧ 0 ≤ f % d ∧ f % d < d ∧ 0 ≤ ((f % d) * (n : Int) + a % d) % d ∧ ((f % d) * (n : Int) + a % d) % d < d := by
  have f1 := Int.emod_nonneg f (show d ≠ 0 by omega)
  have f2 := Int.emod_lt_of_pos f hd
  have a1 := Int.emod_nonneg a (show d ≠ 0 by omega)
  have a2 := Int.emod_lt_of_pos a hd
  have p1 := Int.mul_nonneg f1 (Int.natCast_nonneg n)
  refine ⟨by rw [FS_parts hd n, FS_turn f1 f2 a1 a2 n], Int.ediv_nonneg (by omega) (by omega), ?_, fun h => ?_, f1, f2, Int.emod_nonneg _ (by omega), Int.emod_lt_of_pos _ hd⟩
  · have e : (f % d) * (n : Int) ≤ (d - 1) * (n : Int) := Int.mul_le_mul_of_nonneg_right (by omega) (by omega)
    rw [Int.sub_mul] at e
    have : ((f % d) * (n : Int) + a % d) / d < (n : Int) + 1 := by
      rw [Int.ediv_lt_iff_lt_mul hd, Int.add_mul, Int.mul_comm (n : Int) d]
      omega
    omega
  · by_cases z : f % d = 0
    · rw [z, Int.zero_mul, Int.zero_add, Int.ediv_eq_zero_of_lt a1 a2] at h
      omega
    · omega
/-! ### the times for which all numbers up to top are right -/
def tight (b top : Int) : List Int := if top ≥ b - 1 then [top, b - 1, (top + 1) / b * b - 1] else [top]
def gr (b : Int) (s : Nat) (x : Int) : Int := (2 ^ s * (x / b + 1) - 1) / x
def tLeast (b top : Int) (s : Nat) : Int := if top ≥ b then up (2 ^ s) b else 0
def AllR (b top : Int) (s : Nat) (m : Int) : Prop := ∀ x, 0 ≤ x → x ≤ top → Dv.R ⟨b, m, 0, s⟩ x
theorem R0_iff {b m x : Int} {s : Nat} : Dv.R ⟨b, m, 0, s⟩ x ↔ (2 ^ s) * (x / b) ≤ x * m ∧ x * m < (2 ^ s) * (x / b) + 2 ^ s := by
  unfold Dv.R Dv.told Dv.W
  have hW : (0 : Int) < 2 ^ s := Int.pow_pos (by decide)
  show (x * m + 0) / 2 ^ s = x / b ↔ _
  rw [Int.add_zero, div_is hW, Int.mul_comm (x / b)]
theorem tight_pos {b top : Int} (hb : 2 ≤ b) (ht : 1 ≤ top) : ∀ x ∈ tight b top, 1 ≤ x ∧ x ≤ top := by
  intro x hx
  unfold tight at hx
  have e1 := Int.emod_add_mul_ediv (top + 1) b
  have e2 := Int.emod_nonneg (top + 1) (show b ≠ 0 by omega)
  have e3 := Int.emod_lt_of_pos (top + 1) (show 0 < b by omega)
  split at hx
  · rename_i c
    have e4 : b * 1 ≤ b * ((top + 1) / b) := by
      refine mul_le (by omega) ?_
      have : 0 < (top + 1) / b := by
        by_cases z : 0 < (top + 1) / b
        · exact z
        · have : (top + 1) / b ≤ 0 := by omega
          have := mul_le (g := b) (by omega) this
          omega
      omega
    rw [Int.mul_comm b ((top + 1) / b)] at e1 e4
    simp only [List.mem_cons, List.mem_nil_iff, or_false] at hx
    rcases hx with h | h | h <;> omega
  · simp only [List.mem_cons, List.mem_nil_iff, or_false] at hx
    omega
theorem gr_iff {b m x : Int} {s : Nat} (hx : 1 ≤ x) : m ≤ gr b s x ↔ x * m < 2 ^ s * (x / b + 1) := by
  unfold gr
  rw [Int.le_ediv_iff_mul_le (by omega), Int.mul_comm m x]
  omega
theorem window {b top m : Int} {s : Nat} (hb : 2 ≤ b) (ht : 1 ≤ top) (hm : 0 ≤ m) : AllR b top s m ↔ tLeast b top s ≤ m ∧ ∀ x ∈ tight b top, m ≤ gr b s x := by
  obtain ⟨W, hW⟩ : ∃ W : Int, W = 2 ^ s := ⟨_, rfl⟩
  have hWp : 0 < W := by rw [hW]; exact Int.pow_pos (by decide)
  constructor
  · intro h
    refine ⟨?_, fun x hx => ?_⟩
    · unfold tLeast
      split
      · rename_i c
        have := (R0_iff.mp (h b (by omega) c)).1
        rw [Int.ediv_self (by omega), Int.mul_one] at this
        rw [up_le (by omega), Int.mul_comm]
        exact this
      · exact hm
    · obtain ⟨h1, h2⟩ := tight_pos hb ht x hx
      have := (R0_iff.mp (h x (by omega) h2)).2
      rw [gr_iff h1, Int.mul_add, Int.mul_one]
      exact this
  · rintro ⟨h1, h2⟩ x x0 xt
    rw [R0_iff, ← hW]
    have ex := Int.emod_add_mul_ediv x b
    have r0 := Int.emod_nonneg x (show b ≠ 0 by omega)
    have r1 := Int.emod_lt_of_pos x (show 0 < b by omega)
    have k0 : 0 ≤ x / b := Int.ediv_nonneg x0 (by omega)
    obtain ⟨k, hk⟩ : ∃ k, k = x / b := ⟨_, rfl⟩
    rw [← hk] at ex k0 ⊢
    have low : top ≥ b → W ≤ m * b := fun c => by
      unfold tLeast at h1
      rw [if_pos c, up_le (by omega), ← hW] at h1
      exact h1
    have hx1 : x * m = b * (k * m) + (x % b) * m := by
      have : x * m = (x % b + b * k) * m := by rw [ex]
      rw [this, Int.add_mul, Int.mul_assoc]
      omega
    have rm : 0 ≤ (x % b) * m := Int.mul_nonneg r0 hm
    constructor
    · by_cases c : k = 0
      · rw [c, Int.mul_zero]
        have := Int.mul_nonneg x0 hm
        exact this
      · have e := mul_le (g := b) (by omega) (show 1 ≤ k by omega)
        have l := low (by omega)
        have e2 : W * k ≤ m * b * k := Int.mul_le_mul_of_nonneg_right l k0
        have e3 : m * b * k = b * (k * m) := by rw [Int.mul_comm m b, Int.mul_assoc, Int.mul_comm m k]
        omega
    · have top_ : top * m < W * (top / b + 1) := by
        have : top ∈ tight b top := by unfold tight; split <;> simp
        rw [hW]
        exact (gr_iff ht).mp (h2 top this)
      have xm : x * m ≤ top * m := Int.mul_le_mul_of_nonneg_right xt hm
      have te := Int.emod_add_mul_ediv top b
      have t0 := Int.emod_nonneg top (show b ≠ 0 by omega)
      have t1 := Int.emod_lt_of_pos top (show 0 < b by omega)
      by_cases c : b * (k + 1) - 1 ≤ top
      · -- the block is complete
        have c2 : top ≥ b - 1 := by
          have := mul_le (g := b) (by omega) (show 1 ≤ k + 1 by omega)
          omega
        obtain ⟨K, hK⟩ : ∃ K, K = (top + 1) / b := ⟨_, rfl⟩
        have kK : k + 1 ≤ K := by
          rw [hK, Int.le_ediv_iff_mul_le (by omega), Int.mul_comm]
          omega
        have mem1 : b - 1 ∈ tight b top := by unfold tight; rw [if_pos c2]; simp
        have mem2 : K * b - 1 ∈ tight b top := by unfold tight; rw [if_pos c2, hK]; simp
        have g1 := (gr_iff (by omega)).mp (h2 _ mem1)
        have g2 := (gr_iff (tight_pos hb ht _ mem2).1).mp (h2 _ mem2)
        rw [← hW] at g1 g2
        have d1 : (b - 1) / b = 0 := Int.ediv_eq_zero_of_lt (by omega) (by omega)
        have d2 : (K * b - 1) / b = K - 1 := by
          rw [div_is (by omega), Int.sub_mul]
          omega
        rw [d1, Int.sub_mul, Int.zero_add, Int.mul_one, Int.one_mul] at g1
        rw [d2, Int.sub_mul, Int.one_mul, show K - 1 + 1 = K by omega] at g2
        -- e = m b - W
        obtain ⟨e, he⟩ : ∃ e, e = m * b - W := ⟨_, rfl⟩
        have v1 : e < m := by rw [Int.mul_comm b m] at g1; omega
        have v2 : K * e < m := by
          have : K * b * m = K * e + W * K := by
            rw [he, Int.mul_sub, Int.mul_assoc, Int.mul_comm b m, Int.mul_comm K W]
            omega
          omega
        have v3 : (k + 1) * e < m := by
          by_cases z : 0 ≤ e
          · have := Int.mul_le_mul_of_nonneg_right kK z
            omega
          · have := Int.mul_le_mul_of_nonneg_right (show 1 ≤ k + 1 by omega) (show 0 ≤ -e by omega)
            rw [Int.mul_neg, Int.mul_neg] at this
            omega
        have v4 : (b * (k + 1) - 1) * m = (k + 1) * e + W * (k + 1) - m := by
          rw [he, Int.sub_mul, Int.one_mul, Int.mul_sub, Int.mul_comm (k + 1) W]
          have : b * (k + 1) * m = (k + 1) * (m * b) := by rw [Int.mul_comm b, Int.mul_assoc, Int.mul_comm b]
          omega
        have v5 : x * m ≤ (b * (k + 1) - 1) * m := Int.mul_le_mul_of_nonneg_right (by rw [Int.mul_add]; omega) hm
        have v6 : W * (k + 1) = W * k + W := by rw [Int.mul_add, Int.mul_one]
        omega
      · -- the last block
        have e : top / b = k := by
          rw [div_is (by omega), Int.mul_comm]
          rw [Int.mul_add] at c
          omega
        rw [e, Int.mul_add] at top_
        omega
/-- there are some from a shift on -/
theorem some_at {b top : Int} {s : Nat} (hb : 2 ≤ b) (ht : 1 ≤ top) (h : b * (top + 1) ≤ 2 ^ s ∨ top < b) : ∃ m, 0 ≤ m ∧ AllR b top s m := by
  obtain ⟨W, hW⟩ : ∃ W : Int, W = 2 ^ s := ⟨_, rfl⟩
  have hWp : 0 < W := by rw [hW]; exact Int.pow_pos (by decide)
  by_cases c : top < b
  · refine ⟨0, by omega, fun x x0 xt => ?_⟩
    rw [R0_iff, Int.mul_zero, Int.ediv_eq_zero_of_lt x0 (by omega), Int.mul_zero, ← hW]
    omega
  · have h3 : b * (top + 1) ≤ W := by rw [hW]; omega
    have hu : 0 < up W b := by rw [lt_up (by omega)]; omega
    refine ⟨up W b, by omega, fun x x0 xt => ?_⟩
    rw [R0_iff, ← hW]
    obtain ⟨m, hm⟩ : ∃ m, m = up W b := ⟨_, rfl⟩
    rw [← hm] at hu ⊢
    have u1 : W ≤ m * b := (up_le (by omega)).mp (by omega)
    have u2 : ¬ W ≤ (m - 1) * b := by rw [← up_le (by omega)]; omega
    rw [Int.sub_mul] at u2
    have ex := Int.emod_add_mul_ediv x b
    have r0 := Int.emod_nonneg x (show b ≠ 0 by omega)
    have r1 := Int.emod_lt_of_pos x (show 0 < b by omega)
    have k0 : 0 ≤ x / b := Int.ediv_nonneg x0 (by omega)
    obtain ⟨k, hk⟩ : ∃ k, k = x / b := ⟨_, rfl⟩
    rw [← hk] at ex k0 ⊢
    obtain ⟨e, he⟩ : ∃ e, e = m * b - W := ⟨_, rfl⟩
    -- times b
    have xe : x * e ≤ top * (b - 1) := Int.mul_le_mul xt (by omega) (by omega) (by omega)
    have te : top * (b - 1) < W := by rw [Int.mul_sub, Int.mul_comm top b]; rw [Int.mul_add] at h3; omega
    have xe0 : 0 ≤ x * e := Int.mul_nonneg x0 (by omega)
    have e1 : (x * m) * b = x * W + x * e := by
      rw [he, Int.mul_sub, Int.mul_assoc]
      omega
    have e2 : x * W = (x % b) * W + (W * k) * b := by
      have : x * W = (x % b + b * k) * W := by rw [ex]
      rw [this, Int.add_mul, Int.mul_comm (b * k) W, Int.mul_comm b k, ← Int.mul_assoc]
    have rW : 0 ≤ (x % b) * W := Int.mul_nonneg r0 (by omega)
    have rW2 : (x % b) * W ≤ (b - 1) * W := Int.mul_le_mul_of_nonneg_right (by omega) (by omega)
    rw [Int.sub_mul] at rW2
    constructor
    · refine Int.le_of_mul_le_mul_right (?_ : (W * k) * b ≤ (x * m) * b) (show 0 < b by omega)
      omega
    · refine Int.lt_of_mul_lt_mul_right (a := b) (?_ : (x * m) * b < (W * k + W) * b) (by omega)
      rw [Int.add_mul, Int.mul_comm W b]
      omega
theorem AllR_double {b top m : Int} {s : Nat} (h : AllR b top s m) : AllR b top (s + 1) (2 * m) := fun x x0 xt => by
  have := h x x0 xt
  rw [R0_iff] at this ⊢
  have e : (2 : Int) ^ (s + 1) = 2 * 2 ^ s := by rw [Int.pow_succ, Int.mul_comm]
  have e2 : x * (2 * m) = 2 * (x * m) := by rw [← Int.mul_assoc, Int.mul_comm x 2, Int.mul_assoc]
  rw [e, e2, Int.mul_assoc]
  omega
theorem AllR_more {b top : Int} {s : Nat} (h : ∃ m, 0 ≤ m ∧ AllR b top s m) : ∀ k : Nat, ∃ m, 0 ≤ m ∧ AllR b top (s + k) m
  | 0 => h
  | k + 1 => by
    obtain ⟨m, h0, h1⟩ := AllR_more h k
    exact ⟨2 * m, by omega, AllR_double h1⟩
end DV

set_option Elab.async false
set_option linter.all false
set_option maxRecDepth 100000
set_option maxHeartbeats 2000000
/-! Part A: an own error over a common error over ValueError; its __init__ says super().__init__('..') and stores its arguments. -/
namespace ErrA
open PySem PySem.W PySem.Calls PyProof.Rows PySem.HandSPX
/-- what the written part tells of the class at C; its __init__ at fI closes over the cell cc, its code object stands at cda -/
structure ErrTxt (P : Program) (K : Frag) (C fI cc cda : Addr) (qual : Str) (st : Stmt) : Prop where
  cls : ∃ nm q N bs bm sn sub ab col dd k0 k1 k2 k3 k5, K.lookup C = some (excClassObj nm q C N bs bm true sn sub ab col dd k0 k1 k2 k3 k5 "ValueError.__new__") ∧ refsVE bm = true
  sa : findIn K (.ref C) "__setattr__" = some (some (.builtin "object.__setattr__"))
  iC : findIn K (.ref C) "__init__" = some (some (.ref fI))
  tI : typeIn K (.ref fI) = some (.type "function")
  kC : keepIn K (.ref C) = true
  exC : subIn K (.ref C) (.type "BaseException") = some true
  veC : subIn K (.ref C) (.type "ValueError") = some true
  meC : mroIn K C (.ref C) = some true
  tyC : typeIn K (.ref C) = some (.type "type")
  sup : ks_superIn K C C "__init__" = some (some (.builtin "ValueError.__init__"))
  opq : nsIn K cStatics "thirdparty.any" = some none
  gS : nsIn K mainGlobals "super" = some none
  cell : ∃ cl cld csl, K.lookup cc = some ⟨cl, cld, .cell (some (.ref C)), csl⟩
  code : ∃ (ccl : Value) (cdd : Option Addr) (vs : Array Value) (ccs : Array (Option Value)) (file : Str) (tf : Tok), K.lookup cda = some ⟨ccl, cdd, .fields vs, ccs⟩ ∧ vs[2]? = some (.str file tf) ∧ ((P.main.file : Str) == file) = true
  rec_ : codeIn K (.ref cda) qual = true
  fn : ∃ (oc : Value) (od : Option Addr) (kV doc pm : Value) (an : Option Addr) (ct : Value) (osl : Array (Option Value)),
    K.lookup fI = some ⟨oc, od, .func (ksFn "__init__" qual (L2.defArgs st) (L2.defBody st) (L2.defScope st) .none kV doc pm an (.ref cda) ct cc), osl⟩
/-- what the module's names are over the base -/
structure Gnd (K : Frag) (mg : Str → Option Value) (base : Heap) : Prop where
  kin : K.In base
  glob : base.Ns mainGlobals mg
  blt : ∃ mb, base.Ns builtinsNs mb ∧ ∀ x : Str, x ≠ "__name__" → mb x = bootBuiltins x
  lim : base.NoLimit

section
variable {P : Program} {w : World} {K : Frag} {mg : Str → Option Value} {base : Heap} {C fI cc cda : Addr} {qual : Str} {st : Stmt} {A : Around} {E : Value → Shared → Prop}
theorem err_cls (T : ErrTxt P K C fI cc cda qual st) : ∃ cd, clsIn K C = some cd ∧ cd.hasDict = true ∧ refsVE cd.mro = true := by
  obtain ⟨nm, q, N, bs, bm, sn, sub, ab, col, dd, k0, k1, k2, k3, k5, hC, hbm⟩ := T.cls
  refine ⟨_, by unfold clsIn; rw [hC] <;> rfl, rfl, ?_⟩
  exact hbm
/-- the built-in __init__, bound to the exception at x, called -/
theorem bound_init (T : ErrTxt P K C fI cc cda qual st) {x t0 u : Addr} {rest : List Value} {h : Heap} {g : Array GenState} {d : Drawn} {t : Nat} {os : OsState} {Q : Value → Shared → Prop} (X : K.In h)
    (hx : h.get? x = some (excO C t0)) (hu : h.get? u = some (kxs_mw "ValueError.__init__" x)) (hl : rest.length ≤ sizeLine)
    (hq : ∀ h' t1, (∀ b o, b ≠ x → h.get? b = some o → h'.get? b = some o) → h'.get? x = some (excO C t1) → Q .none ⟨h', g, d, t, os⟩) :
    wpAny (model P w) A (call (.ref u) rest) Q E ⟨h, g, d, t, os⟩ := by
  obtain ⟨nm, q, N, bs, bm, sn, sub, ab, col, dd, k0, k1, k2, k3, k5, hC, hbm⟩ := T.cls
  have hC' := X _ _ hC
  refine wpAny_call (codeAny_of_tree ?_)
  show wpAny _ A.in1 (callAny (.ref u) ⟨rest, []⟩) _ _ _
  unfold callAny
  refine wpAny_bind (wpAny_load hu ?_)
  refine KFB.if_so rfl ?_
  refine wpAny_bind (check_bound_init PySem.F.excBase_ValueError.toExcCallFacts hC' hx rfl ?_)
  refine wpAny_bind (wpAny_pure (wpAny_pure ⟨plainId_quiet PySem.F.excBase_ValueError.init.plain _, codeAny_builtin PySem.F.excBase_ValueError.initEntry ?_⟩))
  exact exc_init_tree (cls := .ref C) (dv := none) (c2 := .none) (c3 := .none) (b4 := .bool false) hx hl fun h' k e _ => hq h' _ k e
end
end ErrA
namespace ErrA
open PySem PySem.W PySem.Calls PyProof.Rows PySem.HandSPX
section
variable {P : Program} {w : World} {K : Frag} {mg : Str → Option Value} {base : Heap} {C fI cc cda : Addr} {qual : Str} {st : Stmt} {A : Around} {E : Value → Shared → Prop}
/-- the frame of such an __init__ -/
abbrev eV (qual : Str) (st : Stmt) (L fI cda cc : Addr) : Env := ksEnv qual (L2.defScope st) L fI (.ref cda) cc
/-- what is asked of the text of such an __init__ -/
structure ErrScope (P : Program) (st : Stmt) (fl : List Str) (p0 p1 p2 p3 p4 : Pos) (msg : Str) (kk : Nat) : Prop where
  mc : ∀ (qual : Str) (L fI cda cc : Addr), ∃ pl : Sem Bool, eval (.Call (.Attribute (.Call (.Name "super" p0) [] [] p1) "__init__" p2) [.Constant (.str msg) kk p3] [] p4) (eV qual st L fI cda cc) = (do
      let ov ← attributeBase (.Call (.Name "super" p0) [] [] p1) "__init__" (eV qual st L fI cda cc) (eval (.Call (.Name "super" p0) [] [] p1) (eV qual st L fI cda cc))
      standAt p2.atName
      let (f, first) ← holding [ov] (getMethod ov "__init__" pl)
      callWith p4 f first (backTo p4 (starEach [.Constant (.str msg) kk p3] (eV qual st L fI cda cc))) [])
  kS : (L2.defScope st).names.lookup ("super" : Str) = some .globalImplicit
  kC : (L2.defScope st).names.lookup ("__class__" : Str) = some .free
  kL : ∀ f ∈ ("self" : Str) :: fl, (L2.defScope st).names.lookup f = some .local
  kF : (L2.defScope st).kind = .function
  kG : (L2.defScope st).isGenerator = false
  kO : (L2.defScope st).isCoroutine = false
  kN : ∀ y ∈ (L2.defScope st).names, y.2 ≠ .cell
  top : (P.main.scope.names.lookup ("super" : Str)).isSome = false
  par : ∃ ar : Arg, ((L2.defArgs st).posonlyargs ++ (L2.defArgs st).args).head? = some ar ∧ ar.arg = "self"
  dbg : ∀ f ∈ ("self" : Str) :: fl, (f == ("__debug__" : Str)) = false
/-- super().__init__('..') -/
theorem super_line {L x t0 : Addr} {m : Str → Option Value} {s : Shared} {fl : List Str} {p0 p1 p2 p3 p4 p5 : Pos} {msg : Str} {kk : Nat} {body : List Stmt} {Q : Flow → Shared → Prop} (T : ErrTxt P K C fI cc cda qual st) (S : ErrScope P st fl p0 p1 p2 p3 p4 msg kk) (G : Gnd K mg base)
    (kb : ∀ b o, base.get? b = some o → s.heap.get? b = some o) (hns : s.heap.Ns L m) (hm : m "self" = some (.ref x)) (hx : s.heap.get? x = some (excO C t0))
    (hq : ∀ h' tk t1, (∀ b o, b ≠ x → s.heap.get? b = some o → h'.get? b = some o) → h'.get? x = some (excO C t1) → Q .next { s with heap := h', toks := tk }) :
    _root_.PySem.wpAt (model P w) A (.func body (eV qual st L fI cda cc)) (exec (.Expr (.Call (.Attribute (.Call (.Name "super" p0) [] [] p1) "__init__" p2) [.Constant (.str msg) kk p3] [] p4) p5) (eV qual st L fI cda cc)) Q E s := by
  have X : K.In s.heap := G.kin.keeps kb
  have gS := mg_none_of G.kin G.glob T.gS
  obtain ⟨mb, hmb, hbt⟩ := G.blt
  obtain ⟨cd, hcd, hdct, hmro⟩ := err_cls T
  obtain ⟨oD, hD1, hD2⟩ : ∃ oD, K.lookup C = some oD ∧ oD.data = .cls cd := by
    obtain ⟨nm, q, N, bs, bm, sn, sub, ab, col, dd, k0, k1, k2, k3, k5, hC, hbm⟩ := T.cls
    unfold clsIn at hcd
    rw [hC] at hcd
    exact ⟨_, hC, by cases hcd; rfl⟩
  obtain ⟨cl, cld, csl, hcell⟩ := T.cell
  obtain ⟨ccl, cdd, vs, ccs, file, tf, hcode, hvs, hfile⟩ := T.code
  obtain ⟨oc, od, kV, doc, pm, an, ct, osl, hfn⟩ := T.fn
  obtain ⟨ar, har, harg⟩ := S.par
  obtain ⟨hh, g, d, t, os⟩ := s
  have hsup := T.sup
  unfold ks_superIn at hsup
  rw [hcd, Option.bind_some] at hsup
  have xC : x ≠ C := fun z => by
    rw [z, X _ _ hD1] at hx
    have z2 := congrArg Obj.data (Option.some.inj hx)
    rw [hD2] at z2
    cases z2
  have hint : interactive (eV qual st L fI cda cc) = false := by
    unfold interactive
    rw [show (eV qual st L fI cda cc).scope.kind = .function from S.kF]
    rfl
  obtain ⟨pl, hmc⟩ := S.mc qual L fI cda cc
  refine ks_wpAt_Expr_any (ks_wpAt_MethodCall (pl := pl) (ks_wpAt_super_base (env := eV qual st L fI cda cc) S.kS S.kC (by decide) rfl (X _ _ hfn) rfl har rfl (X _ _ hcode) rfl hvs hfile S.top ?_) hmc) hint
  refine ks_loadName_global S.kF S.kS (loadGlobal_builtin (env := eV qual st L fI cda cc) (G.glob.keeps kb) gS (hmb.keeps kb) ((hbt _ (by decide +kernel)).trans (by first | boot_by_name | rfl | kernel_rfl)) ⟨rfl, ?_⟩)
  refine wpAny_loadName_free S.kF S.kC rfl ⟨_, X _ _ hcell, rfl⟩ ?_
  rw [harg]
  refine wpAny_loadName_local S.kF (S.kL _ (List.mem_cons_self ..)) hns hm ?_
  refine ks_wpAny_isType_cls (X _ _ hD1) hD2 ⟨rfl, ?_⟩
  refine ks_wpAny_call_super (X _ _ hD1) hD2 hx rfl (fun c z => nomatch z) (looks_mroIn X T.meC) (fun h1 e1 k1 => ?_)
  have X1 : K.In h1 := X.keeps k1
  have hx1 := k1 _ _ hx
  have hI : Looks (model P w) h1 (isInstance (.ref x) (.type "ValueError")) true := (show Looks (model P w) h1 (typeOf (.ref x)) (.ref C) from fun A Q E s k q => wpAny_typeOf_ref (k _ _ hx1) q).andThen (looks_subIn X1 T.veC)
  have hM : Looks (model P w) h1 (mroOf (.ref C)) cd.mro := (looks_clsIn X1 hcd).andThen .now
  refine kxs_getMethod kxs_ValueError e1 (looks_opaque X1 T.opq) hM rfl X1 hsup hI xC (by decide) ?_
  have e2 : (h1.push (kxs_mw "ValueError.__init__" x)).get? h1.objs.size = some (kxs_mw "ValueError.__init__" x) := Heap.get?_push_size _ rfl
  have k2 : ∀ b o, h1.get? b = some o → (h1.push (kxs_mw "ValueError.__init__" x)).get? b = some o := fun b o e => Heap.get?_push_of_some _ e
  refine kxs_callWith (i := "ValueError.__init__") (x := x) rfl (evalArgs_plain (spliced_cons (Constant_str (pos := p3) (k := kk) (spliced_nil ⟨e2, ?_⟩))))
  refine bound_init T (X1.keeps k2) (k2 _ _ hx1) e2 (by show 1 ≤ sizeLine; rw [sizeLine_eq]; decide) (fun h' t1 k3 e3 => ?_)
  exact hq h' _ t1 (fun b o hb e => k3 b o hb (k2 _ _ (k1 _ _ e))) e3
end
end ErrA

namespace ErrA
open PySem PySem.W PySem.Calls PyProof.Rows PySem.HandSPX
/-- the names of an exception's own dict, the newest first -/
def lk (fs : List (Str × Value)) : Str → Option Value := fun y => fs.lookup y
theorem lk_more (f : Str) (v : Value) (fs : List (Str × Value)) : lk ((f, v) :: fs) = fun y => if y = f then some v else lk fs y := by
  funext y
  unfold lk
  by_cases h : y = f
  · subst h
    rw [if_pos rfl]
    simp [List.lookup]
  · rw [if_neg h]
    have e : (y == f) = false := by simpa using h
    simp [List.lookup, e]
theorem lk_in : ∀ fs : List (Str × Value), Within (lk fs) (fs.map (·.1))
  | [] => fun y h => absurd rfl h
  | (f, v) :: r => fun y h => by
    have h : lk ((f, v) :: r) y ≠ none := h
    rw [lk_more] at h
    have h : (if y = f then some v else lk r y) ≠ none := h
    by_cases e : y = f
    · rw [e]
      exact List.mem_cons_self ..
    · rw [if_neg e] at h
      exact List.mem_cons_of_mem _ (lk_in r y h)
/-- self.f = f, once for each name -/
inductive Sets : List Stmt → List Str → Prop
  | nil : Sets [] []
  | cons {f : Str} {q1 q2 q3 q4 : Pos} {r : List Stmt} {fl : List Str} (h : Sets r fl) : Sets (.Assign [.Attribute (.Name "self" q1) f q2] (.Name f q3) q4 :: r) (f :: fl)
section
variable {P : Program} {w : World} {K : Frag} {mg : Str → Option Value} {base : Heap} {C fI cc cda : Addr} {qual : Str} {st : Stmt} {A : Around} {E : Value → Shared → Prop}
theorem ldE {L : Addr} {m : Str → Option Value} {f : Str} {pos : Pos} {v : Value} {s : Shared} {M : Model} {Q : Value → Shared → Prop} (hk : (L2.defScope st).kind = .function) (hl : (L2.defScope st).names.lookup f = some .local) (hd : (f == ("__debug__" : Str)) = false)
    (hns : s.heap.Ns L m) (hm : m f = some v) (h : Q v s) : wpAny M A (eval (.Name f pos) (eV qual st L fI cda cc)) Q E s := wpAny_Name (wpAny_loadName_local hk hl hns hm h) hd
/-- further fields: the exception has its dict -/
theorem sets_old (T : ErrTxt P K C fI cc cda qual st) {L x t0 dx : Addr} {m : Str → Option Value} (val : Str → Value) (hk : (L2.defScope st).kind = .function) (hself : (L2.defScope st).names.lookup ("self" : Str) = some .local) (hm0 : m "self" = some (.ref x)) (xL : L ≠ dx) :
    ∀ {sts : List Stmt} {fl : List Str}, Sets sts fl → ∀ (fs : List (Str × Value)) (s : Shared) (Q : Flow → Shared → Prop), fs.length + fl.length ≤ 900 → (∀ f ∈ fl, (L2.defScope st).names.lookup f = some .local ∧ (f == ("__debug__" : Str)) = false ∧ m f = some (val f) ∧ findIn K (.ref C) f = some none) →
      K.In s.heap → K.lookup dx = none → s.heap.Ns L m → s.heap.get? x = some { cls := .ref C, dict := some dx, data := .fields #[.ref t0, .none, .none, .none, .bool false, .none] } → x ≠ dx → s.heap.Ns1 dx (lk fs) →
      (∀ h' tk, (∀ b o, b ≠ dx → s.heap.get? b = some o → h'.get? b = some o) → h'.get? x = some { cls := .ref C, dict := some dx, data := .fields #[.ref t0, .none, .none, .none, .bool false, .none] } → h'.Ns1 dx (lk ((fl.map fun f => (f, val f)).reverse ++ fs)) → Q .next { s with heap := h', toks := tk }) →
      wpAny (model P w) A (execs sts (eV qual st L fI cda cc)) Q E s := by
  intro sts fl hs
  induction hs with
  | nil =>
    intro fs s Q _ _ X _ hns hx hxd hd hq
    exact wpAny_execs_nil (hq s.heap s.toks (fun _ _ _ e => e) hx hd)
  | @cons f q1 q2 q3 q4 r fl hs ih =>
    intro fs s Q hl hf X hKd hns hx hxd hd hq
    obtain ⟨cd, hcd, hdct, hmro⟩ := err_cls T
    obtain ⟨f1, f2, f3, f4⟩ := hf f (List.mem_cons_self ..)
    refine wpAny_execs_cons (plainObj_wpAny_Assign_Attribute (ldE hk f1 f2 hns f3 (ldE hk hself (by decide) hns hm0 ?_)) (by rfl))
    have hd' := hd
    obtain ⟨oD, es, ep, hoD, _⟩ := id hd'
    obtain ⟨hp, g, d, t, os⟩ := s
    refine set_plain X (ox := { cls := .ref C, dict := some dx, data := .fields #[.ref t0, .none, .none, .none, .bool false, .none] }) (od := some oD) ⟨hx, rfl, rfl, hoD⟩ T.sa ?_
    refine PySem.OEX.osa_old X hx hd (lk_in fs) (by rw [List.length_map]; have : fs.length + (fl.length + 1) ≤ 900 := hl; omega) hcd hmro hdct f4 (fun h' tk' k hn => ?_)
    have hn' : h'.Ns1 dx (lk ((f, val f) :: fs)) := by rw [lk_more]; exact hn
    have kK : K.In h' := fun b o e => k b o (fun z => by rw [z, hKd] at e; cases e) (X b o e)
    refine ih ((f, val f) :: fs) _ Q (by have : fs.length + (fl.length + 1) ≤ 900 := hl; show fs.length + 1 + fl.length ≤ 900; omega) (fun g' hg' => hf g' (List.mem_cons_of_mem _ hg')) kK hKd ?_ (k _ _ hxd hx) hxd hn' (fun h2 tk2 k2 e2 n2 => ?_)
    · obtain ⟨o, es2, ep2, ho, r2⟩ := hns
      exact ⟨o, es2, ep2, k _ o xL ho, r2⟩
    · refine hq h2 tk2 (fun b o hb e => k2 b o hb (k b o hb e)) e2 ?_
      rw [List.map_cons, List.reverse_cons, List.append_assoc]
      exact n2
end
end ErrA

namespace ErrA
open PySem PySem.W PySem.Calls PyProof.Rows PySem.HandSPX
theorem look_mem {β : Type} {f : Str} {v : β} : ∀ {l : List (Str × β)}, (l.map (·.1)).Nodup → (f, v) ∈ l → l.lookup f = some v
  | [], _, h => nomatch h
  | (g, u) :: r, hn, h => by
    rw [List.map_cons, List.nodup_cons] at hn
    rcases List.mem_cons.mp h with e | e
    · cases e
      simp [List.lookup]
    · have ne : f ≠ g := fun z => hn.1 (by rw [← z]; exact List.mem_map.mpr ⟨_, e, rfl⟩)
      have e2 : (f == g) = false := by simpa using ne
      simp only [List.lookup, e2]
      exact look_mem hn.2 e
theorem zip_fst {α β : Type} : ∀ {xs : List α} {ys : List β}, xs.length = ys.length → (xs.zip ys).map (·.1) = xs
  | [], _, _ => by simp
  | _ :: _, [], h => by simp at h
  | x :: xs, y :: ys, h => by
    rw [List.zip_cons_cons, List.map_cons, zip_fst (by simpa using h)]
theorem zip_look {names : List Str} {us : List Value} (hn : names.Nodup) (hl : names.length = us.length) {f : Str} {v : Value} (h : (f, v) ∈ names.zip us) : (names.zip us).reverse.lookup f = some v := by
  refine look_mem ?_ (List.mem_reverse.mpr h)
  rw [List.map_reverse, zip_fst hl]
  exact List.pairwise_reverse.mpr (List.Pairwise.imp (fun h => Ne.symm h) hn)
/-- the parameter's value -/
def val (names : List Str) (us : List Value) (f : Str) : Value := ((names.zip us).reverse.lookup f).getD .none
theorem val_look {names : List Str} {us : List Value} (hl : names.length = us.length) {f : Str} (h : f ∈ names) (hn : names.Nodup) : (names.zip us).reverse.lookup f = some (val names us f) := by
  obtain ⟨p, hp, e⟩ : ∃ p ∈ names.zip us, p.1 = f := by
    have h2 : f ∈ (names.zip us).map (·.1) := by rw [zip_fst hl]; exact h
    obtain ⟨p, hp, e⟩ := List.mem_map.mp h2
    exact ⟨p, hp, e⟩
  obtain ⟨g, v⟩ := p
  cases e
  unfold val
  rw [zip_look hn hl hp]
  rfl
/-- the fields that are left, the newest first -/
def flds (names : List Str) (us : List Value) (fl : List Str) : List (Str × Value) := (fl.map fun f => (f, val names us f)).reverse
section
variable {P : Program} {w : World} {K : Frag} {mg : Str → Option Value} {base : Heap} {C fI cc cda : Addr} {qual : Str} {st : Stmt} {A : Around} {E : Value → Shared → Prop} {R : Result → Shared → Prop}
/-- the text of such an __init__ -/
structure ErrBody (P : Program) (st : Stmt) (f : Str) (fl : List Str) : Prop where
  ex : ∃ (p0 p1 p2 p3 p4 p5 q1 q2 q3 q4 : Pos) (msg : Str) (kk : Nat) (r : List Stmt), ErrScope P st (f :: fl) p0 p1 p2 p3 p4 msg kk ∧ Sets r fl ∧
    L2.defBody st = .Expr (.Call (.Attribute (.Call (.Name "super" p0) [] [] p1) "__init__" p2) [.Constant (.str msg) kk p3] [] p4) p5 :: .Assign [.Attribute (.Name "self" q1) f q2] (.Name f q3) q4 :: r
  nd : (("self" : Str) :: f :: fl).Nodup
  bind : ∀ (qual : Str) (kV doc pm : Value) (an : Option Addr) (ct : Value) (cda cc : Addr) (us : List Value), us.length = fl.length + 2 →
    bindArgs (ksFn "__init__" qual (L2.defArgs st) (L2.defBody st) (L2.defScope st) .none kV doc pm an (.ref cda) ct cc) ⟨us, []⟩ = pure ((("self" : Str) :: f :: fl).zip us)
  few : fl.length ≤ 100
/-- what such an __init__ leaves of a fresh exception at x -/
structure ErrEnd (h h' : Heap) (x C dx : Addr) (fs : List (Str × Value)) : Prop where
  keep : ∀ b o, b ≠ x → h.get? b = some o → h'.get? b = some o
  obj : ∃ t0 : Addr, h'.get? x = some { cls := .ref C, dict := some dx, data := .fields #[.ref t0, .none, .none, .none, .bool false, .none] }
  dbig : h.objs.size ≤ dx
  dne : dx ≠ x
  ns : h'.Ns1 dx (lk fs)
theorem err_init {f : Str} {fl : List Str} (T : ErrTxt P K C fI cc cda qual st) (B : ErrBody P st f fl) (G : Gnd K mg base) {x t0 : Addr} {vs : List Value} {s : Shared} (noF : ∀ g ∈ f :: fl, findIn K (.ref C) g = some none)
    (kb : ∀ b o, base.get? b = some o → s.heap.get? b = some o) (hx : s.heap.get? x = some (excO C t0)) (hnx : K.lookup x = none) (hroom : A.depth < recursionLimit) (hl : vs.length = fl.length + 1)
    (hq : ∀ h' tk dx, ErrEnd s.heap h' x C dx (flds (("self" : Str) :: f :: fl) (.ref x :: vs) (f :: fl)) → R (.ok (.ret .none)) { s with heap := h', toks := tk }) :
    codeAny (model P w) A (.call (.ref fI) ⟨.ref x :: vs, []⟩) R s := by
  obtain ⟨p0, p1, p2, p3, p4, p5, q1, q2, q3, q4, msg, kk, r, S, hs, hbody⟩ := B.ex
  obtain ⟨oc, od, kV, doc, pm, an, ct, osl, hfn⟩ := id T.fn
  obtain ⟨cd, hcd, hdct, hmro⟩ := err_cls T
  have X : K.In s.heap := G.kin.keeps kb
  have hus : (("self" : Str) :: f :: fl).length = (Value.ref x :: vs).length := by simp [hl]
  have look : ∀ g ∈ ("self" : Str) :: f :: fl, ((("self" : Str) :: f :: fl).zip (Value.ref x :: vs)).reverse.lookup g = some (val (("self" : Str) :: f :: fl) (.ref x :: vs) g) := fun g hg => val_look hus hg B.nd
  have hself : ((("self" : Str) :: f :: fl).zip (Value.ref x :: vs)).reverse.lookup ("self" : Str) = some (.ref x) := zip_look B.nd hus (by rw [List.zip_cons_cons]; exact List.mem_cons_self ..)
  refine ks_codeAny_call_defAt (fd := ksFn "__init__" qual (L2.defArgs st) (L2.defBody st) (L2.defScope st) .none kV doc pm an (.ref cda) ct cc) (body := L2.defBody st) (binds := (("self" : Str) :: f :: fl).zip (Value.ref x :: vs)) hroom (X _ _ hfn) rfl (G.lim.keeps kb) (codeRec_of X T.rec_) rfl
    (BindsTo.of_eq (B.bind _ _ _ _ _ _ _ _ _ (by simp [hl]))) S.kN (fun y hy => ?_) (fun h1 hns k1 => ?_) S.kO S.kG S.kF
  · obtain ⟨n, v⟩ := y
    exact S.kL n (List.of_mem_zip hy).1
  have hxL : s.heap.objs.size ≠ x := Nat.ne_of_gt (Heap.lt_size hx)
  show _root_.PySem.wpAt _ _ (.func (L2.defBody st) (eV qual st s.heap.objs.size fI cda cc)) (execs (L2.defBody st) (eV qual st s.heap.objs.size fI cda cc)) _ _ _
  rw [hbody]
  have L1 : s.heap.objs.size < h1.objs.size := hns.lt
  refine ks_wpAt_execs_cons (super_line T S G (fun b o e => k1 b o (kb b o e)) hns hself (k1 _ _ hx) (fun h2 tk2 t2 k2 e2 => wpAt_of_wpAny ?_))
  have keep2 : ∀ b o, b ≠ x → s.heap.get? b = some o → h2.get? b = some o := fun b o hb e => k2 b o hb (k1 b o e)
  have hns2 : h2.Ns s.heap.objs.size (fun y => ((("self" : Str) :: f :: fl).zip (Value.ref x :: vs)).reverse.lookup y) := by
    obtain ⟨o, es, ep, ho, hr⟩ := hns
    exact ⟨o, es, ep, k2 _ o hxL ho, hr⟩
  have X2 : K.In h2 := fun b o e => keep2 b o (fun z => by rw [z, hnx] at e; cases e) (X b o e)
  refine wpAny_execs_cons (plainObj_wpAny_Assign_Attribute (ldE S.kF (S.kL _ (by simp)) (S.dbg _ (by simp)) hns2 (look f (by simp)) (ldE S.kF (S.kL _ (by simp)) (by decide) hns2 hself ?_)) (by rfl))
  refine set_plain X2 (ox := excO C t2) (od := none) ⟨e2, rfl, rfl, trivial⟩ T.sa ?_
  refine exc_osa X2 e2 hcd hmro hdct (noF f (by simp)) (fun h3 tk3 dx k3 dn dne hx3 hn3 => ?_)
  have L2' : s.heap.objs.size < h2.objs.size := hns2.lt
  have dL : s.heap.objs.size ≠ dx := Nat.ne_of_lt (Nat.lt_of_lt_of_le L2' dn)
  have hK3 : K.In h3 := fun b o e => k3 b o (fun z => by rw [z, hnx] at e; cases e) (X2 b o e)
  have hKd : K.lookup dx = none := by
    cases e : K.lookup dx with
    | none => rfl
    | some o => exact absurd (Nat.lt_of_lt_of_le (Heap.lt_size (X2 _ _ e)) dn) (Nat.lt_irrefl _)
  have hns3 : h3.Ns s.heap.objs.size (fun y => ((("self" : Str) :: f :: fl).zip (Value.ref x :: vs)).reverse.lookup y) := by
    obtain ⟨o, es, ep, ho, hr⟩ := hns2
    exact ⟨o, es, ep, k3 _ o hxL ho, hr⟩
  have hn3' : h3.Ns1 dx (lk [(f, val (("self" : Str) :: f :: fl) (.ref x :: vs) f)]) := by rw [lk_more]; exact hn3
  refine sets_old T (val (("self" : Str) :: f :: fl) (.ref x :: vs)) S.kF (S.kL _ (by simp)) hself dL hs [(f, _)] _ _ (by have := B.few; show 1 + fl.length ≤ 900; omega)
    (fun g hg => ⟨S.kL g (by simp [hg]), S.dbg g (by simp [hg]), look g (by simp [hg]), noF g (by simp [hg])⟩) hK3 hKd hns3 hx3 (Ne.symm dne) hn3' (fun h4 tk4 k4 e4 n4 => ?_)
  refine hq h4 tk4 dx ⟨fun b o hb e => ?_, ⟨_, e4⟩, Nat.le_of_lt (Nat.lt_of_lt_of_le L2' dn), dne, ?_⟩
  · have bs : b < s.heap.objs.size := Heap.lt_size e
    exact k4 b o (fun z => absurd (Nat.lt_of_lt_of_le (Nat.lt_trans bs L2') dn) (by rw [z]; exact Nat.lt_irrefl _)) (k3 b o hb (keep2 b o hb e))
  · unfold flds
    rw [List.map_cons, List.reverse_cons]
    exact n4
end
end ErrA

namespace ErrA
open PySem PySem.W PySem.Calls PyProof.Rows PySem.HandSPX
theorem val_zip {names : List Str} {us : List Value} : ∀ {fl : List Str} {vs : List Value}, fl.length = vs.length → (∀ p ∈ fl.zip vs, val names us p.1 = p.2) → (fl.map fun f => (f, val names us f)) = fl.zip vs
  | [], _, _, _ => by simp
  | _ :: _, [], h, _ => by simp at h
  | f :: fl, v :: vs, h, hv => by
    rw [List.map_cons, List.zip_cons_cons, val_zip (by simpa using h) (fun p hp => hv p (by rw [List.zip_cons_cons]; exact List.mem_cons_of_mem _ hp)), hv (f, v) (by rw [List.zip_cons_cons]; exact List.mem_cons_self ..)]
theorem flds_zip {n0 : Str} {x : Value} {fl : List Str} {vs : List Value} (hn : (n0 :: fl).Nodup) (hl : fl.length = vs.length) : flds (n0 :: fl) (x :: vs) fl = (fl.zip vs).reverse := by
  unfold flds
  rw [val_zip hl fun p hp => ?_]
  obtain ⟨f, v⟩ := p
  unfold val
  rw [zip_look (v := v) hn (by simp [hl]) (by rw [List.zip_cons_cons]; exact List.mem_cons_of_mem _ hp)]
  rfl
section
variable {P : Program} {w : World} {K : Frag} {mg : Str → Option Value} {base : Heap} {C fI cc cda : Addr} {qual : Str} {st : Stmt} {A : Around} {E : Value → Shared → Prop} {R : Result → Shared → Prop}
/-- a made exception -/
structure ErrMade (h h' : Heap) (e C d : Addr) (fs : List (Str × Value)) : Prop where
  keep : ∀ b o, h.get? b = some o → h'.get? b = some o
  new : h.objs.size ≤ e
  obj : ∃ t0 : Addr, h'.get? e = some { cls := .ref C, dict := some d, data := .fields #[.ref t0, .none, .none, .none, .bool false, .none] }
  dbig : h.objs.size ≤ d
  dne : d ≠ e
  ns : h'.Ns1 d (lk fs)
theorem err_made {f : Str} {fl : List Str} (T : ErrTxt P K C fI cc cda qual st) (B : ErrBody P st f fl) (G : Gnd K mg base) {vs : List Value} {s : Shared} (noF : ∀ g ∈ f :: fl, findIn K (.ref C) g = some none)
    (kb : ∀ b o, base.get? b = some o → s.heap.get? b = some o) (hroom : A.depth + 1 < recursionLimit) (hl : vs.length = fl.length + 1)
    (hq : ∀ h' tk e d, ErrMade s.heap h' e C d (((f :: fl).zip vs).reverse) → R (.ok (.ret (.ref e))) { s with heap := h', toks := tk }) :
    codeAny (model P w) A (.call (.ref C) ⟨vs, []⟩) R s := by
  obtain ⟨nm, q, N, bs, bm, sn, sub, ab, col, dd, k0, k1, k2, k3, k5, hC, hbm⟩ := T.cls
  have X : K.In s.heap := G.kin.keeps kb
  obtain ⟨hp, g, dr, tk, os⟩ := s
  have k : ∀ b o, hp.get? b = some o → ((hp.push (kdv_tup vs)).push (excO C hp.objs.size)).get? b = some o := fun b o e => Heap.get?_push_of_some _ (Heap.get?_push_of_some _ e)
  have hget : ((hp.push (kdv_tup vs)).push (excO C hp.objs.size)).get? (hp.objs.size + 1) = some (excO C hp.objs.size) := by heap_get
  have hnx : K.lookup (hp.objs.size + 1) = none := by
    cases e : K.lookup (hp.objs.size + 1) with
    | none => rfl
    | some o =>
      have z : hp.get? (hp.objs.size + 1) = some o := X _ _ e
      exact absurd (Nat.lt_of_succ_lt (Heap.lt_size z)) (Nat.lt_irrefl _)
  have hsz : vs.length ≤ sizeLine := by
    rw [hl, sizeLine_eq]
    have := B.few
    omega
  refine call_own PySem.F.excBase_ValueError (fun Y => refsVE_contains Y bm hbm) (X _ _ hC) (looks_findIn X T.iC) (fun self => bind_fn X self T.tI) hsz ?_
  refine err_init (s := ⟨(hp.push (kdv_tup vs)).push (excO C hp.objs.size), g, dr, tk, os⟩) T B G noF (fun b o e => k b o (kb b o e)) hget hnx ?_ hl fun h' tk' dx ⟨k', hx, dn, dne, hns⟩ => ?_
  · show A.depth + 1 < recursionLimit
    exact hroom
  · rw [flds_zip B.nd (by simp [hl])] at hns
    have old : ∀ b o, hp.get? b = some o → h'.get? b = some o := fun b o e => k' b o (Nat.ne_of_lt (Nat.lt_succ_of_lt (Heap.lt_size e))) (k b o e)
    have z : hp.objs.size + 1 + 1 ≤ dx := by
      first
        | (simpa only [Heap.size_push] using dn)
        | exact dn
    exact ⟨rfl, hq h' tk' (hp.objs.size + 1) dx ⟨old, Nat.le_succ _, hx, Nat.le_trans (Nat.le_trans (Nat.le_succ _) (Nat.le_succ _)) z, dne, hns⟩⟩
end
end ErrA

namespace L2
open PySem PySem.Spec PyProof.Rows
theorem paired_snoc_k {α β : Type} {F : α → β → Prop} {a : α} {b : β} (r : F a b) : ∀ {xs : List α} {ys : List β}, Paired F xs ys → Paired F (xs ++ [a]) (ys ++ [b])
  | _, _, .nil => .cons r .nil
  | _, _, .cons q t => .cons q (paired_snoc_k r t)
theorem paired_rev_k {α β : Type} {F : α → β → Prop} : ∀ {xs : List α} {ys : List β}, Paired F xs ys → Paired F xs.reverse ys.reverse
  | _, _, .nil => .nil
  | _, _, .cons q t => by
    rw [List.reverse_cons, List.reverse_cons]
    exact paired_snoc_k q (paired_rev_k t)
theorem kv_zip : ∀ (fl : List Str) {vs : List V} {us : List Value}, Vals vs us → KV (fl.zip vs) (fl.zip us)
  | [], _, _, _ => by simp; exact .nil
  | _ :: _, _, _, .nil => by simp; exact .nil
  | f :: fl, _, _, .cons r t => by
    rw [List.zip_cons_cons, List.zip_cons_cons]
    exact .cons ⟨rfl, r⟩ (kv_zip fl t)
theorem kv_look (g : Str) : ∀ {l : List (Str × V)} {m : List (Str × Value)}, KV l m → RelO (l.lookup g) (ErrA.lk m g)
  | _, _, .nil => True.intro
  | (f, y) :: l, (f', u) :: m, .cons ⟨e, r⟩ t => by
    have e : f = f' := e
    subst e
    rw [ErrA.lk_more]
    have ih := kv_look g t
    by_cases h : g = f
    · subst h
      simp only [List.lookup, beq_self_eq_true]
      rw [if_pos True.intro]
      exact r
    · have e2 : (g == f) = false := by simpa using h
      simp only [List.lookup, e2]
      rw [if_neg h]
      exact ih
section
variable {X : Cx} {C fI cc cda : Addr} {qual : Str} {st : Stmt} {f : Str} {fl : List Str}
/-- C(e, ..): behind the arguments, for every new d: the error with its own dict at d -/
def tMkErr (C : Addr) (f : Str) (fl : List Str) (ta : TA) : St → Hp → XK → Prop := fun σ H Q => ta σ H fun vs H1 => vs.length = fl.length + 1 ∧ ∀ d, H1 d = none → Q (.ref C) (some d) (upd H1 d (.xd ((f :: fl).zip vs).reverse))
theorem pmk_err {a : Expr} {as : List Expr} {ta : TA} {n : Str} {p pos : Pos} {k : Nat} (T : ErrA.ErrTxt X.prog X.K C fI cc cda qual st) (B : ErrA.ErrBody X.prog st f fl) (noF : ∀ g ∈ f :: fl, PySem.W.findIn X.K (.ref C) g = some none) (hr : Room k X.A) (hm : X.mg n = some (.ref C)) (ha : PA X (a :: as) ta) (hg : Gl X n := by rfl)
    (hdb : (n == ("__debug__" : Str)) = false := by decide)
    (he : starEach (a :: as) X.env = (false, eval a X.env) :: starEach as X.env := by rfl) (hpl : (backTo pos (starEach as X.env)).any (·.1) = false := by rfl) :
    PMk X (.Call (.Name n p) (a :: as) [] pos) (tMkErr C f fl ta) := by
  intro pins s σ H Q I h
  refine wpAny_Call_Name_kw (ld_glob I hg hm ?_ hdb)
  refine PySem.W.callWith_K (h₀ := X.base) I.ok.mod.kin T.kC (thn (ha.run pos pins s σ H _ I h) fun us s1 hh => ?_) he hpl
  obtain ⟨vs, H1, I1, r1, hl, q1⟩ := hh
  refine ⟨I1.kIn, ?_⟩
  show wpAny _ _ (call (.ref C) us) _ _ _
  have hbk := I1.bk
  have hlu : us.length = fl.length + 1 := by rw [← Paired.length r1]; exact hl
  obtain ⟨hp, g, dr, tk, os⟩ := s1
  refine wpAny_call (ErrA.err_made T B ⟨I1.mod.kin, I1.mod.glob, I1.mod.blt, I1.mod.nolimit⟩ noF hbk (by have := hr.dp; omega) hlu fun h' tk' e d M => ?_)
  show MkP X pins σ Q (.ref e) ⟨h', g, dr, tk', os⟩
  obtain ⟨t0, hoe⟩ := M.obj
  have hns := M.ns
  obtain ⟨G', g1, g2⟩ := restrict h' fun b => decide (b ≠ e)
  have gk : ∀ b, b ≠ e → G'.get? b = h'.get? b := fun b hb => g1 b (decide_eq_true hb)
  have ge : G'.get? e = none := g2 e (by simp)
  have old : ∀ b o, hp.get? b = some o → G'.get? b = some o := fun b o q => (gk b (Nat.ne_of_lt (Nat.lt_of_lt_of_le (Heap.lt_size q) M.new))).trans (M.keep b o q)
  have ob : ObjOk X.prog X.w (upd H1 d (.xd ((f :: fl).zip vs).reverse)) G' d (.xd ((f :: fl).zip vs).reverse) :=
    ⟨_, hns.at (fun o q => (gk d M.dne).trans q), fun g => kv_look g (paired_rev_k (kv_zip (f :: fl) r1))⟩
  have J : Inv X pins σ (upd H1 d (.xd ((f :: fl).zip vs).reverse)) ⟨G', g, dr, tk', os⟩ := I1.laid (t' := tk') old M.dbig ob
  refine ⟨e, _, _, ⟨G', g, dr, tk', os⟩, _, .ref C, some d, rfl, J, fun b o q => ?_, ge, hoe, ⟨rfl, rfl⟩, rfl, rfl, ?_, rfl, I1.bare, raises_own T.exC T.tyC, q1 d (I1.hok.fresh M.dbig)⟩
  · by_cases hb : b = e
    · have q' : G'.get? b = some o := q
      rw [hb, ge] at q'; cases q'
    · exact (gk b hb).symm.trans q
  · rw [upd_ne (Ne.symm M.dne)]
    exact I1.hok.fresh M.new
/-- raise C(e, ..) -/
def tRaiseErr (C : Addr) (f : Str) (fl : List Str) (W : WX) (ta : TA) : TS := fun _ σ H => tMkErr C f fl ta σ H fun cls d H' => W cls d σ H'
theorem ps_raiseErr {a : Expr} {as : List Expr} {ta : TA} {W : WX} {n : Str} {p pos pos2 : Pos} {k : Nat} (hc : X.calm = true) (T : ErrA.ErrTxt X.prog X.K C fI cc cda qual st) (B : ErrA.ErrBody X.prog st f fl) (noF : ∀ g ∈ f :: fl, PySem.W.findIn X.K (.ref C) g = some none) (hr : Room k X.A) (hm : X.mg n = some (.ref C)) (tk : Takes X W) (ha : PA X (a :: as) ta) (hg : Gl X n := by rfl)
    (hdb : (n == ("__debug__" : Str)) = false := by decide)
    (he : starEach (a :: as) X.env = (false, eval a X.env) :: starEach as X.env := by rfl) (hpl : (backTo pos (starEach as X.env)).any (·.1) = false := by rfl) :
    PS X (.Raise (some (.Call (.Name n p) (a :: as) [] pos)) none pos2) (tRaiseErr C f fl W ta) := ps_raise hc tk (pmk_err T B noF hr hm ha hg hdb he hpl)
end
end L2

set_option Elab.async false
set_option linter.all false
set_option maxRecDepth 100000
set_option maxHeartbeats 2000000
/-! Part B: several clauses «except C as n» -/
namespace L2
open PySem PySem.Spec PyProof.Rows
/-- a clause's class and its suite's reading -/
abbrev Cl := Value × (Addr → Value → Option Addr → TS)
/-- the ends of a suite: the name in slot i is gone behind it -/
def goneD (i : Nat) (D : Ends) : Ends := { nx := fun τ G => D.nx (τ.set i none) G, rt := D.rt, bk := fun τ G => D.bk (τ.set i none) G, ct := fun τ G => D.ct (τ.set i none) G }
/-- what the clauses wish, one behind the other; all of them store in slot i -/
def wClauses (K : PySem.W.Frag) (i : Nat) (Wo : WX) (D : Ends) : List Cl → WX
  | [] => Wo
  | (c, ts) :: more => fun cls d τ G => ∃ yes, PySem.W.exmOne K cls c = some yes ∧ (yes = true → ∀ e, G e = none → ts e cls d (goneD i D) (τ.set i (some (.ref e))) G) ∧ (yes = false → wClauses K i Wo D more cls d τ G)
inductive Clauses (X : Cx) (n : Str) : List ExceptHandler → List Cl → Prop
  | nil : Clauses X n [] []
  | cons {x : Str} {c : Value} {ts : Addr → Value → Option Addr → TS} {s0 : Stmt} {ss : List Stmt} {pa pb : Pos} {hs : List ExceptHandler} {l : List Cl} (nm : Names X x c)
      (su : ∀ (e : Addr) (oe : Obj) (cls : Value) (d : Option Addr) (pn : List (Addr × Obj)), Zc cls d oe → (∃ vs, oe.data = .fields vs) → PSs (X.suite e ((e, oe) :: pn)) (s0 :: ss) (ts e cls d)) (more : Clauses X n hs l) :
      Clauses X n (.ExceptHandler (some (.Name x pa)) (some n) (s0 :: ss) pb :: hs) ((c, ts) :: l)
section
variable {X : Cx} {n : Str} {i : Nat} {body : List Stmt} {hd : ExceptHandler} {hs : List ExceptHandler} {l : List Cl} {pos : Pos} {tb : WX → TS} {Wo : WX}
/-- an end of the suite: the name goes, the frame is ours again -/
theorem suite_end {pins : List (Addr × Obj)} {D : Ends} {ok : X.Ok} {e : Addr} {q : Addr × Obj} {fl : Flow} {s6 : Shared} {pb : Pos} (hN : X.N.Nodup) (hi : X.N[i]? = some n) (hln : X.env.kindOf n = some .local)
    (h : SP (X.suite e (q :: (X.pn ++ pins))) [] (goneD i D) fl s6) :
    wpAny (model X.prog X.w) X.A (do bindName X.env n .none; unbindBehindTheSuite X.env n pb) (fun _ s7 => SP X pins D fl s7) X.xe s6 := by
  cases fl with
  | ret u =>
    obtain ⟨v, τ, G, J, r, z⟩ := h
    refine gone_ok (J.unsuite ok) hN hi hln fun s7 J7 => ?_
    exact ⟨v, _, _, J7, r, z⟩
  | next =>
    obtain ⟨τ, G, J, z⟩ := h
    refine gone_ok (J.unsuite ok) hN hi hln fun s7 J7 => ?_
    exact ⟨_, _, J7, z⟩
  | brk =>
    obtain ⟨τ, G, J, z⟩ := h
    refine gone_ok (J.unsuite ok) hN hi hln fun s7 J7 => ?_
    exact ⟨_, _, J7, z⟩
  | cont =>
    obtain ⟨τ, G, J, z⟩ := h
    refine gone_ok (J.unsuite ok) hN hi hln fun s7 J7 => ?_
    exact ⟨_, _, J7, z⟩
theorem ps_try_clauses (hst : X.stack = X.env :: X.outer) (hfr : X.env.frame = some X.env.locals) (hN : X.N.Nodup) (hi : X.N[i]? = some n) (hln : X.env.kindOf n = some .local) (tk : Takes X Wo)
    (hb : ∀ (W : WX) (pn : List (Addr × Obj)) (xe : Value → Shared → Prop), Takes (X.tr pn xe) W → PassesOwn (model X.prog X.w) X.A X.env xe → PSs (X.tr pn xe) body (tb W))
    (hh : Clauses X n (hd :: hs) l) : PS X (.Try body (hd :: hs) [] [] pos) (fun D σ H => tb (wClauses X.K i Wo D l) D σ H) := by
  constructor
  intro pins s σ H D I start
  have ok := I.ok
  have frs_ : X.A.frames = some (X.env :: X.outer) := ok.frames.trans (by rw [hst])
  refine wpAny_Try_except ?_
  have run := (hb (wClauses X.K i Wo D l) (X.pn ++ pins) (fun ev t1 => wpAny (model X.prog X.w) X.A (noteFrame ev X.env) (fun _ t2 => wpAny (model X.prog X.w) X.A (setFlight ev none)
    (fun _ t3 => wpAny (model X.prog X.w) X.A (handleBy ev X.env (hd :: hs)) (SP X pins D) X.xe t3) X.xe t2) X.xe t1) (fun u t xx => ?_) PassesOwn.looking).run [] s σ H D (I.toTry _) start
  · refine wpAny_mono run (fun f t z => ?_) (fun ev t z => z)
    cases f with
    | ret u =>
      obtain ⟨v, τ, G, J, r, q⟩ := z
      exact ⟨v, τ, G, J.ofTry ok, r, q⟩
    | next =>
      obtain ⟨τ, G, J, q⟩ := z
      exact wpAny_execs_nil ⟨τ, G, J.ofTry ok, q⟩
    | brk =>
      obtain ⟨τ, G, J, q⟩ := z
      exact ⟨τ, G, J.ofTry ok, q⟩
    | cont =>
      obtain ⟨τ, G, J, q⟩ := z
      exact ⟨τ, G, J.ofTry ok, q⟩
  obtain ⟨e, B, t0, pins0, τ, G, cls, d, rfl, J0, ground, up, sky, ne, eos, bare, wish⟩ := xx
  have J : Inv X pins τ G t0 := J0.ofTry ok
  have sky2 : Sky B (X.env :: X.outer) e (Zc cls d) X.env.locals t.heap := by
    rw [← hst]
    exact sky
  show wpAny (model X.prog X.w) X.A (noteFrame (.ref e) X.env) _ _ _
  refine Sky.land Zc.steady frs_ hfr sky2 fun g3 fly3 up3 => ?_
  have up03 := up.trans up3
  have J3 : Inv X pins τ G { t with heap := g3 } := J.landed ground fly3.1 up03 eos bare
  obtain ⟨o3, v3, get3, z3, d3⟩ := fly3.there
  have out : e ∉ frs (X.env :: X.outer) := fun m => by
    obtain ⟨_, o', e', no⟩ := fly3.2.2.1.mem m
    rw [get3] at e'
    cases e'
    exact no _ d3
  have outL : e ≠ X.env.locals := fun z => out (List.mem_filterMap.mpr ⟨X.env, List.mem_cons_self, by rw [hfr, z]⟩)
  have outF : e ∉ X.fs := fun m => by
    obtain ⟨env', he', q⟩ := List.mem_filterMap.mp m
    exact out (List.mem_filterMap.mpr ⟨env', List.mem_cons_of_mem _ he', q⟩)
  have S3 := J3.suite get3 d3 ne outL outF
  have main : ∀ {hs' : List ExceptHandler} {l' : List Cl}, Clauses X n hs' l' → wClauses X.K i Wo D l' cls d τ G → wpAny (model X.prog X.w) X.A (handleBy (.ref e) X.env hs') (SP X pins D) X.xe { t with heap := g3 } := by
    intro hs' l' c
    induction c with
    | nil =>
      intro w
      refine wpAny_handleBy_nil ?_
      obtain ⟨_, _, _, oe, vs, T, oT, ts', he, _, hdt, h1, _⟩ := id fly3
      have fin : wpAny (model X.prog X.w) X.A (setFlight (.ref e) X.env.frame) (fun _ t4 => wpAny (model X.prog X.w) X.A (throw (.ref e) : Sem Flow) (SP X pins D) X.xe t4) X.xe { t with heap := g3 } := by
        rw [hfr]
        refine HandSPX.setFlight_upZ fly3 fun g4 held4 up4 => wpAny_throw (tk _ _ ⟨e, B, t0, pins, τ, G, cls, d, rfl, J, ground, up03.trans up4, .inr (.inr ?_), ne, eos, bare, w⟩)
        rw [hst]
        exact held4
      unfold PySem.passOn
      refine wpAny_bind (wpAny_field he hdt h1 ?_)
      have notNone : ¬ ((Value.ref T == Value.none) = true) := by simp
      rw [if_neg notNone]
      first
        | exact wpAny_bind fin
        | exact wpAny_bind (wpAny_pure (wpAny_bind fin))
    | @cons x c ts s0 ss pa pb hs2 l2 nm su more ih =>
      intro w
      obtain ⟨yes, hy, w1, w0⟩ := w
      refine wpAny_handleBy_cons (codeAny_handlers_test ?_) (by intro q; cases q)
      have ty : PySem.W.Looks (model X.prog X.w) g3 (typeOf (.ref e)) cls := fun A Q E s k q => wpAny_typeOf_ref (k _ _ get3) (by rw [z3.1]; exact q)
      have mt := PySem.W.exm_one (M := model X.prog X.w) (J3.kIn) ty hy
      have named : ∀ {Q : Value → Shared → Prop} {E : Value → Shared → Prop}, Q c { t with heap := g3 } → wpAny (model X.prog X.w) (X.A.mark (some (.ref e))) (eval (.Name x pa) X.env) Q E { t with heap := g3 } := by
        intro Q E q
        obtain ⟨hg, hdbg, inMod | ⟨notIn, isB, notName⟩⟩ := nm
        · exact ld_glob (X := X.suite e ((e, o3) :: (X.pn ++ pins))) S3 hg inMod q hdbg
        · exact ld_blt (X := X.suite e ((e, o3) :: (X.pn ++ pins))) S3 hg notIn isB q notName hdbg
      refine named (mt.here ?_)
      cases yes with
      | false => exact ih (w0 rfl)
      | true =>
        refine codeAny_handlers_suite_as (HandSPX.lands_againZ fly3 fun g4 fly4 up4 => ?_)
        have J4 : Inv X pins τ G { t with heap := g4 } := J.landed ground fly4.1 (up03.trans up4) eos bare
        obtain ⟨o4, v4, get4, z4, d4⟩ := fly4.there
        refine store_ok (X := X.suite e ((e, o4) :: (X.pn ++ pins))) (v := .ref e) (J4.suite get4 d4 ne outL outF) hN hi (.inl hln) rfl (fun s5 S5 => ?_) (.inr hln)
        refine wpAny_mono ((su e o4 cls d (X.pn ++ pins) z4 ⟨_, d4⟩).run [] s5 _ G _ S5 (w1 rfl e ne)) (fun fl s6 z => ?_) (fun _ _ z => False.elim z)
        have fin := suite_end (ok := ok) (pb := pb) hN hi hln z
        cases fl <;> exact fin
  exact main hh wish
end
end L2

set_option Elab.async false
set_option linter.all false
set_option maxRecDepth 100000
set_option maxHeartbeats 2000000
/-! Part C: a def that gets the handled exception, called in an except suite; isinstance of it -/
namespace L2
open PySem PySem.Spec PyProof.Rows
/-- a promise that speaks of the handled exception: its address, its class, its own dict -/
abbrev SpP := Addr → Value → Option Addr → Sp
structure FnPin (P : Program) (w : World) (K : PySem.W.Frag) (mg : Str → Option Value) (base : Heap) (k : Nat) (f : Addr) (fd : FuncData) (ps : List Str) (sp : SpP) : Prop where
  len : ∀ a cls d vs H Q E, sp a cls d vs H Q E → vs.length = ps.length
  run : ∀ (A : Around) (outer : List Env) (s : Shared) (H : Hp) (args : Args) (us : List Value) (vs : List V) (Q : VK) (E : XK) (p : Addr × Obj) (cls : Value) (d : Option Addr), L2H.RoomH k A → L2H.PinOk outer H s p → Zc cls d p.2 → (∃ xs, p.2.data = .fields xs) → Env0 P w K mg base A outer s H → BindsTo s fd args (ps.zip us) → Vals vs us → sp p.1 cls d vs H Q E →
    codeAny (model P w) A (.call (.ref f) args) (CR CX0 outer P w H s Q E) s
section
variable {P : Program} {w : World} {K : PySem.W.Frag} {mg : Str → Option Value} {base : Heap}
theorem Fun.okPin {x qual : Str} {st : Stmt} {f : Addr} {fd : FuncData} {N ps : List Str} {k : Nat} {sp : SpP} (F : Fun K x qual st f fd) (S : FnScope N ps (defScope st)) (len : ∀ a cls d vs H Q E, sp a cls d vs H Q E → vs.length = ps.length)
    (hbody : ∀ (cdv : Value) (A : Around) (outer : List Env) (s : Shared) (H : Hp) (vs : List V) (Q : VK) (E : XK) (p : Addr × Obj) (cls : Value) (d : Option Addr), Zc cls d p.2 → (∃ xs, p.2.data = .fields xs) → L2H.RoomH k (A.deeper (envOfC qual (defScope st) s.heap.objs.size f cdv)) → sp p.1 cls d vs H Q E →
      ∃ t, PSs (L2H.cxH CX0 P w K mg base N qual (defScope st) f cdv A outer s H E p) (defBody st) t ∧ t { nx := fun _ G => Q .non G, rt := Q } (start N vs) H) : FnPin P w K mg base (k + 1) f fd ps sp := by
  obtain ⟨oc, od, kV, doc, pm, an, cdv, ct, osl, rfl, lk, hcd⟩ := F.ex
  refine ⟨len, fun A outer s H args us vs Q E p cls d room pin hz hf e0 hb rel want => ?_⟩
  have same := len _ _ _ _ _ _ _ want
  have base_in : ∀ b o, base.get? b = some o → s.heap.get? b = some o := fun b o e => (e0.bs b o e).1
  have KX : K.In s.heap := e0.mod.kin.keeps base_in
  have kinds : ∀ y ∈ ps.zip us, (defScope st).names.lookup y.1 = some .local ∨ ((defScope st).names.lookup y.1 = some .cell ∧ ((cellsFrom (s.heap.objs.size + 1) (defScope st).names []).lookup y.1).isSome = true) := by
    intro y hy
    obtain ⟨nm, v⟩ := y
    rcases S.par nm (List.of_mem_zip hy).1 with q | q
    · exact Or.inl q
    · exact Or.inr ⟨q, PySem.W.cellsFrom_some _ _ _ (Or.inl q)⟩
  refine codeAny_call_function room.depth (KX _ _ lk) rfl S.co S.gen rfl (PySem.W.codeRec_of KX hcd) (hb _ _ _ _ ?_)
  refine wpAny_newFunctionEnv_cells S.kind kinds fun env he s1 entered => ?_
  subst he
  refine ⟨(e0.mod.nolimit.keeps base_in).keeps entered.toInCall.keep, codeAny_func ?_⟩
  obtain ⟨t, body, reads⟩ := hbody cdv A outer s H vs Q E p cls d hz hf (room.deeper _) want
  have I : Inv (L2H.cxH CX0 P w K mg base N qual (defScope st) f cdv A outer s H E p) [] (start N vs) H s1 := L2H.inv_startH S pin e0 same rel entered
  refine wpAny_mono (body.run [] s1 (start N vs) H _ I reads) (fun fl s' z => ?_) fun _ _ z => z
  cases fl with
  | ret u =>
    obtain ⟨v, τ, G, J, r, q⟩ := z
    exact ⟨v, G, J.os, J.bare, J.base, J.hok, r, q⟩
  | next =>
    obtain ⟨τ, G, J, q⟩ := z
    exact ⟨V.non, G, J.os, J.bare, J.base, J.hok, rfl, q⟩
  | brk =>
    obtain ⟨_, _, _, q⟩ := z
    exact q.elim
  | cont =>
    obtain ⟨_, _, _, q⟩ := z
    exact q.elim
end
section
variable {X : Cx} {k : Nat} {f : Addr} {fd : FuncData} {ps : List Str} {sp : SpP} {x : Str} {q pos : Pos} {e : Expr} {es : List Expr} {t : TA} {a : Addr} {oe : Obj} {cls : Value} {d : Option Addr}
/-- f(e, ..) in a suite that handles p -/
def tCallPin (sp : SpP) (a : Addr) (cls : Value) (d : Option Addr) (t : TA) : TE := fun σ H Q => t σ H fun vs H1 => sp a cls d vs H1 Q E0
theorem pe_callPin (F : FnPin X.prog X.w X.K X.mg X.base k f fd ps sp) (hr : L2H.RoomH k X.A) (hp : (a, oe) ∈ X.pn) (hz : Zc cls d oe) (hf : ∃ xs, oe.data = .fields xs) (hg : Gl X x) (hm : X.mg x = some (.ref f)) (hk : PySem.W.keepIn X.K (.ref f) = true) (hb : Binds X.K fd ps [])
    (ha : PA X (e :: es) t) (hdb : (x == ("__debug__" : Str)) = false := by decide) (he : starEach (e :: es) X.env = (false, eval e X.env) :: starEach es X.env := by rfl) (hpl : (backTo pos (starEach es X.env)).any (·.1) = false := by rfl) :
    PE X (.Call (.Name x q) (e :: es) [] pos) (tCallPin sp a cls d t) := by
  constructor
  intro pins s σ H Q I h
  refine wpAny_Call_Name_kw (ld_glob I hg hm ?_ hdb)
  refine PySem.W.callWith_K (h₀ := X.base) I.ok.mod.kin hk (thn (ha.run pos pins s σ H _ I h) fun us s1 z => ?_) he hpl
  obtain ⟨vs, H1, I1, rel, want⟩ := z
  refine ⟨I1.kIn, ?_⟩
  have hl : us.length = ps.length := rel.length.symm.trans (F.len _ _ _ _ _ _ _ want)
  have b := hb s1 us I1.kIn (by rw [List.append_nil]; exact hl)
  rw [List.append_nil] at b
  obtain ⟨g1, g2, g3, g4, g5⟩ := I1.pin (a, oe) (List.mem_append_left _ hp)
  have pin : L2H.PinOk X.stack H1 s1 (a, oe) := ⟨g1, g2, fun m => (List.mem_cons.mp (I1.stkSub a m)).elim g3 g4, g5⟩
  refine wpAny_call (codeAny_mono (F.run X.A X.stack s1 H1 ⟨us, []⟩ us vs Q E0 (a, oe) cls d hr pin hz hf I1.env0 b rel want) fun r s' z => ?_)
  cases r with
  | error ev => exact False.elim z
  | ok fl =>
    cases fl with
    | ret u => exact I1.after z
    | next => exact False.elim z
    | brk => exact False.elim z
    | cont => exact False.elim z
end
/-- what isinstance asks of the class of an exception -/
structure ExI (K : PySem.W.Frag) (D : Addr) : Prop where
  cl : (PySem.W.clsIn K D).isSome = true
  ga : PySem.W.findIn K (.ref D) "__getattribute__" = some (some (.builtin "BaseException.__getattribute__"))
  gg : PySem.W.findIn K (.ref D) "__getattr__" = some none
  sb : PySem.W.subIn K (.ref D) (.type "BaseException") = some true
  ca : PySem.W.findIn K (.ref D) "__class__" = some (some (.builtin "object.__class__"))
  gt : PySem.W.specialIn K (.builtin "object.__class__") "__get__" = some (some (.builtin "getset_descriptor.__get__"))
  tk : PySem.W.takesIn K (.builtin "object.__class__") = some true
  mo : PySem.W.mroIn K D (.type "object") = some true
def rIsPin (K : PySem.W.Frag) (a : Addr) (cls : Value) (d : Option Addr) : List V → Hp → VK → Prop := fun xs H Q => ∃ (D dd : Addr) (c : V) (cv : Value) (b : Bool) (fs : List (Str × V)), cls = .ref D ∧ d = some dd ∧ ExI K D ∧
  xs = [.ref a, c] ∧ (∀ u, RelV c u → u = cv) ∧ PySem.W.kitOne K (.ref D) cv = some b ∧ H dd = some (.xd fs) ∧ Q (.bl b) H
theorem call_isPin {X : Cx} {a : Addr} {oe : Obj} {cls : Value} {d : Option Addr} (hp : (a, oe) ∈ X.pn) (hz : Zc cls d oe) (hf : ∃ vs, oe.data = .fields vs) : CallR X (.builtin "isinstance") (rIsPin X.K a cls d) := by
  intro pins s σ H xs us Q I r h
  obtain ⟨D, dd, c, cv, b, fs, rfl, rfl, C, rfl, hcv, e, ed, q⟩ := h
  cases r with
  | cons rx rr =>
    cases rr with
    | cons rt rr =>
      cases rr
      cases rx
      obtain rfl := hcv _ rt
      have hget := (I.pin (a, oe) (List.mem_append_left _ hp)).1
      have hx : ObjOk X.prog X.w H s.heap dd (.xd fs) := I.hok dd _ ed
      obtain ⟨mA, ⟨od, es, ep, hod, _⟩, _⟩ := hx
      obtain ⟨vs, hv⟩ := hf
      have at_ : PySem.W.InstAt s.heap a oe D (some od) := ⟨hget, hz.1, by unfold PySem.W.notCls; rw [hv] <;> rfl, by rw [hz.2]; exact hod⟩
      exact PySem.W.kia_one (PySem.W.kitx_exc C.cl C.ga C.gg C.sb C.ca C.gt C.tk C.mo) I.kIn at_ e (fun z => nomatch z) fun tk => ⟨.bl b, H, I.tok tk, rfl, q⟩
end L2

set_option Elab.async false
set_option linter.all false
set_option maxRecDepth 100000
set_option maxHeartbeats 4000000
/-! Dividers, the program, a: numbers -/
namespace KD
open PySem L2
def top (i : Nat) : Stmt := PySem.Challenge.pw_tagblocks_k61_whole_small_dividers.main.body.getD i (.Pass ⟨0, 0, 0, 0⟩)
abbrev PP : Program := PySem.Challenge.pw_tagblocks_k61_whole_small_dividers
abbrev sWhole : Stmt := top 4
abbrev sBetw : Stmt := top 6
abbrev sCheck : Stmt := top 10
abbrev sUp : Stmt := top 11
abbrev sFloor : Stmt := top 14
theorem ifT3 {c : Bool} {A B : Prop} (e : c = true) (h : A) : if c = true then A else B := by rw [if_pos e]; exact h
theorem ifF3 {c : Bool} {A B : Prop} (e : c = false) (h : B) : if c = true then A else B := by rw [if_neg (by rw [e]; exact Bool.false_ne_true)]; exact h
theorem Same.new {H : Hp} {a : Addr} {o : HO} (h : H a = none) : Same H (upd H a o) := fun b u e => by
  rw [upd_ne (ne_of_none e h)]
  exact e
theorem Same.write {H G : Hp} {a : Addr} {o : HO} (s : Same H G) (h : H a = none) : Same H (upd G a o) := fun b u e => by
  rw [upd_ne (ne_of_none e h)]
  exact s b u e
theorem none_of {H G : Hp} {a : Addr} (s : Same H G) (h : G a = none) : H a = none := by
  cases e : H a with
  | none => rfl
  | some o => exact absurd (s _ _ e) (by rw [h]; intro z; cases z)
theorem PSs.ghost {X : Cx} {st : List Stmt} : PSs X st (fun _ _ _ => False) := ⟨fun _ _ _ _ _ _ z => z.elim⟩
theorem PS.ghost {X : Cx} {st : Stmt} : PS X st (fun _ _ _ => False) := ⟨fun _ _ _ _ _ _ z => z.elim⟩
structure TxtI (mg : Str → Option Value) : Prop where
  isi : mg "isinstance" = none
  int : mg "int" = none
  bool : mg "bool" = none
  min : mg "min" = none
  max : mg "max" = none
  dm : mg "divmod" = none
  len : mg "len" = none
  list : mg "list" = none
  range : mg "range" = none
  mn : ∃ t, mg "MOST_NUMBER" = some (.int (10 ^ 60) t)
  ms : ∃ t, mg "MOST_SHIFT" = some (.int 400 t)
/-- below 2 ^ k -/
def Bd (k : Nat) (i : Int) : Prop := i.natAbs < 2 ^ k
theorem Bd.mono {a b : Nat} {i : Int} (h : Bd a i) (ab : a ≤ b) : Bd b i := Nat.lt_of_lt_of_le h (Nat.pow_le_pow_right (by decide) ab)
theorem Bd.mul {a b : Nat} {i j : Int} (h : Bd a i) (k : Bd b j) : Bd (a + b) (i * j) := wide_lt h k
theorem Bd.add {a : Nat} {i j : Int} (h : Bd a i) (k : Bd a j) : Bd (a + 1) (i + j) := by
  unfold Bd at *
  have := Int.natAbs_add_le i j
  rw [Nat.pow_succ]
  omega
theorem Bd.neg {a : Nat} {i : Int} (h : Bd a i) : Bd a (-i) := by
  unfold Bd at *
  rw [Int.natAbs_neg]
  exact h
theorem Bd.sub {a : Nat} {i j : Int} (h : Bd a i) (k : Bd a j) : Bd (a + 1) (i - j) := by
  rw [Int.sub_eq_add_neg]
  exact h.add k.neg
theorem Bd.of {a : Nat} {i : Int} (h0 : 0 ≤ i) (h : i < 2 ^ a) : Bd a i := by
  unfold Bd
  have : ((i.natAbs : Nat) : Int) < ((2 ^ a : Nat) : Int) := by
    rw [Int.natAbs_of_nonneg h0]
    simpa using h
  exact Int.ofNat_lt.mp this
theorem Bd.le {a : Nat} {i j : Int} (h0 : 0 ≤ i) (h : i ≤ j) (k : Bd a j) : Bd a i := by
  unfold Bd at *
  omega
theorem Bd.w {a b : Nat} {i j : Int} (h : Bd a i) (k : Bd b j) (h0 : 0 < a := by decide) (h1 : 0 < b := by decide) (h2 : a + b ≤ 1000000 := by decide) : CMulW i j := wide_mul h k h0 h1 h2
theorem Bd.d {i j : Int} {b : Nat} (k : Bd b j) (h : 0 < j) (h0 : 0 < b := by decide) (h9 : b ≤ 9000 := by decide) : CDivW i j := wide_div h k h0 h9
theorem Bd.pl {i j : Int} {b : Nat} (k : Bd b j) (h : 0 < j) (h0 : 0 < b := by decide) (h9 : b ≤ 9000 := by decide) : CDivP i j := by
  refine ⟨h, ?_⟩
  have hl := PySem.Flt.log2_lt_of h0 k
  unfold Builtin.divisionGoesByPylong
  simp only [Bool.and_eq_false_iff, decide_eq_false_iff_not]
  left
  split <;> omega
def spWhole : Sp := fun vs H Q _ => ∃ i : Int, vs = [.int i] ∧ Q (.bl true) H
def spBetw : Sp := fun vs H Q _ => ∃ i l m : Int, vs = [.int i, .int l, .int m] ∧ Q (.bl (decide (l ≤ i) && decide (i ≤ m))) H
def spCheck : Sp := fun vs H Q _ => ∃ i l m : Int, vs = [.int i, .int l, .int m] ∧ l ≤ i ∧ i ≤ m ∧ Q .non H
def spUp : Sp := fun vs H Q _ => ∃ (n d : Int) (b : Nat), vs = [.int n, .int d] ∧ 0 < d ∧ Bd b d ∧ 0 < b ∧ b ≤ 9000 ∧ Q (.int (DV.up n d)) H
section
variable {P : Program} {w : World} {K : PySem.W.Frag} {mg : Str → Option Value} {base : Heap}
theorem scWhole : FnScope ["value"] ["value"] (defScope sWhole) := ⟨rfl, rfl, rfl, by decide +kernel, rfl, by decide +kernel, by decide +kernel⟩
theorem ok_whole {f : Addr} {fd : FuncData} (F : Fun K "is_whole" "is_whole" sWhole f fd) (T : TxtI mg) : FnOk P w K mg base CX0 1 f fd ["value"] spWhole := by
  refine F.ok scWhole (fun vs H Q E h => ?_) (fun cdv A outer s H vs Q E hr h => ?_)
  · obtain ⟨i, rfl, _⟩ := h
    rfl
  · obtain ⟨i, rfl, k⟩ := h
    refine ⟨_, pss_one (ps_ret (pe_and (pe_callB (id := "isinstance") call_isi (by rfl) T.isi (by decide +kernel) (pa_cons (pv 0) (pa_cons (pe_bltn (v := .ty "int") (by rfl) T.int (by decide +kernel) rfl) pa_nil)))
      (pe_one (pe_not (pe_callB (id := "isinstance") call_isi (by rfl) T.isi (by decide +kernel) (pa_cons (pv 0) (pa_cons (pe_bltn (v := .ty "bool") (by rfl) T.bool (by decide +kernel) rfl) pa_nil))))))), ?_⟩
    refine ⟨_, rfl, .int i, .ty "int", .type "int", .type "int", true, rfl, .ty _, .base (.int _), rfl, _, rfl, ?_⟩
    refine iteT ?_
    refine ⟨_, rfl, .int i, .ty "bool", .type "int", .type "bool", false, rfl, .ty _, .base (.int _), rfl, _, rfl, ?_⟩
    exact k
theorem scBetw : FnScope ["value", "least", "most"] ["value", "least", "most"] (defScope sBetw) := ⟨rfl, rfl, rfl, by decide +kernel, rfl, by decide +kernel, by decide +kernel⟩
theorem ok_betw {f fW : Addr} {fd fdW : FuncData} (F : Fun K "is_between" "is_between" sBetw f fd)
    (GW : FnOk P w K mg base CX0 1 fW fdW ["value"] spWhole) (kW : PySem.W.keepIn K (.ref fW) = true) (bW : Binds K fdW ["value"] []) (gW : mg "is_whole" = some (.ref fW)) : FnOk P w K mg base CX0 2 f fd ["value", "least", "most"] spBetw := by
  refine F.ok scBetw (fun vs H Q E h => ?_) (fun cdv A outer s H vs Q E hr h => ?_)
  · obtain ⟨i, l, m, rfl, _⟩ := h
    rfl
  · obtain ⟨i, l, m, rfl, k⟩ := h
    refine ⟨_, pss_one (ps_ret (pe_and (pe_call GW hr rfl gW kW bW .nil pass0 (pa_cons (pv 0) pa_nil)) (pe_one (pe_chain op_le op_le (pv 1) (pv 0) (pv 2))))), ?_⟩
    refine ⟨_, rfl, i, rfl, _, rfl, ?_⟩
    refine iteT ?_
    refine ⟨_, rfl, _, rfl, l, i, rfl, rfl, _, rfl, ?_⟩
    refine ite2 (fun h1 => ?_) (fun h1 => ?_)
    · refine ⟨_, rfl, i, m, rfl, rfl, ?_⟩
      rw [h1, Bool.true_and] at k
      exact k
    · rw [Bool.eq_false_iff.mpr h1, Bool.false_and] at k
      exact k
theorem scCheck : FnScope ["number", "least", "most"] ["number", "least", "most"] (defScope sCheck) := ⟨rfl, rfl, rfl, by decide +kernel, rfl, by decide +kernel, by decide +kernel⟩
theorem ok_check {f fB : Addr} {fd fdB : FuncData} (F : Fun K "check_between" "check_between" sCheck f fd)
    (GB : FnOk P w K mg base CX0 2 fB fdB ["value", "least", "most"] spBetw) (kB : PySem.W.keepIn K (.ref fB) = true) (bB : Binds K fdB ["value", "least", "most"] []) (gB : mg "is_between" = some (.ref fB)) : FnOk P w K mg base CX0 3 f fd ["number", "least", "most"] spCheck := by
  refine F.ok scCheck (fun vs H Q E h => ?_) (fun cdv A outer s H vs Q E hr h => ?_)
  · obtain ⟨i, l, m, rfl, _⟩ := h
    rfl
  · obtain ⟨i, l, m, rfl, h1, h2, k⟩ := h
    refine ⟨_, pss_one (ps_if (pt_not (pt_val (pe_call GB hr rfl gB kB bB .nil pass0 (pa_cons (pv 0) (pa_cons (pv 1) (pa_cons (pv 2) pa_nil)))))) (pss_one PS.ghost) pss_nil), ?_⟩
    refine ⟨_, rfl, _, rfl, _, rfl, i, l, m, rfl, ?_⟩
    rw [decide_eq_true h1, decide_eq_true h2]
    exact ⟨_, rfl, iteF k⟩
theorem scUp : FnScope ["number", "by"] ["number", "by"] (defScope sUp) := ⟨rfl, rfl, rfl, by decide +kernel, rfl, by decide +kernel, by decide +kernel⟩
theorem ok_up {f : Addr} {fd : FuncData} (F : Fun K "upward" "upward" sUp f fd) : FnOk P w K mg base CX0 1 f fd ["number", "by"] spUp := by
  refine F.ok scUp (fun vs H Q E h => ?_) (fun cdv A outer s H vs Q E hr h => ?_)
  · obtain ⟨n, d, b, rfl, _⟩ := h
    rfl
  · obtain ⟨n, d, b, rfl, h0, hb, b0, b1, k⟩ := h
    refine ⟨_, pss_one (ps_ret (pe_un un_neg (pe_op op_fdivW (pe_un un_neg (pv 0)) (pv 1)))), ?_⟩
    exact ⟨_, rfl, _, rfl, _, rfl, _, _, rfl, rfl, wide_div h0 hb b0 b1, _, rfl, k⟩
end
end KD

set_option Elab.async false
set_option linter.all false
set_option maxRecDepth 100000
set_option maxHeartbeats 8000000
/-! Dividers, the program, b: the classes -/
namespace KD
open PySem L2
open DV (Dv)
abbrev sDI : Stmt := inClass (top 12) 0
abbrev sQuot : Stmt := inClass (top 12) 2
abbrev sRI : Stmt := inClass (top 13) 0
abbrev sRB : Stmt := inClass (top 13) 1
abbrev sFew : Stmt := inClass (top 13) 2
abbrev sFit : Stmt := inClass (top 13) 3
abbrev sWF : Stmt := inClass (top 13) 4
abbrev sRF : Stmt := inClass (top 13) 5
abbrev sWQ : Stmt := inClass (top 13) 6
abbrev sRQ : Stmt := inClass (top 13) 7
abbrev sCR : Stmt := inClass (top 13) 8
abbrev sSB : Stmt := inClass (top 13) 9
/-- the fields of a divider -/
def dFl (D : Dv) : List (Str × V) := putF "shift" (.int (D.s : Nat)) (putF "offset" (.int D.o) (putF "multiplier" (.int D.m) (putF "by" (.int D.b) [])))
theorem dFl_b (D : Dv) : (dFl D).lookup ("by" : Str) = some (.int D.b) := by kernel_rfl
theorem dFl_m (D : Dv) : (dFl D).lookup ("multiplier" : Str) = some (.int D.m) := by kernel_rfl
theorem dFl_o (D : Dv) : (dFl D).lookup ("offset" : Str) = some (.int D.o) := by kernel_rfl
theorem dFl_s (D : Dv) : (dFl D).lookup ("shift" : Str) = some (.int (D.s : Nat)) := by kernel_rfl
theorem dFl_q (D : Dv) : (dFl D).lookup ("quotient" : Str) = none := by kernel_rfl
/-- the fields of its rests -/
def rFl (D : Dv) : List (Str × V) := putF "gain" (.int D.g) (putF "whole" (.int D.W) (putF "offset" (.int D.o) (putF "times" (.int D.m) (putF "by" (.int D.b) []))))
theorem rFl_b (D : Dv) : (rFl D).lookup ("by" : Str) = some (.int D.b) := by kernel_rfl
theorem rFl_t (D : Dv) : (rFl D).lookup ("times" : Str) = some (.int D.m) := by kernel_rfl
theorem rFl_o (D : Dv) : (rFl D).lookup ("offset" : Str) = some (.int D.o) := by kernel_rfl
theorem rFl_w (D : Dv) : (rFl D).lookup ("whole" : Str) = some (.int D.W) := by kernel_rfl
theorem rFl_g (D : Dv) : (rFl D).lookup ("gain" : Str) = some (.int D.g) := by kernel_rfl
theorem rFl_n1 (D : Dv) : (rFl D).lookup ("rests_below" : Str) = none := by kernel_rfl
theorem rFl_n2 (D : Dv) : (rFl D).lookup ("few" : Str) = none := by kernel_rfl
theorem rFl_n3 (D : Dv) : (rFl D).lookup ("fit" : Str) = none := by kernel_rfl
theorem rFl_n4 (D : Dv) : (rFl D).lookup ("wrong_from" : Str) = none := by kernel_rfl
theorem rFl_n5 (D : Dv) : (rFl D).lookup ("right_from" : Str) = none := by kernel_rfl
theorem rFl_n6 (D : Dv) : (rFl D).lookup ("wrong_q" : Str) = none := by kernel_rfl
theorem rFl_n7 (D : Dv) : (rFl D).lookup ("right_q" : Str) = none := by kernel_rfl
theorem rFl_n8 (D : Dv) : (rFl D).lookup ("count_right" : Str) = none := by kernel_rfl
theorem rFl_n9 (D : Dv) : (rFl D).lookup ("sum_below" : Str) = none := by kernel_rfl
structure TxtD (K : PySem.W.Frag) (mg : Str → Option Value) (C : Addr) : Prop where
  cl : Cls K C
  nB : NoAttr K C "by"
  nM : NoAttr K C "multiplier"
  nO : NoAttr K C "offset"
  nS : NoAttr K C "shift"
  mgC : mg "Divider" = some (.ref C)
structure TxtS (K : PySem.W.Frag) (mg : Str → Option Value) (C : Addr) : Prop where
  cl : Cls K C
  nB : NoAttr K C "by"
  nT : NoAttr K C "times"
  nO : NoAttr K C "offset"
  nW : NoAttr K C "whole"
  nG : NoAttr K C "gain"
  mgC : mg "Rests" = some (.ref C)
def DvAt (C : Addr) (H : Hp) (p : Addr) (D : Dv) : Prop := ∃ dx, H p = some (.ins C dx (dFl D))
def RsAt (C : Addr) (H : Hp) (p : Addr) (D : Dv) : Prop := ∃ dx, H p = some (.ins C dx (rFl D))
theorem DvAt.keep {C : Addr} {H H' : Hp} {p : Addr} {D : Dv} (h : DvAt C H p D) (s : Same H H') : DvAt C H' p D := by
  obtain ⟨dx, e⟩ := h
  exact ⟨dx, s _ _ e⟩
theorem RsAt.keep {C : Addr} {H H' : Hp} {p : Addr} {D : Dv} (h : RsAt C H p D) (s : Same H H') : RsAt C H' p D := by
  obtain ⟨dx, e⟩ := h
  exact ⟨dx, s _ _ e⟩
/-- the numbers of a divider are as they should be -/
structure Lim (D : Dv) : Prop where
  b2 : 2 ≤ D.b
  b1 : D.b ≤ 10 ^ 60
  m0 : 0 ≤ D.m
  m1 : D.m ≤ 10 ^ 60
  o0 : 0 ≤ D.o
  o1 : D.o ≤ 10 ^ 60
  s1 : D.s ≤ 400
theorem Lim.ok {D : Dv} (L : Lim D) : D.Ok := ⟨L.b2, L.m0, L.o0⟩
theorem e60 : (10 : Int) ^ 60 < 2 ^ 200 := by decide
theorem Lim.bb {D : Dv} (L : Lim D) : Bd 200 D.b := Bd.of (by have := L.b2; omega) (by have := L.b1; have := e60; omega)
theorem Lim.bm {D : Dv} (L : Lim D) : Bd 200 D.m := Bd.of L.m0 (by have := L.m1; have := e60; omega)
theorem Lim.bo {D : Dv} (L : Lim D) : Bd 200 D.o := Bd.of L.o0 (by have := L.o1; have := e60; omega)
theorem Lim.bW {D : Dv} (L : Lim D) : Bd 401 D.W := by
  have e : D.W = ((2 ^ D.s : Nat) : Int) := by
    show (2 : Int) ^ D.s = _
    rw [Int.natCast_pow]
    rfl
  unfold Bd
  rw [e, Int.natAbs_natCast]
  exact Nat.pow_lt_pow_right (by decide) (by have := L.s1; omega)
theorem Lim.bg {D : Dv} (L : Lim D) : Bd 402 D.g := L.bW.sub ((L.bm.mul L.bb).mono (by decide))
theorem one60 {i : Int} (h0 : 0 ≤ i) (h : i ≤ 10 ^ 60) : Bd 200 i := Bd.of h0 (by have := e60; omega)
/-- all but what stands at p is kept -/
def But (p : Addr) (H H' : Hp) : Prop := ∀ b o, H b = some o → b ≠ p → H' b = some o
theorem But.same {p : Addr} {H H' : Hp} (s : Same H H') : But p H H' := fun b o e _ => s b o e
theorem But.trans {p : Addr} {A B C : Hp} (h : But p A B) (k : But p B C) : But p A C := fun b o e n => k b o (h b o e n) n
theorem But.upd {p : Addr} {H : Hp} {o : HO} : But p H (upd H p o) := fun b u e n => by
  rw [upd_ne n]
  exact e
theorem But.fresh {p : Addr} {H G G' : Hp} (s : Same H G) (b : But p G G') (h : H p = none) : Same H G' := fun a u e => b a u (s a u e) fun z => by
  rw [z, h] at e
  cases e
def spDI (C : Addr) : Sp := fun vs H Q _ => ∃ (p dx : Addr) (D : Dv), vs = [.ref p, .int D.b, .int D.m, .int D.o, .int (D.s : Nat)] ∧ H p = some (.ins C dx []) ∧ Lim D ∧ ∀ H', But p H H' → H' p = some (.ins C dx (dFl D)) → Q .non H'
def spQuot (C : Addr) : Sp := fun vs H Q _ => ∃ (p : Addr) (D : Dv) (x : Int), vs = [.ref p, .int x] ∧ DvAt C H p D ∧ Lim D ∧ 0 ≤ x ∧ x ≤ 10 ^ 60 ∧ Q (.int (D.told x)) H
def spRI (C CR : Addr) : Sp := fun vs H Q _ => ∃ (p dx q : Addr) (D : Dv), vs = [.ref p, .ref q] ∧ H p = some (.ins CR dx []) ∧ DvAt C H q D ∧ Lim D ∧ ∀ H', But p H H' → H' p = some (.ins CR dx (rFl D)) → Q .non H'
def spRB (C : Addr) : Sp := fun vs H Q _ => ∃ (p : Addr) (D : Dv) (x : Int), vs = [.ref p, .int x] ∧ RsAt C H p D ∧ Lim D ∧ Q (.int (D.rb x)) H
def spFew (C : Addr) : Sp := fun vs H Q _ => ∃ (p : Addr) (D : Dv) (q : Int), vs = [.ref p, .int q] ∧ RsAt C H p D ∧ Lim D ∧ Bd 1000 q ∧ Q (.int (D.few q)) H
def spFit (C : Addr) : Sp := fun vs H Q _ => ∃ (p : Addr) (D : Dv) (q : Int), vs = [.ref p, .int q] ∧ RsAt C H p D ∧ Lim D ∧ Bd 1000 q ∧ Q (.int (D.fit q)) H
def optI : Option Int → V
  | none => .non
  | some n => .int n
def spWF (C : Addr) : Sp := fun vs H Q _ => ∃ (p : Addr) (D : Dv) (q r : Int), vs = [.ref p, .int q, .int r] ∧ RsAt C H p D ∧ Lim D ∧ Bd 1000 q ∧ Q (optI (D.wf q r)) H
def spRF (C : Addr) : Sp := fun vs H Q _ => ∃ (p : Addr) (D : Dv) (q r : Int), vs = [.ref p, .int q, .int r] ∧ RsAt C H p D ∧ Lim D ∧ Bd 1000 q ∧ Q (optI (D.rf q r)) H
def spWQ (C : Addr) : Sp := fun vs H Q _ => ∃ (p : Addr) (D : Dv) (q : Int), vs = [.ref p, .int q] ∧ RsAt C H p D ∧ Lim D ∧ Bd 1000 q ∧ Q (optI (D.wq q)) H
def spRQ (C : Addr) : Sp := fun vs H Q _ => ∃ (p : Addr) (D : Dv) (q : Int), vs = [.ref p, .int q] ∧ RsAt C H p D ∧ Lim D ∧ Bd 301 q ∧ Q (optI (D.rq q)) H
section
variable {P : Program} {w : World} {K : PySem.W.Frag} {mg : Str → Option Value} {base : Heap}
theorem scDI : FnScope ["self", "by", "multiplier", "offset", "shift"] ["self", "by", "multiplier", "offset", "shift"] (defScope sDI) := ⟨rfl, rfl, rfl, by decide +kernel, rfl, by decide +kernel, by decide +kernel⟩
theorem ok_dinit {f C fC : Addr} {fd fdC : FuncData} (F : Fun K "__init__" "Divider.__init__" sDI f fd) (T : TxtI mg) (TD : TxtD K mg C)
    (GC : FnOk P w K mg base CX0 3 fC fdC ["number", "least", "most"] spCheck) (kC : PySem.W.keepIn K (.ref fC) = true) (bC : Binds K fdC ["number", "least", "most"] []) (gC : mg "check_between" = some (.ref fC)) : FnOk P w K mg base CX0 4 f fd ["self", "by", "multiplier", "offset", "shift"] (spDI C) := by
  obtain ⟨t1, hmn⟩ := T.mn
  obtain ⟨t2, hms⟩ := T.ms
  refine F.ok scDI (fun vs H Q E h => ?_) (fun cdv A outer s H vs Q E hr h => ?_)
  · obtain ⟨p, dx, D, rfl, _⟩ := h
    rfl
  · obtain ⟨p, dx, D, rfl, hp, L, k⟩ := h
    refine ⟨_, pss_cons (ps_expr (pe_call GC hr rfl gC kC bC .nil pass0 (pa_cons (pv 1) (pa_cons pe_int (pa_cons (pe_glob (v := .int (10 ^ 60)) (by rfl) hmn ⟨t1, rfl⟩) pa_nil)))))
      (pss_cons (ps_expr (pe_call GC hr rfl gC kC bC .nil pass0 (pa_cons (pv 2) (pa_cons pe_int (pa_cons (pe_glob (v := .int (10 ^ 60)) (by rfl) hmn ⟨t1, rfl⟩) pa_nil)))))
      (pss_cons (ps_expr (pe_call GC hr rfl gC kC bC .nil pass0 (pa_cons (pv 3) (pa_cons pe_int (pa_cons (pe_glob (v := .int (10 ^ 60)) (by rfl) hmn ⟨t1, rfl⟩) pa_nil)))))
      (pss_cons (ps_expr (pe_call GC hr rfl gC kC bC .nil pass0 (pa_cons (pv 4) (pa_cons pe_int (pa_cons (pe_glob (v := .int 400) (by rfl) hms ⟨t2, rfl⟩) pa_nil)))))
      (pss_cons (ps_fld (pv 0) (pv 1) rfl)
      (pss_cons (ps_fld (pv 0) (pv 2) rfl)
      (pss_cons (ps_fld (pv 0) (pv 3) rfl)
      (pss_one (ps_fld (pv 0) (pv 4) rfl)))))))), ?_⟩
    have := L.b2
    refine ⟨_, rfl, _, 2, _, rfl, L.b2, L.b1, ?_⟩
    refine ⟨_, rfl, _, 0, _, rfl, L.m0, L.m1, ?_⟩
    refine ⟨_, rfl, _, 0, _, rfl, L.o0, L.o1, ?_⟩
    refine ⟨_, rfl, _, 0, _, rfl, by omega, by have := L.s1; omega, ?_⟩
    refine ⟨_, rfl, _, rfl, p, C, dx, [], rfl, hp, TD.cl, TD.nB, (by show 0 < 1000; decide), ?_⟩
    refine ⟨_, rfl, _, rfl, p, C, dx, _, rfl, upd_same, TD.cl, TD.nM, (by show 1 < 1000; decide), ?_⟩
    refine ⟨_, rfl, _, rfl, p, C, dx, _, rfl, upd_same, TD.cl, TD.nO, (by show 2 < 1000; decide), ?_⟩
    refine ⟨_, rfl, _, rfl, p, C, dx, _, rfl, upd_same, TD.cl, TD.nS, (by show 3 < 1000; decide), ?_⟩
    exact k _ (But.trans But.upd (But.trans But.upd (But.trans But.upd But.upd))) upd_same
theorem scQuot : FnScope ["self", "x"] ["self", "x"] (defScope sQuot) := ⟨rfl, rfl, rfl, by decide +kernel, rfl, by decide +kernel, by decide +kernel⟩
theorem ok_quot {f C fC : Addr} {fd fdC : FuncData} (F : Fun K "quotient" "Divider.quotient" sQuot f fd) (T : TxtI mg) (TD : TxtD K mg C)
    (GC : FnOk P w K mg base CX0 3 fC fdC ["number", "least", "most"] spCheck) (kC : PySem.W.keepIn K (.ref fC) = true) (bC : Binds K fdC ["number", "least", "most"] []) (gC : mg "check_between" = some (.ref fC)) : FnOk P w K mg base CX0 4 f fd ["self", "x"] (spQuot C) := by
  obtain ⟨t1, hmn⟩ := T.mn
  refine F.ok scQuot (fun vs H Q E h => ?_) (fun cdv A outer s H vs Q E hr h => ?_)
  · obtain ⟨p, D, x, rfl, _⟩ := h
    rfl
  · obtain ⟨p, D, x, rfl, ⟨dx, hp⟩, L, x0, x1, k⟩ := h
    refine ⟨_, pss_cons (ps_expr (pe_call GC hr rfl gC kC bC .nil pass0 (pa_cons (pv 1) (pa_cons pe_int (pa_cons (pe_glob (v := .int (10 ^ 60)) (by rfl) hmn ⟨t1, rfl⟩) pa_nil)))))
      (pss_one (ps_ret (pe_op op_shrN (pe_op op_add (pe_op op_mulW (pv 1) (pe_fld (pv 0) rfl)) (pe_fld (pv 0) rfl)) (pe_fld (pv 0) rfl)))), ?_⟩
    refine ⟨_, rfl, _, 0, _, rfl, x0, x1, ?_⟩
    refine ⟨_, rfl, _, rfl, p, C, dx, _, _, rfl, hp, TD.cl, TD.nM, dFl_m D, _, _, rfl, rfl, (one60 x0 x1).w L.bm, ?_⟩
    refine ⟨_, rfl, p, C, dx, _, _, rfl, hp, TD.cl, TD.nO, dFl_o D, _, _, rfl, rfl, ?_⟩
    exact ⟨_, rfl, p, C, dx, _, _, rfl, hp, TD.cl, TD.nS, dFl_s D, _, D.s, rfl, rfl, k⟩
theorem scRI : FnScope ["self", "divider"] ["self", "divider"] (defScope sRI) := ⟨rfl, rfl, rfl, by decide +kernel, rfl, by decide +kernel, by decide +kernel⟩
theorem ok_rinit {f C CR : Addr} {fd : FuncData} (F : Fun K "__init__" "Rests.__init__" sRI f fd) (TD : TxtD K mg C) (TS : TxtS K mg CR) : FnOk P w K mg base CX0 1 f fd ["self", "divider"] (spRI C CR) := by
  refine F.ok scRI (fun vs H Q E h => ?_) (fun cdv A outer s H vs Q E hr h => ?_)
  · obtain ⟨p, dx, q, D, rfl, _⟩ := h
    rfl
  · obtain ⟨p, dx, q, D, rfl, hp, ⟨dq, hq⟩, L, k⟩ := h
    have qp : q ≠ p := fun z => by
      rw [z, hp] at hq
      have e := HO.ins.inj (Option.some.inj hq)
      have : (dFl D).lookup ("by" : Str) = none := by rw [← e.2.2]; rfl
      rw [dFl_b] at this
      cases this
    refine ⟨_, pss_cons (ps_fld (pv 0) (pe_fld (pv 1) rfl) rfl)
      (pss_cons (ps_fld (pv 0) (pe_fld (pv 1) rfl) rfl)
      (pss_cons (ps_fld (pv 0) (pe_fld (pv 1) rfl) rfl)
      (pss_cons (ps_fld (pv 0) (pe_op op_oneShl pe_int (pe_fld (pv 1) rfl)) rfl)
      (pss_one (ps_fld (pv 0) (pe_op op_sub (pe_fld (pv 0) rfl) (pe_op op_mulW (pe_fld (pv 0) rfl) (pe_fld (pv 0) rfl))) rfl))))), ?_⟩
    have at_ : ∀ {G : Hp} {o : HO}, G q = some (.ins C dq (dFl D)) → (upd G p o) q = some (.ins C dq (dFl D)) := fun h => by rw [upd_ne qp]; exact h
    refine ⟨_, rfl, q, C, dq, _, _, rfl, hq, TD.cl, TD.nB, dFl_b D, _, rfl, p, CR, dx, [], rfl, hp, TS.cl, TS.nB, (by show 0 < 1000; decide), ?_⟩
    refine ⟨_, rfl, q, C, dq, _, _, rfl, at_ hq, TD.cl, TD.nM, dFl_m D, _, rfl, p, CR, dx, _, rfl, upd_same, TS.cl, TS.nT, (by show 1 < 1000; decide), ?_⟩
    refine ⟨_, rfl, q, C, dq, _, _, rfl, at_ (at_ hq), TD.cl, TD.nO, dFl_o D, _, rfl, p, CR, dx, _, rfl, upd_same, TS.cl, TS.nO, (by show 2 < 1000; decide), ?_⟩
    refine ⟨_, rfl, q, C, dq, _, _, rfl, at_ (at_ (at_ hq)), TD.cl, TD.nS, dFl_s D, D.s, rfl, rfl, by have := L.s1; omega, _, rfl, p, CR, dx, _, rfl, upd_same, TS.cl, TS.nW, (by show 3 < 1000; decide), ?_⟩
    refine ⟨_, rfl, p, CR, dx, _, .int D.W, rfl, upd_same, TS.cl, TS.nW, (by kernel_rfl), ?_⟩
    refine ⟨_, rfl, p, CR, dx, _, .int D.m, rfl, upd_same, TS.cl, TS.nT, (by kernel_rfl), ?_⟩
    refine ⟨_, rfl, p, CR, dx, _, .int D.b, rfl, upd_same, TS.cl, TS.nB, (by kernel_rfl), _, _, rfl, rfl, L.bm.w L.bb, _, _, rfl, rfl, ?_⟩
    refine ⟨_, rfl, p, CR, dx, _, rfl, upd_same, TS.cl, TS.nG, (by show 4 < 1000; decide), ?_⟩
    exact k _ (But.trans But.upd (But.trans But.upd (But.trans But.upd (But.trans But.upd But.upd)))) upd_same
end
end KD

set_option Elab.async false
set_option linter.all false
set_option maxRecDepth 100000
set_option maxHeartbeats 8000000
/-! Dividers, the program, c: rests -/
namespace KD
open PySem L2
open DV (Dv)
theorem iteT' {b : Bool} {p q : Prop} (h : b = true) (x : p) : if b = true then p else q := by rw [if_pos h]; exact x
theorem iteF' {b : Bool} {p q : Prop} (h : b = false) (x : q) : if b = true then p else q := by rw [if_neg (by rw [h]; exact Bool.false_ne_true)]; exact x
section
variable {P : Program} {w : World} {K : PySem.W.Frag} {mg : Str → Option Value} {base : Heap}
theorem scRB : FnScope ["self", "product"] ["self", "product"] (defScope sRB) := ⟨rfl, rfl, rfl, by decide +kernel, rfl, by decide +kernel, by decide +kernel⟩
theorem ok_rb {f C fU : Addr} {fd fdU : FuncData} (F : Fun K "rests_below" "Rests.rests_below" sRB f fd) (T : TxtI mg) (TS : TxtS K mg C)
    (GU : FnOk P w K mg base CX0 1 fU fdU ["number", "by"] spUp) (kU : PySem.W.keepIn K (.ref fU) = true) (bU : Binds K fdU ["number", "by"] []) (gU : mg "upward" = some (.ref fU)) : FnOk P w K mg base CX0 2 f fd ["self", "product"] (spRB C) := by
  refine F.ok scRB (fun vs H Q E h => ?_) (fun cdv A outer s H vs Q E hr h => ?_)
  · obtain ⟨p, D, x, rfl, _⟩ := h
    rfl
  · obtain ⟨p, D, x, rfl, ⟨dx, hp⟩, L, k⟩ := h
    refine ⟨_, pss_cons (ps_if (pt_cmpR op_le (pv 1) pe_int (nomark _)) (pss_one (ps_ret pe_int)) pss_nil)
      (pss_one (ps_ret (pe_ifExp (pt_cmpR op_eq (pe_fld (pv 0) rfl) pe_int (nomark _)) (pe_fld (pv 0) rfl) (pe_callB (call_min2 rfl) (by rfl) T.min (by kernel_rfl) (pa_cons (pe_call GU hr rfl gU kU bU .nil pass0 (pa_cons (pv 1) (pa_cons (pe_fld (pv 0) rfl) pa_nil))) (pa_cons (pe_fld (pv 0) rfl) pa_nil)))))), ?_⟩
    have k2 : Q (.int (if x ≤ 0 then 0 else if D.m = 0 then D.b else DV.mn (DV.up x D.m) D.b)) H := k
    refine ⟨_, rfl, x, 0, rfl, rfl, _, rfl, ?_⟩
    refine ite2 (fun h => ?_) (fun h => ?_)
    · rw [if_pos (of_decide_eq_true h)] at k2
      exact k2
    · have h' : ¬ x ≤ 0 := fun z => h (decide_eq_true z)
      rw [if_neg h'] at k2
      refine ⟨_, rfl, p, C, dx, _, _, rfl, hp, TS.cl, TS.nT, rFl_t D, rfl, _, rfl, ?_⟩
      by_cases hz : D.m = 0
      · rw [if_pos hz] at k2
        refine iteT' (decide_eq_true (congrArg V.int hz)) ?_
        exact ⟨_, rfl, p, C, dx, _, _, rfl, hp, TS.cl, TS.nB, rFl_b D, k2⟩
      · rw [if_neg hz] at k2
        refine iteF' (decide_eq_false fun z => hz (V.int.inj z)) ?_
        have := L.m0
        refine ⟨_, rfl, _, rfl, p, C, dx, _, _, rfl, hp, TS.cl, TS.nT, rFl_t D, _, _, 200, rfl, by omega, L.bm, by decide, by decide, ?_⟩
        exact ⟨_, rfl, p, C, dx, _, _, rfl, hp, TS.cl, TS.nB, rFl_b D, _, _, rfl, k2⟩
theorem scFew : FnScope ["self", "q"] ["self", "q"] (defScope sFew) := ⟨rfl, rfl, rfl, by decide +kernel, rfl, by decide +kernel, by decide +kernel⟩
theorem ok_few {f C fR : Addr} {fd fdR : FuncData} (F : Fun K "few" "Rests.few" sFew f fd) (TS : TxtS K mg C)
    (GR : FnOk P w K mg base CX0 2 fR fdR ["self", "product"] (spRB C)) (mR : Meth K C "rests_below" fR) (bR : Binds K fdR ["self", "product"] []) : FnOk P w K mg base CX0 3 f fd ["self", "q"] (spFew C) := by
  refine F.ok scFew (fun vs H Q E h => ?_) (fun cdv A outer s H vs Q E hr h => ?_)
  · obtain ⟨p, D, q, rfl, _⟩ := h
    rfl
  · obtain ⟨p, D, q, rfl, ⟨dx, hp⟩, L, hq, k⟩ := h
    refine ⟨_, pss_one (ps_ret (pe_meth (pv 0) TS.cl mR GR hr bR .nil pass0 (pa_cons (pe_op op_sub (pe_op op_mulW (pe_fld (pv 0) rfl) (pv 1)) (pe_fld (pv 0) rfl)) pa_nil))), ?_⟩
    refine ⟨_, rfl, p, dx, _, rfl, hp, rFl_n1 D, ?_⟩
    refine ⟨_, rfl, p, C, dx, _, _, rfl, hp, TS.cl, TS.nG, rFl_g D, _, rfl, _, _, rfl, rfl, L.bg.w hq, ?_⟩
    exact ⟨_, rfl, p, C, dx, _, _, rfl, hp, TS.cl, TS.nO, rFl_o D, _, _, rfl, rfl, p, D, _, rfl, ⟨dx, hp⟩, L, k⟩
theorem scFit : FnScope ["self", "q"] ["self", "q"] (defScope sFit) := ⟨rfl, rfl, rfl, by decide +kernel, rfl, by decide +kernel, by decide +kernel⟩
theorem ok_fit {f C fR : Addr} {fd fdR : FuncData} (F : Fun K "fit" "Rests.fit" sFit f fd) (TS : TxtS K mg C)
    (GR : FnOk P w K mg base CX0 2 fR fdR ["self", "product"] (spRB C)) (mR : Meth K C "rests_below" fR) (bR : Binds K fdR ["self", "product"] []) : FnOk P w K mg base CX0 3 f fd ["self", "q"] (spFit C) := by
  refine F.ok scFit (fun vs H Q E h => ?_) (fun cdv A outer s H vs Q E hr h => ?_)
  · obtain ⟨p, D, q, rfl, _⟩ := h
    rfl
  · obtain ⟨p, D, q, rfl, ⟨dx, hp⟩, L, hq, k⟩ := h
    refine ⟨_, pss_one (ps_ret (pe_meth (pv 0) TS.cl mR GR hr bR .nil pass0 (pa_cons (pe_op op_add (pe_op op_sub (pe_op op_mulW (pe_fld (pv 0) rfl) (pv 1)) (pe_fld (pv 0) rfl)) (pe_fld (pv 0) rfl)) pa_nil))), ?_⟩
    refine ⟨_, rfl, p, dx, _, rfl, hp, rFl_n1 D, ?_⟩
    refine ⟨_, rfl, p, C, dx, _, _, rfl, hp, TS.cl, TS.nG, rFl_g D, _, rfl, _, _, rfl, rfl, L.bg.w hq, ?_⟩
    refine ⟨_, rfl, p, C, dx, _, _, rfl, hp, TS.cl, TS.nO, rFl_o D, _, _, rfl, rfl, ?_⟩
    exact ⟨_, rfl, p, C, dx, _, _, rfl, hp, TS.cl, TS.nW, rFl_w D, _, _, rfl, rfl, p, D, _, rfl, ⟨dx, hp⟩, L, k⟩
theorem scWF : FnScope ["self", "q", "r", "found"] ["self", "q", "r"] (defScope sWF) := ⟨rfl, rfl, rfl, by decide +kernel, rfl, by decide +kernel, by decide +kernel⟩
theorem ok_wf {f C fA fB : Addr} {fd fdA fdB : FuncData} (F : Fun K "wrong_from" "Rests.wrong_from" sWF f fd) (T : TxtI mg) (TS : TxtS K mg C)
    (GA : FnOk P w K mg base CX0 3 fA fdA ["self", "q"] (spFew C)) (mA : Meth K C "few" fA) (bA : Binds K fdA ["self", "q"] [])
    (GB : FnOk P w K mg base CX0 3 fB fdB ["self", "q"] (spFit C)) (mB : Meth K C "fit" fB) (bB : Binds K fdB ["self", "q"] []) : FnOk P w K mg base CX0 4 f fd ["self", "q", "r"] (spWF C) := by
  refine F.ok scWF (fun vs H Q E h => ?_) (fun cdv A outer s H vs Q E hr h => ?_)
  · obtain ⟨p, D, q, r, rfl, _⟩ := h
    rfl
  · obtain ⟨p, D, q, r, rfl, ⟨dx, hp⟩, L, hq, k⟩ := h
    refine ⟨_, pss_cons (ps_if (pt_cmpR op_lt (pv 2) (pe_meth (pv 0) TS.cl mA GA hr bA .nil pass0 (pa_cons (pv 1) pa_nil)) (nomark _)) (pss_one (ps_ret (pv 2))) pss_nil)
      (pss_cons (ps_set (i := 3) scWF.nd rfl (.inl rfl) (pe_callB (call_max2 rfl) (by rfl) T.max (by kernel_rfl) (pa_cons (pv 2) (pa_cons (pe_meth (pv 0) TS.cl mB GB hr bB .nil pass0 (pa_cons (pv 1) pa_nil)) pa_nil))))
      (pss_one (ps_ret (pe_ifExp (pt_cmpR op_lt (pv 3) (pe_fld (pv 0) rfl) (nomark _)) (pv 3) pe_non)))), ?_⟩
    have k2 : Q (optI (if r < D.few q then some r else if DV.mx r (D.fit q) < D.b then some (DV.mx r (D.fit q)) else none)) H := k
    refine ⟨_, rfl, _, rfl, p, dx, _, rfl, hp, rFl_n2 D, _, rfl, p, D, q, rfl, ⟨dx, hp⟩, L, hq, _, _, rfl, rfl, _, rfl, ?_⟩
    refine ite2 (fun h => ?_) (fun h => ?_)
    · rw [if_pos (of_decide_eq_true h)] at k2
      exact ⟨_, rfl, k2⟩
    · rw [if_neg fun z => h (decide_eq_true z)] at k2
      refine ⟨_, rfl, _, rfl, p, dx, _, rfl, hp, rFl_n3 D, _, rfl, p, D, q, rfl, ⟨dx, hp⟩, L, hq, _, _, rfl, ?_⟩
      refine ⟨_, rfl, _, rfl, p, C, dx, _, _, rfl, hp, TS.cl, TS.nB, rFl_b D, _, _, rfl, rfl, _, rfl, ?_⟩
      by_cases hb : DV.mx r (D.fit q) < D.b
      · rw [if_pos hb] at k2
        refine iteT' (decide_eq_true hb) ?_
        exact ⟨_, rfl, k2⟩
      · rw [if_neg hb] at k2
        refine iteF' (decide_eq_false hb) ?_
        exact k2
theorem scRF : FnScope ["self", "q", "r", "found"] ["self", "q", "r"] (defScope sRF) := ⟨rfl, rfl, rfl, by decide +kernel, rfl, by decide +kernel, by decide +kernel⟩
theorem ok_rf {f C fA fB : Addr} {fd fdA fdB : FuncData} (F : Fun K "right_from" "Rests.right_from" sRF f fd) (T : TxtI mg) (TS : TxtS K mg C)
    (GA : FnOk P w K mg base CX0 3 fA fdA ["self", "q"] (spFew C)) (mA : Meth K C "few" fA) (bA : Binds K fdA ["self", "q"] [])
    (GB : FnOk P w K mg base CX0 3 fB fdB ["self", "q"] (spFit C)) (mB : Meth K C "fit" fB) (bB : Binds K fdB ["self", "q"] []) : FnOk P w K mg base CX0 4 f fd ["self", "q", "r"] (spRF C) := by
  refine F.ok scRF (fun vs H Q E h => ?_) (fun cdv A outer s H vs Q E hr h => ?_)
  · obtain ⟨p, D, q, r, rfl, _⟩ := h
    rfl
  · obtain ⟨p, D, q, r, rfl, ⟨dx, hp⟩, L, hq, k⟩ := h
    refine ⟨_, pss_cons (ps_set (i := 3) scRF.nd rfl (.inl rfl) (pe_callB (call_max2 rfl) (by rfl) T.max (by kernel_rfl) (pa_cons (pv 2) (pa_cons (pe_meth (pv 0) TS.cl mA GA hr bA .nil pass0 (pa_cons (pv 1) pa_nil)) pa_nil))))
      (pss_one (ps_ret (pe_ifExp (pt_cmpR op_lt (pv 3) (pe_meth (pv 0) TS.cl mB GB hr bB .nil pass0 (pa_cons (pv 1) pa_nil)) (nomark _)) (pv 3) pe_non))), ?_⟩
    have k2 : Q (optI (if DV.mx r (D.few q) < D.fit q then some (DV.mx r (D.few q)) else none)) H := k
    refine ⟨_, rfl, _, rfl, p, dx, _, rfl, hp, rFl_n2 D, _, rfl, p, D, q, rfl, ⟨dx, hp⟩, L, hq, _, _, rfl, ?_⟩
    refine ⟨_, rfl, _, rfl, p, dx, _, rfl, hp, rFl_n3 D, _, rfl, p, D, q, rfl, ⟨dx, hp⟩, L, hq, _, _, rfl, rfl, _, rfl, ?_⟩
    by_cases hb : DV.mx r (D.few q) < D.fit q
    · rw [if_pos hb] at k2
      refine iteT' (decide_eq_true hb) ?_
      exact ⟨_, rfl, k2⟩
    · rw [if_neg hb] at k2
      refine iteF' (decide_eq_false hb) ?_
      exact k2
end
end KD

set_option Elab.async false
set_option linter.all false
set_option maxRecDepth 100000
set_option maxHeartbeats 8000000
/-! Dividers, the program, d: blocks, sums -/
namespace KD
open PySem L2
open DV (Dv)
theorem natAbs_div {i j : Int} (h : 0 < j) : (i / j).natAbs ≤ i.natAbs := by
  have h1 := Int.emod_add_mul_ediv i j
  have h2 := Int.emod_nonneg i (show j ≠ 0 by omega)
  have h3 := Int.emod_lt_of_pos i h
  by_cases c : 0 ≤ i / j
  · have := DV.mul_le (g := i / j) c (show 1 ≤ j by omega)
    rw [Int.mul_comm (i / j) j] at this
    omega
  · have t := DV.mul_le (g := -(i / j + 1)) (by omega) (show 1 ≤ j by omega)
    simp only [Int.neg_mul, Int.mul_one, Int.add_mul, Int.one_mul] at t
    rw [Int.mul_comm (i / j) j] at t
    omega
theorem Bd.div {a : Nat} {i j : Int} (h : Bd a i) (k : 0 < j) : Bd a (i / j) := Nat.lt_of_le_of_lt (natAbs_div k) h
theorem Bd.mx {a : Nat} {i j : Int} (h : Bd a i) (k : Bd a j) : Bd a (DV.mx i j) := by
  unfold DV.mx
  split
  · exact k
  · exact h
theorem Bd.mn {a : Nat} {i j : Int} (h : Bd a i) (k : Bd a j) : Bd a (DV.mn i j) := by
  unfold DV.mn
  split
  · exact k
  · exact h
theorem Bd.up {a : Nat} {i j : Int} (h : Bd a i) (k : 0 < j) : Bd a (DV.up i j) := (h.neg.div k).neg
def spFS : Sp := fun vs H Q _ => ∃ (N : Nat) (d f a : Int), vs = [.int (N : Int), .int d, .int f, .int a] ∧ (0 < N → 0 < d) ∧ 0 ≤ f ∧ (0 < N → 0 ≤ a) ∧ Bd 2000 (N : Int) ∧ Bd 2000 d ∧ Bd 2000 f ∧ Bd 2000 a ∧ Q (.int (DV.FS N d f a)) H
def spSB (C : Addr) : Sp := fun vs H Q _ => ∃ (p : Addr) (D : Dv) (st : Int) (N : Nat), vs = [.ref p, .int st, .int (N : Int)] ∧ RsAt C H p D ∧ Lim D ∧ D.m ≠ 0 ∧ Bd 410 st ∧ Bd 300 (N : Int) ∧ Q (.int (D.SB st N)) H
section
variable {P : Program} {w : World} {K : PySem.W.Frag} {mg : Str → Option Value} {base : Heap}
theorem scWQ : FnScope ["self", "q"] ["self", "q"] (defScope sWQ) := ⟨rfl, rfl, rfl, by decide +kernel, rfl, by decide +kernel, by decide +kernel⟩
theorem ok_wq {f C fA fU : Addr} {fd fdA fdU : FuncData} (F : Fun K "wrong_q" "Rests.wrong_q" sWQ f fd) (T : TxtI mg) (TS : TxtS K mg C)
    (GA : FnOk P w K mg base CX0 4 fA fdA ["self", "q", "r"] (spWF C)) (mA : Meth K C "wrong_from" fA) (bA : Binds K fdA ["self", "q", "r"] [])
    (GU : FnOk P w K mg base CX0 1 fU fdU ["number", "by"] spUp) (kU : PySem.W.keepIn K (.ref fU) = true) (bU : Binds K fdU ["number", "by"] []) (gU : mg "upward" = some (.ref fU)) : FnOk P w K mg base CX0 5 f fd ["self", "q"] (spWQ C) := by
  refine F.ok scWQ (fun vs H Q E h => ?_) (fun cdv A outer s H vs Q E hr h => ?_)
  · obtain ⟨p, D, q, rfl, _⟩ := h
    rfl
  · obtain ⟨p, D, q, rfl, ⟨dx, hp⟩, L, hq, k⟩ := h
    have hr1 : Room 1 _ := hr.mono (by decide)
    have fld : ∀ {n : Str} {v : V}, True := fun {_ _} => trivial
    refine ⟨_, pss_cons (ps_if (pt_cmpR op_notN (pe_meth (pv 0) TS.cl mA GA hr bA .nil pass0 (pa_cons (pv 1) (pa_cons pe_int pa_nil))) pe_non (nomark _)) (pss_one (ps_ret (pv 1))) pss_nil)
      (pss_cons (ps_if (pt_cmpR op_gt (pe_fld (pv 0) rfl) pe_int (nomark _)) (pss_one (ps_ret (pe_callB (call_max2 rfl) (by rfl) T.max (by kernel_rfl) (pa_cons (pv 1) (pa_cons (pe_op op_add (pe_op op_fdivW (pe_fld (pv 0) rfl) (pe_fld (pv 0) rfl)) pe_int) pa_nil))))) pss_nil)
      (pss_cons (ps_if (pt_cmpR op_lt (pe_fld (pv 0) rfl) pe_int (nomark _)) (pss_one (ps_ret (pe_callB (call_max2 rfl) (by rfl) T.max (by kernel_rfl) (pa_cons (pv 1) (pa_cons (pe_call GU hr1 rfl gU kU bU .nil pass0 (pa_cons (pe_op op_sub (pe_op op_sub (pe_fld (pv 0) rfl) (pe_fld (pv 0) rfl)) (pe_op op_mulW (pe_fld (pv 0) rfl) (pe_op op_sub (pe_fld (pv 0) rfl) pe_int))) (pa_cons (pe_un un_neg (pe_fld (pv 0) rfl)) pa_nil))) pa_nil))))) pss_nil)
      (pss_one (ps_ret pe_non)))), ?_⟩
    have k2 : Q (optI (if D.wf q 0 ≠ none then some q else if 0 < D.g then some (DV.mx q (D.o / D.g + 1)) else if D.g < 0 then some (DV.mx q (DV.up (D.W - D.o - D.m * (D.b - 1)) (-D.g))) else none)) H := k
    refine ⟨_, rfl, p, dx, _, rfl, hp, rFl_n4 D, _, rfl, p, D, q, 0, rfl, ⟨dx, hp⟩, L, hq, rfl, _, rfl, ?_⟩
    cases e : D.wf q 0 with
    | some f0 =>
      rw [e, if_pos (by intro z; cases z)] at k2
      exact iteT' rfl ⟨_, rfl, k2⟩
    | none =>
      rw [e, if_neg (fun z => z rfl)] at k2
      refine iteF' rfl ?_
      refine ⟨_, rfl, p, C, dx, _, _, rfl, hp, TS.cl, TS.nG, rFl_g D, _, _, rfl, rfl, _, rfl, ?_⟩
      refine ite2 (fun h => ?_) (fun h => ?_)
      · have hg : 0 < D.g := of_decide_eq_true h
        rw [if_pos hg] at k2
        refine ⟨_, rfl, _, rfl, p, C, dx, _, _, rfl, hp, TS.cl, TS.nO, rFl_o D, _, rfl, p, C, dx, _, _, rfl, hp, TS.cl, TS.nG, rFl_g D, _, _, rfl, rfl, L.bg.d hg, _, _, rfl, rfl, _, _, rfl, k2⟩
      · have hg : ¬ 0 < D.g := fun z => h (decide_eq_true z)
        rw [if_neg hg] at k2
        refine ⟨_, rfl, p, C, dx, _, _, rfl, hp, TS.cl, TS.nG, rFl_g D, _, _, rfl, rfl, _, rfl, ?_⟩
        refine ite2 (fun h => ?_) (fun h => ?_)
        · have hg : D.g < 0 := of_decide_eq_true h
          rw [if_pos hg] at k2
          refine ⟨_, rfl, _, rfl, p, C, dx, _, _, rfl, hp, TS.cl, TS.nW, rFl_w D, _, rfl, p, C, dx, _, _, rfl, hp, TS.cl, TS.nO, rFl_o D, _, _, rfl, rfl, ?_⟩
          refine ⟨_, rfl, p, C, dx, _, _, rfl, hp, TS.cl, TS.nT, rFl_t D, _, rfl, p, C, dx, _, _, rfl, hp, TS.cl, TS.nB, rFl_b D, _, _, rfl, rfl, _, _, rfl, rfl, L.bm.w (L.bb.sub (show Bd 200 1 by unfold Bd; decide)), _, _, rfl, rfl, ?_⟩
          refine ⟨_, rfl, p, C, dx, _, _, rfl, hp, TS.cl, TS.nG, rFl_g D, _, rfl, ?_⟩
          exact ⟨_, _, 402, rfl, by omega, L.bg.neg, by decide, by decide, _, _, rfl, k2⟩
        · rw [if_neg fun z => h (decide_eq_true z)] at k2
          exact k2
theorem scRQ : FnScope ["self", "q", "first"] ["self", "q"] (defScope sRQ) := ⟨rfl, rfl, rfl, by decide +kernel, rfl, by decide +kernel, by decide +kernel⟩
theorem ok_rq {f C fA : Addr} {fd fdA : FuncData} (F : Fun K "right_q" "Rests.right_q" sRQ f fd) (T : TxtI mg) (TS : TxtS K mg C)
    (GA : FnOk P w K mg base CX0 4 fA fdA ["self", "q", "r"] (spRF C)) (mA : Meth K C "right_from" fA) (bA : Binds K fdA ["self", "q", "r"] []) : FnOk P w K mg base CX0 5 f fd ["self", "q"] (spRQ C) := by
  refine F.ok scRQ (fun vs H Q E h => ?_) (fun cdv A outer s H vs Q E hr h => ?_)
  · obtain ⟨p, D, q, rfl, _⟩ := h
    rfl
  · obtain ⟨p, D, q, rfl, ⟨dx, hp⟩, L, hq, k⟩ := h
    refine ⟨_, pss_cons (ps_if (pt_cmpR op_notN (pe_meth (pv 0) TS.cl mA GA hr bA .nil pass0 (pa_cons (pv 1) (pa_cons pe_int pa_nil))) pe_non (nomark _)) (pss_one (ps_ret (pv 1))) pss_nil)
      (pss_cons (ps_if (pt_cmpR op_le (pe_fld (pv 0) rfl) pe_int (nomark _)) (pss_one (ps_ret pe_non)) pss_nil)
      (pss_cons (ps_set (i := 2) scRQ.nd rfl (.inl rfl) (pe_callB (call_max2 rfl) (by rfl) T.max (by kernel_rfl) (pa_cons (pv 1) (pa_cons (pe_op op_add (pe_op op_fdivW (pe_op op_sub (pe_fld (pv 0) rfl) (pe_fld (pv 0) rfl)) (pe_fld (pv 0) rfl)) pe_int) pa_nil))))
      (pss_one (ps_ret (pe_ifExp (pt_cmpR op_notN (pe_meth (pv 0) TS.cl mA GA hr bA .nil pass0 (pa_cons (pv 2) (pa_cons pe_int pa_nil))) pe_non (nomark _)) (pv 2) pe_non))))), ?_⟩
    have k2 : Q (optI (if D.rf q 0 ≠ none then some q else if D.g ≤ 0 then none else if D.rf (DV.mx q ((D.o - D.W) / D.g + 1)) 0 ≠ none then some (DV.mx q ((D.o - D.W) / D.g + 1)) else none)) H := k
    refine ⟨_, rfl, p, dx, _, rfl, hp, rFl_n5 D, _, rfl, p, D, q, 0, rfl, ⟨dx, hp⟩, L, hq.mono (by decide), rfl, _, rfl, ?_⟩
    cases e : D.rf q 0 with
    | some f0 =>
      rw [e, if_pos (by intro z; cases z)] at k2
      exact iteT' rfl ⟨_, rfl, k2⟩
    | none =>
      rw [e, if_neg (fun z => z rfl)] at k2
      refine iteF' rfl ?_
      refine ⟨_, rfl, p, C, dx, _, _, rfl, hp, TS.cl, TS.nG, rFl_g D, _, _, rfl, rfl, _, rfl, ?_⟩
      refine ite2 (fun h => ?_) (fun h => ?_)
      · rw [if_pos (of_decide_eq_true h)] at k2
        exact k2
      · have hg : ¬ D.g ≤ 0 := fun z => h (decide_eq_true z)
        rw [if_neg hg] at k2
        refine ⟨_, rfl, _, rfl, p, C, dx, _, _, rfl, hp, TS.cl, TS.nO, rFl_o D, _, rfl, p, C, dx, _, _, rfl, hp, TS.cl, TS.nW, rFl_w D, _, _, rfl, rfl, _, rfl, p, C, dx, _, _, rfl, hp, TS.cl, TS.nG, rFl_g D, _, _, rfl, rfl, L.bg.d (by omega), _, _, rfl, rfl, _, _, rfl, ?_⟩
        have hB : Bd 1000 (DV.mx q ((D.o - D.W) / D.g + 1)) := (hq.mono (by decide)).mx ((((((L.bo.mono (b := 401) (by decide)).sub L.bW).div (show 0 < D.g by omega)).add (show Bd 402 1 by unfold Bd; exact Nat.one_lt_two_pow (by decide))).mono (by decide)))
        refine ⟨_, rfl, p, dx, _, rfl, hp, rFl_n5 D, _, rfl, p, D, _, 0, rfl, ⟨dx, hp⟩, L, hB, rfl, _, rfl, ?_⟩
        cases e2 : D.rf (DV.mx q ((D.o - D.W) / D.g + 1)) 0 with
        | some f0 =>
          rw [e2, if_pos (by intro z; cases z)] at k2
          exact iteT' (by show (!decide (optI (D.rf (DV.mx q ((D.o - D.W) / D.g + 1)) 0) = V.non)) = true; rw [e2]; rfl) ⟨_, rfl, k2⟩
        | none =>
          rw [e2, if_neg (fun z => z rfl)] at k2
          exact iteF' (by show (!decide (optI (D.rf (DV.mx q ((D.o - D.W) / D.g + 1)) 0) = V.non)) = false; rw [e2]; rfl) k2
theorem scFS : FnScope ["many", "divisor", "factor", "added", "total", "last"] ["many", "divisor", "factor", "added"] (defScope sFloor) := ⟨rfl, rfl, rfl, by decide +kernel, rfl, by decide +kernel, by decide +kernel⟩
theorem ok_floor {f : Addr} {fd : FuncData} (F : Fun K "floor_sum" "floor_sum" sFloor f fd) : FnOk P w K mg base CX0 1 f fd ["many", "divisor", "factor", "added"] spFS := by
  refine F.ok scFS (fun vs H Q E h => ?_) (fun cdv A outer s H vs Q E hr h => ?_)
  · obtain ⟨N, d, f, a, rfl, _⟩ := h
    rfl
  · obtain ⟨N, d, f, a, rfl, hd, hf, ha, bN, bd, bf, ba, k⟩ := h
    refine ⟨_, pss_cons (ps_set (i := 4) scFS.nd rfl (.inl rfl) pe_int)
      (pss_cons (ps_while PassesOwn.never (pt_cmpR op_gt (pv 0) pe_int (nomark _))
        (pss_cons (ps_aug (i := 4) scFS.nd rfl (.inl rfl) (pe_op op_add (pe_op op_mulW (pe_op op_fdiv (pe_op op_mulW (pv 0) (pe_op op_sub (pv 0) pe_int)) pe_int) (pe_op op_fdivW (pv 2) (pv 1))) (pe_op op_mulW (pv 0) (pe_op op_fdivW (pv 3) (pv 1)))) ip_add)
        (pss_cons (ps_par (i := 2) (j := 3) rfl scFS.nd rfl rfl (by decide) rfl rfl (pa_cons (pe_op op_mod (pv 2) (pv 1)) (pa_cons (pe_op op_mod (pv 3) (pv 1)) pa_nil)) (by rfl))
        (pss_cons (ps_set (i := 5) scFS.nd rfl (.inl rfl) (pe_op op_add (pe_op op_mulW (pv 2) (pv 0)) (pv 3)))
        (pss_cons (ps_par (i := 0) (j := 3) rfl scFS.nd rfl rfl (by decide) rfl rfl (pa_cons (pe_op op_fdivW (pv 5) (pv 1)) (pa_cons (pe_op op_mod (pv 5) (pv 1)) pa_nil)) (by rfl))
        (pss_one (ps_par (i := 2) (j := 1) rfl scFS.nd rfl rfl (by decide) rfl rfl (pa_cons (pv 1) (pa_cons (pv 2) pa_nil)) (by rfl))))))))
      (pss_one (ps_ret (pv 4)))), ?_⟩
    refine while_by (fun σ G => ∃ (M : Nat) (d' f' a' t : Int) (v : Option V), σ = [some (.int (M : Int)), some (.int d'), some (.int f'), some (.int a'), some (.int t), v] ∧ G = H ∧ t + DV.FS M d' f' a' = DV.FS N d f a ∧ (0 < M → 0 < d') ∧ 0 ≤ f' ∧ (0 < M → 0 ≤ a') ∧ Bd 2000 (M : Int) ∧ Bd 2000 d' ∧ Bd 2000 f' ∧ Bd 2000 a')
      (fun σ _ => match σ with
        | some (.int m) :: some (.int d) :: _ => if 0 < m then d.toNat else 0
        | _ => 0) ⟨N, d, f, a, 0, none, rfl, rfl, by omega, hd, hf, ha, bN, bd, bf, ba⟩ ?_ ?_
    · rintro σ G ⟨M, d', f', a', t, v, rfl, rfl, hs, hd', hf', ha', bM, bd', bf', ba'⟩
      refine ⟨_, rfl, _, _, rfl, rfl, _, rfl, ?_⟩
      by_cases h0 : M = 0
      · refine iteF' (decide_eq_false (by omega)) ?_
        subst h0
        refine ⟨_, rfl, ?_⟩
        have e : t = DV.FS N d f a := by rw [← hs]; show t = t + 0; omega
        rw [e]
        exact k
      · refine iteT' (decide_eq_true (by omega)) ?_
        have dp := hd' (by omega)
        obtain ⟨c1, c2, c3, c4, c5, c6, c7, c8⟩ := DV.fs_step (n := M) dp hf' (ha' (by omega))
        have b1 : Bd 2001 ((M : Int) - 1) := bM.sub (show Bd 2000 1 by exact Bd.mono (show Bd 1 1 by unfold Bd; decide) (by decide))
        have b2 : Bd 4001 ((M : Int) * ((M : Int) - 1)) := bM.mul b1
        have b3 : Bd 4001 ((M : Int) * ((M : Int) - 1) / 2) := b2.div (by decide)
        have b4 := bf'.div dp
        have b5 := ba'.div dp
        refine ⟨_, rfl, _, rfl, _, rfl, _, _, rfl, rfl, _, _, rfl, rfl, bM.w b1, _, _, rfl, rfl, ⟨by decide, by decide⟩, _, rfl, _, rfl, _, _, rfl, rfl, bd'.d dp, _, _, rfl, rfl, b3.w b4, _, rfl, _, rfl, _, rfl, _, _, rfl, rfl, bd'.d dp, _, _, rfl, rfl, bM.w b5, _, _, rfl, rfl, ?_⟩
        refine ⟨_, _, rfl, rfl, ?_⟩
        refine ⟨_, rfl, _, rfl, _, _, rfl, rfl, dp, _, rfl, _, rfl, _, _, rfl, rfl, dp, _, _, rfl, ?_⟩
        have b6 : Bd 2000 (f' % d') := Bd.le c5 (by omega) bd'
        have b7 : Bd 2000 (a' % d') := Bd.le (Int.emod_nonneg _ (by omega)) (by have := Int.emod_lt_of_pos a' dp; omega) bd'
        refine ⟨_, rfl, _, rfl, _, _, rfl, rfl, b6.w bM, _, rfl, _, _, rfl, rfl, ?_⟩
        refine ⟨_, rfl, _, rfl, _, _, rfl, rfl, bd'.d dp, _, rfl, _, rfl, _, _, rfl, rfl, dp, _, _, rfl, ?_⟩
        refine ⟨_, rfl, _, rfl, _, _, rfl, ?_⟩
        obtain ⟨M2, hM2⟩ : ∃ M2 : Nat, (f' % d' * (M : Int) + a' % d') / d' = (M2 : Int) := ⟨((f' % d' * (M : Int) + a' % d') / d').toNat, by omega⟩
        rw [hM2] at c2 c3 c4 c1
        rw [Int.toNat_natCast] at c1
        have b8 : Bd 2000 ((f' % d' * (M : Int) + a' % d') % d') := Bd.le c7 (by omega) bd'
        refine ⟨⟨M2, f' % d', d', (f' % d' * (M : Int) + a' % d') % d', t + ((M : Int) * ((M : Int) - 1) / 2 * (f' / d') + (M : Int) * (a' / d')), some (.int (f' % d' * (M : Int) + a' % d')), (by rw [← hM2]; rfl), rfl, by rw [← hs, c1]; omega, fun h => c4 (by omega), by omega, fun _ => c7, Bd.le c2 c3 bM, b6, bd', b8⟩, ?_⟩
        show (if (0 : Int) < (f' % d' * (M : Int) + a' % d') / d' then (f' % d').toNat else 0) < if (0 : Int) < (M : Int) then d'.toNat else 0
        rw [hM2, if_pos (show (0 : Int) < (M : Int) by omega)]
        split
        · omega
        · omega
    · intro σ G Q1 Q2 h q
      obtain ⟨x, e, i, j, e1, e2, b, e3, q1⟩ := q
      exact ⟨x, e, i, j, e1, e2, b, e3, h _ _ q1⟩
end
end KD

set_option Elab.async false
set_option linter.all false
set_option maxRecDepth 100000
set_option maxHeartbeats 8000000
/-! Dividers, the program, e: counts -/
namespace KD
open PySem L2
open DV (Dv)
theorem one_bd {k : Nat} (h : 1 ≤ k := by decide) : Bd k 1 := Bd.mono (show Bd 1 1 by unfold Bd; decide) h
section
variable {P : Program} {w : World} {K : PySem.W.Frag} {mg : Str → Option Value} {base : Heap}
abbrev nmSB : List Str := ["self", "start", "many", "gain", "added", "first", "most", "full"]
theorem scSB : FnScope nmSB ["self", "start", "many"] (defScope sSB) := ⟨rfl, rfl, rfl, by decide +kernel, rfl, by decide +kernel, by decide +kernel⟩
theorem ok_sb {f C fR fU fF : Addr} {fd fdR fdU fdF : FuncData} (F : Fun K "sum_below" "Rests.sum_below" sSB f fd) (T : TxtI mg) (TS : TxtS K mg C)
    (GR : FnOk P w K mg base CX0 2 fR fdR ["self", "product"] (spRB C)) (mR : Meth K C "rests_below" fR) (bR : Binds K fdR ["self", "product"] [])
    (GU : FnOk P w K mg base CX0 1 fU fdU ["number", "by"] spUp) (kU : PySem.W.keepIn K (.ref fU) = true) (bU : Binds K fdU ["number", "by"] []) (gU : mg "upward" = some (.ref fU))
    (GF : FnOk P w K mg base CX0 1 fF fdF ["many", "divisor", "factor", "added"] spFS) (kF : PySem.W.keepIn K (.ref fF) = true) (bF : Binds K fdF ["many", "divisor", "factor", "added"] []) (gF : mg "floor_sum" = some (.ref fF)) :
    FnOk P w K mg base CX0 3 f fd ["self", "start", "many"] (spSB C) := by
  refine F.ok scSB (fun vs H Q E h => ?_) (fun cdv A outer s H vs Q E hr h => ?_)
  · obtain ⟨p, D, st, N, rfl, _⟩ := h
    rfl
  · obtain ⟨p, D, st, N, rfl, ⟨dx, hp⟩, L, hm, bst, bN, k⟩ := h
    have hr1 : Room 1 _ := hr.mono (by decide)
    have m0 := L.m0
    have b2 := L.b2
    obtain ⟨tB, pB, rB⟩ : ∃ tB, PSs (cxOf CX0 P w K mg base nmSB "Rests.sum_below" (defScope sSB) f cdv A outer s H E).nox ((defBody sSB).drop 2) tB ∧
        ∀ (g' st' : Int), 0 ≤ g' → Bd 402 g' → Bd 800 st' → D.SB st N = DV.sb D.b D.m g' st' N → tB { nx := fun _ H' => Q .non H', rt := Q } [some (.ref p), some (.int st'), some (.int (N : Int)), some (.int g'), none, none, none, none] H := by
      refine ⟨_, pss_cons (ps_set (i := 4) scSB.nd rfl (.inl rfl) (pe_op op_sub (pe_op op_add (pv 1) (pe_fld (pv 0) rfl)) pe_int))
        (pss_cons (ps_set (i := 5) scSB.nd rfl (.inl rfl) (pe_ifExp (pt_cmpR op_eq (pv 3) pe_int (nomark _)) (pv 2) (pe_callB (call_max2 rfl) (by rfl) T.max (by kernel_rfl) (pa_cons pe_int (pa_cons (pe_callB (call_min2 rfl) (by rfl) T.min (by kernel_rfl) (pa_cons (pv 2) (pa_cons (pe_call GU hr1 rfl gU kU bU .nil pass0 (pa_cons (pe_un un_neg (pv 4)) (pa_cons (pv 3) pa_nil))) pa_nil))) pa_nil)))))
        (pss_cons (ps_set (i := 6) scSB.nd rfl (.inl rfl) (pe_op op_mulW (pe_fld (pv 0) rfl) (pe_fld (pv 0) rfl)))
        (pss_cons (ps_set (i := 7) scSB.nd rfl (.inl rfl) (pe_ifExp (pt_cmpR op_eq (pv 3) pe_int (nomark _)) (pv 2) (pe_callB (call_max2 rfl) (by rfl) T.max (by kernel_rfl) (pa_cons (pv 5) (pa_cons (pe_callB (call_min2 rfl) (by rfl) T.min (by kernel_rfl) (pa_cons (pv 2) (pa_cons (pe_call GU hr1 rfl gU kU bU .nil pass0 (pa_cons (pe_op op_sub (pv 6) (pv 4)) (pa_cons (pv 3) pa_nil))) pa_nil))) pa_nil)))))
        (pss_cons (ps_if (pt_cmpR op_eq (pv 3) pe_int (nomark _)) (pss_one (ps_ret (pe_op op_mulW (pv 2) (pe_meth (pv 0) TS.cl mR GR hr bR .nil pass0 (pa_cons (pv 1) pa_nil))))) pss_nil)
        (pss_one (ps_ret (pe_op op_add (pe_call GF hr1 rfl gF kF bF .nil pass0 (pa_cons (pe_op op_sub (pv 7) (pv 5)) (pa_cons (pe_fld (pv 0) rfl) (pa_cons (pv 3) (pa_cons (pe_op op_add (pv 4) (pe_op op_mulW (pv 3) (pv 5))) pa_nil))))) (pe_op op_mulW (pe_op op_sub (pv 2) (pv 7)) (pe_fld (pv 0) rfl))))))))), ?_⟩
      intro g' st' g0 bg bs e
      have bA : Bd 802 (st' + D.m - 1) := (bs.add (L.bm.mono (by decide))).sub one_bd
      refine ⟨_, rfl, _, rfl, p, C, dx, _, _, rfl, hp, TS.cl, TS.nT, rFl_t D, _, _, rfl, rfl, _, _, rfl, rfl, ?_⟩
      by_cases gz : g' = 0
      · subst gz
        refine ⟨_, rfl, rfl, _, rfl, iteT' (decide_eq_true rfl) ⟨_, rfl, ?_⟩⟩
        refine ⟨_, rfl, p, C, dx, _, _, rfl, hp, TS.cl, TS.nT, rFl_t D, _, rfl, p, C, dx, _, _, rfl, hp, TS.cl, TS.nB, rFl_b D, _, _, rfl, rfl, L.bm.w L.bb, ?_⟩
        refine ⟨_, rfl, rfl, _, rfl, iteT' (decide_eq_true rfl) ⟨_, rfl, ?_⟩⟩
        refine ⟨_, rfl, rfl, _, rfl, iteT' (decide_eq_true rfl) ?_⟩
        refine ⟨_, rfl, _, rfl, p, dx, _, rfl, hp, rFl_n1 D, _, rfl, p, D, st', rfl, ⟨dx, hp⟩, L, _, _, rfl, rfl, bN.w (Bd.le (DV.rb_nonneg L.m0 (by omega)) (DV.rb_le L.m0 (by omega)) L.bb : Bd 200 (D.rb st')), ?_⟩
        rw [e, DV.sb_zero] at k
        exact k
      · have gp : 0 < g' := by omega
        have mp : 0 < D.m := by omega
        obtain ⟨x1, x2, x3, x4, x5⟩ := DV.sb_pos (b := D.b) (m := D.m) (g := g') (start := st') mp (by omega) gp N
        have ne : ¬ (V.int g' = V.int 0) := fun z => gz (V.int.inj z)
        refine ⟨_, rfl, rfl, _, rfl, iteF' (decide_eq_false ne) ?_⟩
        refine ⟨_, rfl, _, rfl, _, rfl, _, rfl, _, _, 402, rfl, gp, bg, by decide, by decide, _, _, rfl, _, _, rfl, ?_⟩
        refine ⟨_, rfl, p, C, dx, _, _, rfl, hp, TS.cl, TS.nT, rFl_t D, _, rfl, p, C, dx, _, _, rfl, hp, TS.cl, TS.nB, rFl_b D, _, _, rfl, rfl, L.bm.w L.bb, ?_⟩
        refine ⟨_, rfl, rfl, _, rfl, iteF' (decide_eq_false ne) ?_⟩
        obtain ⟨A0, hA0⟩ : ∃ A0, A0 = st' + D.m - 1 := ⟨_, rfl⟩
        obtain ⟨F0, hF0⟩ : ∃ F0, F0 = DV.sbF D.m g' A0 N := ⟨_, rfl⟩
        obtain ⟨L0, hL0⟩ : ∃ L0, L0 = DV.sbL D.b D.m g' A0 N := ⟨_, rfl⟩
        rw [← hA0, ← hF0, ← hL0] at x1 x5
        rw [← hA0, ← hF0] at x2
        rw [← hA0, ← hF0, ← hL0] at x3
        rw [← hA0, ← hL0] at x4
        rw [← hA0] at bA
        have eF : DV.mx 0 (DV.mn (N : Int) (DV.up (-A0) g')) = F0 := hF0.symm
        have eL : DV.mx F0 (DV.mn (N : Int) (DV.up (D.m * D.b - A0) g')) = L0 := by rw [hL0, hF0]; rfl
        have bF : Bd 300 F0 := Bd.le x2 (by omega) bN
        obtain ⟨nn, hnn⟩ : ∃ nn : Nat, L0 - F0 = (nn : Int) := ⟨(L0 - F0).toNat, by omega⟩
        refine ⟨_, rfl, _, rfl, _, rfl, _, rfl, _, _, rfl, rfl, _, rfl, _, _, 402, rfl, gp, bg, by decide, by decide, _, _, rfl, _, _, rfl, ?_⟩
        refine ⟨_, rfl, rfl, _, rfl, iteF' (decide_eq_false ne) ?_⟩
        have bW : CMulW g' (DV.mx 0 (DV.mn (N : Int) (DV.up (-(st' + D.m - 1)) g'))) := by rw [← hA0, eF]; exact bg.w bF
        refine ⟨_, rfl, _, rfl, _, _, rfl, rfl, _, rfl, p, C, dx, _, _, rfl, hp, TS.cl, TS.nT, rFl_t D, _, rfl, _, rfl, _, rfl, _, rfl, _, _, rfl, rfl, bW, _, _, rfl, rfl, ?_⟩
        refine ⟨nn, D.m, g', A0 + g' * F0, ?_, fun _ => mp, g0, fun h => x5 (by omega), ?_, L.bm.mono (by decide), bg.mono (by decide), (bA.add ((bg.mul bF).mono (by decide))).mono (by decide), ?_⟩
        · show [V.int (DV.mx (DV.mx 0 (DV.mn (N : Int) (DV.up (-(st' + D.m - 1)) g'))) (DV.mn (N : Int) (DV.up (D.m * D.b - (st' + D.m - 1)) g')) - DV.mx 0 (DV.mn (N : Int) (DV.up (-(st' + D.m - 1)) g'))), V.int D.m, V.int g', V.int (st' + D.m - 1 + g' * DV.mx 0 (DV.mn (N : Int) (DV.up (-(st' + D.m - 1)) g')))] = _
          rw [← hA0, eF, eL, hnn]
        · exact Bd.mono (Bd.le (by omega) (show (nn : Int) ≤ (N : Int) by omega) bN) (by decide)
        · have bW2 : CMulW ((N : Int) - DV.mx (DV.mx 0 (DV.mn (N : Int) (DV.up (-(st' + D.m - 1)) g'))) (DV.mn (N : Int) (DV.up (D.m * D.b - (st' + D.m - 1)) g'))) D.b := by
            rw [← hA0, eF, eL]
            exact Bd.w (Bd.le (by omega) (show (N : Int) - L0 ≤ (N : Int) by omega) bN) L.bb
          refine ⟨_, rfl, _, rfl, _, _, rfl, rfl, _, rfl, p, C, dx, _, _, rfl, hp, TS.cl, TS.nB, rFl_b D, _, _, rfl, rfl, bW2, _, _, rfl, rfl, ?_⟩
          show Q (.int (DV.FS nn D.m g' (A0 + g' * F0) + ((N : Int) - DV.mx (DV.mx 0 (DV.mn (N : Int) (DV.up (-(st' + D.m - 1)) g'))) (DV.mn (N : Int) (DV.up (D.m * D.b - (st' + D.m - 1)) g'))) * D.b)) H
          rw [← hA0, eF, eL]
          have : (L0 - F0).toNat = nn := by omega
          rw [e, x1, this] at k
          exact k
    refine ⟨_, pss_cons (ps_set (i := 3) scSB.nd rfl (.inl rfl) (pe_fld (pv 0) rfl))
      (pss_cons (ps_if (pt_cmpR op_lt (pv 3) pe_int (nomark _))
        (pss_one (ps_par (i := 1) (j := 3) rfl scSB.nd rfl rfl (by decide) rfl rfl (pa_cons (pe_op op_add (pv 1) (pe_op op_mulW (pv 3) (pe_op op_sub (pv 2) pe_int))) (pa_cons (pe_un un_neg (pv 3)) pa_nil)) (by rfl))) pss_nil) pB), ?_⟩
    refine ⟨_, rfl, p, C, dx, _, _, rfl, hp, TS.cl, TS.nG, rFl_g D, ?_⟩
    refine ⟨_, rfl, _, _, rfl, rfl, _, rfl, ?_⟩
    refine ite2 (fun h => ?_) (fun h => ?_)
    · have hg : D.g < 0 := of_decide_eq_true h
      have b1 : Bd 301 ((N : Int) - 1) := bN.sub one_bd
      refine ⟨_, rfl, _, rfl, _, rfl, _, _, rfl, rfl, _, _, rfl, rfl, L.bg.w b1, _, _, rfl, rfl, _, rfl, _, rfl, _, _, rfl, ?_⟩
      exact rB (-D.g) (st + D.g * ((N : Int) - 1)) (by omega) L.bg.neg (((bst.mono (by decide)).add (L.bg.mul b1)).mono (by decide)) (DV.sb_neg N)
    · have hg : ¬ D.g < 0 := fun z => h (decide_eq_true z)
      exact rB D.g st (by omega) L.bg (bst.mono (by decide)) rfl
end
end KD

set_option Elab.async false
set_option linter.all false
set_option maxRecDepth 100000
set_option maxHeartbeats 8000000
/-! Dividers, the program, f: counts, questions -/
namespace DV
variable {D : Dv}
theorem cr_x (K : D.Ok) {x : Int} (h : 0 ≤ x) : D.cr (x + 1).toNat = mx 0 (mn (D.fit (x / D.b)) (x % D.b + 1) - mn (D.few (x / D.b)) (x % D.b + 1)) + (if D.m = 0 then (if D.o / D.W < x / D.b then D.b else 0) else D.SB (D.W - D.o) (x / D.b).toNat - D.SB (-D.o) (x / D.b).toNat) := by
  obtain ⟨e, r0, r1, q0⟩ := split_x K h
  obtain ⟨bn, hb⟩ : ∃ bn : Nat, (bn : Int) = D.b := ⟨D.b.toNat, by have := K.hb; omega⟩
  obtain ⟨q, hq⟩ : ∃ q : Nat, x / D.b = (q : Int) := ⟨(x / D.b).toNat, by omega⟩
  obtain ⟨r, hr⟩ : ∃ r : Nat, x % D.b = (r : Int) := ⟨(x % D.b).toNat, by omega⟩
  rw [hq, hr] at e
  rw [hq, hr, Int.toNat_natCast]
  have ex : (x + 1).toNat = bn * q + r + 1 := by
    have : (x + 1) = ((bn * q + r + 1 : Nat) : Int) := by
      rw [Int.natCast_add, Int.natCast_add, Int.natCast_mul, hb]
      omega
    rw [this, Int.toNat_natCast]
  rw [ex]
  split
  · rename_i hz
    exact cr_zero K hz hb q r (by omega)
  · exact cr_sum K hb q r (by omega)
end DV
namespace KD
open PySem L2
open DV (Dv)
abbrev sDR : Stmt := top 15
abbrev sDW : Stmt := top 16
abbrev sDN : Stmt := top 17
abbrev sDM : Stmt := top 18
def spCR (C : Addr) : Sp := fun vs H Q _ => ∃ (p : Addr) (D : Dv) (x : Int), vs = [.ref p, .int x] ∧ RsAt C H p D ∧ Lim D ∧ 0 ≤ x ∧ x ≤ 10 ^ 60 ∧ ∀ H', Same H H' → Q (.int (D.cr (x + 1).toNat)) H'
def spDR (C : Addr) : Sp := fun vs H Q _ => ∃ (p : Addr) (D : Dv) (x : Int), vs = [.ref p, .int x] ∧ DvAt C H p D ∧ Lim D ∧ 0 ≤ x ∧ x ≤ 10 ^ 60 ∧ Q (.bl (decide (D.R x))) H
def spDW (C : Addr) : Sp := fun vs H Q _ => ∃ (p : Addr) (D : Dv) (x : Int), vs = [.ref p, .int x] ∧ DvAt C H p D ∧ Lim D ∧ 0 ≤ x ∧ x ≤ 10 ^ 60 ∧ ∀ H', Same H H' → Q (optI (D.nw x)) H'
def spDN (C : Addr) : Sp := fun vs H Q _ => ∃ (p : Addr) (D : Dv) (x : Int), vs = [.ref p, .int x] ∧ DvAt C H p D ∧ Lim D ∧ 0 ≤ x ∧ x ≤ 10 ^ 60 ∧ ∀ H', Same H H' → Q (optI (D.nr x)) H'
def spDM (C : Addr) : Sp := fun vs H Q _ => ∃ (p : Addr) (D : Dv) (x : Int), vs = [.ref p, .int x] ∧ DvAt C H p D ∧ Lim D ∧ 0 ≤ x ∧ x ≤ 10 ^ 60 ∧ ∀ H', Same H H' → Q (.int (D.cw x)) H'
section
variable {P : Program} {w : World} {K : PySem.W.Frag} {mg : Str → Option Value} {base : Heap}
abbrev nmCR : List Str := ["self", "x", "q", "r", "last", "told"]
theorem scCR : FnScope nmCR ["self", "x"] (defScope sCR) := ⟨rfl, rfl, rfl, by decide +kernel, rfl, by decide +kernel, by decide +kernel⟩
theorem ok_cr {f C fA fB fS : Addr} {fd fdA fdB fdS : FuncData} (F : Fun K "count_right" "Rests.count_right" sCR f fd) (T : TxtI mg) (TS : TxtS K mg C)
    (GA : FnOk P w K mg base CX0 3 fA fdA ["self", "q"] (spFew C)) (mA : Meth K C "few" fA) (bA : Binds K fdA ["self", "q"] [])
    (GB : FnOk P w K mg base CX0 3 fB fdB ["self", "q"] (spFit C)) (mB : Meth K C "fit" fB) (bB : Binds K fdB ["self", "q"] [])
    (GS : FnOk P w K mg base CX0 3 fS fdS ["self", "start", "many"] (spSB C)) (mS : Meth K C "sum_below" fS) (bS : Binds K fdS ["self", "start", "many"] []) : FnOk P w K mg base CX0 4 f fd ["self", "x"] (spCR C) := by
  refine F.ok scCR (fun vs H Q E h => ?_) (fun cdv A outer s H vs Q E hr h => ?_)
  · obtain ⟨p, D, x, rfl, _⟩ := h
    rfl
  · obtain ⟨p, D, x, rfl, ⟨dx, hp⟩, L, x0, x1, k⟩ := h
    refine ⟨_, pss_cons (ps_asg (pe_callB call_divmodW (by rfl) T.dm (by kernel_rfl) (pa_cons (pv 1) (pa_cons (pe_fld (pv 0) rfl) pa_nil))) (pg_tup rfl (pgs_cons (pg_name (i := 2) scCR.nd rfl (.inl rfl)) (pgs_cons (pg_name (i := 3) scCR.nd rfl (.inl rfl)) pgs_nil))))
      (pss_cons (ps_set (i := 4) scCR.nd rfl (.inl rfl) (pe_callB (call_max2 rfl) (by rfl) T.max (by kernel_rfl) (pa_cons pe_int (pa_cons (pe_op op_sub
          (pe_callB (call_min2 rfl) (by rfl) T.min (by kernel_rfl) (pa_cons (pe_meth (pv 0) TS.cl mB GB hr bB .nil pass0 (pa_cons (pv 2) pa_nil)) (pa_cons (pe_op op_add (pv 3) pe_int) pa_nil)))
          (pe_callB (call_min2 rfl) (by rfl) T.min (by kernel_rfl) (pa_cons (pe_meth (pv 0) TS.cl mA GA hr bA .nil pass0 (pa_cons (pv 2) pa_nil)) (pa_cons (pe_op op_add (pv 3) pe_int) pa_nil)))) pa_nil))))
      (pss_cons (ps_if (pt_cmpR op_eq (pe_fld (pv 0) rfl) pe_int (nomark _))
        (pss_cons (ps_set (i := 5) scCR.nd rfl (.inl rfl) (pe_op op_fdivW (pe_fld (pv 0) rfl) (pe_fld (pv 0) rfl)))
        (pss_one (ps_ret (pe_op op_add (pv 4) (pe_ifExp (pt_cmpR op_lt (pv 5) (pv 2) (nomark _)) (pe_fld (pv 0) rfl) pe_int))))) pss_nil)
      (pss_one (ps_ret (pe_op op_sub (pe_op op_add (pv 4) (pe_meth (pv 0) TS.cl mS GS hr bS .nil pass0 (pa_cons (pe_op op_sub (pe_fld (pv 0) rfl) (pe_fld (pv 0) rfl)) (pa_cons (pv 2) pa_nil)))) (pe_meth (pv 0) TS.cl mS GS hr bS .nil pass0 (pa_cons (pe_un un_neg (pe_fld (pv 0) rfl)) (pa_cons (pv 2) pa_nil)))))))), ?_⟩
    have ok := L.ok
    have b2 := L.b2
    obtain ⟨_, r0, r1, q0⟩ := DV.split_x ok x0
    have bq : Bd 300 (x / D.b) := ((one60 x0 x1).div (by omega)).mono (by decide)
    refine ⟨_, rfl, _, rfl, p, C, dx, _, _, rfl, hp, TS.cl, TS.nB, rFl_b D, _, _, rfl, L.bb.pl (by omega), fun t nt => ?_⟩
    have st := Same.new (o := .tup [.int (x / D.b), .int (x % D.b)]) nt
    have hp2 := st _ _ hp
    have kk := k _ st
    rw [DV.cr_x ok x0] at kk
    refine ⟨t, _, rfl, SqT.of upd_same, rfl, _, _, rfl, _, _, rfl, rfl, ?_⟩
    refine ⟨_, rfl, p, dx, _, rfl, hp2, rFl_n3 D, _, rfl, p, D, _, rfl, ⟨dx, hp2⟩, L, bq.mono (by decide), _, rfl, _, _, rfl, rfl, _, _, rfl, ?_⟩
    refine ⟨_, rfl, p, dx, _, rfl, hp2, rFl_n2 D, _, rfl, p, D, _, rfl, ⟨dx, hp2⟩, L, bq.mono (by decide), _, rfl, _, _, rfl, rfl, _, _, rfl, ?_⟩
    refine ⟨_, _, rfl, rfl, _, _, rfl, ?_⟩
    obtain ⟨la, hla⟩ : ∃ la, la = DV.mx 0 (DV.mn (D.fit (x / D.b)) (x % D.b + 1) - DV.mn (D.few (x / D.b)) (x % D.b + 1)) := ⟨_, rfl⟩
    rw [← hla] at kk
    refine ⟨_, rfl, p, C, dx, _, _, rfl, hp2, TS.cl, TS.nT, rFl_t D, rfl, _, rfl, ?_⟩
    by_cases hm : D.m = 0
    · rw [if_pos hm] at kk
      refine iteT' (decide_eq_true (congrArg V.int hm)) ?_
      have := D.W_pos
      refine ⟨_, rfl, p, C, dx, _, _, rfl, hp2, TS.cl, TS.nO, rFl_o D, _, rfl, p, C, dx, _, _, rfl, hp2, TS.cl, TS.nW, rFl_w D, _, _, rfl, rfl, L.bW.d D.W_pos, ?_⟩
      refine ⟨_, rfl, _, rfl, _, rfl, _, _, rfl, rfl, _, rfl, ?_⟩
      by_cases c : D.o / D.W < x / D.b
      · rw [if_pos c] at kk
        refine iteT' (decide_eq_true c) ?_
        refine ⟨_, rfl, p, C, dx, _, _, rfl, hp2, TS.cl, TS.nB, rFl_b D, _, _, rfl, rfl, ?_⟩
        rw [hla] at kk
        exact kk
      · rw [if_neg c] at kk
        refine iteF' (decide_eq_false c) ?_
        refine ⟨_, _, rfl, rfl, ?_⟩
        rw [hla] at kk
        exact kk
    · rw [if_neg hm] at kk
      refine iteF' (decide_eq_false fun z => hm (V.int.inj z)) ?_
      obtain ⟨qn, hqn⟩ : ∃ qn : Nat, x / D.b = (qn : Int) := ⟨(x / D.b).toNat, by omega⟩
      have bqn : Bd 300 (qn : Int) := by rw [← hqn]; exact bq
      have et : (x / D.b).toNat = qn := by omega
      rw [et] at kk
      refine ⟨_, rfl, _, rfl, p, dx, _, rfl, hp2, rFl_n9 D, _, rfl, p, C, dx, _, _, rfl, hp2, TS.cl, TS.nW, rFl_w D, _, rfl, p, C, dx, _, _, rfl, hp2, TS.cl, TS.nO, rFl_o D, _, _, rfl, rfl, _, rfl, p, D, D.W - D.o, qn, ?_, ⟨dx, hp2⟩, L, hm, (L.bW.sub (L.bo.mono (by decide))).mono (by decide), bqn, ?_⟩
      · show [V.ref p, V.int (D.W - D.o), V.int (x / D.b)] = _
        rw [hqn]
      refine ⟨_, _, rfl, rfl, _, rfl, p, dx, _, rfl, hp2, rFl_n9 D, _, rfl, p, C, dx, _, _, rfl, hp2, TS.cl, TS.nO, rFl_o D, _, rfl, _, rfl, p, D, -D.o, qn, ?_, ⟨dx, hp2⟩, L, hm, (L.bo.neg).mono (by decide), bqn, ?_⟩
      · show [V.ref p, V.int (-D.o), V.int (x / D.b)] = _
        rw [hqn]
      refine ⟨_, _, rfl, rfl, ?_⟩
      rw [hla, ← Int.add_sub_assoc] at kk
      exact kk
theorem scDR : FnScope ["divider", "x"] ["divider", "x"] (defScope sDR) := ⟨rfl, rfl, rfl, by decide +kernel, rfl, by decide +kernel, by decide +kernel⟩
theorem ok_dr {f C fQ : Addr} {fd fdQ : FuncData} (F : Fun K "divider_right" "divider_right" sDR f fd) (TD : TxtD K mg C)
    (GQ : FnOk P w K mg base CX0 4 fQ fdQ ["self", "x"] (spQuot C)) (mQ : Meth K C "quotient" fQ) (bQ : Binds K fdQ ["self", "x"] []) : FnOk P w K mg base CX0 5 f fd ["divider", "x"] (spDR C) := by
  refine F.ok scDR (fun vs H Q E h => ?_) (fun cdv A outer s H vs Q E hr h => ?_)
  · obtain ⟨p, D, x, rfl, _⟩ := h
    rfl
  · obtain ⟨p, D, x, rfl, ⟨dx, hp⟩, L, x0, x1, k⟩ := h
    refine ⟨_, pss_one (ps_ret (pe_cmpR op_eq (pe_meth (pv 0) TD.cl mQ GQ hr bQ .nil pass0 (pa_cons (pv 1) pa_nil)) (pe_op op_fdivW (pv 1) (pe_fld (pv 0) rfl)) (nomark _))), ?_⟩
    have b2 := L.b2
    refine ⟨_, rfl, p, dx, _, rfl, hp, dFl_q D, _, rfl, p, D, x, rfl, ⟨dx, hp⟩, L, x0, x1, _, rfl, _, rfl, p, C, dx, _, _, rfl, hp, TD.cl, TD.nB, dFl_b D, _, _, rfl, rfl, L.bb.d (by omega), rfl, ?_⟩
    have e : decide (V.int (D.told x) = V.int (x / D.b)) = decide (D.R x) := by
      by_cases z : D.R x
      · rw [decide_eq_true z]
        exact decide_eq_true (congrArg V.int z)
      · rw [decide_eq_false z]
        exact decide_eq_false fun y => z (V.int.inj y)
    show Q (.bl (decide (V.int (D.told x) = V.int (x / D.b)))) H
    rw [e]
    exact k
theorem scDM : FnScope ["divider", "x"] ["divider", "x"] (defScope sDM) := ⟨rfl, rfl, rfl, by decide +kernel, rfl, by decide +kernel, by decide +kernel⟩
theorem ok_dm {f C CS fC fI fN : Addr} {fd fdC fdI fdN : FuncData} (F : Fun K "divider_many" "divider_many" sDM f fd) (T : TxtI mg) (TD : TxtD K mg C) (TS : TxtS K mg CS)
    (GC : FnOk P w K mg base CX0 3 fC fdC ["number", "least", "most"] spCheck) (kC : PySem.W.keepIn K (.ref fC) = true) (bC : Binds K fdC ["number", "least", "most"] []) (gC : mg "check_between" = some (.ref fC))
    (M : Mk K CS fI) (GI : FnOk P w K mg base CX0 1 fI fdI ["self", "divider"] (spRI C CS)) (bI : Binds K fdI ["self", "divider"] [])
    (GN : FnOk P w K mg base CX0 4 fN fdN ["self", "x"] (spCR CS)) (mN : Meth K CS "count_right" fN) (bN : Binds K fdN ["self", "x"] []) : FnOk P w K mg base CX0 5 f fd ["divider", "x"] (spDM C) := by
  obtain ⟨t1, hmn⟩ := T.mn
  refine F.ok scDM (fun vs H Q E h => ?_) (fun cdv A outer s H vs Q E hr h => ?_)
  · obtain ⟨p, D, x, rfl, _⟩ := h
    rfl
  · obtain ⟨p, D, x, rfl, hD, L, x0, x1, k⟩ := h
    have hr3 : Room 3 _ := hr.mono (by decide)
    have hr2 : Room 2 _ := hr.mono (by decide)
    refine ⟨_, pss_cons (ps_expr (pe_call GC hr3 rfl gC kC bC .nil pass0 (pa_cons (pv 1) (pa_cons pe_int (pa_cons (pe_glob (v := .int (10 ^ 60)) (by rfl) hmn ⟨t1, rfl⟩) pa_nil)))))
      (pss_one (ps_ret (pe_op op_sub (pe_op op_add (pv 1) pe_int) (pe_meth (pe_make M GI hr2 (by rfl) TS.mgC bI .nil pass0 (pa_cons (pv 0) pa_nil)) TS.cl mN GN hr bN .nil pass0 (pa_cons (pv 1) pa_nil))))), ?_⟩
    refine ⟨_, rfl, _, 0, _, rfl, x0, x1, ?_⟩
    refine ⟨_, rfl, _, _, rfl, rfl, _, rfl, fun q dq nq ndq ne => ?_⟩
    have s1 := (Same.new (o := .own q) ndq).trans (Same.new (o := .ins CS dq []) (by rw [upd_ne ne.symm]; exact nq))
    refine ⟨q, dq, p, D, rfl, upd_same, hD.keep s1, L, fun G b1 hq => ⟨rfl, ?_⟩⟩
    have sG : Same H G := But.fresh s1 b1 nq
    refine ⟨q, dq, _, rfl, hq, rFl_n8 D, _, rfl, q, D, x, rfl, ⟨dq, hq⟩, L, x0, x1, fun G2 s2 => ?_⟩
    exact ⟨_, _, rfl, rfl, k _ (sG.trans s2)⟩
theorem wq_bd {D : Dv} (L : Lim D) {q q1 : Int} (hq : Bd 301 q) (h : D.wq q = some q1) : Bd 1000 q1 := by
  unfold Dv.wq at h
  split at h
  · cases h; exact hq.mono (by decide)
  split at h
  · rename_i hg
    cases h
    exact (hq.mono (by decide)).mx (((L.bo.div hg).add one_bd).mono (by decide))
  split at h
  · rename_i hg
    cases h
    exact (hq.mono (by decide)).mx (Bd.mono (Bd.up (((L.bW.sub (L.bo.mono (by decide))).mono (show 402 ≤ 402 by decide)).sub ((L.bm.mul (L.bb.sub (one_bd (k := 200)))).mono (show 401 ≤ 402 by decide))) (by omega)) (by decide))
  · cases h
theorem rq_bd {D : Dv} (L : Lim D) {q q1 : Int} (hq : Bd 301 q) (h : D.rq q = some q1) : Bd 1000 q1 := by
  unfold Dv.rq at h
  split at h
  · cases h; exact hq.mono (by decide)
  split at h
  · cases h
  rename_i hg
  split at h
  · cases h
    exact (hq.mono (by decide)).mx (Bd.mono ((((L.bo.mono (show 200 ≤ 401 by decide)).sub L.bW).div (show 0 < D.g by omega)).add one_bd) (by decide))
  · cases h
abbrev nmDW : List Str := ["divider", "x", "rests", "q", "r", "found"]
theorem scDW : FnScope nmDW ["divider", "x"] (defScope sDW) := ⟨rfl, rfl, rfl, by decide +kernel, rfl, by decide +kernel, by decide +kernel⟩
theorem ok_dw {f C CS fC fI fW fQ : Addr} {fd fdC fdI fdW fdQ : FuncData} (F : Fun K "divider_wrong" "divider_wrong" sDW f fd) (T : TxtI mg) (TD : TxtD K mg C) (TS : TxtS K mg CS)
    (GC : FnOk P w K mg base CX0 3 fC fdC ["number", "least", "most"] spCheck) (kC : PySem.W.keepIn K (.ref fC) = true) (bC : Binds K fdC ["number", "least", "most"] []) (gC : mg "check_between" = some (.ref fC))
    (M : Mk K CS fI) (GI : FnOk P w K mg base CX0 1 fI fdI ["self", "divider"] (spRI C CS)) (bI : Binds K fdI ["self", "divider"] [])
    (GW : FnOk P w K mg base CX0 4 fW fdW ["self", "q", "r"] (spWF CS)) (mW : Meth K CS "wrong_from" fW) (bW : Binds K fdW ["self", "q", "r"] [])
    (GQ : FnOk P w K mg base CX0 5 fQ fdQ ["self", "q"] (spWQ CS)) (mQ : Meth K CS "wrong_q" fQ) (bQ : Binds K fdQ ["self", "q"] []) : FnOk P w K mg base CX0 6 f fd ["divider", "x"] (spDW C) := by
  obtain ⟨t1, hmn⟩ := T.mn
  refine F.ok scDW (fun vs H Q E h => ?_) (fun cdv A outer s H vs Q E hr h => ?_)
  · obtain ⟨p, D, x, rfl, _⟩ := h
    rfl
  · obtain ⟨p, D, x, rfl, hD, L, x0, x1, k⟩ := h
    have hr3 : Room 3 _ := hr.mono (by decide)
    have hr4 : Room 4 _ := hr.mono (by decide)
    have hr2 : Room 2 _ := hr.mono (by decide)
    refine ⟨_, pss_cons (ps_expr (pe_call GC hr3 rfl gC kC bC .nil pass0 (pa_cons (pv 1) (pa_cons pe_int (pa_cons (pe_glob (v := .int (10 ^ 60)) (by rfl) hmn ⟨t1, rfl⟩) pa_nil)))))
      (pss_cons (ps_set (i := 2) scDW.nd rfl (.inl rfl) (pe_make M GI hr2 (by rfl) TS.mgC bI .nil pass0 (pa_cons (pv 0) pa_nil)))
      (pss_cons (ps_asg (pe_callB call_divmodW (by rfl) T.dm (by kernel_rfl) (pa_cons (pv 1) (pa_cons (pe_fld (pv 0) rfl) pa_nil))) (pg_tup rfl (pgs_cons (pg_name (i := 3) scDW.nd rfl (.inl rfl)) (pgs_cons (pg_name (i := 4) scDW.nd rfl (.inl rfl)) pgs_nil))))
      (pss_cons (ps_set (i := 5) scDW.nd rfl (.inl rfl) (pe_meth (pv 2) TS.cl mW GW hr4 bW .nil pass0 (pa_cons (pv 3) (pa_cons (pv 4) pa_nil))))
      (pss_cons (ps_if (pt_cmpR op_isN (pv 5) pe_non (nomark _))
        (pss_cons (ps_set (i := 3) scDW.nd rfl (.inl rfl) (pe_meth (pv 2) TS.cl mQ GQ hr bQ .nil pass0 (pa_cons (pe_op op_add (pv 3) pe_int) pa_nil)))
        (pss_one (ps_set (i := 5) scDW.nd rfl (.inl rfl) (pe_ifExp (pt_cmpR op_isN (pv 3) pe_non (nomark _)) pe_non (pe_meth (pv 2) TS.cl mW GW hr4 bW .nil pass0 (pa_cons (pv 3) (pa_cons pe_int pa_nil))))))) pss_nil)
      (pss_one (ps_ret (pe_ifExp (pt_cmpR op_isN (pv 5) pe_non (nomark _)) pe_non (pe_op op_add (pe_op op_mulW (pe_fld (pv 0) rfl) (pv 3)) (pv 5))))))))), ?_⟩
    refine ⟨_, rfl, _, 0, _, rfl, x0, x1, ?_⟩
    refine ⟨_, rfl, fun q dq nq ndq ne => ?_⟩
    have s1 := (Same.new (o := .own q) ndq).trans (Same.new (o := .ins CS dq []) (by rw [upd_ne ne.symm]; exact nq))
    refine ⟨q, dq, p, D, rfl, upd_same, hD.keep s1, L, fun G b1 hq => ⟨rfl, ?_⟩⟩
    have sG : Same H G := But.fresh s1 b1 nq
    obtain ⟨dx, hpG⟩ := hD.keep sG
    have b2 := L.b2
    obtain ⟨_, r0, r1, q0⟩ := DV.split_x L.ok x0
    have bq : Bd 300 (x / D.b) := ((one60 x0 x1).div (by omega)).mono (by decide)
    refine ⟨_, rfl, _, rfl, p, C, dx, _, _, rfl, hpG, TD.cl, TD.nB, dFl_b D, _, _, rfl, L.bb.pl (by omega), fun t nt => ?_⟩
    have st := Same.new (o := .tup [.int (x / D.b), .int (x % D.b)]) nt
    refine ⟨t, _, rfl, SqT.of upd_same, rfl, _, _, rfl, _, _, rfl, rfl, ?_⟩
    have hq2 := st _ _ hq
    have hp2 := st _ _ hpG
    have kk := k _ (sG.trans st)
    unfold Dv.nw at kk
    refine ⟨_, rfl, q, dq, _, rfl, hq2, rFl_n4 D, _, rfl, _, rfl, q, D, _, _, rfl, ⟨dq, hq2⟩, L, bq.mono (by decide), ?_⟩
    have bq1 : Bd 301 (x / D.b + 1) := bq.add one_bd
    cases e : D.wf (x / D.b) (x % D.b) with
    | some f0 =>
      rw [e] at kk
      refine ⟨_, rfl, rfl, _, rfl, iteF' rfl ?_⟩
      refine ⟨_, rfl, rfl, _, rfl, iteF' rfl ?_⟩
      exact ⟨_, rfl, p, C, dx, _, _, rfl, hp2, TD.cl, TD.nB, dFl_b D, _, rfl, _, _, rfl, rfl, L.bb.w bq, _, rfl, _, _, rfl, rfl, kk⟩
    | none =>
      rw [e] at kk
      refine ⟨_, rfl, rfl, _, rfl, iteT' rfl ?_⟩
      refine ⟨_, rfl, q, dq, _, rfl, hq2, rFl_n6 D, _, rfl, _, _, rfl, rfl, q, D, _, rfl, ⟨dq, hq2⟩, L, bq1.mono (by decide), ?_⟩
      cases e2 : D.wq (x / D.b + 1) with
      | none =>
        rw [e2] at kk
        refine ⟨_, rfl, rfl, _, rfl, iteT' rfl ?_⟩
        exact ⟨_, rfl, rfl, _, rfl, iteT' rfl kk⟩
      | some q1 =>
        rw [e2] at kk
        have bq2 := wq_bd L bq1 e2
        refine ⟨_, rfl, rfl, _, rfl, iteF' rfl ?_⟩
        refine ⟨_, rfl, q, dq, _, rfl, hq2, rFl_n4 D, _, rfl, q, D, q1, 0, rfl, ⟨dq, hq2⟩, L, bq2, ?_⟩
        have kk2 : Q (optI ((D.wf q1 0).map fun f => D.b * q1 + f)) (upd G t (.tup [.int (x / D.b), .int (x % D.b)])) := kk
        cases e3 : D.wf q1 0 with
        | none =>
          rw [e3] at kk2
          exact ⟨_, rfl, rfl, _, rfl, iteT' rfl kk2⟩
        | some f0 =>
          rw [e3] at kk2
          refine ⟨_, rfl, rfl, _, rfl, iteF' rfl ?_⟩
          exact ⟨_, rfl, p, C, dx, _, _, rfl, hp2, TD.cl, TD.nB, dFl_b D, _, rfl, _, _, rfl, rfl, L.bb.w bq2, _, rfl, _, _, rfl, rfl, kk2⟩
abbrev nmDN : List Str := ["divider", "x", "rests", "q", "r", "found"]
theorem scDN : FnScope nmDN ["divider", "x"] (defScope sDN) := ⟨rfl, rfl, rfl, by decide +kernel, rfl, by decide +kernel, by decide +kernel⟩
theorem ok_dn {f C CS fC fI fW fQ : Addr} {fd fdC fdI fdW fdQ : FuncData} (F : Fun K "divider_next" "divider_next" sDN f fd) (T : TxtI mg) (TD : TxtD K mg C) (TS : TxtS K mg CS)
    (GC : FnOk P w K mg base CX0 3 fC fdC ["number", "least", "most"] spCheck) (kC : PySem.W.keepIn K (.ref fC) = true) (bC : Binds K fdC ["number", "least", "most"] []) (gC : mg "check_between" = some (.ref fC))
    (M : Mk K CS fI) (GI : FnOk P w K mg base CX0 1 fI fdI ["self", "divider"] (spRI C CS)) (bI : Binds K fdI ["self", "divider"] [])
    (GW : FnOk P w K mg base CX0 4 fW fdW ["self", "q", "r"] (spRF CS)) (mW : Meth K CS "right_from" fW) (bW : Binds K fdW ["self", "q", "r"] [])
    (GQ : FnOk P w K mg base CX0 5 fQ fdQ ["self", "q"] (spRQ CS)) (mQ : Meth K CS "right_q" fQ) (bQ : Binds K fdQ ["self", "q"] []) : FnOk P w K mg base CX0 6 f fd ["divider", "x"] (spDN C) := by
  obtain ⟨t1, hmn⟩ := T.mn
  refine F.ok scDN (fun vs H Q E h => ?_) (fun cdv A outer s H vs Q E hr h => ?_)
  · obtain ⟨p, D, x, rfl, _⟩ := h
    rfl
  · obtain ⟨p, D, x, rfl, hD, L, x0, x1, k⟩ := h
    have hr3 : Room 3 _ := hr.mono (by decide)
    have hr4 : Room 4 _ := hr.mono (by decide)
    have hr2 : Room 2 _ := hr.mono (by decide)
    refine ⟨_, pss_cons (ps_expr (pe_call GC hr3 rfl gC kC bC .nil pass0 (pa_cons (pv 1) (pa_cons pe_int (pa_cons (pe_glob (v := .int (10 ^ 60)) (by rfl) hmn ⟨t1, rfl⟩) pa_nil)))))
      (pss_cons (ps_set (i := 2) scDN.nd rfl (.inl rfl) (pe_make M GI hr2 (by rfl) TS.mgC bI .nil pass0 (pa_cons (pv 0) pa_nil)))
      (pss_cons (ps_asg (pe_callB call_divmodW (by rfl) T.dm (by kernel_rfl) (pa_cons (pv 1) (pa_cons (pe_fld (pv 0) rfl) pa_nil))) (pg_tup rfl (pgs_cons (pg_name (i := 3) scDN.nd rfl (.inl rfl)) (pgs_cons (pg_name (i := 4) scDN.nd rfl (.inl rfl)) pgs_nil))))
      (pss_cons (ps_set (i := 5) scDN.nd rfl (.inl rfl) (pe_meth (pv 2) TS.cl mW GW hr4 bW .nil pass0 (pa_cons (pv 3) (pa_cons (pv 4) pa_nil))))
      (pss_cons (ps_if (pt_cmpR op_isN (pv 5) pe_non (nomark _))
        (pss_cons (ps_set (i := 3) scDN.nd rfl (.inl rfl) (pe_meth (pv 2) TS.cl mQ GQ hr bQ .nil pass0 (pa_cons (pe_op op_add (pv 3) pe_int) pa_nil)))
        (pss_one (ps_set (i := 5) scDN.nd rfl (.inl rfl) (pe_ifExp (pt_cmpR op_isN (pv 3) pe_non (nomark _)) pe_non (pe_meth (pv 2) TS.cl mW GW hr4 bW .nil pass0 (pa_cons (pv 3) (pa_cons pe_int pa_nil))))))) pss_nil)
      (pss_one (ps_ret (pe_ifExp (pt_cmpR op_isN (pv 5) pe_non (nomark _)) pe_non (pe_op op_add (pe_op op_mulW (pe_fld (pv 0) rfl) (pv 3)) (pv 5))))))))), ?_⟩
    refine ⟨_, rfl, _, 0, _, rfl, x0, x1, ?_⟩
    refine ⟨_, rfl, fun q dq nq ndq ne => ?_⟩
    have s1 := (Same.new (o := .own q) ndq).trans (Same.new (o := .ins CS dq []) (by rw [upd_ne ne.symm]; exact nq))
    refine ⟨q, dq, p, D, rfl, upd_same, hD.keep s1, L, fun G b1 hq => ⟨rfl, ?_⟩⟩
    have sG : Same H G := But.fresh s1 b1 nq
    obtain ⟨dx, hpG⟩ := hD.keep sG
    have b2 := L.b2
    obtain ⟨_, r0, r1, q0⟩ := DV.split_x L.ok x0
    have bq : Bd 300 (x / D.b) := ((one60 x0 x1).div (by omega)).mono (by decide)
    refine ⟨_, rfl, _, rfl, p, C, dx, _, _, rfl, hpG, TD.cl, TD.nB, dFl_b D, _, _, rfl, L.bb.pl (by omega), fun t nt => ?_⟩
    have st := Same.new (o := .tup [.int (x / D.b), .int (x % D.b)]) nt
    refine ⟨t, _, rfl, SqT.of upd_same, rfl, _, _, rfl, _, _, rfl, rfl, ?_⟩
    have hq2 := st _ _ hq
    have hp2 := st _ _ hpG
    have kk := k _ (sG.trans st)
    unfold Dv.nr at kk
    refine ⟨_, rfl, q, dq, _, rfl, hq2, rFl_n5 D, _, rfl, _, rfl, q, D, _, _, rfl, ⟨dq, hq2⟩, L, bq.mono (by decide), ?_⟩
    have bq1 : Bd 301 (x / D.b + 1) := bq.add one_bd
    cases e : D.rf (x / D.b) (x % D.b) with
    | some f0 =>
      rw [e] at kk
      refine ⟨_, rfl, rfl, _, rfl, iteF' rfl ?_⟩
      refine ⟨_, rfl, rfl, _, rfl, iteF' rfl ?_⟩
      exact ⟨_, rfl, p, C, dx, _, _, rfl, hp2, TD.cl, TD.nB, dFl_b D, _, rfl, _, _, rfl, rfl, L.bb.w bq, _, rfl, _, _, rfl, rfl, kk⟩
    | none =>
      rw [e] at kk
      refine ⟨_, rfl, rfl, _, rfl, iteT' rfl ?_⟩
      refine ⟨_, rfl, q, dq, _, rfl, hq2, rFl_n7 D, _, rfl, _, _, rfl, rfl, q, D, _, rfl, ⟨dq, hq2⟩, L, bq1.mono (by decide), ?_⟩
      cases e2 : D.rq (x / D.b + 1) with
      | none =>
        rw [e2] at kk
        refine ⟨_, rfl, rfl, _, rfl, iteT' rfl ?_⟩
        exact ⟨_, rfl, rfl, _, rfl, iteT' rfl kk⟩
      | some q1 =>
        rw [e2] at kk
        have bq2 := rq_bd L bq1 e2
        refine ⟨_, rfl, rfl, _, rfl, iteF' rfl ?_⟩
        refine ⟨_, rfl, q, dq, _, rfl, hq2, rFl_n5 D, _, rfl, q, D, q1, 0, rfl, ⟨dq, hq2⟩, L, bq2, ?_⟩
        have kk2 : Q (optI ((D.rf q1 0).map fun f => D.b * q1 + f)) (upd G t (.tup [.int (x / D.b), .int (x % D.b)])) := kk
        cases e3 : D.rf q1 0 with
        | none =>
          rw [e3] at kk2
          exact ⟨_, rfl, rfl, _, rfl, iteT' rfl kk2⟩
        | some f0 =>
          rw [e3] at kk2
          refine ⟨_, rfl, rfl, _, rfl, iteF' rfl ?_⟩
          exact ⟨_, rfl, p, C, dx, _, _, rfl, hp2, TD.cl, TD.nB, dFl_b D, _, rfl, _, _, rfl, rfl, L.bb.w bq2, _, rfl, _, _, rfl, rfl, kk2⟩
end
end KD

set_option Elab.async false
set_option linter.all false
set_option maxRecDepth 100000
set_option maxHeartbeats 8000000
/-! Dividers, the program, g: times -/
namespace KD
open PySem L2
open DV (Dv)
abbrev sTB : Stmt := top 19
abbrev sTF : Stmt := top 20
abbrev sLS : Stmt := top 21
theorem bd_pow {n : Nat} (h : n ≤ 400) : Bd 401 ((2 : Int) ^ n) := by
  have e : (2 : Int) ^ n = ((2 ^ n : Nat) : Int) := by
    rw [Int.natCast_pow]
    rfl
  unfold Bd
  rw [e, Int.natAbs_natCast]
  exact Nat.pow_lt_pow_right (by decide) (by omega)
theorem take_more {α : Type} {l : List α} {i : Nat} {x : α} (h : l[i]? = some x) : l.take (i + 1) = l.take i ++ [x] := by
  rw [List.take_succ, h]
  rfl
/-- some times are right -/
def Ex (b t : Int) (s : Nat) : Prop := ∃ m, 0 ≤ m ∧ DV.AllR b t s m
def spTB (K : PySem.W.Frag) : Sp := fun vs H Q _ => ∃ (b t : Int) (s : Nat), vs = [.int b, .int t, .int (s : Nat)] ∧ 2 ≤ b ∧ b ≤ 10 ^ 60 ∧ 1 ≤ t ∧ t ≤ 10 ^ 60 ∧ s ≤ 400 ∧
  (∀ H', Same H H' → ¬ Ex b t s → Q .non H') ∧ (∀ H' p l g, Same H H' → SqT K H' p [.int l, .int g] → 0 ≤ l → l ≤ g → (∀ m, 0 ≤ m → (DV.AllR b t s m ↔ l ≤ m ∧ m ≤ g)) → Q (.ref p) H')
def spLS : Sp := fun vs H Q _ => ∃ b t : Int, vs = [.int b, .int t] ∧ 2 ≤ b ∧ b ≤ 10 ^ 60 ∧ 1 ≤ t ∧ t ≤ 10 ^ 60 ∧ b * (t + 1) ≤ 2 ^ 400 ∧ ∀ (n : Nat) H', Same H H' → n ≤ 400 → Ex b t n → (∀ k, k < n → ¬ Ex b t k) → Q (.int (n : Nat)) H'
section
variable {P : Program} {w : World} {K : PySem.W.Frag} {mg : Str → Option Value} {base : Heap}
abbrev nmTB : List Str := ["by", "top", "shift", "whole", "least", "tight", "greatest", "x"]
theorem scTB : FnScope nmTB ["by", "top", "shift"] (defScope sTB) := ⟨rfl, rfl, rfl, by decide +kernel, rfl, by decide +kernel, by decide +kernel⟩
theorem ok_tb {f fU : Addr} {fd fdU : FuncData} (F : Fun K "times_between" "times_between" sTB f fd) (T : TxtI mg)
    (GU : FnOk P w K mg base CX0 1 fU fdU ["number", "by"] spUp) (kU : PySem.W.keepIn K (.ref fU) = true) (bU : Binds K fdU ["number", "by"] []) (gU : mg "upward" = some (.ref fU)) : FnOk P w K mg base CX0 2 f fd ["by", "top", "shift"] (spTB K) := by
  refine F.ok scTB (fun vs H Q E h => ?_) (fun cdv A outer s H vs Q E hr h => ?_)
  · obtain ⟨b, t, n, rfl, _⟩ := h
    rfl
  · obtain ⟨b, t, n, rfl, b2, b1, t0, t1, hn, kN, kY⟩ := h
    obtain ⟨tR, pR, rR⟩ : ∃ tR, PSs (cxOf CX0 P w K mg base nmTB "times_between" (defScope sTB) f cdv A outer s H E).nox ((defBody sTB).drop 4) tR ∧
        ∀ (G : Hp) (a : Addr), Same H G → SqL K G a ((DV.tight b t).map V.int) → tR { nx := fun _ H' => Q .non H', rt := Q } [some (.int b), some (.int t), some (.int (n : Nat)), some (.int (2 ^ n)), some (.int (DV.tLeast b t n)), some (.ref a), none, none] G := by
      refine ⟨_, pss_cons (ps_set (i := 6) scTB.nd rfl (.inl rfl) (pe_callB (cr_min rfl) (by rfl) T.min (by kernel_rfl) (pa_cons
          (pe_lc (own := [("x", 7)]) (g := gName 7) (tt := tYes) rfl scTB.nd (pi_list (pv 5)) (blkOk_by (own := [("x", 7)]) (N := nmTB) (sc := defScope sTB) (by decide +kernel)) (fun _ _ _ _ _ => pg_name (i := 7) scTB.nd rfl (Or.inl rfl)) (fun _ _ _ _ _ => pts_nil)
            (fun _ _ _ _ _ => pe_op op_fdivW (pe_op op_sub (pe_op op_mulW (pv 3) (pe_op op_add (pe_op op_fdivW (pv 7) (pv 0)) pe_int)) pe_int) (pv 7))) pa_nil)))
        (pss_one (ps_ret (pe_ifExp (pt_cmpR op_le (pv 4) (pv 6) (nomark _)) (pe_tup (pa_cons (pv 4) (pa_cons (pv 6) pa_nil))) pe_non))), ?_⟩
      intro G a sG ha
      refine ⟨_, rfl, a, rfl, ⟨_, ha⟩, fun D nD => ?_⟩
      have sD := Same.new (o := .lst []) nD
      have bWn : Bd 401 ((2 : Int) ^ n) := bd_pow hn
      have tl : (DV.tight b t).length ≤ 3 := by unfold DV.tight; split <;> simp
      have tp : 0 < (DV.tight b t).length := by unfold DV.tight; split <;> simp
      refine lc_list (K := K) (a := a) (xs := (DV.tight b t).map V.int) (fun i G3 => Same G G3 ∧ G3 D = some (.lst ((((DV.tight b t).take i).map (DV.gr b n)).map V.int))) ⟨sD, upd_same⟩ (fun i G3 _ ⟨e, _⟩ => e.seq ha) ?_ ?_
      · rintro i y G3 hi ⟨s3, gD⟩
        obtain ⟨x, hx, rfl⟩ : ∃ x, (DV.tight b t)[i]? = some x ∧ y = V.int x := by
          rw [List.getElem?_map] at hi
          cases e : (DV.tight b t)[i]? with
          | none => rw [e] at hi; cases hi
          | some z => rw [e] at hi; exact ⟨z, rfl, (Option.some.inj hi).symm⟩
        obtain ⟨x0, x1⟩ := DV.tight_pos b2 t0 x (List.mem_of_getElem? hx)
        have hil := (List.getElem?_eq_some_iff.mp hx).1
        have bx : Bd 200 x := one60 (by omega) (by omega)
        have bb : Bd 200 b := one60 (by omega) b1
        have bm : Bd 201 (x / b + 1) := (bx.div (by omega)).add one_bd
        refine ⟨rfl, ?_⟩
        unfold tYes
        refine iteT ?_
        refine ⟨_, rfl, _, rfl, _, rfl, _, _, rfl, rfl, bb.d (by omega), _, _, rfl, rfl, _, _, rfl, rfl, bWn.w bm, _, _, rfl, rfl, _, rfl, _, _, rfl, rfl, bx.d (by omega), ?_⟩
        refine ⟨_, gD, small1000 (by rw [List.length_map, List.length_map, List.length_take]; omega), Same.write s3 nD, ?_⟩
        rw [take_more hx, List.map_append, List.map_append, upd_same]
        rfl
      · rintro G3 ⟨s3, gD⟩
        rw [List.length_map, List.take_length] at gD
        refine ⟨D, (DV.tight b t).map (DV.gr b n), rfl, SqL.of gD, by rw [List.length_map]; exact tp, fun g hg hmin => ?_⟩
        have sG3 := sG.trans s3
        have win : ∀ m, 0 ≤ m → (DV.AllR b t n m ↔ DV.tLeast b t n ≤ m ∧ m ≤ g) := fun m hm => by
          rw [DV.window b2 t0 hm]
          constructor
          · rintro ⟨h1, h2⟩
            obtain ⟨x, hx, rfl⟩ := List.mem_map.mp hg
            exact ⟨h1, h2 x hx⟩
          · rintro ⟨h1, h2⟩
            exact ⟨h1, fun x hx => Int.le_trans h2 (hmin _ (List.mem_map.mpr ⟨x, hx, rfl⟩))⟩
        have l0 : 0 ≤ DV.tLeast b t n := by
          unfold DV.tLeast
          split
          · have := (DV.lt_up (n := 2 ^ n) (d := b) (r := 0) (by omega)).mpr (by rw [Int.zero_mul]; exact Int.pow_pos (by decide))
            omega
          · omega
        refine ⟨_, rfl, _, rfl, _, _, rfl, rfl, _, rfl, ?_⟩
        by_cases c : DV.tLeast b t n ≤ g
        · refine iteT' (decide_eq_true c) ?_
          refine ⟨_, rfl, _, rfl, (by show 2 ≤ sizeLine; decide), fun p np => ?_⟩
          exact kY _ p _ g (sG3.trans (Same.new np)) (SqT.of upd_same) l0 c win
        · refine iteF' (decide_eq_false c) ?_
          refine kN _ sG3 ?_
          rintro ⟨m, hm, hA⟩
          have := (win m hm).mp hA
          omega
    refine ⟨_, pss_cons (ps_set (i := 3) scTB.nd rfl (.inr rfl) (pe_op op_oneShl pe_int (pv 2)))
      (pss_cons (ps_set (i := 4) scTB.nd rfl (.inl rfl) (pe_ifExp (pt_cmpR op_ge (pv 1) (pv 0) (nomark _)) (pe_call GU hr rfl gU kU bU .nil pass0 (pa_cons (pv 3) (pa_cons (pv 0) pa_nil))) pe_int))
      (pss_cons (ps_set (i := 5) scTB.nd rfl (.inl rfl) (pe_lst (pa_cons (pv 1) pa_nil)))
      (pss_cons (ps_if (pt_cmpR op_ge (pv 1) (pe_op op_sub (pv 0) pe_int) (nomark _))
        (pss_one (ps_set (i := 5) scTB.nd rfl (.inl rfl) (pe_lst (pa_cons (pv 1) (pa_cons (pe_op op_sub (pv 0) pe_int) (pa_cons (pe_op op_sub (pe_op op_mulW (pe_op op_fdivW (pe_op op_add (pv 1) pe_int) (pv 0)) (pv 0)) pe_int) pa_nil)))))) pss_nil) pR))), ?_⟩
    have bt : Bd 200 t := one60 (by omega) t1
    have bb : Bd 200 b := one60 (by omega) b1
    refine ⟨_, rfl, n, rfl, rfl, by omega, ?_⟩
    have lst : ∀ {Q2 : VK}, Q2 (.int (DV.tLeast b t n)) H → tIf (tTest (tOp (rI0 fun i j => V.bl (decide (j ≤ i))) (tVar 1) (tVar 0))) (tCall spUp [] E0 (tCons (tVar 3) (tCons (tVar 0) tNil))) (tC (V.int 0)) [some (.int b), some (.int t), some (.int (n : Nat)), some (.int (2 ^ n)), none, none, none, none] H Q2 := by
      intro Q2 hQ
      unfold DV.tLeast at hQ
      refine ⟨_, rfl, _, rfl, _, _, rfl, rfl, _, rfl, ?_⟩
      by_cases c : t ≥ b
      · rw [if_pos c] at hQ
        refine iteT' (decide_eq_true c) ?_
        exact ⟨_, rfl, _, rfl, _, _, 200, rfl, by omega, bb, by decide, by decide, hQ⟩
      · rw [if_neg c] at hQ
        exact iteF' (decide_eq_false c) hQ
    refine lst ?_
    refine ⟨_, rfl, (by show 1 ≤ sizeLine; decide), fun a na => ?_⟩
    have sa := Same.new (o := .lst [.int t]) na
    refine ⟨_, rfl, _, rfl, _, _, rfl, rfl, _, _, rfl, rfl, _, rfl, ?_⟩
    by_cases c : t ≥ b - 1
    · refine iteT' (decide_eq_true c) ?_
      refine ⟨_, rfl, _, rfl, _, _, rfl, rfl, _, rfl, _, _, rfl, rfl, _, rfl, _, _, rfl, rfl, bb.d (by omega), _, rfl, _, _, rfl, rfl, Bd.w ((bt.add one_bd).div (show 0 < b by omega)) bb, _, _, rfl, rfl, (by show 3 ≤ sizeLine; decide), fun a2 na2 => ?_⟩
      refine rR _ a2 (sa.trans (Same.new na2)) (SqL.of ?_)
      unfold DV.tight
      rw [if_pos c]
      exact upd_same
    · refine iteF' (decide_eq_false c) ?_
      refine rR _ a sa (SqL.of ?_)
      unfold DV.tight
      rw [if_neg c]
      exact upd_same
end
end KD

set_option Elab.async false
set_option linter.all false
set_option maxRecDepth 100000
set_option maxHeartbeats 8000000
/-! Dividers, the program, h: the least shift -/
namespace KD
open PySem L2
open DV (Dv)
section
variable {P : Program} {w : World} {K : PySem.W.Frag} {mg : Str → Option Value} {base : Heap}
theorem scTF : FnScope ["by", "top", "shift"] ["by", "top", "shift"] (defScope sTF) := ⟨rfl, rfl, rfl, by decide +kernel, rfl, by decide +kernel, by decide +kernel⟩
theorem ok_tf {f fC fT : Addr} {fd fdC fdT : FuncData} (F : Fun K "times_for" "times_for" sTF f fd) (T : TxtI mg)
    (GC : FnOk P w K mg base CX0 3 fC fdC ["number", "least", "most"] spCheck) (kC : PySem.W.keepIn K (.ref fC) = true) (bC : Binds K fdC ["number", "least", "most"] []) (gC : mg "check_between" = some (.ref fC))
    (GT : FnOk P w K mg base CX0 2 fT fdT ["by", "top", "shift"] (spTB K)) (kT : PySem.W.keepIn K (.ref fT) = true) (bT : Binds K fdT ["by", "top", "shift"] []) (gT : mg "times_between" = some (.ref fT)) : FnOk P w K mg base CX0 4 f fd ["by", "top", "shift"] (spTB K) := by
  obtain ⟨t1, hmn⟩ := T.mn
  obtain ⟨t2, hms⟩ := T.ms
  refine F.ok scTF (fun vs H Q E h => ?_) (fun cdv A outer s H vs Q E hr h => ?_)
  · obtain ⟨b, t, n, rfl, _⟩ := h
    rfl
  · have h2 := h
    obtain ⟨b, t, n, rfl, b2, b1, t0, t1', hn, kN, kY⟩ := h
    have hr2 : Room 2 _ := hr.mono (by decide)
    refine ⟨_, pss_cons (ps_expr (pe_call GC hr rfl gC kC bC .nil pass0 (pa_cons (pv 0) (pa_cons pe_int (pa_cons (pe_glob (v := .int (10 ^ 60)) (by rfl) hmn ⟨t1, rfl⟩) pa_nil)))))
      (pss_cons (ps_expr (pe_call GC hr rfl gC kC bC .nil pass0 (pa_cons (pv 1) (pa_cons pe_int (pa_cons (pe_glob (v := .int (10 ^ 60)) (by rfl) hmn ⟨t1, rfl⟩) pa_nil)))))
      (pss_cons (ps_expr (pe_call GC hr rfl gC kC bC .nil pass0 (pa_cons (pv 2) (pa_cons pe_int (pa_cons (pe_glob (v := .int 400) (by rfl) hms ⟨t2, rfl⟩) pa_nil)))))
      (pss_one (ps_ret (pe_call GT hr2 rfl gT kT bT .nil pass0 (pa_cons (pv 0) (pa_cons (pv 1) (pa_cons (pv 2) pa_nil)))))))), ?_⟩
    refine ⟨_, rfl, _, 2, _, rfl, b2, b1, ?_⟩
    refine ⟨_, rfl, _, 1, _, rfl, t0, t1', ?_⟩
    refine ⟨_, rfl, _, 0, _, rfl, by omega, by omega, ?_⟩
    exact ⟨_, rfl, _, rfl, _, rfl, h2⟩
theorem scLS : FnScope ["by", "top", "shift"] ["by", "top"] (defScope sLS) := ⟨rfl, rfl, rfl, by decide +kernel, rfl, by decide +kernel, by decide +kernel⟩
theorem ok_ls {f fC fT : Addr} {fd fdC fdT : FuncData} (F : Fun K "least_shift" "least_shift" sLS f fd) (T : TxtI mg)
    (GC : FnOk P w K mg base CX0 3 fC fdC ["number", "least", "most"] spCheck) (kC : PySem.W.keepIn K (.ref fC) = true) (bC : Binds K fdC ["number", "least", "most"] []) (gC : mg "check_between" = some (.ref fC))
    (GT : FnOk P w K mg base CX0 2 fT fdT ["by", "top", "shift"] (spTB K)) (kT : PySem.W.keepIn K (.ref fT) = true) (bT : Binds K fdT ["by", "top", "shift"] []) (gT : mg "times_between" = some (.ref fT)) : FnOk P w K mg base CX0 4 f fd ["by", "top"] spLS := by
  obtain ⟨t1, hmn⟩ := T.mn
  refine F.ok scLS (fun vs H Q E h => ?_) (fun cdv A outer s H vs Q E hr h => ?_)
  · obtain ⟨b, t, rfl, _⟩ := h
    rfl
  · obtain ⟨b, t, rfl, b2, b1, t0, t1', hl, k⟩ := h
    have hr2 : Room 2 _ := hr.mono (by decide)
    refine ⟨_, pss_cons (ps_expr (pe_call GC hr rfl gC kC bC .nil pass0 (pa_cons (pv 0) (pa_cons pe_int (pa_cons (pe_glob (v := .int (10 ^ 60)) (by rfl) hmn ⟨t1, rfl⟩) pa_nil)))))
      (pss_cons (ps_expr (pe_call GC hr rfl gC kC bC .nil pass0 (pa_cons (pv 1) (pa_cons pe_int (pa_cons (pe_glob (v := .int (10 ^ 60)) (by rfl) hmn ⟨t1, rfl⟩) pa_nil)))))
      (pss_cons (ps_set (i := 2) scLS.nd rfl (.inl rfl) pe_int)
      (pss_cons (ps_while PassesOwn.never (pt_cmpR op_isN (pe_call GT hr2 rfl gT kT bT .nil pass0 (pa_cons (pv 0) (pa_cons (pv 1) (pa_cons (pv 2) pa_nil)))) pe_non (nomark _))
        (pss_one (ps_aug (i := 2) scLS.nd rfl (.inl rfl) pe_int ip_add)))
      (pss_one (ps_ret (pv 2)))))), ?_⟩
    refine ⟨_, rfl, _, 2, _, rfl, b2, b1, ?_⟩
    refine ⟨_, rfl, _, 1, _, rfl, t0, t1', ?_⟩
    refine while_by (fun σ G => ∃ n : Nat, σ = [some (.int b), some (.int t), some (.int (n : Nat))] ∧ Same H G ∧ n ≤ 400 ∧ ∀ k, k < n → ¬ Ex b t k)
      (fun σ _ => match σ with
        | [_, _, some (.int m)] => 401 - m.toNat
        | _ => 0) ⟨0, rfl, Same.refl H, by omega, fun k z => by omega⟩ ?_ ?_
    · rintro σ G ⟨n, rfl, sG, hn, hk⟩
      refine ⟨_, rfl, _, rfl, _, rfl, b, t, n, rfl, b2, b1, t0, t1', hn, fun G2 s2 hN => ?_, fun G2 p l g s2 hp l0 lg hA => ?_⟩
      · have h4 : n ≠ 400 := fun z => hN (by
          rw [z]
          exact DV.some_at b2 t0 (.inl hl))
        refine ⟨rfl, _, rfl, iteT' rfl ?_⟩
        refine ⟨_, rfl, _, _, rfl, rfl, ?_⟩
        refine ⟨⟨n + 1, rfl, sG.trans s2, by omega, fun k z => ?_⟩, ?_⟩
        · by_cases y : k = n
          · rw [y]; exact hN
          · exact hk k (by omega)
        · show 401 - ((n : Int) + 1).toNat < 401 - (n : Int).toNat
          omega
      · refine ⟨rfl, _, rfl, iteF' rfl ?_⟩
        exact ⟨_, rfl, k n _ (sG.trans s2) hn ⟨l, l0, (hA l l0).mpr ⟨Int.le_refl _, lg⟩⟩ hk⟩
    · rintro σ G Q1 Q2 h ⟨x1, e1, x2, e2, x3, e3, b', t', n', e4, c1, c2, c3, c4, c5, c6, c7⟩
      refine ⟨x1, e1, x2, e2, x3, e3, b', t', n', e4, c1, c2, c3, c4, c5, fun G2 s2 hN => ?_, fun G2 p l g s2 hp l0 lg hA => ?_⟩
      · obtain ⟨d1, kk, d2, d3⟩ := c6 G2 s2 hN
        exact ⟨d1, kk, d2, h _ _ d3⟩
      · obtain ⟨d1, kk, d2, d3⟩ := c7 G2 p l g s2 hp l0 lg hA
        exact ⟨d1, kk, d2, h _ _ d3⟩
end
end KD

set_option Elab.async false
set_option linter.all false
set_option maxRecDepth 100000
set_option maxHeartbeats 4000000
/-! Part D: the law's draws -/
namespace KDB
open PySem L2
abbrev sBag : Stmt := KD.top 23
abbrev sDraw : Stmt := KD.top 24
/-! ### the bag -/
def bagL (c : Addr) (p q r z : Int) : List (Key × V) := [(.inr "cells", .ref c), (.inr "at", .int p), (.inr "digits", .int q), (.inr "count", .int r), (.inr "fold", .int z)]
section
variable (c : Addr) (p q r z y : Int)
theorem get_cells : valV (bagL c p q r z) (.inr "cells" : Key) = some (.ref c) := by kernel_rfl
theorem get_at : valV (bagL c p q r z) (.inr "at" : Key) = some (.int p) := by kernel_rfl
theorem get_digits : valV (bagL c p q r z) (.inr "digits" : Key) = some (.int q) := by kernel_rfl
theorem get_count : valV (bagL c p q r z) (.inr "count" : Key) = some (.int r) := by kernel_rfl
theorem get_fold : valV (bagL c p q r z) (.inr "fold" : Key) = some (.int z) := by kernel_rfl
theorem put_at : putK (bagL c p q r z) (.inr "at" : Key) (.int y) = bagL c y q r z := by kernel_rfl
theorem put_digits : putK (bagL c p q r z) (.inr "digits" : Key) (.int y) = bagL c p y r z := by kernel_rfl
theorem put_count : putK (bagL c p q r z) (.inr "count" : Key) (.int y) = bagL c p q y z := by kernel_rfl
theorem put_fold : putK (bagL c p q r z) (.inr "fold" : Key) (.int y) = bagL c p q r y := by kernel_rfl
theorem bag_new : mergeK [] (bagL c p q r z) = bagL c p q r z := by kernel_rfl
end
/-- a bag stands at b, behind at most m draws -/
structure Bag (H : Hp) (b : Addr) (m : Nat) (c : Addr) (ns : List Int) (p q r z : Int) : Prop where
  at_ : H b = some (.dK (bagL c p q r z))
  cs : H c = some (.lst (ns.map V.int))
  len : ns.length ≤ 63
  p0 : 0 ≤ p
  q0 : 0 ≤ q
  r0 : 0 ≤ r
  rm : r ≤ m
  z0 : 0 ≤ z
  z1 : z < 2147483648
section
variable {H : Hp} {b : Addr} {m : Nat} {c : Addr} {ns : List Int} {p q r z : Int}
theorem Bag.g_cells (B : Bag H b m c ns p q r z) : DGet H b (.str "cells") (some (.ref c)) := by
  rw [← get_cells c p q r z]
  exact DGet.k (k := .inr "cells") B.at_
theorem Bag.g_at (B : Bag H b m c ns p q r z) : DGet H b (.str "at") (some (.int p)) := by
  rw [← get_at c p q r z]
  exact DGet.k (k := .inr "at") B.at_
theorem Bag.g_digits (B : Bag H b m c ns p q r z) : DGet H b (.str "digits") (some (.int q)) := by
  rw [← get_digits c p q r z]
  exact DGet.k (k := .inr "digits") B.at_
theorem Bag.g_count (B : Bag H b m c ns p q r z) : DGet H b (.str "count") (some (.int r)) := by
  rw [← get_count c p q r z]
  exact DGet.k (k := .inr "count") B.at_
theorem Bag.g_fold (B : Bag H b m c ns p q r z) : DGet H b (.str "fold") (some (.int z)) := by
  rw [← get_fold c p q r z]
  exact DGet.k (k := .inr "fold") B.at_
theorem few5 : (bagL c p q r z).length < sizeLine := by
  show 5 < sizeLine
  decide
theorem Bag.p_at (B : Bag H b m c ns p q r z) (y : Int) : DPut H b (.str "at") (.int y) (upd H b (.dK (bagL c y q r z))) := by
  rw [← put_at c p q r z y]
  exact DPut.k (k := .inr "at") B.at_ few5
theorem Bag.p_digits (B : Bag H b m c ns p q r z) (y : Int) : DPut H b (.str "digits") (.int y) (upd H b (.dK (bagL c p y r z))) := by
  rw [← put_digits c p q r z y]
  exact DPut.k (k := .inr "digits") B.at_ few5
theorem Bag.p_count (B : Bag H b m c ns p q r z) (y : Int) : DPut H b (.str "count") (.int y) (upd H b (.dK (bagL c p q y z))) := by
  rw [← put_count c p q r z y]
  exact DPut.k (k := .inr "count") B.at_ few5
theorem Bag.p_fold (B : Bag H b m c ns p q r z) (y : Int) : DPut H b (.str "fold") (.int y) (upd H b (.dK (bagL c p q r y))) := by
  rw [← put_fold c p q r z y]
  exact DPut.k (k := .inr "fold") B.at_ few5
end
def BagAt (c : Addr) (H : Hp) (b : Addr) (m : Nat) : Prop := ∃ ns p q r z, Bag H b m c ns p q r z
theorem BagAt.keep {c : Addr} {H H' : Hp} {b : Addr} {m : Nat} (h : BagAt c H b m) (s : Same H H') : BagAt c H' b m := by
  obtain ⟨ns, p, q, r, z, B⟩ := h
  exact ⟨ns, p, q, r, z, s _ _ B.at_, s _ _ B.cs, B.len, B.p0, B.q0, B.r0, B.rm, B.z0, B.z1⟩
theorem bag_upd {H : Hp} {b c : Addr} {m m' : Nat} {ns : List Int} {p q r z p' q' r' z' : Int} (B : Bag H b m c ns p q r z) (hp : 0 ≤ p') (hq : 0 ≤ q') (hr : 0 ≤ r') (hm : r' ≤ m') (hz : 0 ≤ z') (hz1 : z' < 2147483648) :
    Bag (upd H b (.dK (bagL c p' q' r' z'))) b m' c ns p' q' r' z' :=
  ⟨upd_same, by rw [upd_ne (ne_of B.cs B.at_ (by intro z; cases z))]; exact B.cs, B.len, hp, hq, hr, hm, hz, hz1⟩
def spBag (K : PySem.W.Frag) : Sp := fun vs H Q _ => ∃ (a : Addr) (ns : List Int), vs = [.ref a] ∧ SqL K H a (ns.map V.int) ∧ ns.length ≤ 63 ∧ ∀ (b c : Addr) (H' : Hp), Same H H' → BagAt c H' b 0 → Q (.ref b) H'
/-- all but b is kept -/
def But (b : Addr) (H H' : Hp) : Prop := ∀ x o, H x = some o → x ≠ b → H' x = some o
theorem But.refl (b : Addr) (H : Hp) : But b H H := fun _ _ h _ => h
theorem But.trans {b : Addr} {H H1 H2 : Hp} (h1 : But b H H1) (h2 : But b H1 H2) : But b H H2 := fun x o h n => h2 x o (h1 x o h n) n
theorem But.upd {b : Addr} {H H1 : Hp} {o : HO} (h1 : But b H H1) : But b H (upd H1 b o) := fun x u h n => by rw [upd_ne n]; exact h1 x u h n
def spDraw : Sp := fun vs H Q _ => ∃ (b c : Addr) (lim : Int) (m : Nat), vs = [.ref b, .int lim] ∧ BagAt c H b m ∧ m ≤ 100000 ∧ 0 < lim ∧ lim ≤ 1000000000000000 ∧
  ∀ (r : Int) (H' : Hp), 0 ≤ r → r < lim → BagAt c H' b (m + 1) → But b H H' → Q (.int r) H'
/-- the names that the module does not have -/
structure TxtB (mg : Str → Option Value) : Prop where
  len : mg "len" = none
  int : mg "int" = none
  list : mg "list" = none
  range : mg "range" = none
section
variable {P : Program} {w : World} {K : PySem.W.Frag} {mg : Str → Option Value} {base : Heap}
theorem scB : FnScope ["_law_script", "_law_fold", "_law_cell"] ["_law_script"] (defScope sBag) := ⟨rfl, rfl, rfl, by decide +kernel, rfl, by decide +kernel, by decide +kernel⟩
theorem ok_bag {f : Addr} {fd : FuncData} (F : Fun K "_law_bag" "_law_bag" sBag f fd) (T : TxtB mg) : FnOk P w K mg base CX0 1 f fd ["_law_script"] (spBag K) := by
  refine F.ok scB (fun vs H Q E h => ?_) (fun cdv A outer s H vs Q E hr h => ?_)
  · obtain ⟨a, ns, rfl, _⟩ := h
    rfl
  · obtain ⟨a, ns, rfl, hS, hlen, k⟩ := h
    have hu := hu_of hr
    refine ⟨_, pss_cons (ps_set (i := 1) scB.nd rfl (Or.inl rfl) pe_int)
      (pss_cons (ps_for PassesOwn.never rfl (pi_list (pv 0)) (pg_name (i := 2) scB.nd rfl (Or.inl rfl))
        (pss_one (ps_set (i := 1) scB.nd rfl (Or.inl rfl) (pe_op op_mod (pe_callTy call_int1 (by rfl) T.int (by decide +kernel) (pa_cons (pe_op op_add (pe_op op_mul (pv 1) pe_int) (pv 2)) pa_nil)) pe_int))))
      (pss_one (ps_ret (pe_disp (pps_cons pe_str (pe_callTy call_list_of (by rfl) T.list (by decide +kernel) (pa_cons (pv 0) pa_nil)) (pps_cons pe_str pe_int (pps_cons pe_str pe_int (pps_cons pe_str pe_int (pps_cons pe_str (pv 1) pps_nil))))) (by rfl) (by rfl) (fun z => by cases z) (by decide))))), ?_⟩
    refine ⟨_, rfl, a, rfl, ⟨_, hS⟩, for_list (K := K) (a := a) (xs := ns.map V.int) (fun i σ H2 => ∃ (z : Int) (v : Option V), σ = [some (.ref a), some (.int z), v] ∧ H2 = H ∧ 0 ≤ z ∧ z < 1000000021)
      ⟨0, none, rfl, rfl, by decide, by decide⟩ (fun i σ H2 _ ⟨_, _, _, e, _⟩ => by rw [e]; exact hS) ?_ ?_⟩
    · rintro i y σ H2 hi ⟨z, v, rfl, rfl, z0, z1⟩
      obtain ⟨n, rfl⟩ : ∃ n, y = V.int n := by
        rw [List.getElem?_map] at hi
        cases e : ns[i]? with
        | none => rw [e] at hi; cases hi
        | some n => rw [e] at hi; exact ⟨n, (Option.some.inj hi).symm⟩
      refine ⟨_, rfl, _, _, rfl, rfl, .inl ⟨by omega, by omega⟩, _, rfl, _, _, rfl, rfl, .inl ⟨_, rfl, _, _, rfl, rfl, (by show (0 : Int) < 1000000021; decide), ?_⟩⟩
      exact ⟨_, _, rfl, rfl, Int.emod_nonneg _ (by decide), Int.emod_lt_of_pos _ (by decide)⟩
    · rintro σ H2 ⟨z, v, rfl, rfl, z0, z1⟩
      intro p hp
      have s1 : Same H2 (upd H2 p (.dK [])) := fun b o e => by rw [upd_ne (ne_of_none e hp)]; exact e
      refine ⟨_, rfl, a, _, rfl, .inl (s1.seq hS), fun l hl => ?_⟩
      have npl : p ≠ l := fun e => by rw [e, upd_same] at hl; cases hl
      refine ⟨_, rfl, by rw [upd_ne npl]; exact upd_same, bagL l 0 0 0 z, rfl, by show 5 ≤ 15; decide, ?_⟩
      refine k p l _ (fun b o e => ?_) ⟨ns, 0, 0, 0, z, ?_, ?_, hlen, Int.le_refl _, Int.le_refl _, Int.le_refl _, Int.le_refl _, z0, by omega⟩
      · have bp := ne_of_none e hp
        have bl : b ≠ l := fun z => by rw [← z, upd_ne bp, e] at hl; cases hl
        rw [upd_ne bp, upd_ne bl, upd_ne bp]
        exact e
      · rw [bag_new]
        exact upd_same
      · rw [upd_ne npl.symm]
        exact upd_same
theorem scD : FnScope ["_law_bag_here", "_law_limit", "_law_cell", "_law_digit", "_law_base", "_law_found"] ["_law_bag_here", "_law_limit"] (defScope sDraw) := ⟨rfl, rfl, rfl, by decide +kernel, rfl, by decide +kernel, by decide +kernel⟩
theorem ok_draw {f : Addr} {fd : FuncData} (F : Fun K "_law_draw" "_law_draw" sDraw f fd) (T : TxtB mg) : FnOk P w K mg base CX0 1 f fd ["_law_bag_here", "_law_limit"] spDraw := by
  refine F.ok scD (fun vs H Q E h => ?_) (fun cdv A outer s H vs Q E hr h => ?_)
  · obtain ⟨b, c, lim, m, rfl, _⟩ := h
    rfl
  · obtain ⟨b, c, lim, m, rfl, hB, hm, h0, h1, k⟩ := h
    have hu := hu_of hr
    -- the end: a digit, or a number of the fold
    obtain ⟨t2, p2, r2⟩ : ∃ t2, PSs (cxOf CX0 P w K mg base ["_law_bag_here", "_law_limit", "_law_cell", "_law_digit", "_law_base", "_law_found"] "_law_draw" (defScope sDraw) f cdv A outer s H E).nox ((defBody sDraw).drop 2) t2 ∧
        ∀ (H1 : Hp) (v : Option V), BagAt c H1 b (m + 1) → But b H H1 → t2 { nx := fun _ H' => Q .non H', rt := Q } [some (.ref b), some (.int lim), v, none, none, none] H1 := by
      refine ⟨_, pss_cons (ps_if (pt_cmpR op_gt (pe_dget hu (pv 0) pe_str (fun _ _ => rfl)) pe_int (nomark _))
          (pss_cons (ps_set (i := 3) scD.nd rfl (Or.inl rfl) (pe_op op_mod (pe_callTy call_int1 (by rfl) T.int (by decide +kernel) (pa_cons (pe_dget hu (pv 0) pe_str (fun _ _ => rfl)) pa_nil)) (pv 1)))
          (pss_cons (ps_dput hu (pv 0) pe_str (pe_op op_fdivW (pe_dget hu (pv 0) pe_str (fun _ _ => rfl)) (pv 1)) rfl)
          (pss_one (ps_ret (pv 3))))) pss_nil)
        (pss_cons (ps_set (i := 4) scD.nd rfl (Or.inl rfl) (pe_op op_add (pe_op op_add (pe_dget hu (pv 0) pe_str (fun _ _ => rfl)) (pe_op op_mul (pe_dget hu (pv 0) pe_str (fun _ _ => rfl)) pe_int)) pe_int))
        (pss_cons (ps_set (i := 5) scD.nd rfl (Or.inl rfl) (pe_op op_fdiv (pe_callTy call_int1 (by rfl) T.int (by decide +kernel) (pa_cons (pe_op op_mod (pe_op op_pow (pv 4) pe_int) pe_int) pa_nil)) pe_int))
        (pss_one (ps_ret (pe_ifExp (pt_cmpR op_lt (pv 1) (pe_op op_pow pe_int pe_int) (nomark _)) (pe_op op_mod (pv 5) (pv 1)) (pe_op op_mod (pe_callTy call_int1 (by rfl) T.int (by decide +kernel) (pa_cons (pe_op op_pow (pv 5) pe_int) pa_nil)) (pv 1))))))), ?_⟩
      intro H1 v ⟨ns, p, q, r, z, B⟩ hk
      refine ⟨_, rfl, b, _, rfl, B.g_digits, _, _, rfl, rfl, _, rfl, ?_⟩
      refine ite2 (fun hq => ?_) (fun hq => ?_)
      · refine ⟨_, rfl, b, _, rfl, B.g_digits, .inl ⟨_, rfl, _, rfl, _, _, rfl, rfl, h0, ?_⟩⟩
        have hw : CDivW q lim := wide_div (b := 60) h0 (by
          have e : (2 : Nat) ^ 60 = 1152921504606846976 := by decide
          rw [e]
          omega) (by decide) (by decide)
        refine ⟨_, rfl, b, _, rfl, B.g_digits, _, rfl, q, lim, rfl, rfl, hw, _, rfl, b, _, rfl, B.p_digits _, _, rfl, ?_⟩
        exact k _ _ (Int.emod_nonneg _ (by omega)) (Int.emod_lt_of_pos _ h0) ⟨ns, _, _, _, _, bag_upd B B.p0 (Int.ediv_nonneg B.q0 (by omega)) B.r0 B.rm B.z0 B.z1⟩ hk.upd
      · refine ⟨_, rfl, b, _, rfl, B.g_fold, _, rfl, b, _, rfl, B.g_count, r, 7919, rfl, rfl, .inl ⟨by have := B.r0; omega, by have := B.rm; omega⟩, z, _, rfl, rfl, z + r * 7919, 37, rfl, rfl, ?_⟩
        have hb0 : 0 ≤ z + r * 7919 + 37 := by
          have := B.r0
          have := B.z0
          omega
        have hb1 : (z + r * 7919 + 37).natAbs < 2 ^ 64 := by
          have e : (2 : Nat) ^ 64 = 18446744073709551616 := by decide
          rw [e]
          have := B.rm
          have := B.r0
          have := B.z1
          omega
        have hl : ∀ x y : Int, 0 ≤ x % lim ∧ x % lim < lim := fun x _ => ⟨Int.emod_nonneg _ (by omega), Int.emod_lt_of_pos _ h0⟩
        refine ⟨_, rfl, _, 17, rfl, rfl, ⟨by decide, by decide, hb1⟩, _, _, rfl, rfl, (by show (0 : Int) < 2305843009213693951; decide), .inl ⟨_, rfl, _, 128, rfl, rfl, ⟨by decide, by decide⟩, ?_⟩⟩
        have f0 : 0 ≤ (z + r * 7919 + 37) ^ Int.toNat 17 % 2305843009213693951 / 128 := Int.ediv_nonneg (Int.emod_nonneg _ (by decide)) (by decide)
        have f1 : (z + r * 7919 + 37) ^ Int.toNat 17 % 2305843009213693951 / 128 < 18446744073709551616 := by
          have := Int.emod_lt_of_pos ((z + r * 7919 + 37) ^ Int.toNat 17) (show (0 : Int) < 2305843009213693951 by decide)
          omega
        have f2 : ((z + r * 7919 + 37) ^ Int.toNat 17 % 2305843009213693951 / 128).natAbs < 2 ^ 64 := by
          have e : (2 : Nat) ^ 64 = 18446744073709551616 := by decide
          rw [e]
          omega
        have B' : BagAt c H1 b (m + 1) := ⟨ns, p, q, r, z, B⟩
        refine ⟨_, rfl, 10, 15, rfl, rfl, ⟨by decide, by decide, by decide⟩, _, _, rfl, rfl, _, rfl, ?_⟩
        refine ite2 (fun _ => ?_) (fun _ => ?_)
        · exact ⟨_, rfl, _, rfl, _, _, rfl, rfl, h0, k _ _ (hl _ 0).1 (hl _ 0).2 B' hk⟩
        · exact ⟨_, rfl, _, 3, rfl, rfl, ⟨by decide, by decide, f2⟩, .inl ⟨_, rfl, _, rfl, _, _, rfl, rfl, h0, k _ _ (hl _ 0).1 (hl _ 0).2 B' hk⟩⟩
    refine ⟨_, pss_cons (ps_dput hu (pv 0) pe_str (pe_op op_add (pe_dget hu (pv 0) pe_str (fun _ _ => rfl)) pe_int) rfl)
      (pss_cons (ps_if (PW.pt (pw_and (pt_cmpR op_eq (pe_dget hu (pv 0) pe_str (fun _ _ => rfl)) pe_int (nomark _)) (pw_and1 (pt_cmpR op_lt (pe_dget hu (pv 0) pe_str (fun _ _ => rfl)) (pe_callB call_len_seq (by rfl) T.len PySem.boot_len (pa_cons (pe_dget hu (pv 0) pe_str (fun _ _ => rfl)) pa_nil)) (nomark _)))))
        (pss_cons (ps_set (i := 2) scD.nd rfl (Or.inl rfl) (pe_ix ix_list (pe_dget hu (pv 0) pe_str (fun _ _ => rfl)) (pe_dget hu (pv 0) pe_str (fun _ _ => rfl)) (fun _ _ => rfl)))
        (pss_cons (ps_dput hu (pv 0) pe_str (pe_op op_add (pe_dget hu (pv 0) pe_str (fun _ _ => rfl)) pe_int) rfl)
        (pss_one (ps_if (pt_cmpR op_ge (pv 2) (pe_op op_pow pe_int pe_int) (nomark _))
          (pss_one (ps_dput hu (pv 0) pe_str (pe_op op_sub (pv 2) (pe_op op_pow pe_int pe_int)) rfl))
          (pss_one (ps_dput hu (pv 0) pe_str (pe_op op_mod (pe_callTy call_int1 (by rfl) T.int (by decide +kernel) (pa_cons (pe_op op_add (pe_op op_mul (pe_dget hu (pv 0) pe_str (fun _ _ => rfl)) pe_int) (pv 2)) pa_nil)) pe_int) rfl))))))
        pss_nil) p2), ?_⟩
    obtain ⟨ns, p, q, r, z, B⟩ := hB
    refine ⟨_, rfl, b, _, rfl, B.g_count, r, 1, rfl, rfl, _, rfl, b, _, rfl, B.p_count _, ?_⟩
    have B1 : Bag (upd H b (.dK (bagL c p q (r + 1) z))) b (m + 1) c ns p q (r + 1) z := bag_upd B B.p0 B.q0 (by have := B.r0; omega) (by have := B.rm; omega) B.z0 B.z1
    have k1 : But b H (upd H b (.dK (bagL c p q (r + 1) z))) := (But.refl b H).upd
    refine ⟨_, rfl, b, _, rfl, B1.g_digits, rfl, _, rfl, ?_⟩
    refine ite2 (fun hq => ?_) (fun hq => ?_)
    · refine ⟨_, rfl, b, _, rfl, B1.g_at, _, rfl, b, _, rfl, B1.g_cells, c, _, rfl, .inl (SqL.of B1.cs), _, _, rfl, rfl, _, rfl, ?_⟩
      refine ite2 (fun hp => ?_) (fun hp => ?_)
      · have hp' : p < ((ns.map V.int).length : Int) := of_decide_eq_true hp
        rw [List.length_map] at hp'
        have hpn : p.toNat < ns.length := by have := B.p0; omega
        obtain ⟨cell, hcell⟩ : ∃ cell : Int, ns[p.toNat]? = some cell := ⟨_, List.getElem?_eq_getElem hpn⟩
        have hit : (ns.map V.int)[p.toNat]? = some (V.int cell) := by simp [hcell]
        have hat : atI (ns.map V.int) p = some (V.int cell) := by
          have e : p = (p.toNat : Int) := by have := B.p0; omega
          rw [e]
          exact atI_nat hit
        have B2 : Bag (upd (upd H b (.dK (bagL c p q (r + 1) z))) b (.dK (bagL c (p + 1) q (r + 1) z))) b (m + 1) c ns (p + 1) q (r + 1) z := bag_upd B1 (by have := B.p0; omega) B1.q0 B1.r0 B1.rm B1.z0 B1.z1
        refine ⟨_, rfl, b, _, rfl, B1.g_cells, _, rfl, b, _, rfl, B1.g_at, c, _, p, _, rfl, rfl, SqL.of B1.cs, hat, ?_⟩
        refine ⟨_, rfl, b, _, rfl, B1.g_at, p, 1, rfl, rfl, _, rfl, b, _, rfl, B1.p_at _, ?_⟩
        refine ⟨_, rfl, 10, 18, rfl, rfl, ⟨by decide, by decide, by decide⟩, _, _, rfl, rfl, _, rfl, ?_⟩
        refine ite2 (fun hc => ?_) (fun hc => ?_)
        · have hc' : (10 : Int) ^ Int.toNat 18 ≤ cell := of_decide_eq_true hc
          refine ⟨_, rfl, 10, 18, rfl, rfl, ⟨by decide, by decide, by decide⟩, _, _, rfl, rfl, _, rfl, b, _, rfl, B2.p_digits _, ?_⟩
          exact r2 _ _ ⟨ns, _, _, _, _, bag_upd B2 B2.p0 (by omega) B2.r0 B2.rm B2.z0 B2.z1⟩ k1.upd.upd
        · refine ⟨_, rfl, b, _, rfl, B2.g_fold, z, 69069, rfl, rfl, .inl ⟨by have := B.z0; omega, by have := B.z1; omega⟩, _, rfl, _, cell, rfl, rfl, .inl ⟨_, rfl, _, 2147483629, rfl, rfl, (by show (0 : Int) < 2147483629; decide), _, rfl, b, _, rfl, B2.p_fold _, ?_⟩⟩
          refine r2 _ _ ⟨ns, _, _, _, _, bag_upd B2 B2.p0 B2.q0 B2.r0 B2.rm (Int.emod_nonneg _ (by decide)) ?_⟩ k1.upd.upd
          have := Int.emod_lt_of_pos (z * 69069 + cell) (show (0 : Int) < 2147483629 by decide)
          omega
      · exact r2 _ none ⟨ns, p, q, _, z, B1⟩ k1
    · exact r2 _ none ⟨ns, p, q, _, z, B1⟩ k1
end
end KDB

set_option Elab.async false
set_option linter.all false
set_option maxRecDepth 100000
set_option maxHeartbeats 8000000
/-! k62, the law, a: picks, powers, great numbers, what is right -/
namespace KD
open PySem L2
open DV (Dv)
open KDB (TxtB BagAt spBag spDraw)
abbrev sPick : Stmt := top 25
abbrev sPower : Stmt := top 26
theorem bag_obj {c : Addr} {H : Hp} {b : Addr} {m : Nat} (B : BagAt c H b m) : ∃ o, H b = some (.dK o) := by
  obtain ⟨ns, p, q, r, z, B⟩ := B
  exact ⟨_, B.at_⟩
theorem BagAt.up {c : Addr} {H : Hp} {b : Addr} {m n : Nat} (B : BagAt c H b m) (h : m ≤ n) : BagAt c H b n := by
  obtain ⟨ns, p, q, r, z, B⟩ := B
  exact ⟨ns, p, q, r, z, B.at_, B.cs, B.len, B.p0, B.q0, B.r0, Int.le_trans B.rm (by omega), B.z0, B.z1⟩
theorem bag_ne {c : Addr} {H : Hp} {b a : Addr} {m : Nat} {o : HO} (B : BagAt c H b m) (h : H a = some o) (ho : ∀ l, o ≠ .dK l) : a ≠ b := fun z => by
  obtain ⟨l, e⟩ := bag_obj B
  rw [z, e] at h
  exact ho l (Option.some.inj h).symm
theorem DvAt.but {C : Addr} {H H' : Hp} {p : Addr} {D : Dv} {c b : Addr} {m : Nat} (h : DvAt C H p D) (B : BagAt c H b m) (k : But b H H') : DvAt C H' p D := by
  obtain ⟨dx, e⟩ := h
  exact ⟨dx, k _ _ e (bag_ne B e (by intro l z; cases z))⟩
def spPick : Sp := fun vs H Q _ => ∃ (b c a : Addr) (m : Nat) (xs : List V), vs = [.ref b, .ref a] ∧ BagAt c H b m ∧ m ≤ 100000 ∧ H a = some (.lst xs) ∧ xs ≠ [] ∧ xs.length ≤ 1000 ∧ ∀ v H', v ∈ xs → BagAt c H' b (m + 1) → But b H H' → Q v H'
def spPower : Sp := fun vs H Q _ => ∃ n : Nat, vs = [.int (n : Nat)] ∧ n ≤ 400 ∧ Q (.int (2 ^ n)) H
section
variable {P : Program} {w : World} {K : PySem.W.Frag} {mg : Str → Option Value} {base : Heap}
theorem scPick : FnScope ["_law_bag_here", "_law_pool"] ["_law_bag_here", "_law_pool"] (defScope sPick) := ⟨rfl, rfl, rfl, by decide +kernel, rfl, by decide +kernel, by decide +kernel⟩
theorem ok_pick {f fD : Addr} {fd fdD : FuncData} (F : Fun K "_law_pick" "_law_pick" sPick f fd) (T : TxtB mg)
    (GD : FnOk P w K mg base CX0 1 fD fdD ["_law_bag_here", "_law_limit"] spDraw) (kD : PySem.W.keepIn K (.ref fD) = true) (bD : Binds K fdD ["_law_bag_here", "_law_limit"] []) (gD : mg "_law_draw" = some (.ref fD)) : FnOk P w K mg base CX0 2 f fd ["_law_bag_here", "_law_pool"] spPick := by
  refine F.ok scPick (fun vs H Q E h => ?_) (fun cdv A outer s H vs Q E hr h => ?_)
  · obtain ⟨b, c, a, m, xs, rfl, _⟩ := h
    rfl
  · obtain ⟨b, c, a, m, xs, rfl, hB, hm, ha, hne, hlen, k⟩ := h
    refine ⟨_, pss_one (ps_ret (pe_ix ix_list (pv 1) (pe_call GD hr rfl gD kD bD .nil pass0 (pa_cons (pv 0) (pa_cons (pe_callB call_len_seq (by rfl) T.len PySem.boot_len (pa_cons (pv 1) pa_nil)) pa_nil))) (fun _ _ => rfl))), ?_⟩
    have hp : 0 < xs.length := List.length_pos_iff.mpr hne
    refine ⟨_, rfl, _, rfl, _, rfl, a, _, rfl, .inl (SqL.of ha), b, c, _, m, rfl, hB, hm, by omega, by omega, fun r G r0 r1 B e => ?_⟩
    obtain ⟨n, rfl⟩ : ∃ n : Nat, r = (n : Int) := ⟨r.toNat, by omega⟩
    have hn : n < xs.length := by omega
    have ga : G a = some (.lst xs) := e _ _ ha (bag_ne hB ha (by intro l z; cases z))
    exact ⟨a, xs, _, xs[n], rfl, rfl, SqL.of ga, atI_nat (List.getElem?_eq_getElem hn), k _ _ (List.getElem_mem hn) B e⟩
theorem scPower : FnScope ["_law_bits", "_law_found", "_law_k"] ["_law_bits"] (defScope sPower) := ⟨rfl, rfl, rfl, by decide +kernel, rfl, by decide +kernel, by decide +kernel⟩
theorem ok_power {f : Addr} {fd : FuncData} (F : Fun K "_law_power" "_law_power" sPower f fd) (T : TxtB mg) : FnOk P w K mg base CX0 1 f fd ["_law_bits"] spPower := by
  refine F.ok scPower (fun vs H Q E h => ?_) (fun cdv A outer s H vs Q E hr h => ?_)
  · obtain ⟨n, rfl, _⟩ := h
    rfl
  · obtain ⟨n, rfl, hn, k⟩ := h
    refine ⟨_, pss_cons (ps_set (i := 1) scPower.nd rfl (.inl rfl) pe_int)
      (pss_cons (ps_for PassesOwn.never rfl (pi_range1 (by rfl) T.range (pa_cons (pv 0) pa_nil)) (pg_name (i := 2) scPower.nd rfl (Or.inl rfl))
        (pss_one (ps_set (i := 1) scPower.nd rfl (.inl rfl) (pe_op op_mul (pv 1) pe_int))))
      (pss_one (ps_ret (pv 1)))), ?_⟩
    refine ⟨_, rfl, (n : Int), rfl, by omega, by omega, ?_⟩
    rw [Int.toNat_natCast]
    refine for_range (lo := 0) (n := n) (fun i σ G => ∃ v, σ = [some (.int (n : Nat)), some (.int (2 ^ i)), v] ∧ G = H) ⟨none, rfl, rfl⟩ ?_ ?_
    · rintro i σ G hi ⟨v, rfl, rfl⟩
      refine ⟨_, rfl, _, _, rfl, rfl, .inr ⟨by decide, by decide⟩, ?_⟩
      exact ⟨_, by rw [show (2 : Int) ^ (i + 1) = 2 ^ i * 2 from Int.pow_succ ..]; rfl, rfl⟩
    · rintro σ G ⟨v, rfl, rfl⟩
      exact ⟨_, rfl, k⟩
end
end KD

set_option Elab.async false
set_option linter.all false
set_option maxRecDepth 100000
set_option maxHeartbeats 8000000
/-! k61, the law, a: times by trying -/
namespace KD
open PySem L2
open DV (Dv)
open KDB (TxtB BagAt spBag spDraw)
abbrev sNone : Stmt := top 27
abbrev sRefused : Stmt := top 28
abbrev sWin : Stmt := top 29
abbrev sAllR : Stmt := top 30
abbrev sNames : Stmt := top 31
abbrev sLaw : Stmt := top 32
/-- the wrong ones below n -/
def fl (b m : Int) (s : Nat) : Nat → List Int
  | 0 => []
  | n + 1 => fl b m s n ++ if (n : Int) * m / 2 ^ s = (n : Int) / b then [] else [(n : Int)]
theorem fl_len {b m : Int} {s : Nat} : ∀ n : Nat, (fl b m s n).length ≤ n
  | 0 => Nat.le_refl _
  | n + 1 => by
    have ih := fl_len (b := b) (m := m) (s := s) n
    show (fl b m s n ++ _).length ≤ _
    rw [List.length_append]
    split <;> simp <;> omega
theorem fl_nil {b m : Int} {s : Nat} : ∀ {n : Nat}, fl b m s n = [] ↔ ∀ x : Int, 0 ≤ x → x < (n : Int) → Dv.R ⟨b, m, 0, s⟩ x
  | 0 => ⟨fun _ x a b => by omega, fun _ => rfl⟩
  | n + 1 => by
    show fl b m s n ++ _ = [] ↔ _
    rw [List.append_eq_nil_iff, fl_nil (n := n)]
    have e : ((if (n : Int) * m / 2 ^ s = (n : Int) / b then [] else [(n : Int)]) = ([] : List Int)) ↔ Dv.R ⟨b, m, 0, s⟩ (n : Int) := by
      have er : Dv.R ⟨b, m, 0, s⟩ (n : Int) ↔ (n : Int) * m / 2 ^ s = (n : Int) / b := by
        unfold Dv.R Dv.told Dv.W
        show ((n : Int) * m + 0) / 2 ^ s = (n : Int) / b ↔ _
        rw [Int.add_zero]
      rw [er]
      split
      · rename_i h; exact ⟨fun _ => h, fun _ => rfl⟩
      · rename_i h; exact ⟨fun z => (by cases z), fun z => absurd z h⟩
    rw [e]
    constructor
    · rintro ⟨h1, h2⟩ x x0 x1
      by_cases c : x = (n : Int)
      · rw [c]; exact h2
      · exact h1 x x0 (by omega)
    · exact fun h => ⟨fun x x0 x1 => h x x0 (by omega), h _ (by omega) (by omega)⟩
/-- the right times below n -/
def gl (b : Int) (t s : Nat) : Nat → List Int
  | 0 => []
  | n + 1 => gl b t s n ++ if fl b (n : Int) s (t + 1) = [] then [(n : Int)] else []
theorem gl_len {b : Int} {t s : Nat} : ∀ n : Nat, (gl b t s n).length ≤ n
  | 0 => Nat.le_refl _
  | n + 1 => by
    have ih := gl_len (b := b) (t := t) (s := s) n
    show (gl b t s n ++ _).length ≤ _
    rw [List.length_append]
    split <;> simp <;> omega
theorem fl_all {b m : Int} {s t : Nat} : fl b m s (t + 1) = [] ↔ DV.AllR b (t : Int) s m := by
  rw [fl_nil]
  exact ⟨fun h x a c => h x a (show x < ((t + 1 : Nat) : Int) by omega), fun h x a c => h x a (by omega)⟩
theorem gl_mem {b : Int} {t s : Nat} {y : Int} : ∀ {n : Nat}, y ∈ gl b t s n ↔ 0 ≤ y ∧ y < n ∧ DV.AllR b (t : Int) s y
  | 0 => by
    show y ∈ [] ↔ _
    constructor
    · intro h; cases h
    · rintro ⟨a, b, _⟩; omega
  | n + 1 => by
    show y ∈ gl b t s n ++ _ ↔ _
    rw [List.mem_append, gl_mem (n := n)]
    constructor
    · rintro (⟨a, b, c⟩ | h)
      · exact ⟨a, by omega, c⟩
      · split at h
        · rename_i hr
          rw [List.mem_singleton.mp h]
          exact ⟨by omega, by omega, fl_all.mp hr⟩
        · cases h
    · rintro ⟨a, b, c⟩
      by_cases z : y = (n : Int)
      · right
        rw [if_pos (by rw [← z]; exact fl_all.mpr c), z]
        exact List.mem_singleton.mpr rfl
      · left
        exact ⟨a, by omega, c⟩
theorem gl_sorted {b : Int} {t s : Nat} : ∀ n : Nat, (gl b t s n).Pairwise (· < ·)
  | 0 => List.Pairwise.nil
  | n + 1 => by
    show ((gl b t s n) ++ _).Pairwise _
    rw [List.pairwise_append]
    refine ⟨gl_sorted n, ?_, ?_⟩
    · split
      · exact List.pairwise_singleton _ _
      · exact List.Pairwise.nil
    · intro a ha b hb
      have h1 := gl_mem.mp ha
      split at hb
      · have := List.mem_singleton.mp hb
        omega
      · cases hb
theorem all_small {b t m : Int} {s : Nat} (hb : 2 ≤ b) (ht : 1 ≤ t) (h : DV.AllR b t s m) : m < 2 ^ s := by
  have h1 := (DV.R0_iff.mp (h 1 (by omega) ht)).2
  rw [Int.ediv_eq_zero_of_lt (by omega) (by omega)] at h1
  omega
theorem all_conv {b t l g m : Int} {s : Nat} (hl : DV.AllR b t s l) (hg : DV.AllR b t s g) (h1 : l ≤ m) (h2 : m ≤ g) : DV.AllR b t s m := fun x x0 xt => by
  have a1 := DV.R0_iff.mp (hl x x0 xt)
  have a2 := DV.R0_iff.mp (hg x x0 xt)
  have a3 := Int.mul_le_mul_of_nonneg_left h1 x0
  have a4 := Int.mul_le_mul_of_nonneg_left h2 x0
  exact DV.R0_iff.mpr ⟨by omega, by omega⟩
/-- the first and the last of them -/
theorem gl_ends {b : Int} {t s n : Nat} (hb : 2 ≤ b) (ht : 1 ≤ (t : Int)) (hn : n = 2 ^ s + 1) (h : gl b t s n ≠ []) :
    ∃ (l g : Int) (r q : List Int), gl b t s n = l :: r ∧ gl b t s n = q ++ [g] ∧ 0 ≤ l ∧ l ≤ g ∧ ∀ m, 0 ≤ m → (DV.AllR b t s m ↔ l ≤ m ∧ m ≤ g) := by
  cases e : gl b t s n with
  | nil => exact absurd e h
  | cons l r =>
    obtain ⟨q, g, e2⟩ : ∃ q g, l :: r = q ++ [g] := ⟨(l :: r).dropLast, (l :: r).getLast (by simp), (List.dropLast_concat_getLast (by simp)).symm⟩
    have so := gl_sorted (b := b) (t := t) (s := s) n
    have hl : l ∈ gl b t s n := by rw [e]; exact List.mem_cons_self ..
    have hg : g ∈ gl b t s n := by rw [e, e2]; simp
    have ml := gl_mem.mp hl
    have mg := gl_mem.mp hg
    have fst : ∀ m ∈ gl b t s n, l ≤ m := fun m hm => by
      rw [e] at hm so
      rcases List.mem_cons.mp hm with z | z
      · omega
      · exact Int.le_of_lt ((List.pairwise_cons.mp so).1 m z)
    have lst : ∀ m ∈ gl b t s n, m ≤ g := fun m hm => by
      rw [e, e2] at hm so
      rcases List.mem_append.mp hm with z | z
      · exact Int.le_of_lt ((List.pairwise_append.mp so).2.2 m z g (List.mem_singleton.mpr rfl))
      · rw [List.mem_singleton.mp z]
        exact Int.le_refl _
    refine ⟨l, g, r, q, rfl, e2, ml.1, fst g hg, fun m m0 => ⟨fun hm => ?_, fun ⟨h1, h2⟩ => all_conv ml.2.2 mg.2.2 h1 h2⟩⟩
    have hs := all_small hb (by omega) hm
    have hmm : m ∈ gl b t s n := gl_mem.mpr ⟨m0, by rw [hn, Int.natCast_add, Int.natCast_pow]; show m < 2 ^ s + 1; omega, hm⟩
    exact ⟨fst m hmm, lst m hmm⟩
theorem gl_none {b : Int} {t s n : Nat} (hb : 2 ≤ b) (ht : 1 ≤ (t : Int)) (hn : n = 2 ^ s + 1) (h : gl b t s n = []) : ¬ Ex b t s := by
  rintro ⟨m, m0, hm⟩
  have hs := all_small hb (by omega) hm
  have hmm : m ∈ gl b t s n := gl_mem.mpr ⟨m0, by rw [hn, Int.natCast_add, Int.natCast_pow]; show m < 2 ^ s + 1; omega, hm⟩
  rw [h] at hmm
  cases hmm
/-! lists of numbers as data -/
theorem dpI {K : PySem.W.Frag} {H : Hp} : ∀ ls : List Int, DpAll K H (ls.map V.int) (ls.map PyData.int)
  | [] => .nil
  | x :: xs => .cons (.int x) (dpI xs)
theorem layI : ∀ ls : List Int, PyData.canLayAll0 (ls.map PyData.int) = true
  | [] => rfl
  | x :: xs => by
    rw [List.map_cons, PyData.canLayAll0, Bool.and_eq_true]
    exact ⟨by simp [PyData.canLay0], layI xs⟩
theorem depI : ∀ ls : List Int, PyData.depthAll (ls.map PyData.int) = 0
  | [] => rfl
  | x :: xs => by
    rw [List.map_cons]
    simp only [PyData.depthAll, PyData.depth, depI xs]
    decide
theorem shapedI (ls : List Int) : SeqAt.shaped (.list (ls.map PyData.int)) = true := by
  unfold SeqAt.shaped
  have h1 : (PyData.list (ls.map PyData.int)).canLay0 = true := by
    simp only [PyData.canLay0]
    exact layI ls
  have h2 : (PyData.list (ls.map PyData.int)).depth ≤ 64 := by
    simp only [PyData.depth, depI]
    decide
  rw [h1, decide_eq_true h2]
  rfl
theorem eqv_nil (ls : List Int) : PyData.eqv (.list (ls.map PyData.int)) (.list []) = decide (ls = []) := by
  cases ls with
  | nil => decide +kernel
  | cons a r => simp [PyData.eqv, PyData.eqvAll]
def spWin (K : PySem.W.Frag) : Sp := fun vs H Q _ => ∃ (b : Int) (t s : Nat), vs = [.int b, .int (t : Nat), .int (s : Nat)] ∧ 2 ≤ b ∧ b ≤ 1000 ∧ 1 ≤ t ∧ t ≤ 100 ∧ s ≤ 6 ∧
  (∀ H', Same H H' → ¬ Ex b t s → Q .non H') ∧ (∀ H' p l g, Same H H' → SqT K H' p [.int l, .int g] → 0 ≤ l → l ≤ g → (∀ m, 0 ≤ m → (DV.AllR b t s m ↔ l ≤ m ∧ m ≤ g)) → Q (.ref p) H')
section
variable {P : Program} {w : World} {K : PySem.W.Frag} {mg : Str → Option Value} {base : Heap}
abbrev nmWin : List Str := ["_law_part", "_law_last", "_law_move", "_law_scale", "_law_good", "_law_one", "_law_figure"]
abbrev scOne : Scope := { kind := .function, names := [(".0", .local), ("_law_one", .cell), ("range", .globalImplicit), ("_law_last", .cell), ("_law_part", .cell), ("_law_scale", .cell)], isGenerator := false, isCoroutine := false }
abbrev scTwo : Scope := { kind := .function, names := [(".0", .local), ("_law_figure", .local), ("_law_one", .free), ("_law_part", .free), ("_law_scale", .free)], isGenerator := false, isCoroutine := false }
theorem bkTwo : BlkOk nmWin scOne scTwo [("_law_figure", 6)] := blkOk_by (by decide +kernel)
theorem scWin : FnScope nmWin ["_law_part", "_law_last", "_law_move"] (defScope sWin) := ⟨rfl, rfl, rfl, by decide +kernel, rfl, by decide +kernel, by decide +kernel⟩
theorem ok_win {f fP : Addr} {fd fdP : FuncData} (F : Fun K "_law_window" "_law_window" sWin f fd) (T : TxtB mg)
    (GP : FnOk P w K mg base CX0 1 fP fdP ["_law_bits"] spPower) (kP : PySem.W.keepIn K (.ref fP) = true) (bP : Binds K fdP ["_law_bits"] []) (gP : mg "_law_power" = some (.ref fP)) : FnOk P w K mg base CX0 2 f fd ["_law_part", "_law_last", "_law_move"] (spWin K) := by
  have sc := scWin
  refine F.ok scWin (fun vs H Q E h => ?_) (fun cdv A outer s H vs Q E hr h => ?_)
  · obtain ⟨b, t, n, rfl, _⟩ := h
    rfl
  · obtain ⟨b, t, n, rfl, b2, b1, t0, t1, hn, kN, kY⟩ := h
    refine ⟨_, pss_cons (ps_set (i := 3) sc.nd rfl (.inr rfl) (pe_call GP hr rfl gP kP bP .nil pass0 (pa_cons (pv 2) pa_nil)))
      (pss_cons (ps_setLc (i := 4) (own := [("_law_one", 5)]) (g := gName 5) rfl sc.nd rfl rfl (sw_true rfl rfl rfl (by decide +kernel)) (pi_range1 (by rfl) T.range (pa_cons (pe_op op_add (pv 3) pe_int) pa_nil))
          (blkOk_by (own := [("_law_one", 5)]) (N := nmWin) (sc := defScope sWin) (by decide +kernel)) (fun _ _ _ _ _ => pg_name (i := 5) sc.nd rfl (Or.inr rfl))
          (fun _ _ _ _ _ => pts_one (pt_cmpR (show OpR _ _ (rEqD K) from op_eqD hr.units) (pe_lc (own := [("_law_figure", 6)]) (g := gName 6) rfl sc.nd (by exact pi_range1 (by rfl) T.range (pa_cons (pe_op op_add (pv 1) pe_int) pa_nil))
            (by exact bkTwo) (fun _ _ _ _ _ => pg_name (i := 6) sc.nd rfl (Or.inl rfl))
            (fun _ _ _ _ _ => pts_one (pt_cmpR op_ne (pe_op op_fdivW (pe_op op_mulW (pv 6) (pv 5)) (pv 3)) (pe_op op_fdivW (pv 6) (pv 0)) (nomark _))) (fun _ _ _ _ _ => pv 6)) (pe_lst pa_nil) (nomark _))) (fun _ _ _ _ _ => pv 5))
      (pss_one (ps_ret (pe_ifExp (pt_cmpR (op_neD hr.units) (pv 4) (pe_lst pa_nil) (nomark _)) (pe_tup (pa_cons (pe_ix ix_list (pv 4) pe_int (fun _ _ => rfl)) (pa_cons (pe_ix ix_list (pv 4) (pe_un un_neg pe_int) (fun _ _ => rfl)) pa_nil))) pe_non)))), ?_⟩
    obtain ⟨W, hW⟩ : ∃ W : Nat, W = 2 ^ n := ⟨_, rfl⟩
    have hWi : (2 : Int) ^ n = (W : Int) := by rw [hW, Int.natCast_pow]; rfl
    have W64 : W ≤ 64 := by rw [hW]; exact Nat.le_trans (Nat.pow_le_pow_right (by decide) hn) (by decide)
    have W1 : 1 ≤ W := by rw [hW]; exact Nat.one_le_two_pow
    have t60 : (t : Int) ≤ 10 ^ 60 := Int.le_trans (show (t : Int) ≤ 100 by omega) (by decide)
    have b60 : b ≤ 10 ^ 60 := Int.le_trans b1 (by decide)
    refine ⟨_, rfl, n, rfl, by omega, ?_⟩
    rw [hWi]
    refine ⟨_, rfl, _, _, rfl, rfl, _, rfl, by omega, by omega, fun A0 nA => ?_⟩
    have eN : ((W : Int) + 1).toNat = W + 1 := by omega
    rw [eN]
    have sA := Same.new (o := .lst []) nA
    refine lc_range (lo := 0) (n := W + 1) (fun i G => Same H G ∧ G A0 = some (.lst ((gl b t n i).map V.int))) ⟨sA, upd_same⟩ ?_ ?_
    · rintro i G hi ⟨sG, gA⟩
      simp only [Int.zero_add]
      refine ⟨rfl, ?_⟩
      refine ⟨_, rfl, _, _, rfl, rfl, _, rfl, by omega, by omega, fun A1 nA1 => ?_⟩
      have eT : ((t : Int) + 1).toNat = t + 1 := by omega
      rw [eT]
      have s1 := Same.new (o := .lst []) nA1
      refine lc_range (lo := 0) (n := t + 1) (fun j G2 => Same G G2 ∧ G2 A1 = some (.lst ((fl b i n j).map V.int))) ⟨s1, upd_same⟩ ?_ ?_
      · rintro j G2 hj ⟨s2, g1⟩
        simp only [Int.zero_add]
        refine ⟨rfl, ?_⟩
        have bj : Bd 200 (j : Int) := one60 (by omega) (by omega)
        have bi : Bd 200 (i : Int) := one60 (by omega) (by have : (64 : Int) ≤ 10 ^ 60 := by decide
                                                           omega)
        have bW : Bd 200 (W : Int) := one60 (by omega) (by have : (64 : Int) ≤ 10 ^ 60 := by decide
                                                           omega)
        have bb : Bd 200 b := one60 (by omega) b60
        refine ⟨_, rfl, _, rfl, _, _, rfl, rfl, bj.w bi, _, rfl, _, _, rfl, rfl, bW.d (by omega), _, rfl, _, rfl, _, _, rfl, rfl, bb.d (by omega), rfl, _, rfl, ?_⟩
        have ew : (2 : Int) ^ n = (W : Int) := hWi
        by_cases hR : (j : Int) * (i : Int) / 2 ^ n = (j : Int) / b
        · refine iteF' (by
            show (!decide (V.int ((j : Int) * (i : Int) / (W : Int)) = V.int ((j : Int) / b))) = false
            rw [← ew, hR, decide_eq_true rfl]
            rfl) ?_
          refine ⟨s2, ?_⟩
          show _ = some (HO.lst ((fl b i n j ++ if (j : Int) * (i : Int) / 2 ^ n = (j : Int) / b then [] else [(j : Int)]).map V.int))
          rw [if_pos hR, List.append_nil]
          exact g1
        · refine iteT' (by
            show (!decide (V.int ((j : Int) * (i : Int) / (W : Int)) = V.int ((j : Int) / b))) = true
            rw [← ew, decide_eq_false (fun z => hR (V.int.inj z))]
            rfl) ?_
          refine ⟨_, rfl, _, g1, Nat.lt_of_le_of_lt (show ((fl b i n j).map V.int).length ≤ 1000 by rw [List.length_map]; have := fl_len (b := b) (m := i) (s := n) j; omega) (by decide), Same.write s2 nA1, ?_⟩
          show _ = some (HO.lst ((fl b i n j ++ if (j : Int) * (i : Int) / 2 ^ n = (j : Int) / b then [] else [(j : Int)]).map V.int))
          rw [if_neg hR, List.map_append, upd_same]
          rfl
      rintro G2 ⟨s2, g1⟩
      refine ⟨(by show 0 ≤ sizeLine; decide), fun z nz => ?_⟩
      have sz := Same.new (o := .lst []) nz
      refine ⟨.list ((fl b i n (t + 1)).map PyData.int), .list [], .lst (SqL.of (sz _ _ g1)) (dpI _), .lst (SqL.of upd_same) .nil, shapedI _, by decide +kernel, _, rfl, ?_⟩
      rw [eqv_nil]
      have sG3 := sG.trans (s2.trans sz)
      have gA3 := (s2.trans sz) _ _ gA
      by_cases hF : fl b i n (t + 1) = []
      · refine iteT' (decide_eq_true hF) ?_
        refine ⟨_, rfl, _, gA3, Nat.lt_of_le_of_lt (show ((gl b t n i).map V.int).length ≤ 1000 by rw [List.length_map]; have := gl_len (b := b) (t := t) (s := n) i; omega) (by decide), Same.write sG3 nA, ?_⟩
        show _ = some (HO.lst ((gl b t n i ++ if fl b (i : Int) n (t + 1) = [] then [(i : Int)] else []).map V.int))
        rw [if_pos hF, List.map_append, upd_same]
        rfl
      · refine iteF' (decide_eq_false hF) ?_
        refine ⟨sG3, ?_⟩
        show _ = some (HO.lst ((gl b t n i ++ if fl b (i : Int) n (t + 1) = [] then [(i : Int)] else []).map V.int))
        rw [if_neg hF, List.append_nil]
        exact gA3
    rintro G ⟨sG, gA⟩
    refine ⟨_, rfl, (by show 0 ≤ sizeLine; decide), fun z nz => ?_⟩
    have sz := Same.new (o := .lst []) nz
    have gz := sz _ _ gA
    refine ⟨.list ((gl b t n (W + 1)).map PyData.int), .list [], .lst (SqL.of gz) (dpI _), .lst (SqL.of upd_same) .nil, shapedI _, by decide +kernel, _, rfl, ?_⟩
    rw [eqv_nil]
    by_cases hg : gl b t n (W + 1) = []
    · refine iteF' (by rw [decide_eq_true hg]; rfl) ?_
      exact kN _ (sG.trans sz) (gl_none b2 (by omega) (by rw [hW]) hg)
    · refine iteT' (by rw [decide_eq_false hg]; rfl) ?_
      obtain ⟨l, g, r, q, e1, e2, l0, lg, hA⟩ := gl_ends b2 (by omega) (by rw [hW]) hg
      refine ⟨_, rfl, A0, _, 0, V.int l, rfl, rfl, SqL.of gz, by rw [e1]; exact atI_nat (j := 0) rfl, ?_⟩
      refine ⟨_, rfl, _, rfl, A0, _, -1, V.int g, rfl, rfl, SqL.of gz, by rw [e2, List.map_append]; exact atI_last _ _, (by show 2 ≤ sizeLine; decide), fun p np => ?_⟩
      exact kY _ p l g ((sG.trans sz).trans (Same.new np)) (SqT.of upd_same) l0 lg hA
end
end KD

set_option Elab.async false
set_option linter.all false
set_option maxRecDepth 100000
set_option maxHeartbeats 4000000
/-! k61, mathematics: where nothing changes any more -/
namespace DV
theorem R_form (D : Dv) {y : Int} (hb : 0 < D.b) : D.R y ↔ D.g * (y / D.b) - D.o ≤ (y % D.b) * D.m ∧ (y % D.b) * D.m < D.g * (y / D.b) - D.o + D.W := by
  unfold Dv.R Dv.told
  rw [div_is D.W_pos]
  have e := Int.emod_add_mul_ediv y D.b
  obtain ⟨q, hq⟩ : ∃ q, y / D.b = q := ⟨_, rfl⟩
  obtain ⟨r, hr⟩ : ∃ r, y % D.b = r := ⟨_, rfl⟩
  rw [hq, hr] at e
  rw [hq, hr]
  have e1 : y * D.m = r * D.m + D.m * D.b * q := by
    rw [← e, Int.add_mul, Int.mul_comm (D.b * q) D.m, Int.mul_assoc]
  have e2 : D.g * q = q * D.W - D.m * D.b * q := by
    unfold Dv.g
    rw [Int.sub_mul, Int.mul_comm D.W q]
  omega
/-- a period, where the gain is nothing -/
theorem R_period (D : Dv) (hb : 0 < D.b) (hg : D.g = 0) (y : Int) : D.R (y + D.b) ↔ D.R y := by
  rw [R_form D hb, R_form D hb, hg, Int.zero_mul, Int.zero_mul, Int.add_emod_right]
theorem R_periods (D : Dv) (hb : 0 < D.b) (hg : D.g = 0) (y : Int) : ∀ k : Nat, D.R (y + D.b * k) ↔ D.R y
  | 0 => by
    have : y + D.b * ((0 : Nat) : Int) = y := by
      show y + D.b * 0 = y
      omega
    rw [this]
  | k + 1 => by
    have : y + D.b * ((k + 1 : Nat) : Int) = y + D.b * (k : Int) + D.b := by
      rw [Int.natCast_add, Int.mul_add]
      show y + (D.b * (k : Int) + D.b * 1) = _
      omega
    rw [this, R_period D hb hg, R_periods D hb hg y k]
/-- all wrong from a block on, where the gain is something -/
theorem R_late (D : Dv) (K : D.Ok) {y Z : Int} (hZ : 2 * D.W + D.o < D.g.natAbs * Z) (hZ0 : 0 ≤ Z) (hy : Z ≤ y / D.b) : ¬ D.R y := by
  have hb : 0 < D.b := by have := K.hb; omega
  rw [R_form D hb]
  obtain ⟨q, hq⟩ : ∃ q, y / D.b = q := ⟨_, rfl⟩
  obtain ⟨r, hr⟩ : ∃ r, y % D.b = r := ⟨_, rfl⟩
  have r0 : 0 ≤ r := by rw [← hr]; exact Int.emod_nonneg y (by omega)
  have r1 : r < D.b := by rw [← hr]; exact Int.emod_lt_of_pos y hb
  rw [hq] at hy ⊢
  rw [hr]
  have hm := K.hm
  have ho := K.ho
  have hW := D.W_pos
  have k1 : (D.g.natAbs : Int) * Z ≤ D.g.natAbs * q := Int.mul_le_mul_of_nonneg_left hy (by omega)
  have k2 : 0 ≤ r * D.m := Int.mul_nonneg r0 hm
  have k3 : r * D.m ≤ D.b * D.m := Int.mul_le_mul_of_nonneg_right (by omega) hm
  have k4 : D.g = D.W - D.b * D.m := by
    unfold Dv.g
    rw [Int.mul_comm D.m D.b]
  rintro ⟨a1, a2⟩
  by_cases c : 0 ≤ D.g
  · have e : (D.g.natAbs : Int) = D.g := by omega
    rw [e] at k1 hZ
    omega
  · have e : (D.g.natAbs : Int) = -D.g := by omega
    rw [e] at k1 hZ
    have k5 : -D.g * q = -(D.g * q) := Int.neg_mul ..
    rw [k5] at k1
    omega
def blocks (D : Dv) : Int := if (D.g.natAbs : Int) = 0 then 2 else (2 * D.W + D.o) / D.g.natAbs + 4
theorem blocks_ge (D : Dv) (K : D.Ok) : 2 ≤ blocks D := by
  unfold blocks
  have := D.W_pos
  have := K.ho
  split
  · exact Int.le_refl _
  · have := Int.ediv_nonneg (show 0 ≤ 2 * D.W + D.o by omega) (show (0 : Int) ≤ D.g.natAbs by omega)
    omega
theorem late_all (D : Dv) (K : D.Ok) (hg : ¬ (D.g.natAbs : Int) = 0) {y : Int} (hy : D.b * (blocks D - 3) ≤ y) : ¬ D.R y := by
  have hb : 0 < D.b := by have := K.hb; omega
  have hW := D.W_pos
  have ho := K.ho
  have hs : (0 : Int) < D.g.natAbs := by omega
  have hq := Int.ediv_nonneg (show 0 ≤ 2 * D.W + D.o by omega) (show (0 : Int) ≤ D.g.natAbs by omega)
  refine R_late D K (Z := blocks D - 3) ?_ ?_ ?_
  · unfold blocks
    rw [if_neg hg]
    have e := Int.emod_add_mul_ediv (2 * D.W + D.o) D.g.natAbs
    have l := Int.emod_lt_of_pos (2 * D.W + D.o) hs
    have e2 : (D.g.natAbs : Int) * ((2 * D.W + D.o) / D.g.natAbs + 4 - 3) = D.g.natAbs * ((2 * D.W + D.o) / D.g.natAbs) + D.g.natAbs := by
      rw [show (2 * D.W + D.o) / (D.g.natAbs : Int) + 4 - 3 = (2 * D.W + D.o) / D.g.natAbs + 1 by omega, Int.mul_add, Int.mul_one]
    omega
  · unfold blocks
    rw [if_neg hg]
    omega
  · exact (Int.le_ediv_iff_mul_le hb).mpr (by rw [Int.mul_comm]; exact hy)
/-- what holds of all from x to the end of the blocks holds of all -/
theorem all_on (D : Dv) (K : D.Ok) {x : Int} (x0 : 0 ≤ x) (hx : x ≤ D.b * blocks D) (c : Bool) (h : ∀ y, x ≤ y → y ≤ 2 * (D.b * blocks D) → decide (D.R y) = c) : ∀ y, x ≤ y → decide (D.R y) = c := by
  intro y hy
  have hb : 0 < D.b := by have := K.hb; omega
  have hB := blocks_ge D K
  have hbB : D.b * 2 ≤ D.b * blocks D := Int.mul_le_mul_of_nonneg_left hB (by omega)
  by_cases hl : y ≤ 2 * (D.b * blocks D)
  · exact h y hy hl
  by_cases hg : (D.g.natAbs : Int) = 0
  · have g0 : D.g = 0 := by omega
    have hk := Int.emod_add_mul_ediv (y - x) D.b
    have r0 := Int.emod_nonneg (y - x) (show D.b ≠ 0 by omega)
    have r1 := Int.emod_lt_of_pos (y - x) hb
    have k0 := Int.ediv_nonneg (show 0 ≤ y - x by omega) (show 0 ≤ D.b by omega)
    have ey : y = (x + (y - x) % D.b) + D.b * (((y - x) / D.b).toNat : Int) := by
      rw [Int.toNat_of_nonneg k0]
      omega
    rw [ey]
    have := h (x + (y - x) % D.b) (by omega) (by omega)
    rw [← this]
    exact decide_eq_decide.mpr (R_periods D hb g0 _ _)
  · have w1 : D.b * (blocks D - 3) ≤ D.b * blocks D := Int.mul_le_mul_of_nonneg_left (by omega) (by omega)
    have n1 := late_all D K hg (y := D.b * blocks D) w1
    have n2 := late_all D K hg (y := y) (by omega)
    rw [← h (D.b * blocks D) hx (by omega), decide_eq_false n1, decide_eq_false n2]
/-- the least one of the last n up to L that is c -/
def lw (D : Dv) (c : Bool) (L : Int) : Nat → Option Int
  | 0 => none
  | n + 1 => if decide (D.R (L - n)) = c then some (L - n) else lw D c L n
theorem lw_none {D : Dv} {c : Bool} {L : Int} : ∀ {n : Nat}, lw D c L n = none → ∀ y, L - n < y → y ≤ L → ¬ decide (D.R y) = c
  | 0, _ => fun y a b => by omega
  | n + 1, h => fun y a b => by
    unfold lw at h
    split at h
    · cases h
    · rename_i hc
      by_cases e : y = L - n
      · rw [e]; exact hc
      · exact lw_none h y (by omega) b
theorem lw_some {D : Dv} {c : Bool} {L y : Int} : ∀ {n : Nat}, lw D c L n = some y → L - n < y ∧ y ≤ L ∧ decide (D.R y) = c ∧ ∀ z, L - n < z → z < y → ¬ decide (D.R z) = c
  | 0, h => by cases h
  | n + 1, h => by
    unfold lw at h
    split at h
    · rename_i hc
      cases h
      exact ⟨by omega, by omega, hc, fun z a b => by omega⟩
    · rename_i hc
      obtain ⟨a1, a2, a3, a4⟩ := lw_some h
      refine ⟨by omega, a2, a3, fun z b1 b2 => ?_⟩
      by_cases e : z = L - n
      · rw [e]; exact hc
      · exact a4 z (by omega) b2
theorem ite_ne {b c : Bool} (h : ¬ b = c) : b = !c := by
  cases b <;> cases c <;> simp_all
/-- the next wrong one is what trying tells -/
theorem nw_try (D : Dv) (K : D.Ok) {x : Int} (x0 : 0 ≤ x) (hx : x ≤ D.b * blocks D) {n : Nat} (hn : (n : Int) = 2 * (D.b * blocks D) - x + 1) : D.nw x = lw D false (2 * (D.b * blocks D)) n := by
  cases e : lw D false (2 * (D.b * blocks D)) n with
  | none =>
    have h1 := all_on D K x0 hx true fun y a b => ite_ne (lw_none e y (by omega) b)
    cases e2 : D.nw x with
    | none => rfl
    | some y =>
      obtain ⟨y0, y1, y2⟩ := nw_some K x0 e2
      exact absurd (of_decide_eq_true (h1 y y0)) y1
  | some y =>
    obtain ⟨a1, a2, a3, a4⟩ := lw_some e
    cases e2 : D.nw x with
    | none => exact absurd (nw_none K x0 e2 y (by omega)) (of_decide_eq_false a3)
    | some f =>
      obtain ⟨y0, y1, y2⟩ := nw_some K x0 e2
      by_cases c1 : f < y
      · exact absurd (decide_eq_false y1) (a4 f (by omega) c1)
      · by_cases c2 : y < f
        · exact absurd (y2 y (by omega) c2) (of_decide_eq_false a3)
        · rw [show f = y by omega]
/-- and the next right one -/
theorem nr_try (D : Dv) (K : D.Ok) {x : Int} (x0 : 0 ≤ x) (hx : x ≤ D.b * blocks D) {n : Nat} (hn : (n : Int) = 2 * (D.b * blocks D) - x + 1) : D.nr x = lw D true (2 * (D.b * blocks D)) n := by
  cases e : lw D true (2 * (D.b * blocks D)) n with
  | none =>
    have h1 := all_on D K x0 hx false fun y a b => ite_ne (lw_none e y (by omega) b)
    cases e2 : D.nr x with
    | none => rfl
    | some y =>
      obtain ⟨y0, y1, y2⟩ := nr_some K x0 e2
      exact absurd y1 (of_decide_eq_false (h1 y y0))
  | some y =>
    obtain ⟨a1, a2, a3, a4⟩ := lw_some e
    cases e2 : D.nr x with
    | none => exact absurd (of_decide_eq_true a3) (nr_none K x0 e2 y (by omega))
    | some f =>
      obtain ⟨y0, y1, y2⟩ := nr_some K x0 e2
      by_cases c1 : f < y
      · exact absurd (decide_eq_true y1) (a4 f (by omega) c1)
      · by_cases c2 : y < f
        · exact absurd (of_decide_eq_true a3) (y2 y (by omega) c2)
        · rw [show f = y by omega]
end DV

set_option Elab.async false
set_option linter.all false
set_option maxRecDepth 100000
set_option maxHeartbeats 8000000
/-! k61: what is none -/
namespace KD
open PySem L2
open DV (Dv)
theorem FnOk.or {P : Program} {w : World} {K : PySem.W.Frag} {mg : Str → Option Value} {base : Heap} {CX : CXT} {k : Nat} {f : Addr} {fd : FuncData} {ps : List Str} {s1 s2 : Sp}
    (a : FnOk P w K mg base CX k f fd ps s1) (b : FnOk P w K mg base CX k f fd ps s2) : FnOk P w K mg base CX k f fd ps fun vs H Q E => s1 vs H Q E ∨ s2 vs H Q E :=
  ⟨fun vs H Q E h => h.elim (a.len vs H Q E) (b.len vs H Q E), fun A outer s H args us vs Q E hr e0 hb r h => h.elim (a.run A outer s H args us vs Q E hr e0 hb r) (b.run A outer s H args us vs Q E hr e0 hb r)⟩
abbrev sBadNI : Stmt := inClass (top 2) 0
/-- no whole number -/
def NotInt (K : PySem.W.Frag) (H : Hp) (v : V) : Prop := ∃ t : Value, TyX K H v t ∧ (PySem.W.kitOne K t (.type "int") = some false ∨ (PySem.W.kitOne K t (.type "int") = some true ∧ PySem.W.kitOne K t (.type "bool") = some true))
def Bad (K : PySem.W.Frag) (H : Hp) (v : V) (l m : Int) : Prop := NotInt K H v ∨ ∃ i : Int, v = .int i ∧ (i < l ∨ m < i)
def spWholeN (K : PySem.W.Frag) : Sp := fun vs H Q _ => ∃ v : V, vs = [v] ∧ NotInt K H v ∧ Q (.bl false) H
def spBetwN (K : PySem.W.Frag) : Sp := fun vs H Q _ => ∃ (v : V) (l m : Int), vs = [v, .int l, .int m] ∧ NotInt K H v ∧ Q (.bl false) H
/-- refused with v -/
def Rs (H : Hp) (C : Addr) (v : V) (E : XK) : Prop := ∀ d H', Same H H' → H d = none → H' d = some (.xd [("number", v)]) → E (.ref C) (some d) H'
def spCheckN (K : PySem.W.Frag) (C : Addr) : Sp := fun vs H Q E => ∃ (v : V) (l m : Int), vs = [v, .int l, .int m] ∧ ((∃ i : Int, v = .int i ∧ l ≤ i ∧ i ≤ m ∧ Q .non H) ∨ (Bad K H v l m ∧ Rs H C v E))
/-- the first one that is none -/
def FB (K : PySem.W.Frag) (H : Hp) : List (V × Int × Int) → V → Prop
  | [], _ => False
  | (v, l, m) :: r, b => (Bad K H v l m ∧ b = v) ∨ ((∃ i : Int, v = .int i ∧ l ≤ i ∧ i ≤ m) ∧ FB K H r b)
def spDIN (K : PySem.W.Frag) (C : Addr) : Sp := fun vs H _ E => ∃ p v0 v1 v2 v3 b : V, vs = [p, v0, v1, v2, v3] ∧ FB K H [(v0, 2, 10 ^ 60), (v1, 0, 10 ^ 60), (v2, 0, 10 ^ 60), (v3, 0, 400)] b ∧ Rs H C b E
def spOneN (K : PySem.W.Frag) (C : Addr) : Sp := fun vs H _ E => ∃ p v : V, vs = [p, v] ∧ Bad K H v 0 (10 ^ 60) ∧ Rs H C v E
def spTFN (K : PySem.W.Frag) (C : Addr) : Sp := fun vs H _ E => ∃ v0 v1 v2 b : V, vs = [v0, v1, v2] ∧ FB K H [(v0, 2, 10 ^ 60), (v1, 1, 10 ^ 60), (v2, 0, 400)] b ∧ Rs H C b E
def spLSN (K : PySem.W.Frag) (C : Addr) : Sp := fun vs H _ E => ∃ v0 v1 b : V, vs = [v0, v1] ∧ FB K H [(v0, 2, 10 ^ 60), (v1, 1, 10 ^ 60)] b ∧ Rs H C b E
structure TxtE (P : Program) (K : PySem.W.Frag) (mg : Str → Option Value) (C fI cc cda : Addr) : Prop where
  g : mg "BadNumber" = some (.ref C)
  t : ErrA.ErrTxt P K C fI cc cda "BadNumber.__init__" sBadNI
  b : ErrA.ErrBody P sBadNI "number" []
  n : ∀ g ∈ [("number" : Str)], PySem.W.findIn K (.ref C) g = some none
section
variable {P : Program} {w : World} {K : PySem.W.Frag} {mg : Str → Option Value} {base : Heap}
theorem ok_wholeN {f : Addr} {fd : FuncData} (F : Fun K "is_whole" "is_whole" sWhole f fd) (T : TxtI mg) : FnOk P w K mg base CX0 1 f fd ["value"] (spWholeN K) := by
  refine F.ok scWhole (fun vs H Q E h => ?_) (fun cdv A outer s H vs Q E hr h => ?_)
  · obtain ⟨i, rfl, _⟩ := h
    rfl
  · obtain ⟨v, rfl, ⟨t, ht, hk⟩, k⟩ := h
    refine ⟨_, pss_one (ps_ret (pe_and (pe_callB (id := "isinstance") call_isi (by rfl) T.isi (by decide +kernel) (pa_cons (pv 0) (pa_cons (pe_bltn (v := .ty "int") (by rfl) T.int (by decide +kernel) rfl) pa_nil)))
      (pe_one (pe_not (pe_callB (id := "isinstance") call_isi (by rfl) T.isi (by decide +kernel) (pa_cons (pv 0) (pa_cons (pe_bltn (v := .ty "bool") (by rfl) T.bool (by decide +kernel) rfl) pa_nil))))))), ?_⟩
    rcases hk with hk | ⟨h1, h2⟩
    · refine ⟨_, rfl, v, .ty "int", t, .type "int", false, rfl, .ty _, ht, hk, _, rfl, ?_⟩
      exact iteF k
    · refine ⟨_, rfl, v, .ty "int", t, .type "int", true, rfl, .ty _, ht, h1, _, rfl, ?_⟩
      refine iteT ?_
      refine ⟨_, rfl, v, .ty "bool", t, .type "bool", true, rfl, .ty _, ht, h2, _, rfl, ?_⟩
      exact k
theorem ok_betwN {f fW : Addr} {fd fdW : FuncData} (F : Fun K "is_between" "is_between" sBetw f fd)
    (GW : FnOk P w K mg base CX0 1 fW fdW ["value"] (spWholeN K)) (kW : PySem.W.keepIn K (.ref fW) = true) (bW : Binds K fdW ["value"] []) (gW : mg "is_whole" = some (.ref fW)) : FnOk P w K mg base CX0 2 f fd ["value", "least", "most"] (spBetwN K) := by
  refine F.ok scBetw (fun vs H Q E h => ?_) (fun cdv A outer s H vs Q E hr h => ?_)
  · obtain ⟨i, l, m, rfl, _⟩ := h
    rfl
  · obtain ⟨v, l, m, rfl, hN, k⟩ := h
    refine ⟨_, pss_one (ps_ret (pe_and (pe_call GW hr rfl gW kW bW .nil pass0 (pa_cons (pv 0) pa_nil)) (pe_one (pe_chain op_le op_le (pv 1) (pv 0) (pv 2))))), ?_⟩
    refine ⟨_, rfl, v, rfl, hN, _, rfl, ?_⟩
    exact iteF k
theorem ok_checkN {f C fI cc cda fB : Addr} {fd fdB : FuncData} (F : Fun K "check_between" "check_between" sCheck f fd) (R : TxtE P K mg C fI cc cda)
    (GB : FnOk P w K mg base CX0 2 fB fdB ["value", "least", "most"] spBetw) (GN : FnOk P w K mg base CX0 2 fB fdB ["value", "least", "most"] (spBetwN K)) (kB : PySem.W.keepIn K (.ref fB) = true) (bB : Binds K fdB ["value", "least", "most"] []) (gB : mg "is_between" = some (.ref fB)) : FnOk P w K mg base (L2.CX P w) 3 f fd ["number", "least", "most"] (spCheckN K C) := by
  refine F.okX scCheck (fun vs H Q E h => ?_) (fun cdv A outer s H vs Q E hr h => ?_)
  · obtain ⟨i, l, m, rfl, _⟩ := h
    rfl
  · obtain ⟨v, l, m, rfl, hB⟩ := h
    refine ⟨_, pss_one (ps_if (pt_not (pt_val (pe_call (FnOk.or GB GN) hr rfl gB kB bB .nil pass0 (pa_cons (pv 0) (pa_cons (pv 1) (pa_cons (pv 2) pa_nil)))))) (pss_one (ps_raiseErr rfl R.t R.b R.n hr R.g (takes_of rfl rfl rfl rfl) (pa_cons (pv 0) pa_nil))) pss_nil), ?_⟩
    refine ⟨_, rfl, _, rfl, _, rfl, ?_⟩
    rcases hB with ⟨i, rfl, h1, h2, k⟩ | ⟨hN | ⟨i, rfl, hi⟩, k⟩
    · refine .inl ⟨i, l, m, rfl, ?_⟩
      rw [decide_eq_true h1, decide_eq_true h2]
      exact ⟨_, rfl, iteF k⟩
    · refine .inr ⟨v, l, m, rfl, hN, ?_⟩
      refine ⟨_, rfl, iteT ?_⟩
      exact ⟨_, rfl, rfl, fun d nd => k d _ (Same.new nd) nd upd_same⟩
    · refine .inl ⟨i, l, m, rfl, ?_⟩
      have e : (decide (l ≤ i) && decide (i ≤ m)) = false := by
        rcases hi with h | h
        · rw [decide_eq_false (by omega), Bool.false_and]
        · rw [decide_eq_false (p := i ≤ m) (by omega), Bool.and_false]
      rw [e]
      refine ⟨_, rfl, iteT ?_⟩
      exact ⟨_, rfl, rfl, fun d nd => k d _ (Same.new nd) nd upd_same⟩
theorem ok_dinitN {f C fC : Addr} {fd fdC : FuncData} (F : Fun K "__init__" "Divider.__init__" sDI f fd) (T : TxtI mg)
    (GC : FnOk P w K mg base (L2.CX P w) 3 fC fdC ["number", "least", "most"] (spCheckN K C)) (kC : PySem.W.keepIn K (.ref fC) = true) (bC : Binds K fdC ["number", "least", "most"] []) (gC : mg "check_between" = some (.ref fC)) : FnOk P w K mg base (L2.CX P w) 4 f fd ["self", "by", "multiplier", "offset", "shift"] (spDIN K C) := by
  obtain ⟨t1, hmn⟩ := T.mn
  obtain ⟨t2, hms⟩ := T.ms
  refine F.okX scDI (fun vs H Q E h => ?_) (fun cdv A outer s H vs Q E hr h => ?_)
  · obtain ⟨p, v0, v1, v2, v3, b, rfl, _⟩ := h
    rfl
  · obtain ⟨p, v0, v1, v2, v3, b, rfl, hF, k⟩ := h
    have hr3 : Room 3 _ := hr.mono (by decide)
    refine ⟨_, (pss_cons (ps_expr (pe_callS GC hr3 rfl gC kC bC (fun σ => passAt (takes_of rfl rfl rfl rfl) σ) (by exact (pa_cons (pv 1) (pa_cons pe_int (pa_cons (pe_glob (v := .int (10 ^ 60)) (by rfl) hmn ⟨t1, rfl⟩) pa_nil))))))
      (pss_cons (ps_expr (pe_callS GC hr3 rfl gC kC bC (fun σ => passAt (takes_of rfl rfl rfl rfl) σ) (by exact (pa_cons (pv 2) (pa_cons pe_int (pa_cons (pe_glob (v := .int (10 ^ 60)) (by rfl) hmn ⟨t1, rfl⟩) pa_nil))))))
      (pss_cons (ps_expr (pe_callS GC hr3 rfl gC kC bC (fun σ => passAt (takes_of rfl rfl rfl rfl) σ) (by exact (pa_cons (pv 3) (pa_cons pe_int (pa_cons (pe_glob (v := .int (10 ^ 60)) (by rfl) hmn ⟨t1, rfl⟩) pa_nil))))))
      (pss_cons (ps_expr (pe_callS GC hr3 rfl gC kC bC (fun σ => passAt (takes_of rfl rfl rfl rfl) σ) (by exact (pa_cons (pv 4) (pa_cons pe_int (pa_cons (pe_glob (v := .int 400) (by rfl) hms ⟨t2, rfl⟩) pa_nil)))))) PSs.ghost)))), ?_⟩
    rcases hF with ⟨hB, rfl⟩ | ⟨⟨i1, rfl, l1, m1⟩, hF⟩
    · exact ⟨_, rfl, _, 2, _, rfl, .inr ⟨hB, k⟩⟩
    refine ⟨_, rfl, _, 2, _, rfl, .inl ⟨i1, rfl, l1, m1, ?_⟩⟩
    rcases hF with ⟨hB, rfl⟩ | ⟨⟨i2, rfl, l2, m2⟩, hF⟩
    · exact ⟨_, rfl, _, 0, _, rfl, .inr ⟨hB, k⟩⟩
    refine ⟨_, rfl, _, 0, _, rfl, .inl ⟨i2, rfl, l2, m2, ?_⟩⟩
    rcases hF with ⟨hB, rfl⟩ | ⟨⟨i3, rfl, l3, m3⟩, hF⟩
    · exact ⟨_, rfl, _, 0, _, rfl, .inr ⟨hB, k⟩⟩
    refine ⟨_, rfl, _, 0, _, rfl, .inl ⟨i3, rfl, l3, m3, ?_⟩⟩
    rcases hF with ⟨hB, rfl⟩ | ⟨⟨i4, rfl, l4, m4⟩, hF⟩
    · exact ⟨_, rfl, _, 0, _, rfl, .inr ⟨hB, k⟩⟩
    refine ⟨_, rfl, _, 0, _, rfl, .inl ⟨i4, rfl, l4, m4, ?_⟩⟩
    exact hF.elim
theorem ok_quotN {f C fC : Addr} {fd fdC : FuncData} (F : Fun K "quotient" "Divider.quotient" sQuot f fd) (T : TxtI mg)
    (GC : FnOk P w K mg base (L2.CX P w) 3 fC fdC ["number", "least", "most"] (spCheckN K C)) (kC : PySem.W.keepIn K (.ref fC) = true) (bC : Binds K fdC ["number", "least", "most"] []) (gC : mg "check_between" = some (.ref fC)) : FnOk P w K mg base (L2.CX P w) 4 f fd ["self", "x"] (spOneN K C) := by
  obtain ⟨t1, hmn⟩ := T.mn
  obtain ⟨t2, hms⟩ := T.ms
  refine F.okX scQuot (fun vs H Q E h => ?_) (fun cdv A outer s H vs Q E hr h => ?_)
  · obtain ⟨p, v, rfl, _⟩ := h
    rfl
  · obtain ⟨p, v, rfl, hF, k⟩ := h
    have hr3 : Room 3 _ := hr.mono (by decide)
    refine ⟨_, (pss_cons (ps_expr (pe_callS GC hr3 rfl gC kC bC (fun σ => passAt (takes_of rfl rfl rfl rfl) σ) (by exact (pa_cons (pv 1) (pa_cons pe_int (pa_cons (pe_glob (v := .int (10 ^ 60)) (by rfl) hmn ⟨t1, rfl⟩) pa_nil)))))) PSs.ghost), ?_⟩
    exact ⟨_, rfl, _, 0, _, rfl, .inr ⟨hF, k⟩⟩
theorem ok_dwN {f C fC : Addr} {fd fdC : FuncData} (F : Fun K "divider_wrong" "divider_wrong" sDW f fd) (T : TxtI mg)
    (GC : FnOk P w K mg base (L2.CX P w) 3 fC fdC ["number", "least", "most"] (spCheckN K C)) (kC : PySem.W.keepIn K (.ref fC) = true) (bC : Binds K fdC ["number", "least", "most"] []) (gC : mg "check_between" = some (.ref fC)) : FnOk P w K mg base (L2.CX P w) 6 f fd ["divider", "x"] (spOneN K C) := by
  obtain ⟨t1, hmn⟩ := T.mn
  obtain ⟨t2, hms⟩ := T.ms
  refine F.okX scDW (fun vs H Q E h => ?_) (fun cdv A outer s H vs Q E hr h => ?_)
  · obtain ⟨p, v, rfl, _⟩ := h
    rfl
  · obtain ⟨p, v, rfl, hF, k⟩ := h
    have hr3 : Room 3 _ := hr.mono (by decide)
    refine ⟨_, (pss_cons (ps_expr (pe_callS GC hr3 rfl gC kC bC (fun σ => passAt (takes_of rfl rfl rfl rfl) σ) (by exact (pa_cons (pv 1) (pa_cons pe_int (pa_cons (pe_glob (v := .int (10 ^ 60)) (by rfl) hmn ⟨t1, rfl⟩) pa_nil)))))) PSs.ghost), ?_⟩
    exact ⟨_, rfl, _, 0, _, rfl, .inr ⟨hF, k⟩⟩
theorem ok_dnN {f C fC : Addr} {fd fdC : FuncData} (F : Fun K "divider_next" "divider_next" sDN f fd) (T : TxtI mg)
    (GC : FnOk P w K mg base (L2.CX P w) 3 fC fdC ["number", "least", "most"] (spCheckN K C)) (kC : PySem.W.keepIn K (.ref fC) = true) (bC : Binds K fdC ["number", "least", "most"] []) (gC : mg "check_between" = some (.ref fC)) : FnOk P w K mg base (L2.CX P w) 6 f fd ["divider", "x"] (spOneN K C) := by
  obtain ⟨t1, hmn⟩ := T.mn
  obtain ⟨t2, hms⟩ := T.ms
  refine F.okX scDN (fun vs H Q E h => ?_) (fun cdv A outer s H vs Q E hr h => ?_)
  · obtain ⟨p, v, rfl, _⟩ := h
    rfl
  · obtain ⟨p, v, rfl, hF, k⟩ := h
    have hr3 : Room 3 _ := hr.mono (by decide)
    refine ⟨_, (pss_cons (ps_expr (pe_callS GC hr3 rfl gC kC bC (fun σ => passAt (takes_of rfl rfl rfl rfl) σ) (by exact (pa_cons (pv 1) (pa_cons pe_int (pa_cons (pe_glob (v := .int (10 ^ 60)) (by rfl) hmn ⟨t1, rfl⟩) pa_nil)))))) PSs.ghost), ?_⟩
    exact ⟨_, rfl, _, 0, _, rfl, .inr ⟨hF, k⟩⟩
theorem ok_dmN {f C fC : Addr} {fd fdC : FuncData} (F : Fun K "divider_many" "divider_many" sDM f fd) (T : TxtI mg)
    (GC : FnOk P w K mg base (L2.CX P w) 3 fC fdC ["number", "least", "most"] (spCheckN K C)) (kC : PySem.W.keepIn K (.ref fC) = true) (bC : Binds K fdC ["number", "least", "most"] []) (gC : mg "check_between" = some (.ref fC)) : FnOk P w K mg base (L2.CX P w) 5 f fd ["divider", "x"] (spOneN K C) := by
  obtain ⟨t1, hmn⟩ := T.mn
  obtain ⟨t2, hms⟩ := T.ms
  refine F.okX scDM (fun vs H Q E h => ?_) (fun cdv A outer s H vs Q E hr h => ?_)
  · obtain ⟨p, v, rfl, _⟩ := h
    rfl
  · obtain ⟨p, v, rfl, hF, k⟩ := h
    have hr3 : Room 3 _ := hr.mono (by decide)
    refine ⟨_, (pss_cons (ps_expr (pe_callS GC hr3 rfl gC kC bC (fun σ => passAt (takes_of rfl rfl rfl rfl) σ) (by exact (pa_cons (pv 1) (pa_cons pe_int (pa_cons (pe_glob (v := .int (10 ^ 60)) (by rfl) hmn ⟨t1, rfl⟩) pa_nil)))))) PSs.ghost), ?_⟩
    exact ⟨_, rfl, _, 0, _, rfl, .inr ⟨hF, k⟩⟩
theorem ok_tfN {f C fC : Addr} {fd fdC : FuncData} (F : Fun K "times_for" "times_for" sTF f fd) (T : TxtI mg)
    (GC : FnOk P w K mg base (L2.CX P w) 3 fC fdC ["number", "least", "most"] (spCheckN K C)) (kC : PySem.W.keepIn K (.ref fC) = true) (bC : Binds K fdC ["number", "least", "most"] []) (gC : mg "check_between" = some (.ref fC)) : FnOk P w K mg base (L2.CX P w) 4 f fd ["by", "top", "shift"] (spTFN K C) := by
  obtain ⟨t1, hmn⟩ := T.mn
  obtain ⟨t2, hms⟩ := T.ms
  refine F.okX scTF (fun vs H Q E h => ?_) (fun cdv A outer s H vs Q E hr h => ?_)
  · obtain ⟨v0, v1, v2, b, rfl, _⟩ := h
    rfl
  · obtain ⟨v0, v1, v2, b, rfl, hF, k⟩ := h
    have hr3 : Room 3 _ := hr.mono (by decide)
    refine ⟨_, (pss_cons (ps_expr (pe_callS GC hr3 rfl gC kC bC (fun σ => passAt (takes_of rfl rfl rfl rfl) σ) (by exact (pa_cons (pv 0) (pa_cons pe_int (pa_cons (pe_glob (v := .int (10 ^ 60)) (by rfl) hmn ⟨t1, rfl⟩) pa_nil))))))
      (pss_cons (ps_expr (pe_callS GC hr3 rfl gC kC bC (fun σ => passAt (takes_of rfl rfl rfl rfl) σ) (by exact (pa_cons (pv 1) (pa_cons pe_int (pa_cons (pe_glob (v := .int (10 ^ 60)) (by rfl) hmn ⟨t1, rfl⟩) pa_nil))))))
      (pss_cons (ps_expr (pe_callS GC hr3 rfl gC kC bC (fun σ => passAt (takes_of rfl rfl rfl rfl) σ) (by exact (pa_cons (pv 2) (pa_cons pe_int (pa_cons (pe_glob (v := .int 400) (by rfl) hms ⟨t2, rfl⟩) pa_nil)))))) PSs.ghost))), ?_⟩
    rcases hF with ⟨hB, rfl⟩ | ⟨⟨i0, rfl, l0, m0⟩, hF⟩
    · exact ⟨_, rfl, _, 2, _, rfl, .inr ⟨hB, k⟩⟩
    refine ⟨_, rfl, _, 2, _, rfl, .inl ⟨i0, rfl, l0, m0, ?_⟩⟩
    rcases hF with ⟨hB, rfl⟩ | ⟨⟨i1, rfl, l1, m1⟩, hF⟩
    · exact ⟨_, rfl, _, 1, _, rfl, .inr ⟨hB, k⟩⟩
    refine ⟨_, rfl, _, 1, _, rfl, .inl ⟨i1, rfl, l1, m1, ?_⟩⟩
    rcases hF with ⟨hB, rfl⟩ | ⟨⟨i2, rfl, l2, m2⟩, hF⟩
    · exact ⟨_, rfl, _, 0, _, rfl, .inr ⟨hB, k⟩⟩
    refine ⟨_, rfl, _, 0, _, rfl, .inl ⟨i2, rfl, l2, m2, ?_⟩⟩
    exact hF.elim
theorem ok_lsN {f C fC : Addr} {fd fdC : FuncData} (F : Fun K "least_shift" "least_shift" sLS f fd) (T : TxtI mg)
    (GC : FnOk P w K mg base (L2.CX P w) 3 fC fdC ["number", "least", "most"] (spCheckN K C)) (kC : PySem.W.keepIn K (.ref fC) = true) (bC : Binds K fdC ["number", "least", "most"] []) (gC : mg "check_between" = some (.ref fC)) : FnOk P w K mg base (L2.CX P w) 4 f fd ["by", "top"] (spLSN K C) := by
  obtain ⟨t1, hmn⟩ := T.mn
  obtain ⟨t2, hms⟩ := T.ms
  refine F.okX scLS (fun vs H Q E h => ?_) (fun cdv A outer s H vs Q E hr h => ?_)
  · obtain ⟨v0, v1, b, rfl, _⟩ := h
    rfl
  · obtain ⟨v0, v1, b, rfl, hF, k⟩ := h
    have hr3 : Room 3 _ := hr.mono (by decide)
    refine ⟨_, (pss_cons (ps_expr (pe_callS GC hr3 rfl gC kC bC (fun σ => passAt (takes_of rfl rfl rfl rfl) σ) (by exact (pa_cons (pv 0) (pa_cons pe_int (pa_cons (pe_glob (v := .int (10 ^ 60)) (by rfl) hmn ⟨t1, rfl⟩) pa_nil))))))
      (pss_cons (ps_expr (pe_callS GC hr3 rfl gC kC bC (fun σ => passAt (takes_of rfl rfl rfl rfl) σ) (by exact (pa_cons (pv 1) (pa_cons pe_int (pa_cons (pe_glob (v := .int (10 ^ 60)) (by rfl) hmn ⟨t1, rfl⟩) pa_nil)))))) PSs.ghost)), ?_⟩
    rcases hF with ⟨hB, rfl⟩ | ⟨⟨i0, rfl, l0, m0⟩, hF⟩
    · exact ⟨_, rfl, _, 2, _, rfl, .inr ⟨hB, k⟩⟩
    refine ⟨_, rfl, _, 2, _, rfl, .inl ⟨i0, rfl, l0, m0, ?_⟩⟩
    rcases hF with ⟨hB, rfl⟩ | ⟨⟨i1, rfl, l1, m1⟩, hF⟩
    · exact ⟨_, rfl, _, 1, _, rfl, .inr ⟨hB, k⟩⟩
    refine ⟨_, rfl, _, 1, _, rfl, .inl ⟨i1, rfl, l1, m1, ?_⟩⟩
    exact hF.elim
end
end KD

set_option Elab.async false
set_option linter.all false
set_option maxRecDepth 100000
set_option maxHeartbeats 8000000
/-! k61: what is refused, by a method, by a class -/
namespace KD
open PySem L2
open DV (Dv)
section
variable {X : Cx} {CX : CXT} {k : Nat} {f C : Addr} {fd : FuncData} {ps : List Str} {sp : Sp} {E : St → XK} {x m : Str} {p pos apos : Pos} {e o : Expr} {es : List Expr} {ta : TE} {t : TA}
def tMakeS (C : Addr) (sp : Sp) (E : St → XK) (t : TA) : TE := fun σ H Q => t σ H fun vs H1 => ∀ x dx, H1 x = none → H1 dx = none → dx ≠ x →
  sp (.ref x :: vs) (upd (upd H1 dx (.own x)) x (.ins C dx [])) (fun v H2 => v = .non ∧ Q (.ref x) H2) (E σ)
theorem run_makeS {pins : List (Addr × Obj)} {σ : St} {H : Hp} {s : Shared} {Q : VK} {us : List Value} {vs : List V} (M : Mk X.K C f) (F : FnOk X.prog X.w X.K X.mg X.base CX k f fd ps sp) (hr : Room (k + 1) X.A) (hb : Binds X.K fd ps [])
    (hx : PassesAt CX X σ (E σ)) (I : Inv X pins σ H s) (r : Vals vs us)
    (h : ∀ x dx, H x = none → H dx = none → dx ≠ x → sp (.ref x :: vs) (upd (upd H dx (.own x)) x (.ins C dx [])) (fun v H2 => v = .non ∧ Q (.ref x) H2) (E σ)) :
    wpAny (model X.prog X.w) X.A (call (.ref C) us) (EP X pins σ Q) X.xe s := by
  have hq := h (s.heap.objs.size + 1) s.heap.objs.size (I.hok.fresh (Nat.le_succ _)) (I.hok.fresh (Nat.le_refl _)) (Nat.ne_of_lt (Nat.lt_succ_self _))
  have I2 := Inv.made (C := C) I
  have r2 : Vals (V.ref (s.heap.objs.size + 1) :: vs) (Value.ref (s.heap.objs.size + 1) :: us) := .cons rfl r
  have hl : (Value.ref (s.heap.objs.size + 1) :: us).length = ps.length := by
    have e := r2.length
    rw [F.len _ _ _ _ hq] at e
    exact e.symm
  have b := hb _ (Value.ref (s.heap.objs.size + 1) :: us) I2.kIn (by rw [List.append_nil]; exact hl)
  rw [List.append_nil] at b
  refine wpAny_call (make_map (f := f) I.kIn M.makes M.init (beq_iff_eq.mp M.fn) (codeAny_mono (F.run _ X.stack _ _ ⟨Value.ref (s.heap.objs.size + 1) :: us, []⟩ (Value.ref (s.heap.objs.size + 1) :: us) _ _ (E σ) (hr.make C us [])
    (I2.env0.make C us []) b r2 hq) fun r s' hq' => ?_))
  cases r with
  | error e => exact hx pins _ _ e s' I2 hq'
  | ok fl =>
    cases fl with
    | ret u =>
      obtain ⟨v, H', I3, rv, ev, q3⟩ := I2.after hq'
      subst ev
      exact ⟨rv, ⟨V.ref (s.heap.objs.size + 1), H', I3, rfl, q3⟩⟩
    | next => exact False.elim hq'
    | brk => exact False.elim hq'
    | cont => exact False.elim hq'
theorem pe_makeS (M : Mk X.K C f) (F : FnOk X.prog X.w X.K X.mg X.base CX k f fd ps sp) (hr : Room (k + 1) X.A) (hg : Gl X x) (hm : X.mg x = some (.ref C)) (hb : Binds X.K fd ps []) (hx : ∀ σ, PassesAt CX X σ (E σ))
    (ha : PA X (e :: es) t) (hdb : (x == ("__debug__" : Str)) = false := by decide) (he : starEach (e :: es) X.env = (false, eval e X.env) :: starEach es X.env := by rfl) (hpl : (backTo pos (starEach es X.env)).any (·.1) = false := by rfl) :
    PE X (.Call (.Name x p) (e :: es) [] pos) (tMakeS C sp E t) := by
  refine ⟨fun pins s σ H Q I h => ?_⟩
  refine wpAny_Call_Name_kw (ld_glob I hg hm ?_ hdb)
  refine PySem.W.callWith_K (h₀ := X.base) I.ok.mod.kin M.kp (thn (ha.run pos pins s σ H _ I h) fun us s1 ⟨vs, H1, I1, r, q⟩ => ⟨I1.kIn, ?_⟩) he hpl
  exact run_makeS M F hr hb (hx σ) I1 r q
/-- o.m(..), which may raise -/
def tMethX (C : Addr) (m : Str) (sp : Sp) (E : St → XK) (ta : TE) (t : TA) : TE := fun σ H Q => ta σ H fun x H1 => ∃ a dx fs, x = .ref a ∧ H1 a = some (.ins C dx fs) ∧ fs.lookup m = none ∧
  t σ H1 fun vs H2 => sp (x :: vs) H2 Q (E σ)
theorem pe_methX {pl : Sem Bool} (he : PE X o ta) (c : Cls X.K C) (hm : Meth X.K C m f) (F : FnOk X.prog X.w X.K X.mg X.base CX k f fd ps sp) (hr : Room k X.A) (hb : Binds X.K fd ps []) (hx : ∀ σ, PassesAt CX X σ (E σ)) (ha : PA X (e :: es) t)
    (hst : starEach (e :: es) X.env = (false, eval e X.env) :: starEach es X.env := by rfl) (hpl : (backTo pos (starEach es X.env)).any (·.1) = false := by rfl)
    (ht : eval (.Call (.Attribute o m apos) (e :: es) [] pos) X.env = (do
      let ov ← eval o X.env
      standAt apos.atName
      let (f, first) ← holding [ov] (getMethod ov m pl)
      callWith pos f first (backTo pos (starEach (e :: es) X.env)) (backToKw pos (keywordEach [] X.env))) := by rfl) :
    PE X (.Call (.Attribute o m apos) (e :: es) [] pos) (tMethX C m sp E ta t) := by
  refine ⟨fun pins s σ H Q I h => ?_⟩
  refine PySem.W.methodCall_KW (pl := pl) (thn (he.run pins s σ H _ I h) fun u s1 ⟨x, H1, I1, rx, a, dx, fs, ex, ea, l, q⟩ => ?_) ht
  subst ex
  obtain rfl : u = Value.ref a := rx
  refine getmeth_ok I1 ea c hm l ?_
  refine PySem.W.callWith_K (first := [.ref a]) (h₀ := X.base) I.ok.mod.kin hm.kp (thn (ha.run pos pins s1 σ H1 _ I1 q) fun us s2 ⟨vs, H2, I2, r, q2⟩ => ⟨I2.kIn, ?_⟩) hst hpl
  exact run_fnS (us := .ref a :: us) (vs := .ref a :: vs) F hr hb (hx σ) I2 (.cons rfl r) q2
end
def spDRN (K : PySem.W.Frag) (CB C : Addr) : Sp := fun vs H _ E => ∃ (p : Addr) (D : Dv) (v : V), vs = [.ref p, v] ∧ DvAt C H p D ∧ Bad K H v 0 (10 ^ 60) ∧ Rs H CB v E
section
variable {P : Program} {w : World} {K : PySem.W.Frag} {mg : Str → Option Value} {base : Heap}
theorem ok_drN {f C CB fQ : Addr} {fd fdQ : FuncData} (F : Fun K "divider_right" "divider_right" sDR f fd) (TD : TxtD K mg C)
    (GQ : FnOk P w K mg base (L2.CX P w) 4 fQ fdQ ["self", "x"] (spOneN K CB)) (mQ : Meth K C "quotient" fQ) (bQ : Binds K fdQ ["self", "x"] []) : FnOk P w K mg base (L2.CX P w) 5 f fd ["divider", "x"] (spDRN K CB C) := by
  refine F.okX scDR (fun vs H Q E h => ?_) (fun cdv A outer s H vs Q E hr h => ?_)
  · obtain ⟨p, D, x, rfl, _⟩ := h
    rfl
  · obtain ⟨p, D, v, rfl, ⟨dx, hp⟩, hB, k⟩ := h
    refine ⟨_, pss_one (ps_ret (pe_cmpR op_eq (pe_methX (pv 0) TD.cl mQ GQ hr bQ (fun σ => passAt (takes_of rfl rfl rfl rfl) σ) (by exact (pa_cons (pv 1) pa_nil))) (pe_op op_fdivW (pv 1) (pe_fld (pv 0) rfl)) (nomark _))), ?_⟩
    exact ⟨_, rfl, p, dx, _, rfl, hp, dFl_q D, _, rfl, .ref p, v, rfl, hB, k⟩
end
end KD

set_option Elab.async false
set_option linter.all false
set_option maxRecDepth 100000
set_option maxHeartbeats 8000000
/-! k61: the number that an action refuses -/
namespace KD
open PySem L2 LamX
open DV (Dv)
/-- none: try: a() / except BadNumber as e: return [e.number]; return [] -/
def TNone (CB : Addr) : (XK → Hp → VK → Prop) → Hp → VK → Prop := fun tl H Q =>
  tl (fun cls d H' => cls = .ref CB ∧ ∃ dd v, d = some dd ∧ H' dd = some (.xd [("number", v)]) ∧ ∀ e, H' e = none → ∀ p, H' p = none → Q (.ref p) (upd H' p (.lst [v]))) H fun _ H1 => ([] : List V).length ≤ sizeLine ∧ ∀ p, H1 p = none → Q (.ref p) (upd H1 p (.lst []))
theorem takes_len {X : Cx} {W : WX} (t : Takes X W) : Takes X (fun cls d σ H => σ.length = X.N.length → W cls d σ H) := fun u s' ⟨a, B, sI, pins, σ, H, cls, d, e, I, nb, up, sky, na, os, ag, w⟩ =>
  t u s' ⟨a, B, sI, pins, σ, H, cls, d, e, I, nb, up, sky, na, os, ag, w I.len⟩
theorem two_slots {σ : L2.St} (h : σ.length = 2) : ∃ x y, σ = [x, y] := by
  match σ, h with
  | [x, y], _ => exact ⟨x, y, rfl⟩
abbrev nmNone : List Str := ["_law_action", "e"]
theorem scNone : FnScope nmNone ["_law_action"] (defScope sNone) := ⟨rfl, rfl, rfl, by decide +kernel, rfl, by decide +kernel, by decide +kernel⟩
theorem none_gives {X : Cx} {g CB : Addr} {cdg : Value} {q : Str} (gB : X.mg "BadNumber" = some (.ref CB)) (xm : PySem.W.exmOne X.K (.ref CB) (.ref CB) = some true) (xf : XfC X.K CB) (nl : PySem.W.findIn X.K (.ref CB) "number" = some none) :
    GivesTo X nmNone "_law_none" (defScope sNone) g cdg (defBody sNone) "_law_action" q (TNone CB) := by
  intro f c' s H Q tl act hc h
  refine ⟨_, pss_cons (ps_try_as (X := (cxOf C8.CX0 X.prog X.w X.K X.mg X.base nmNone "_law_none" (defScope sNone) g cdg X.A X.stack s H C8.E0).nox) (i := 1) (n := "e") (c := .ref CB)
      (tb := fun W D σ H => ∃ Ech : XK, (∀ cls d (σ' : L2.St) H', Ech cls d H' → σ'.length = 2 → W cls d σ' H') ∧ σ[0]? = some (some (.ref f)) ∧ H c' = some (CodeO c' q) ∧ tl Ech H (fun _ H1 => D.nx σ H1))
      rfl rfl scNone.nd rfl rfl ⟨rfl, by decide, Or.inl gB⟩ L2.takes0 (fun W pn xe tk _ => ?_) (fun a oe cls d pn hz hf => pss_one (ps_ret (pe_lst (pa_cons (by exact (pe_xf xf nl hz hf (pv 1))) pa_nil)))))
    (pss_one (ps_ret (pe_lst pa_nil))), ?_⟩
  · refine ⟨fun pins s' σ H' D I h' => ?_⟩
    obtain ⟨Ech, hW, h1, h2, h3⟩ := h'
    exact (pss_one (ps_expr (act (fun cls d σ H => σ.length = 2 → W cls d σ H) pn xe Ech _ _ (takes_len tk) (fun cls d σ' H' hE => hW cls d σ' H' hE)))).run pins s' σ H' D I ⟨h1, h2, h3⟩
  · refine ⟨_, fun cls d σ' H' hE hl => ?_, rfl, hc, h⟩
    obtain ⟨x, y, rfl⟩ := two_slots hl
    obtain ⟨rfl, dd, v, rfl, gd, k⟩ := hE
    refine ⟨true, xm, fun _ e he => ?_, fun z => Bool.noConfusion z⟩
    exact ⟨_, rfl, rfl, rfl, dd, _, v, rfl, gd, (show List.lookup ("number" : Str) [(("number" : Str), v)] = some v by kernel_rfl), (by show 1 ≤ sizeLine; decide), fun p np => k e he p np⟩
end KD

set_option Elab.async false
set_option linter.all false
set_option maxRecDepth 100000
set_option maxHeartbeats 8000000
/-! k61: == by an own __eq__, whatever it tells -/
namespace L2
open PySem PySem.Spec PyProof.Rows
section
variable {X : Cx} {n : Nat}
def rEqO (C : Addr) (sp : Sp) (E : XK) : R2 := fun x y H Q => ∃ a b dx dy fs gs, x = .ref a ∧ y = .ref b ∧ H a = some (.ins C dx fs) ∧ H b = some (.ins C dy gs) ∧ sp [.ref a, .ref b] H (fun v H' => ∃ z, v = .bl z ∧ Q v H') E
theorem op_eqO {CX : CXT} {C f : Addr} {fd : FuncData} {ps : List Str} {sp : Sp} {E : XK} (F : FnOk X.prog X.w X.K X.mg X.base CX n f fd ps sp)
    (hs : PySem.W.findIn X.K (.ref C) "__eq__" = some (some (.ref f))) (hf : PySem.W.isFn X.K (.ref f) = true) (hb : Binds X.K fd ps []) (hx : Passes CX X E) (hr : Room n X.A) : OpR X (compareOp .Eq) (rEqO C sp E) := by
  intro pins s σ H x y v u Q I rx ry hq
  obtain ⟨a, b, dx, dy, fs, gs, rfl, rfl, ha, hb', q⟩ := hq
  cases rx
  cases ry
  obtain ⟨mA, J, _⟩ := ins_get I.hok ha
  obtain ⟨mB, J', _⟩ := ins_get I.hok hb'
  obtain ⟨od, J, _⟩ := J.look
  obtain ⟨od', J', _⟩ := J'.look
  obtain ⟨m, hF⟩ := I.fr
  show wpAny (model X.prog X.w) X.A (richCompare .Eq (.ref a) (.ref b)) (EP X pins σ Q) X.xe s
  refine PySem.W.cmp_K (op := .Eq) (tb := .ref C) hr.units0 hF I.ok.mod.kin J J'.type (by simp [PySem.W.notFirst]) hs hf ?_
  refine wpAny_mono (run_fn (vs := [.ref a, .ref b]) F hr hb .nil hx I (.cons rfl (.cons rfl .nil)) q) (fun r s' hq => ?_) fun _ _ e => e
  obtain ⟨w, H', I', rw_, z, rfl, q'⟩ := hq
  cases rw_
  exact ⟨.bl z, H', I', rfl, q'⟩
/-- the right one a whole number -/
def rEqOI (C : Addr) (sp : Sp) (E : XK) : R2 := fun x y H Q => ∃ a dx fs i, x = .ref a ∧ y = .int i ∧ H a = some (.ins C dx fs) ∧ sp [.ref a, .int i] H (fun v H' => ∃ z, v = .bl z ∧ Q v H') E
theorem op_eqOI {CX : CXT} {C f : Addr} {fd : FuncData} {ps : List Str} {sp : Sp} {E : XK} (F : FnOk X.prog X.w X.K X.mg X.base CX n f fd ps sp) (hn : PySem.W.notFirst X.K C (.type "int") = true)
    (hs : PySem.W.findIn X.K (.ref C) "__eq__" = some (some (.ref f))) (hf : PySem.W.isFn X.K (.ref f) = true) (hb : Binds X.K fd ps []) (hx : Passes CX X E) (hr : Room n X.A) : OpR X (compareOp .Eq) (rEqOI C sp E) := by
  intro pins s σ H x y v u Q I rx ry hq
  obtain ⟨a, dx, fs, i, rfl, rfl, ha, q⟩ := hq
  cases rx
  have ry' := ry
  obtain ⟨t, rfl⟩ := ry
  obtain ⟨mA, J, _⟩ := ins_get I.hok ha
  obtain ⟨od, J, _⟩ := J.look
  obtain ⟨m, hF⟩ := I.fr
  show wpAny (model X.prog X.w) X.A (richCompare .Eq (.ref a) (.int i t)) (EP X pins σ Q) X.xe s
  refine PySem.W.cmp_K (op := .Eq) (tb := .type "int") hr.units0 hF I.ok.mod.kin J ?_ hn hs hf ?_
  · exact fun A Q E s _ q => by
      show wpAny _ _ (pure _) _ _ _
      exact wpAny_pure q
  refine wpAny_mono (run_fn (vs := [.ref a, .int i]) F hr hb .nil hx I (.cons rfl (.cons ry' .nil)) q) (fun r s' hq => ?_) fun _ _ e => e
  obtain ⟨w, H', I', rw_, z, rfl, q'⟩ := hq
  cases rw_
  exact ⟨.bl z, H', I', rfl, q'⟩
end
end L2

set_option Elab.async false
set_option linter.all false
set_option maxRecDepth 100000
set_option maxHeartbeats 8000000
/-! k61: Divider.__eq__ -/
namespace KD
open PySem L2
open DV (Dv)
abbrev sDEq : Stmt := inClass (top 12) 1
instance : DecidableEq Dv := fun x y =>
  if h : x.b = y.b ∧ x.m = y.m ∧ x.o = y.o ∧ x.s = y.s then isTrue (by cases x; cases y; simp_all) else isFalse fun z => h (by rw [z]; exact ⟨rfl, rfl, rfl, rfl⟩)
/-- what isinstance asks of Divider -/
structure TxtQ (K : PySem.W.Frag) (mg : Str → Option Value) (C : Addr) : Prop where
  ha : PySem.W.findIn K (.ref C) "__class__" = some (some (.builtin "object.__class__"))
  hn : PySem.W.specialIn K (.builtin "object.__class__") "__get__" = some (some (.builtin "getset_descriptor.__get__"))
  htk : PySem.W.takesIn K (.builtin "object.__class__") = some true
  hm : PySem.W.mroIn K C (.type "object") = some true
  k1 : PySem.W.kitOne K (.ref C) (.ref C) = some true
  k2 : PySem.W.kitOne K (.type "int") (.ref C) = some false
def spDEq (C : Addr) : Sp := fun vs H Q _ => ∃ (p : Addr) (D : Dv), DvAt C H p D ∧ ((∃ (q : Addr) (D' : Dv), vs = [.ref p, .ref q] ∧ DvAt C H q D' ∧ Q (.bl (decide (D = D'))) H) ∨ (∃ i : Int, vs = [.ref p, .int i] ∧ Q (.bl false) H))
section
variable {P : Program} {w : World} {K : PySem.W.Frag} {mg : Str → Option Value} {base : Heap}
theorem scDEq : FnScope ["self", "other"] ["self", "other"] (defScope sDEq) := ⟨rfl, rfl, rfl, by decide +kernel, rfl, by decide +kernel, by decide +kernel⟩
theorem ok_deq {f C : Addr} {fd : FuncData} (F : Fun K "__eq__" "Divider.__eq__" sDEq f fd) (T : TxtI mg) (TD : TxtD K mg C) (TQ : TxtQ K mg C) : FnOk P w K mg base CX0 1 f fd ["self", "other"] (spDEq C) := by
  refine F.ok scDEq (fun vs H Q E h => ?_) (fun cdv A outer s H vs Q E hr h => ?_)
  · obtain ⟨p, D, _, ⟨q, D', rfl, _⟩ | ⟨i, rfl, _⟩⟩ := h <;> rfl
  · refine ⟨_, pss_one (ps_ret (pe_and (pe_callB (id := "isinstance") call_isi (by rfl) T.isi (by decide +kernel) (pa_cons (pv 1) (pa_cons (pe_glob (v := .ref C) (by rfl) TD.mgC rfl) pa_nil)))
      (pe_and (pe_cmpR op_eq (pe_fld (pv 0) rfl) (pe_fld (pv 1) rfl) (nomark _)) (pe_and (pe_cmpR op_eq (pe_fld (pv 0) rfl) (pe_fld (pv 1) rfl) (nomark _)) (pe_and (pe_cmpR op_eq (pe_fld (pv 0) rfl) (pe_fld (pv 1) rfl) (nomark _))
        (pe_one (pe_cmpR op_eq (pe_fld (pv 0) rfl) (pe_fld (pv 1) rfl) (nomark _)))))))), ?_⟩
    obtain ⟨p, D, ⟨dp, hp⟩, ⟨q, D', rfl, ⟨dq, hq⟩, k⟩ | ⟨i, rfl, k⟩⟩ := h
    · refine ⟨_, rfl, .ref q, .ref C, .ref C, .ref C, true, rfl, .own C, .base (.ins hq TD.cl TQ.ha TQ.hn TQ.htk TQ.hm), TQ.k1, _, rfl, ?_⟩
      refine iteT ?_
      refine ⟨_, rfl, p, C, dp, _, _, rfl, hp, TD.cl, TD.nB, dFl_b D, _, rfl, q, C, dq, _, _, rfl, hq, TD.cl, TD.nB, dFl_b D', rfl, _, rfl, ?_⟩
      by_cases cb : D.b = D'.b
      case neg =>
        refine iteF' (decide_eq_false fun z => cb (V.int.inj z)) ?_
        rw [decide_eq_false fun z : D = D' => cb (congrArg Dv.b z)] at k
        exact k
      refine iteT' (decide_eq_true (congrArg V.int cb)) ?_
      refine ⟨_, rfl, p, C, dp, _, _, rfl, hp, TD.cl, TD.nM, dFl_m D, _, rfl, q, C, dq, _, _, rfl, hq, TD.cl, TD.nM, dFl_m D', rfl, _, rfl, ?_⟩
      by_cases cm : D.m = D'.m
      case neg =>
        refine iteF' (decide_eq_false fun z => cm (V.int.inj z)) ?_
        rw [decide_eq_false fun z : D = D' => cm (congrArg Dv.m z)] at k
        exact k
      refine iteT' (decide_eq_true (congrArg V.int cm)) ?_
      refine ⟨_, rfl, p, C, dp, _, _, rfl, hp, TD.cl, TD.nO, dFl_o D, _, rfl, q, C, dq, _, _, rfl, hq, TD.cl, TD.nO, dFl_o D', rfl, _, rfl, ?_⟩
      by_cases co : D.o = D'.o
      case neg =>
        refine iteF' (decide_eq_false fun z => co (V.int.inj z)) ?_
        rw [decide_eq_false fun z : D = D' => co (congrArg Dv.o z)] at k
        exact k
      refine iteT' (decide_eq_true (congrArg V.int co)) ?_
      refine ⟨_, rfl, p, C, dp, _, _, rfl, hp, TD.cl, TD.nS, dFl_s D, _, rfl, q, C, dq, _, _, rfl, hq, TD.cl, TD.nS, dFl_s D', rfl, ?_⟩
      have e : decide (V.int (D.s : Nat) = V.int (D'.s : Nat)) = decide (D = D') := by
        by_cases cs : D.s = D'.s
        · rw [decide_eq_true (congrArg (fun z : Nat => V.int (z : Nat)) cs)]
          refine (decide_eq_true ?_).symm
          cases D; cases D'
          simp_all
        · rw [decide_eq_false fun z => cs (by have := V.int.inj z; omega), decide_eq_false fun z : D = D' => cs (congrArg Dv.s z)]
      show Q (.bl (decide (V.int (D.s : Nat) = V.int (D'.s : Nat)))) H
      rw [e]
      exact k
    · refine ⟨_, rfl, .int i, .ref C, .type "int", .ref C, false, rfl, .own C, .base (.int _), TQ.k2, _, rfl, ?_⟩
      exact iteF k
end
end KD

set_option Elab.async false
set_option linter.all false
set_option maxRecDepth 100000
set_option maxHeartbeats 8000000
/-! k61: calls by the names of the arguments alone -/
namespace L2
open PySem PySem.Spec PyProof.Rows
section
variable {X : Cx} {CX : CXT} {k n : Nat} {f C : Addr} {fd : FuncData} {ps ks : List Str} {sp : Sp} {E : XK} {x m : Str} {p pos apos : Pos} {o : Expr} {kws : List Keyword} {ta : TE} {tk : TA} {g : List Value → List Value → List Value} {gV : List V → List V → List V}
/-- f(k = v, ..) -/
theorem pe_callN0 (F : FnOk X.prog X.w X.K X.mg X.base CX k f fd ps sp) (hr : Room k X.A) (hg : Gl X x) (hm : X.mg x = some (.ref f)) (hk : PySem.W.keepIn X.K (.ref f) = true) (hb : KBn X.K fd ps 0 ks g gV) (hx : Passes CX X E)
    (hkw : PK X kws tk) (hall : (backToKw pos (keywordEach kws X.env)).all (·.1.isSome) = true := by rfl) (hks : (backToKw pos (keywordEach kws X.env)).filterMap (·.1) = ks := by rfl)
    (hdb : (x == ("__debug__" : Str)) = false := by decide)
    (hpl : ((backTo pos (starEach [] X.env)).any (·.1) || (backToKw pos (keywordEach kws X.env)).any (·.1.isNone)) = false := by rfl) :
    PE X (.Call (.Name x p) [] kws pos) (tCallN 0 ks.length sp gV E tNil tk) := by
  refine ⟨fun pins s σ H Q I h => ?_⟩
  refine wpAny_Call_Name_kw (ld_glob I hg hm ?_ hdb)
  refine PySem.W.callWith_KW0 (h₀ := X.base) I.ok.mod.kin hk hall ?_ hpl
  refine thn (hkw.run pos pins s σ H _ I h) fun ws s2 ⟨zs, H2, I2, rz, l1, l2, q2⟩ => ⟨I2.kIn, ?_⟩
  rw [hks]
  exact run_fnN (us := []) (vs := []) F hr hb hx I2 .nil rz rfl l2 q2
/-- o.m(k = v, ..) -/
def tMethN (C : Addr) (m : Str) (j : Nat) (sp : Sp) (gV : List V → List V → List V) (E : XK) (ta : TE) (tk : TA) : TE := fun σ H Q => ta σ H fun x H1 => ∃ a dx fs, x = .ref a ∧ H1 a = some (.ins C dx fs) ∧ fs.lookup m = none ∧
  tk σ H1 fun zs H2 => zs.length = j ∧ sp (gV [x] zs) H2 Q E
theorem pe_methN {pl : Sem Bool} (he : PE X o ta) (c : Cls X.K C) (hm : Meth X.K C m f) (F : FnOk X.prog X.w X.K X.mg X.base CX k f fd ps sp) (hr : Room k X.A) (hb : KBn X.K fd ps 1 ks g gV) (hx : Passes CX X E)
    (hkw : PK X kws tk) (hall : (backToKw pos (keywordEach kws X.env)).all (·.1.isSome) = true := by rfl) (hks : (backToKw pos (keywordEach kws X.env)).filterMap (·.1) = ks := by rfl)
    (hpl : ((backTo pos (starEach [] X.env)).any (·.1) || (backToKw pos (keywordEach kws X.env)).any (·.1.isNone)) = false := by rfl)
    (ht : eval (.Call (.Attribute o m apos) [] kws pos) X.env = (do
      let ov ← eval o X.env
      standAt apos.atName
      let (f, first) ← holding [ov] (getMethod ov m pl)
      callWith pos f first (backTo pos (starEach [] X.env)) (backToKw pos (keywordEach kws X.env))) := by rfl) :
    PE X (.Call (.Attribute o m apos) [] kws pos) (tMethN C m ks.length sp gV E ta tk) := by
  refine ⟨fun pins s σ H Q I h => ?_⟩
  refine PySem.W.methodCall_KW (pl := pl) (thn (he.run pins s σ H _ I h) fun u s1 ⟨x, H1, I1, rx, a, dx, fs, ex, ea, l, q⟩ => ?_) ht
  subst ex
  obtain rfl : u = Value.ref a := rx
  refine getmeth_ok I1 ea c hm l ?_
  refine PySem.W.callWith_KW0 (first := [.ref a]) (h₀ := X.base) I.ok.mod.kin hm.kp hall ?_ hpl
  refine thn (hkw.run pos pins s1 σ H1 _ I1 q) fun ws s2 ⟨zs, H2, I2, rz, l2, q2⟩ => ⟨I2.kIn, ?_⟩
  rw [hks]
  exact run_fnN (us := [.ref a]) (vs := [.ref a]) F hr hb hx I2 (.cons rfl .nil) rz rfl l2 q2
end
/-- how the named arguments of a plain def bind -/
theorem Fun.kbn {K : PySem.W.Frag} {x qual : Str} {st : Stmt} {f : Addr} {fd : FuncData} {ps : List Str} (F : Fun K x qual st f fd) (n : Nat) (ks : List Str) (g : {α : Type} → List α → List α → List α)
    (hrel : ∀ {vs zs : List V} {us ws : List Value}, Vals vs us → Vals zs ws → Vals (g vs zs) (g us ws))
    (h : ∀ (kV doc pm : Value) (an : Option Addr) (cdv ct : Value) (us ws : List Value), us.length = n → ws.length = ks.length → bindArgs (PySem.W.fnOf x qual (defArgs st) (defBody st) (defScope st) .none kV doc pm an cdv ct) ⟨us, ks.zip ws⟩ = pure (ps.zip (g us ws))) :
    KBn K fd ps n ks (fun us ws => g us ws) (fun vs zs => g vs zs) := by
  obtain ⟨oc, od, kV, doc, pm, an, cdv, ct, osl, rfl, lk, hcd⟩ := F.ex
  exact ⟨fun s us ws X l1 l2 => .of_eq (h kV doc pm an cdv ct us ws l1 l2), fun r1 r2 => hrel r1 r2⟩
end L2

set_option Elab.async false
set_option linter.all false
set_option maxRecDepth 100000
set_option maxHeartbeats 8000000
/-! k61: by names -/
namespace KD
open PySem L2
open DV (Dv)
open KDB (TxtB BagAt spBag spDraw)
def g2r {α : Type} (_ ws : List α) : List α := match ws with | [x, d] => [d, x] | _ => []
def g3r {α : Type} (_ ws : List α) : List α := match ws with | [a, b, c] => [c, b, a] | _ => []
def g5i {α : Type} (us ws : List α) : List α := match us, ws with | [p], [s, o, b, m] => [p, b, m, o, s] | _, _ => []
def g1q {α : Type} (us ws : List α) : List α := us ++ ws
theorem shB (b1 b2 : Bool) (i : Int) : SeqAt.shaped (.list [.bool b1, .int i, .bool b2]) = true := by
  simp [SeqAt.shaped, PyData.canLay0, PyData.canLayAll0, PyData.depth, PyData.depthAll]
theorem eqv_self {d : PyData} (h : SeqAt.shaped d = true) : PyData.eqv d d = true := by
  unfold SeqAt.shaped at h
  rw [Bool.and_eq_true] at h
  exact PySem.SeqAt.eqv_refl d h.1
def dO : Option Int → PyData
  | none => .none
  | some i => .int i
theorem dpO {K : PySem.W.Frag} {H : Hp} (x : Option Int) : Dp K H (optI x) (dO x) := by
  cases x with
  | none => exact .non
  | some i => exact .int i
theorem shO (a b : Option Int) : SeqAt.shaped (.list [dO a, dO b]) = true := by
  cases a <;> cases b <;> simp [dO, SeqAt.shaped, PyData.canLay0, PyData.canLayAll0, PyData.depth, PyData.depthAll]
theorem shI2 (a b : Int) : SeqAt.shaped (.list [.int a, .int b]) = true := shapedI [a, b]
theorem shT2 (a b : Int) : SeqAt.shaped (.tuple [.int a, .int b]) = true := by
  simp [SeqAt.shaped, PyData.canLay0, PyData.canLayAll0, PyData.depth, PyData.depthAll]
theorem least_one {b t : Int} {m n : Nat} (h1 : Ex b t m) (h2 : Ex b t n) (k1 : ∀ k, k < m → ¬ Ex b t k) (k2 : ∀ k, k < n → ¬ Ex b t k) : m = n := by
  by_cases c : m < n
  · exact absurd h1 (k2 m c)
  · by_cases c2 : n < m
    · exact absurd h2 (k1 n c2)
    · omega
theorem win_one {A : Int → Prop} {l g l' g' : Int} (l0 : 0 ≤ l) (lg : l ≤ g) (h : ∀ m, 0 ≤ m → (A m ↔ l ≤ m ∧ m ≤ g)) (l0' : 0 ≤ l') (lg' : l' ≤ g') (h' : ∀ m, 0 ≤ m → (A m ↔ l' ≤ m ∧ m ≤ g')) : l = l' ∧ g = g' := by
  have a1 := (h' l l0).mp ((h l l0).mpr ⟨Int.le_refl _, lg⟩)
  have a2 := (h l' l0').mp ((h' l' l0').mpr ⟨Int.le_refl _, lg'⟩)
  have a3 := (h' g (by omega)).mp ((h g (by omega)).mpr ⟨lg, Int.le_refl _⟩)
  have a4 := (h g' (by omega)).mp ((h' g' (by omega)).mpr ⟨lg', Int.le_refl _⟩)
  omega
abbrev nmBN : List Str := ["_law_bag_here", "_law_part", "_law_move", "_law_figure", "_law_times", "_law_more", "_law_last", "_law_cutter", "_law_told", "_law_found"]
theorem scBN : FnScope nmBN ["_law_bag_here"] (defScope sNames) := ⟨rfl, rfl, rfl, by decide +kernel, rfl, by decide +kernel, by decide +kernel⟩
def spBN : Sp := fun vs H Q _ => ∃ (b c : Addr) (m : Nat), vs = [.ref b] ∧ BagAt c H b m ∧ m ≤ 90000 ∧ ∀ H', BagAt c H' b (m + 10) → But b H H' → Q (.bl true) H'
section
variable {P : Program} {w : World} {K : PySem.W.Frag} {mg : Str → Option Value} {base : Heap}
theorem ok_names {f C fI fQ fE f1 f2 f3 f4 f5 f6 f7 f8 : Addr} {fd fdI fdQ fdE fd1 fd2 fd3 fd4 fd5 fd6 fd7 fd8 : FuncData} (F : Fun K "_law_by_names_told" "_law_by_names_told" sNames f fd) (TD : TxtD K mg C)
    (GD : FnOk P w K mg base CX0 1 f1 fd1 ["_law_bag_here", "_law_limit"] spDraw) (kD : PySem.W.keepIn K (.ref f1) = true) (bD : Binds K fd1 ["_law_bag_here", "_law_limit"] []) (gD : mg "_law_draw" = some (.ref f1))
    (GP : FnOk P w K mg base CX0 1 f2 fd2 ["_law_bits"] spPower) (kP : PySem.W.keepIn K (.ref f2) = true) (bP : Binds K fd2 ["_law_bits"] []) (gP : mg "_law_power" = some (.ref f2))
    (GR : FnOk P w K mg base CX0 5 f3 fd3 ["divider", "x"] (spDR C)) (kR : PySem.W.keepIn K (.ref f3) = true) (bR : Binds K fd3 ["divider", "x"] []) (gR : mg "divider_right" = some (.ref f3)) (kbR : KBn K fd3 ["divider", "x"] 0 ["x", "divider"] (fun us ws => g2r us ws) (fun vs zs => g2r vs zs))
    (GW : FnOk P w K mg base CX0 6 f4 fd4 ["divider", "x"] (spDW C)) (kW : PySem.W.keepIn K (.ref f4) = true) (bW : Binds K fd4 ["divider", "x"] []) (gW : mg "divider_wrong" = some (.ref f4)) (kbW : KBn K fd4 ["divider", "x"] 0 ["x", "divider"] (fun us ws => g2r us ws) (fun vs zs => g2r vs zs))
    (GN : FnOk P w K mg base CX0 6 f5 fd5 ["divider", "x"] (spDN C)) (kN : PySem.W.keepIn K (.ref f5) = true) (bN : Binds K fd5 ["divider", "x"] []) (gN : mg "divider_next" = some (.ref f5)) (kbN : KBn K fd5 ["divider", "x"] 0 ["x", "divider"] (fun us ws => g2r us ws) (fun vs zs => g2r vs zs))
    (GM : FnOk P w K mg base CX0 5 f6 fd6 ["divider", "x"] (spDM C)) (kM : PySem.W.keepIn K (.ref f6) = true) (bM : Binds K fd6 ["divider", "x"] []) (gM : mg "divider_many" = some (.ref f6)) (kbM : KBn K fd6 ["divider", "x"] 0 ["x", "divider"] (fun us ws => g2r us ws) (fun vs zs => g2r vs zs))
    (GL : FnOk P w K mg base CX0 4 f7 fd7 ["by", "top"] spLS) (kL : PySem.W.keepIn K (.ref f7) = true) (bL : Binds K fd7 ["by", "top"] []) (gL : mg "least_shift" = some (.ref f7)) (kbL : KBn K fd7 ["by", "top"] 0 ["top", "by"] (fun us ws => g2r us ws) (fun vs zs => g2r vs zs))
    (GT : FnOk P w K mg base CX0 4 f8 fd8 ["by", "top", "shift"] (spTB K)) (kT : PySem.W.keepIn K (.ref f8) = true) (bT : Binds K fd8 ["by", "top", "shift"] []) (gT : mg "times_for" = some (.ref f8)) (kbT : KBn K fd8 ["by", "top", "shift"] 0 ["shift", "top", "by"] (fun us ws => g3r us ws) (fun vs zs => g3r vs zs))
    (MD : Mk K C fI) (GI : FnOk P w K mg base CX0 4 fI fdI ["self", "by", "multiplier", "offset", "shift"] (spDI C)) (bI : Binds K fdI ["self", "by", "multiplier", "offset", "shift"] []) (kbI : KBn K fdI ["self", "by", "multiplier", "offset", "shift"] 1 ["shift", "offset", "by", "multiplier"] (fun us ws => g5i us ws) (fun vs zs => g5i vs zs))
    (GQ : FnOk P w K mg base CX0 4 fQ fdQ ["self", "x"] (spQuot C)) (mQ : Meth K C "quotient" fQ) (kbQ : KBn K fdQ ["self", "x"] 1 ["x"] (fun us ws => g1q us ws) (fun vs zs => g1q vs zs))
    (GE : FnOk P w K mg base CX0 1 fE fdE ["self", "other"] (spDEq C)) (bE : Binds K fdE ["self", "other"] []) (eq_s : PySem.W.findIn K (.ref C) "__eq__" = some (some (.ref fE))) (eq_f : PySem.W.isFn K (.ref fE) = true) :
    FnOk P w K mg base CX0 7 f fd ["_law_bag_here"] spBN := by
  have sc := scBN
  refine F.ok scBN (fun vs H Q E h => ?_) (fun cdv A outer s H vs Q E hr h => ?_)
  · obtain ⟨a, ns, m, rfl, _⟩ := h
    rfl
  · obtain ⟨b, c, m, rfl, hB, hm, k⟩ := h
    have hr1 : Room 1 _ := hr.mono (by decide)
    have hr4 : Room 4 _ := hr.mono (by decide)
    have hr5 : Room 5 _ := hr.mono (by decide)
    have hr6 : Room 6 _ := hr.mono (by decide)
    refine ⟨_, pss_cons (ps_par3 (i := 1) (j := 2) (l := 3) rfl sc.nd rfl rfl rfl (by decide) (by decide) (by decide) rfl rfl rfl (pa_cons (pe_op op_add pe_int (pe_call GD hr1 rfl gD kD bD .nil pass0 (pa_cons (pv 0) (pa_cons pe_int pa_nil)))) (pa_cons (pe_call GD hr1 rfl gD kD bD .nil pass0 (pa_cons (pv 0) (pa_cons pe_int pa_nil))) (pa_cons (pe_call GD hr1 rfl gD kD bD .nil pass0 (pa_cons (pv 0) (pa_cons pe_int pa_nil))) pa_nil))) (by rfl))
      (pss_cons (ps_par3 (i := 4) (j := 5) (l := 6) rfl sc.nd rfl rfl rfl (by decide) (by decide) (by decide) rfl rfl rfl (pa_cons (pe_call GD hr1 rfl gD kD bD .nil pass0 (pa_cons (pv 0) (pa_cons pe_int pa_nil))) (pa_cons (pe_call GD hr1 rfl gD kD bD .nil pass0 (pa_cons (pv 0) (pa_cons pe_int pa_nil))) (pa_cons (pe_op op_add pe_int (pv 3)) pa_nil))) (by rfl))
      (pss_cons (ps_set (i := 7) sc.nd rfl (.inl rfl) (pe_makeK0 MD GI hr5 (by rfl) TD.mgC kbI pass0 (pk_cons (pv 2) (pk_cons (pv 5) (pk_cons (pv 1) (pk_cons (pv 4) pk_nil))))))
      (pss_cons (ps_set (i := 8) sc.nd rfl (.inl rfl) (pe_op op_fdivW (pe_op op_add (pe_op op_mulW (pv 3) (pv 4)) (pv 5)) (pe_call GP hr1 rfl gP kP bP .nil pass0 (pa_cons (pv 2) pa_nil))))
      (pss_cons (ps_set (i := 9) sc.nd rfl (.inl rfl) (pe_lst (pa_cons (pe_cmpR (op_eqO GE eq_s eq_f bE pass0 hr1) (pv 7) (pe_make MD GI hr5 (by rfl) TD.mgC bI .nil pass0 (pa_cons (pv 1) (pa_cons (pv 4) (pa_cons (pv 5) (pa_cons (pv 2) pa_nil))))) (nomark _)) (pa_cons (pe_methN (pv 7) TD.cl mQ GQ hr4 kbQ pass0 (pk_cons (pv 3) pk_nil)) pa_nil))))
      (pss_cons (ps_if (pt_cmpR (op_neD hr1.units) (pe_op op_cat (pv 9) (pe_lst (pa_cons (pe_callN0 GR hr5 rfl gR kR kbR pass0 (pk_cons (pv 3) (pk_cons (pv 7) pk_nil))) pa_nil))) (pe_lst (pa_cons pe_bl (pa_cons (pv 8) (pa_cons (pe_cmpR op_eq (pv 8) (pe_op op_fdivW (pv 3) (pv 1)) (nomark _)) pa_nil)))) (nomark _)) (pss_one (ps_ret pe_bl)) pss_nil)
      (pss_cons (ps_set (i := 9) sc.nd rfl (.inl rfl) (pe_lst (pa_cons (pe_callN0 GW hr6 rfl gW kW kbW pass0 (pk_cons (pv 3) (pk_cons (pv 7) pk_nil))) (pa_cons (pe_callN0 GN hr6 rfl gN kN kbN pass0 (pk_cons (pv 3) (pk_cons (pv 7) pk_nil))) pa_nil))))
      (pss_cons (ps_if (pt_cmpR (op_neD hr1.units) (pv 9) (pe_lst (pa_cons (pe_call GW hr6 rfl gW kW bW .nil pass0 (pa_cons (pv 7) (pa_cons (pv 3) pa_nil))) (pa_cons (pe_call GN hr6 rfl gN kN bN .nil pass0 (pa_cons (pv 7) (pa_cons (pv 3) pa_nil))) pa_nil))) (nomark _)) (pss_one (ps_ret pe_bl)) pss_nil)
      (pss_cons (ps_set (i := 9) sc.nd rfl (.inl rfl) (pe_lst (pa_cons (pe_callN0 GM hr5 rfl gM kM kbM pass0 (pk_cons (pv 3) (pk_cons (pv 7) pk_nil))) (pa_cons (pe_callN0 GL hr4 rfl gL kL kbL pass0 (pk_cons (pv 6) (pk_cons (pv 1) pk_nil))) pa_nil))))
      (pss_cons (ps_if (pt_cmpR (op_neD hr1.units) (pv 9) (pe_lst (pa_cons (pe_call GM hr5 rfl gM kM bM .nil pass0 (pa_cons (pv 7) (pa_cons (pv 3) pa_nil))) (pa_cons (pe_call GL hr4 rfl gL kL bL .nil pass0 (pa_cons (pv 1) (pa_cons (pv 6) pa_nil))) pa_nil))) (nomark _)) (pss_one (ps_ret pe_bl)) pss_nil)
      (pss_one (ps_ret (pe_cmpR (op_eqD hr1.units) (pe_callN0 GT hr4 rfl gT kT kbT pass0 (pk_cons (pv 2) (pk_cons (pv 6) (pk_cons (pv 1) pk_nil)))) (pe_call GT hr4 rfl gT kT bT .nil pass0 (pa_cons (pv 1) (pa_cons (pv 6) (pa_cons (pv 2) pa_nil)))) (nomark _))))))))))))), ?_⟩
    -- the numbers
    refine ⟨_, rfl, b, c, 12, _, rfl, hB, by omega, by decide, by decide, fun r1 G1 a10 a11 B1 e1 => ?_⟩
    obtain ⟨p, hp⟩ : ∃ y, 2 + r1 = y := ⟨_, rfl⟩
    refine ⟨_, _, rfl, rfl, ?_⟩
    simp only [hp]
    refine ⟨_, rfl, b, c, 7, _, rfl, B1, by omega, by decide, by decide, fun r2 G2 a20 a21 B2 e2 => ?_⟩
    obtain ⟨n, rfl⟩ : ∃ n : Nat, r2 = (n : Int) := ⟨r2.toNat, by omega⟩
    refine ⟨_, rfl, b, c, 400, _, rfl, B2, by omega, by decide, by decide, fun x G3 a30 a31 B3 e3 => ?_⟩
    refine ⟨_, _, _, rfl, ?_⟩
    refine ⟨_, rfl, b, c, 70, _, rfl, B3, by omega, by decide, by decide, fun t G4 a40 a41 B4 e4 => ?_⟩
    refine ⟨_, rfl, b, c, 9, _, rfl, B4, by omega, by decide, by decide, fun o G5 a50 a51 B5 e5 => ?_⟩
    obtain ⟨z, hz⟩ : ∃ y, 1 + x = y := ⟨_, rfl⟩
    refine ⟨_, rfl, _, _, rfl, rfl, ?_⟩
    simp only [hz]
    refine ⟨_, _, _, rfl, ?_⟩
    have big : (500 : Int) ≤ 10 ^ 60 := by decide
    have L : Lim ⟨p, t, o, n⟩ := ⟨by show 2 ≤ p; omega, by show p ≤ 10 ^ 60; omega, a40, by show t ≤ 10 ^ 60; omega, a50, by show o ≤ 10 ^ 60; omega, by show n ≤ 400; omega⟩
    have eB : But b H G5 := But.trans e1 (But.trans e2 (But.trans e3 (But.trans e4 e5)))
    have mkS : ∀ {G G' : Hp} {q dq : Addr}, G q = none → G dq = none → dq ≠ q → But q (upd (upd G dq (.own q)) q (.ins C dq [])) G' → Same G G' := fun {G G' q dq} nq ndq ne b1 => But.fresh ((Same.new (o := .own q) ndq).trans (Same.new (o := .ins C dq []) (by rw [upd_ne ne.symm]; exact nq))) b1 nq
    obtain ⟨D, hD⟩ : ∃ D : Dv, D = ⟨p, t, o, n⟩ := ⟨_, rfl⟩
    have LD : Lim D := by rw [hD]; exact L
    -- the divider by names
    refine ⟨_, rfl, _, rfl, _, rfl, _, rfl, rfl, rfl, fun q dq nq ndq ne => ⟨q, dq, ⟨p, t, o, n⟩, rfl, upd_same, L, fun G6 b6 hq => ⟨rfl, ?_⟩⟩⟩
    have s6 := mkS nq ndq ne b6
    rw [← hD] at hq
    have x60 : x ≤ 10 ^ 60 := by omega
    have w0 : (0 : Int) < 2 ^ n := Int.pow_pos (by decide)
    have w1 : (2 : Int) ^ n ≤ 10 ^ 60 := by
      have : (2 : Int) ^ n ≤ 2 ^ 6 := by
        have := Nat.pow_le_pow_right (n := 2) (by decide) (show n ≤ 6 by omega)
        exact_mod_cast this
      exact Int.le_trans this (by decide)
    -- what is told
    refine ⟨_, rfl, _, rfl, _, _, rfl, rfl, (one60 a30 x60).w (one60 a40 (by omega)), _, rfl, _, _, rfl, rfl, _, rfl, n, rfl, by omega, _, _, rfl, rfl, (one60 (Int.le_of_lt w0) w1).d w0, ?_⟩
    have et : (x * t + o) / 2 ^ n = D.told x := by rw [hD]; rfl
    simp only [et]
    -- found
    refine ⟨_, rfl, _, rfl, _, rfl, _, rfl, _, rfl, fun q2 dq2 nq2 ndq2 ne2 => ⟨q2, dq2, ⟨p, t, o, n⟩, rfl, upd_same, L, fun G7 b7 hq2 => ⟨rfl, ?_⟩⟩⟩
    have s7 := mkS nq2 ndq2 ne2 b7
    rw [← hD] at hq2
    have hq7 := s7 _ _ hq
    refine ⟨q, q2, _, _, _, _, rfl, rfl, hq7, hq2, q, D, ⟨_, hq7⟩, .inl ⟨q2, D, rfl, ⟨_, hq2⟩, _, rfl, ?_⟩⟩
    rw [decide_eq_true (rfl : D = D)]
    refine ⟨_, rfl, q, dq, _, rfl, hq7, dFl_q D, _, rfl, rfl, q, D, x, rfl, ⟨_, hq7⟩, LD, a30, x60, (by show 2 ≤ sizeLine; decide), fun a8 n8 => ?_⟩
    have s8 := s7.trans (Same.new (o := .lst [.bl true, .int (D.told x)]) n8)
    have hq8 := s8 _ _ hq
    have hbW : CDivW x p := L.bb.d (by show (0 : Int) < p; omega)
    -- the first compare
    refine ⟨_, rfl, _, rfl, _, rfl, rfl, rfl, q, D, x, rfl, ⟨_, hq8⟩, LD, a30, x60, (by show 1 ≤ sizeLine; decide), fun a9 n9 => ?_⟩
    have u9 := Same.new (o := .lst [.bl (decide (D.R x))]) n9
    refine ⟨a8, a9, _, _, rfl, rfl, u9 _ _ upd_same, upd_same, (by show 2 + 1 ≤ sizeLine; decide), fun aA nA => ?_⟩
    have uA := Same.new (o := .lst [.bl true, .int (D.told x), .bl (decide (D.R x))]) nA
    refine ⟨_, rfl, _, rfl, _, rfl, _, rfl, _, _, rfl, rfl, hbW, rfl, (by show 3 ≤ sizeLine; decide), fun aB nB => ?_⟩
    have uB := Same.new (o := .lst [.bl true, .int (D.told x), .bl (decide (V.int (D.told x) = V.int (x / p)))]) nB
    have er : decide (V.int (D.told x) = V.int (x / p)) = decide (D.R x) := by
      have ep : p = D.b := by rw [hD]
      rw [ep]
      by_cases z : D.R x
      · rw [decide_eq_true z]
        exact decide_eq_true (congrArg V.int z)
      · rw [decide_eq_false z]
        exact decide_eq_false fun y => z (V.int.inj y)
    refine ⟨.list [.bool true, .int (D.told x), .bool (decide (D.R x))], .list [.bool true, .int (D.told x), .bool (decide (V.int (D.told x) = V.int (x / p)))], .lst (SqL.of (uB _ _ upd_same)) (.cons (.bl _) (.cons (.int _) (.cons (.bl _) .nil))), .lst (SqL.of upd_same) (.cons (.bl _) (.cons (.int _) (.cons (.bl _) .nil))), shB _ _ _, shB _ _ _, _, rfl, ?_⟩
    rw [er] at uB
    rw [er, eqv_self (shB _ _ _)]
    refine iteF ?_
    have sB := s8.trans (u9.trans (uA.trans uB))
    have hqB := sB _ _ hq
    -- the next ones
    refine ⟨_, rfl, _, rfl, rfl, rfl, q, D, x, rfl, ⟨_, hqB⟩, LD, a30, x60, fun GC sC => ?_⟩
    have hqC := sC _ _ hqB
    refine ⟨_, rfl, _, rfl, rfl, rfl, q, D, x, rfl, ⟨_, hqC⟩, LD, a30, x60, fun GE' sD => ⟨(by show 2 ≤ sizeLine; decide), fun aC nC => ?_⟩⟩
    have uC := Same.new (o := .lst [optI (D.nw x), optI (D.nr x)]) nC
    have hqD := uC _ _ (sD _ _ hqC)
    refine ⟨_, rfl, _, rfl, _, rfl, q, D, x, rfl, ⟨_, hqD⟩, LD, a30, x60, fun GF sE => ?_⟩
    have hqE := sE _ _ hqD
    refine ⟨_, rfl, _, rfl, q, D, x, rfl, ⟨_, hqE⟩, LD, a30, x60, fun GG sF => ⟨(by show 2 ≤ sizeLine; decide), fun aD nD => ?_⟩⟩
    have uD := Same.new (o := .lst [optI (D.nw x), optI (D.nr x)]) nD
    refine ⟨.list [dO (D.nw x), dO (D.nr x)], .list [dO (D.nw x), dO (D.nr x)], .lst (SqL.of (uD _ _ (sF _ _ (sE _ _ upd_same)))) (.cons (dpO _) (.cons (dpO _) .nil)), .lst (SqL.of upd_same) (.cons (dpO _) (.cons (dpO _) .nil)), shO _ _, shO _ _, _, rfl, ?_⟩
    rw [eqv_self (shO _ _)]
    refine iteF ?_
    have sH := (sB.trans (sC.trans (sD.trans uC))).trans (sE.trans (sF.trans uD))
    have hqH := sH _ _ hq
    -- many, the least shift
    have z1 : 1 ≤ z := by omega
    have z60 : z ≤ 10 ^ 60 := by omega
    have p2 : 2 ≤ p := by omega
    have p60 : p ≤ 10 ^ 60 := by omega
    have hl : p * (z + 1) ≤ 2 ^ 400 := Int.le_trans (Int.mul_le_mul (show p ≤ 13 by omega) (show z + 1 ≤ 402 by omega) (by omega) (by decide)) (by decide)
    refine ⟨_, rfl, _, rfl, rfl, rfl, q, D, x, rfl, ⟨_, hqH⟩, LD, a30, x60, fun GH sI => ?_⟩
    refine ⟨_, rfl, _, rfl, rfl, rfl, p, z, rfl, p2, p60, z1, z60, hl, fun n1 GI' sJ n1l x1 m1 => ⟨(by show 2 ≤ sizeLine; decide), fun aE nE => ?_⟩⟩
    have uE := Same.new (o := .lst [.int (D.cw x), .int (n1 : Nat)]) nE
    have hqI := uE _ _ (sJ _ _ (sI _ _ hqH))
    refine ⟨_, rfl, _, rfl, _, rfl, q, D, x, rfl, ⟨_, hqI⟩, LD, a30, x60, fun GJ sK => ?_⟩
    refine ⟨_, rfl, _, rfl, p, z, rfl, p2, p60, z1, z60, hl, fun n2 GK sL n2l x2 m2 => ⟨(by show 2 ≤ sizeLine; decide), fun aF nF => ?_⟩⟩
    have uF := Same.new (o := .lst [.int (D.cw x), .int (n2 : Nat)]) nF
    refine ⟨.list [.int (D.cw x), .int (n1 : Nat)], .list [.int (D.cw x), .int (n2 : Nat)], .lst (SqL.of (uF _ _ (sL _ _ (sK _ _ upd_same)))) (.cons (.int _) (.cons (.int _) .nil)), .lst (SqL.of upd_same) (.cons (.int _) (.cons (.int _) .nil)), shI2 _ _, shI2 _ _, _, rfl, ?_⟩
    rw [least_one x1 x2 m1 m2, eqv_self (shI2 _ _)]
    refine iteF ?_
    have sM := (sH.trans (sI.trans (sJ.trans uE))).trans (sK.trans (sL.trans uF))
    -- the window
    have fin : ∀ {GZ : Hp}, Same GK GZ → True := fun _ => True.intro
    refine ⟨_, rfl, _, rfl, _, rfl, rfl, rfl, p, z, n, rfl, p2, p60, z1, z60, by omega, fun GL' sN hN => ?_, fun GL' pt l g sN hpt l0 lg hA => ?_⟩
    · refine ⟨_, rfl, _, rfl, _, rfl, p, z, n, rfl, p2, p60, z1, z60, by omega, fun GM' sO hN2 => ?_, fun GM' pt2 l2 g2 sO hpt2 l20 lg2 hA2 => absurd ⟨l2, l20, (hA2 l2 l20).mpr ⟨Int.le_refl _, lg2⟩⟩ hN⟩
      refine ⟨.none, .none, .non, .non, by decide +kernel, by decide +kernel, ?_⟩
      rw [show PyData.eqv .none .none = true from by decide +kernel]
      have sZ := s6.trans (sM.trans (sN.trans sO))
      exact k _ (BagAt.up (B5.keep sZ) (by omega)) (But.trans eB (But.same sZ))
    · refine ⟨_, rfl, _, rfl, _, rfl, p, z, n, rfl, p2, p60, z1, z60, by omega, fun GM' sO hN2 => absurd ⟨l, l0, (hA l l0).mpr ⟨Int.le_refl _, lg⟩⟩ hN2, fun GM' pt2 l2 g2 sO hpt2 l20 lg2 hA2 => ?_⟩
      obtain ⟨rfl, rfl⟩ := win_one l0 lg hA l20 lg2 hA2
      refine ⟨.tuple [.int l, .int g], .tuple [.int l, .int g], .tup (Or.imp (fun r => Or.imp (sO _ _) (fun ⟨o, h⟩ => ⟨o, sO _ _ h⟩) r) id hpt) (.cons (.int _) (.cons (.int _) .nil)), .tup hpt2 (.cons (.int _) (.cons (.int _) .nil)), shT2 _ _, shT2 _ _, ?_⟩
      rw [eqv_self (shT2 _ _)]
      have sZ := s6.trans (sM.trans (sN.trans sO))
      exact k _ (BagAt.up (B5.keep sZ) (by omega)) (But.trans eB (But.same sZ))
end
end KD

set_option Elab.async false
set_option linter.all false
set_option maxRecDepth 100000
set_option maxHeartbeats 8000000
/-! k61: values that are none; what is known while they are tried -/
namespace KD
open PySem L2 LamX
open DV (Dv)
open KDB (TxtB BagAt spBag spDraw)
structure TxtK (K : PySem.W.Frag) : Prop where
  n : PySem.W.kitOne K (.type "NoneType") (.type "int") = some false
  s : PySem.W.kitOne K (.type "str") (.type "int") = some false
  t : PySem.W.kitOne K (.type "tuple") (.type "int") = some false
  l : PySem.W.kitOne K (.type "list") (.type "int") = some false
  b : PySem.W.kitOne K (.type "bool") (.type "int") = some true
  bb : PySem.W.kitOne K (.type "bool") (.type "bool") = some true
/-- a value that is none of the numbers from l to 10 ^ 60, and what it is as data -/
inductive OdV (H : Hp) (l : Int) : V → PyData → Prop
  | int (i : Int) (h : i < l ∨ 10 ^ 60 < i) : OdV H l (.int i) (.int i)
  | non : OdV H l .non .none
  | bl (b : Bool) : OdV H l (.bl b) (.bool b)
  | str (s : Str) (h : PyData.strOk s = true) : OdV H l (.str s) (.str s)
  | tup (p : Addr) (h : H p = some (.tup [.int 2])) : OdV H l (.ref p) (.tuple [.int 2])
  | lst (p : Addr) (h : H p = some (.lst [])) : OdV H l (.ref p) (.list [])
theorem OdV.up {H : Hp} {l l' : Int} {v : V} {d : PyData} (h : OdV H l v d) (le : l ≤ l') : OdV H l' v d := by
  cases h with
  | int i h => exact .int i (h.imp (fun z => by omega) id)
  | non => exact .non
  | bl b => exact .bl b
  | str s h => exact .str s h
  | tup p h => exact .tup p h
  | lst p h => exact .lst p h
theorem OdV.bad {K : PySem.W.Frag} {H : Hp} {l l' m : Int} {v : V} {d : PyData} (T : TxtK K) (h : OdV H l v d) (le : l ≤ l') (lm : m ≤ 10 ^ 60) : Bad K H v l' m := by
  cases h with
  | int i h => exact .inr ⟨i, rfl, h.imp (fun z => by omega) (fun z => by omega)⟩
  | non => exact .inl ⟨_, .base .non, .inl T.n⟩
  | bl b => exact .inl ⟨_, .base (.bl b), .inr ⟨T.b, T.bb⟩⟩
  | str s h => exact .inl ⟨_, .base (.str s), .inl T.s⟩
  | tup p h => exact .inl ⟨_, .base (.tup h), .inl T.t⟩
  | lst p h => exact .inl ⟨_, .base (.lst h), .inl T.l⟩
theorem OdV.dp {K : PySem.W.Frag} {H : Hp} {l : Int} {v : V} {d : PyData} (h : OdV H l v d) : Dp K H v d := by
  cases h with
  | int i h => exact .int i
  | non => exact .non
  | bl b => exact .bl b
  | str s h => exact .str s
  | tup p h => exact .tup (.inl (.inl h)) (.cons (.int _) .nil)
  | lst p h => exact .lst (SqL.of h) .nil
/-- flat data -/
structure Flat (d : PyData) : Prop where
  c : d.canLay0 = true
  d : d.depth ≤ 1
theorem OdV.flat {H : Hp} {l : Int} {v : V} {d : PyData} (h : OdV H l v d) : Flat d := by
  cases h with
  | str s h => exact ⟨by simp [PyData.canLay0, PyData.canLayAll0, h], by simp [PyData.depth, PyData.depthAll]⟩
  | int i h => exact ⟨by simp [PyData.canLay0, PyData.canLayAll0], by simp [PyData.depth, PyData.depthAll]⟩
  | non => exact ⟨by simp [PyData.canLay0, PyData.canLayAll0], by simp [PyData.depth, PyData.depthAll]⟩
  | bl b => exact ⟨by simp [PyData.canLay0, PyData.canLayAll0], by simp [PyData.depth, PyData.depthAll]⟩
  | tup p h => exact ⟨by simp [PyData.canLay0, PyData.canLayAll0], by simp [PyData.depth, PyData.depthAll]⟩
  | lst p h => exact ⟨by simp [PyData.canLay0, PyData.canLayAll0], by simp [PyData.depth, PyData.depthAll]⟩
theorem OdV.to {H G : Hp} {l : Int} {v : V} {d : PyData} (h : OdV H l v d) (k : ∀ p o, H p = some o → (o = .tup [.int 2] ∨ o = .lst []) → G p = some o) : OdV G l v d := by
  cases h with
  | int i h => exact .int i h
  | non => exact .non
  | bl b => exact .bl b
  | str s h => exact .str s h
  | tup p h => exact .tup p (k _ _ h (.inl rfl))
  | lst p h => exact .lst p (k _ _ h (.inr rfl))
theorem flat_two {ds : List PyData} (h : ∀ d ∈ ds, Flat d) : PyData.canLayAll0 (ds.map fun d => .list [d]) = true ∧ PyData.depthAll (ds.map fun d => .list [d]) ≤ 4 := by
  induction ds with
  | nil => exact ⟨rfl, by decide⟩
  | cons a r ih =>
    have ⟨i1, i2⟩ := ih fun d hd => h d (List.mem_cons_of_mem _ hd)
    have ha := h a (List.mem_cons_self ..)
    have a1 := ha.c
    have a2 := ha.d
    constructor
    · simp only [List.map_cons, PyData.canLayAll0, PyData.canLay0, Bool.and_eq_true]
      exact ⟨⟨a1, trivial⟩, i1⟩
    · simp only [List.map_cons, PyData.depthAll, PyData.depth]
      omega
/-- while values are tried: its, the lists told so far -/
structure RF (C : Addr) (TT : List (Addr × Str)) (c b : Addr) (m : Nat) (q : Addr) (D : Dv) (vo : V) (od : PyData) (vm : V) (dm : PyData) (vp : V) (dp : PyData) (fa : Addr) (its : List (Addr × List V)) (H : Hp) : Prop where
  bag : BagAt c H b m
  dv : DvAt C H q D
  od_ : OdV H 0 vo od
  mo_ : OdV H 0 vm dm
  pa_ : OdV H 2 vp dp
  tb : Tabs TT H
  at_ : H fa = some (.lst (its.map fun x => .ref x.1))
  ne : its ≠ []
  cf : c ≠ fa
  each : ∀ x ∈ its, H x.1 = some (.lst x.2) ∧ x.1 ≠ fa
section
variable {K : PySem.W.Frag} {C CB : Addr} {TT : List (Addr × Str)} {c b : Addr} {m : Nat} {q : Addr} {D : Dv} {vo : V} {od : PyData} {vm : V} {dm : PyData} {vp : V} {dp : PyData} {fa : Addr} {its : List (Addr × List V)} {H G G2 H' : Hp}
theorem BagAt.keepN {c : Addr} {H H' : Hp} {b : Addr} {m : Nat} (h : BagAt c H b m) (s : ExtN H H') : BagAt c H' b m := by
  obtain ⟨ns, p, q, r, z, B⟩ := h
  exact ⟨ns, p, q, r, z, s _ _ B.at_ (by intro _ z; cases z), s _ _ B.cs (by intro _ z; cases z), B.len, B.p0, B.q0, B.r0, B.rm, B.z0, B.z1⟩
theorem DvAt.keepN {C : Addr} {H H' : Hp} {p : Addr} {D : Dv} (h : DvAt C H p D) (s : ExtN H H') : DvAt C H' p D := by
  obtain ⟨dx, e⟩ := h
  exact ⟨dx, s _ _ e (by intro _ z; cases z)⟩
theorem OdV.keepN {l : Int} {v : V} {d : PyData} (h : OdV H l v d) (s : ExtN H G) : OdV G l v d :=
  h.to fun p o e ho => s p o e (by rcases ho with rfl | rfl <;> exact fun _ z => by cases z)
theorem RF.ext (R : RF C TT c b m q D vo od vm dm vp dp fa its H) (e : ExtN H G) (t : Tabs TT G) : RF C TT c b m q D vo od vm dm vp dp fa its G :=
  ⟨BagAt.keepN R.bag e, DvAt.keepN R.dv e, R.od_.keepN e, R.mo_.keepN e, R.pa_.keepN e, t, e _ _ R.at_ (by intro _ z; cases z), R.ne, R.cf, fun x hx => ⟨e _ _ (R.each x hx).1 (by intro _ z; cases z), (R.each x hx).2⟩⟩
theorem RF.same (R : RF C TT c b m q D vo od vm dm vp dp fa its H) (s : Same H G) : RF C TT c b m q D vo od vm dm vp dp fa its G := R.ext (ExtN.of s) (R.tb.ext s)
/-- one more is told -/
theorem RF.more (R : RF C TT c b m q D vo od vm dm vp dp fa its H) {p : Addr} {l : List V} (hp : H p = none) :
    RF C TT c b m q D vo od vm dm vp dp fa (its ++ [(p, l)]) (upd (upd H p (.lst l)) fa (.lst ((its.map fun x => .ref x.1) ++ [.ref p]))) := by
  have R1 := R.same (G := upd H p (.lst l)) (Same.new hp)
  have np : p ≠ fa := fun z => by
    have e := R.at_
    rw [← z, hp] at e
    cases e
  generalize eG : upd H p (.lst l) = G at R1
  have gp : G p = some (.lst l) := by rw [← eG]; exact upd_same
  have keep : ∀ x o, G x = some o → (∀ y ys, o ≠ .lst (y :: ys)) → x ≠ fa := fun x o e n z => by
    rw [z, R1.at_] at e
    cases its with
    | nil => exact R1.ne rfl
    | cons y ys => exact n _ _ (Option.some.inj e).symm
  have k2 : ∀ x o, G x = some o → (∀ y ys, o ≠ .lst (y :: ys)) → ∀ u, upd G fa u x = some o := fun x o e n u => by
    rw [upd_ne (keep x o e n)]
    exact e
  refine ⟨?_, ?_, R1.od_.to fun x o e ho => k2 x o e (by rcases ho with rfl | rfl <;> exact fun _ _ z => by cases z) _, R1.mo_.to fun x o e ho => k2 x o e (by rcases ho with rfl | rfl <;> exact fun _ _ z => by cases z) _,
    R1.pa_.to fun x o e ho => k2 x o e (by rcases ho with rfl | rfl <;> exact fun _ _ z => by cases z) _, fun x hx => ?_, ?_, by simp, R1.cf, fun x hx => ?_⟩
  · obtain ⟨ns, p1, q1, r1, z1, B⟩ := R1.bag
    exact ⟨ns, p1, q1, r1, z1, k2 _ _ B.at_ (fun _ _ z => by cases z) _, (by rw [upd_ne R1.cf]; exact B.cs), B.len, B.p0, B.q0, B.r0, B.rm, B.z0, B.z1⟩
  · obtain ⟨dx, e⟩ := R1.dv
    exact ⟨dx, k2 _ _ e (fun _ _ z => by cases z) _⟩
  · obtain ⟨ps, h1, h2, h3⟩ := R1.tb x hx
    refine ⟨ps, k2 _ _ h1 (fun _ _ z => by cases z) _, h2, fun pos cv hc => ?_⟩
    obtain ⟨c1, e1, e2⟩ := h3 pos cv hc
    exact ⟨c1, e1, k2 _ _ e2 (fun _ _ z => by unfold CodeO at z; cases z) _⟩
  · rw [upd_same, List.map_append]
    rfl
  · rcases List.mem_append.mp hx with z | z
    · have ⟨a1, a2⟩ := R1.each x z
      exact ⟨by rw [upd_ne a2]; exact a1, a2⟩
    · rw [List.mem_singleton.mp z]
      exact ⟨by show upd G fa _ p = _; rw [upd_ne np]; exact gp, np⟩
theorem RF.len_ (R : RF C TT c b m q D vo od vm dm vp dp fa its H) (h : its.length ≤ 100) : (its.map fun x => V.ref x.1).length < sizeLine := by
  rw [List.length_map]
  exact Nat.lt_of_le_of_lt h (by decide)
/-- what is appended where the action refuses v -/
theorem RF.told (R : RF C TT c b m q D vo od vm dm vp dp fa its H) (hl : its.length ≤ 100) {v : V} {Qn : Hp → Prop} (k : ∀ p H2, RF C TT c b m q D vo od vm dm vp dp fa (its ++ [(p, [v])]) H2 → Qn H2) :
    ∀ d H', Same H H' → H d = none → H' d = some (.xd [("number", v)]) →
      (V.ref CB = .ref CB ∧ ∃ dd w, some d = some dd ∧ H' dd = some (.xd [("number", w)]) ∧ ∀ e, H' e = none → ∀ p, H' p = none → ∃ l xs y, V.ref fa = .ref l ∧ [V.ref p] = [y] ∧ upd H' p (.lst [w]) l = some (.lst xs) ∧ xs.length < sizeLine ∧ Qn (upd (upd H' p (.lst [w])) l (.lst (xs ++ [y])))) := by
  intro d H' s _ hd
  have R2 := R.same s
  refine ⟨rfl, d, v, rfl, hd, fun _ _ p np => ?_⟩
  have R3 := R2.same (G := upd H' p (.lst [v])) (Same.new np)
  exact ⟨fa, _, .ref p, rfl, rfl, R3.at_, R3.len_ hl, k p _ (R2.more np)⟩
/-- what is appended where nothing is refused -/
theorem RF.quiet (R : RF C TT c b m q D vo od vm dm vp dp fa its H) (hl : its.length ≤ 100) {Qn : Hp → Prop} (k : ∀ p H2, RF C TT c b m q D vo od vm dm vp dp fa (its ++ [(p, [])]) H2 → Qn H2) :
    ([] : List V).length ≤ sizeLine ∧ ∀ p, H p = none → ∃ l xs y, V.ref fa = .ref l ∧ [V.ref p] = [y] ∧ upd H p (.lst []) l = some (.lst xs) ∧ xs.length < sizeLine ∧ Qn (upd (upd H p (.lst [])) l (.lst (xs ++ [y]))) := by
  refine ⟨by show 0 ≤ sizeLine; decide, fun p np => ?_⟩
  have R3 := R.same (G := upd H p (.lst [])) (Same.new np)
  exact ⟨fa, _, .ref p, rfl, rfl, R3.at_, R3.len_ hl, k p _ (R.more np)⟩
end
end KD

set_option Elab.async false
set_option linter.all false
set_option maxRecDepth 100000
set_option maxHeartbeats 8000000
/-! k61: what is refused, asked by lambdas -/
namespace KD
open PySem PySem.Spec PyProof.Rows L2 LamX
open DV (Dv)
open KDB (TxtB BagAt spBag spDraw)
section
variable {P : Program} {w : World} {K : PySem.W.Frag} {mg : Str → Option Value} {base : Heap}
/-- a def whose code object is known -/
theorem okC {x qual : Str} {st : Stmt} {f c : Addr} {fd : FuncData} {N ps : List Str} {k : Nat} {sp : Sp} (F : Fun K x qual st f fd) (hc : fd.code = .ref c) (S : FnScope N ps (defScope st)) (len : ∀ vs H Q E, sp vs H Q E → vs.length = ps.length)
    (hb : ∀ (A : Around) (outer : List Env) (s : Shared) (H : Hp) (vs : List V) (Q : VK) (E : XK), Room k (A.deeper (envOfC qual (defScope st) s.heap.objs.size f (.ref c))) → sp vs H Q E →
      ∃ t, PSs (cxOf CX0 P w K mg base N qual (defScope st) f (.ref c) A outer s H E).nox (defBody st) t ∧ t { nx := fun _ H' => Q .non H', rt := Q } (start N vs) H) : FnOk P w K mg base CX0 (k + 1) f fd ps sp := by
  obtain ⟨v1, v2, v3, v4, v5, v6, v7, v8, v9, e, lk, cd⟩ := F.ex
  subst e
  obtain rfl : v7 = .ref c := hc
  refine fn_of lk cd S len fun A outer s H vs Q E hr hq => ?_
  have ⟨t, p, r⟩ := hb A outer s H vs Q E hr hq
  exact ⟨t, p.nox, r⟩
theorem mk2 {C : Addr} {G : Hp} {x dx : Addr} (nx : G x = none) (nd : G dx = none) (ne : dx ≠ x) : Same G (upd (upd G dx (.own x)) x (.ins C dx [])) :=
  (Same.new nd).trans (Same.new (by rw [upd_ne ne.symm]; exact nx))
theorem mkS2 {C : Addr} {G G' : Hp} {x dx : Addr} (nx : G x = none) (nd : G dx = none) (ne : dx ≠ x) (b : But x (upd (upd G dx (.own x)) x (.ins C dx [])) G') : Same G G' := But.fresh (mk2 nx nd ne) b nx
theorem both_ways {H : Hp} {A : Hp → Prop} {p1 : Hp → Prop} {p2 : Hp → Addr → Int → Int → Prop} {p3 : Int → Prop} {p4 p5 : Int → Int → Prop} (h : ∀ H', Same H H' → A H') : (∀ H', Same H H' → p1 H' → A H') ∧ (∀ H' p l g, Same H H' → p2 H' p l g → p3 l → p4 l g → p5 l g → A H') :=
  ⟨fun H' s _ => h H' s, fun H' _ _ _ s _ _ _ _ => h H' s⟩
abbrev nmRef : List Str := ["_law_bag_here", "_law_cutter", "_law_odd", "_law_more", "_law_part", "_law_found"]
theorem scRef : FnScope nmRef ["_law_bag_here", "_law_cutter"] (defScope sRefused) := ⟨rfl, rfl, rfl, by decide +kernel, rfl, by decide +kernel, by decide +kernel⟩
abbrev qLam : Str := (envOfC "_law_refused" (defScope sRefused) 0 0 .none).qual ++ "<lambda>"
def spRef (C PR : Addr) : Sp := fun vs H Q _ => ∃ (b c q : Addr) (m : Nat) (D : Dv), vs = [.ref b, .ref q] ∧ BagAt c H b m ∧ m ≤ 90000 ∧ DvAt C H q D ∧ Lim D ∧ Tabs [(PR, qLam)] H ∧ ∀ H', BagAt c H' b (m + 3) → Q (.bl true) H'
theorem tabs_but {T : List (Addr × Str)} {H H' : Hp} {c b : Addr} {m : Nat} (t : Tabs T H) (B : BagAt c H b m) (k : But b H H') : Tabs T H' := fun x hx => by
  obtain ⟨ps, h1, h2, h3⟩ := t x hx
  refine ⟨ps, k _ _ h1 (bag_ne B h1 (by intro l z; cases z)), h2, fun pos cv hc => ?_⟩
  obtain ⟨c1, z1, z2⟩ := h3 pos cv hc
  exact ⟨c1, z1, k _ _ z2 (bag_ne B z2 (by intro l z; unfold CodeO at z; cases z))⟩
theorem od_but {H H' : Hp} {c b : Addr} {m : Nat} {l : Int} {v : V} {d : PyData} (h : OdV H l v d) (B : BagAt c H b m) (k : But b H H') : OdV H' l v d :=
  h.to fun p o e ho => k _ _ e (bag_ne B e (by rcases ho with rfl | rfl <;> exact fun l z => by cases z))
theorem od_same {H H' : Hp} {l : Int} {v : V} {d : PyData} (h : OdV H l v d) (s : Same H H') : OdV H' l v d := h.to fun p o e _ => s _ _ e
theorem flat_int (i : Int) : Flat (.int i) := ⟨by simp [PyData.canLay0], by simp [PyData.depth]⟩
theorem flat_row : ∀ {l : List PyData}, (∀ d ∈ l, Flat d) → PyData.canLayAll0 l = true ∧ PyData.depthAll l ≤ 2
  | [], _ => ⟨rfl, by decide⟩
  | a :: r, h => by
    have ⟨i1, i2⟩ := flat_row (l := r) fun d hd => h d (List.mem_cons_of_mem _ hd)
    have ⟨a1, a2⟩ := h a (List.mem_cons_self ..)
    constructor
    · simp only [PyData.canLayAll0, Bool.and_eq_true]
      exact ⟨a1, i1⟩
    · simp only [PyData.depthAll]
      omega
theorem flat_rows : ∀ {ls : List (List PyData)}, (∀ l ∈ ls, ∀ d ∈ l, Flat d) → PyData.canLayAll0 (ls.map .list) = true ∧ PyData.depthAll (ls.map .list) ≤ 4
  | [], _ => ⟨rfl, by decide⟩
  | a :: r, h => by
    have ⟨i1, i2⟩ := flat_rows (ls := r) fun l hl => h l (List.mem_cons_of_mem _ hl)
    have ⟨a1, a2⟩ := flat_row (h a (List.mem_cons_self ..))
    constructor
    · simp only [List.map_cons, PyData.canLayAll0, PyData.canLay0, Bool.and_eq_true]
      exact ⟨a1, i1⟩
    · simp only [List.map_cons, PyData.depthAll, PyData.depth]
      omega
theorem shaped_two {ls : List (List PyData)} (h : ∀ l ∈ ls, ∀ d ∈ l, Flat d) : SeqAt.shaped (.list (ls.map .list)) = true := by
  have ⟨h1, h2⟩ := flat_rows h
  unfold SeqAt.shaped
  simp only [PyData.canLay0, PyData.depth, Bool.and_eq_true]
  exact ⟨h1, decide_eq_true (by omega)⟩
theorem ok_refused {f C CB fI fQ fO f1 f3 f4 f5 f6 f7 f8 cR PR : Addr} {fd fdI fdQ fdO fd1 fd3 fd4 fd5 fd6 fd7 fd8 : FuncData} (F : Fun K "_law_refused" "_law_refused" sRefused f fd) (TD : TxtD K mg C)
    (GK : FnOk P w K mg base CX0 2 f1 fd1 ["_law_bag_here", "_law_pool"] spPick)
    (kK : PySem.W.keepIn K (.ref f1) = true) (bK : Binds K fd1 ["_law_bag_here", "_law_pool"] []) (gK : mg "_law_pick" = some (.ref f1))
    (GRN : FnOk P w K mg base (L2.CX P w) 5 f3 fd3 ["divider", "x"] (spDRN K CB C))
    (kR : PySem.W.keepIn K (.ref f3) = true) (bR : Binds K fd3 ["divider", "x"] []) (gR : mg "divider_right" = some (.ref f3))
    (GWN : FnOk P w K mg base (L2.CX P w) 6 f4 fd4 ["divider", "x"] (spOneN K CB))
    (kW : PySem.W.keepIn K (.ref f4) = true) (bW : Binds K fd4 ["divider", "x"] []) (gW : mg "divider_wrong" = some (.ref f4))
    (GNN : FnOk P w K mg base (L2.CX P w) 6 f5 fd5 ["divider", "x"] (spOneN K CB))
    (kN : PySem.W.keepIn K (.ref f5) = true) (bN : Binds K fd5 ["divider", "x"] []) (gN : mg "divider_next" = some (.ref f5))
    (GMN : FnOk P w K mg base (L2.CX P w) 5 f6 fd6 ["divider", "x"] (spOneN K CB))
    (kM : PySem.W.keepIn K (.ref f6) = true) (bM : Binds K fd6 ["divider", "x"] []) (gM : mg "divider_many" = some (.ref f6))
    (GLN : FnOk P w K mg base (L2.CX P w) 4 f7 fd7 ["by", "top"] (spLSN K CB))
    (kL : PySem.W.keepIn K (.ref f7) = true) (bL : Binds K fd7 ["by", "top"] []) (gL : mg "least_shift" = some (.ref f7))
    (GTN : FnOk P w K mg base (L2.CX P w) 4 f8 fd8 ["by", "top", "shift"] (spTFN K CB))
    (GT : FnOk P w K mg base CX0 4 f8 fd8 ["by", "top", "shift"] (spTB K))
    (kT : PySem.W.keepIn K (.ref f8) = true) (bT : Binds K fd8 ["by", "top", "shift"] []) (gT : mg "times_for" = some (.ref f8))
    (MD : Mk K C fI)
    (GIN : FnOk P w K mg base (L2.CX P w) 4 fI fdI ["self", "by", "multiplier", "offset", "shift"] (spDIN K CB))
    (GI : FnOk P w K mg base CX0 4 fI fdI ["self", "by", "multiplier", "offset", "shift"] (spDI C))
    (bI : Binds K fdI ["self", "by", "multiplier", "offset", "shift"] [])
    (GQN : FnOk P w K mg base (L2.CX P w) 4 fQ fdQ ["self", "x"] (spOneN K CB))
    (GQ : FnOk P w K mg base CX0 4 fQ fdQ ["self", "x"] (spQuot C))
    (mQ : Meth K C "quotient" fQ) (bQ : Binds K fdQ ["self", "x"] [])
    (FO : Fun K "_law_none" "_law_none" sNone fO fdO)
    (bO : Binds K fdO ["_law_action"] []) (gO : mg "_law_none" = some (.ref fO))
    (gB : mg "BadNumber" = some (.ref CB)) (xm : PySem.W.exmOne K (.ref CB) (.ref CB) = some true) (xf : XfC K CB) (nl : PySem.W.findIn K (.ref CB) "number" = some none)
    (TK : TxtK K) (TB : TabB base mg cR PR) (hcode : fd.code = .ref cR) :
    FnOk P w K mg base CX0 9 f fd ["_law_bag_here", "_law_cutter"] (spRef C PR) := by
  have sc := scRef
  obtain ⟨TT, hTT⟩ : ∃ TT : List (Addr × Str), TT = [(PR, qLam)] := ⟨_, rfl⟩
  refine okC F hcode scRef (fun vs H Q E h => ?_) (fun A outer s H vs Q E hr h => ?_)
  · obtain ⟨b, c, q, m, D, rfl, _⟩ := h
    rfl
  · obtain ⟨b, c, q, m, D, rfl, hB, hm, hD, hL, hT, k⟩ := h
    have hr1 : Room 1 _ := hr.mono (by decide)
    have hr2 : Room 2 _ := hr.mono (by decide)
    have kO := FO.kp
    obtain ⟨oc7, od7, kV7, doc7, pm7, an7, cdv7, ct7, osl7, rfl, lkO, hcO⟩ := FO.ex
    have limM : Lim ⟨10 ^ 60, 10 ^ 60, 10 ^ 60, 400⟩ := ⟨by decide, by decide, by decide, by decide, by decide, by decide, by decide⟩
    subst hTT
    refine ⟨_, pss_cons (ps_asg (pe_tup (pa_cons (pe_call GK hr2 rfl gK kK bK .nil pass0 (pa_cons (pv 0) (pa_cons (pe_lst (pa_cons (pe_un un_neg pe_int) (pa_cons pe_non (pa_cons pe_bl (pa_cons pe_str (pa_cons (pe_op op_add (pe_op op_pow pe_int pe_int) pe_int) (pa_cons (pe_tup (pa_cons pe_int pa_nil)) pa_nil))))))) pa_nil))) (pa_cons (pe_call GK hr2 rfl gK kK bK .nil pass0 (pa_cons (pv 0) (pa_cons (pe_lst (pa_cons (pe_un un_neg pe_int) (pa_cons (pe_lst pa_nil) (pa_cons pe_str (pa_cons pe_bl pa_nil))))) pa_nil))) pa_nil))) (pg_tup rfl (pgs_cons (pg_name (i := 2) sc.nd rfl (.inr rfl)) (pgs_cons (pg_name (i := 3) sc.nd rfl (.inr rfl)) pgs_nil))))
      (pss_cons (ps_set (i := 4) sc.nd rfl (.inr rfl) (pe_call GK hr2 rfl gK kK bK .nil pass0 (pa_cons (pv 0) (pa_cons (pe_lst (pa_cons pe_int (pa_cons pe_int (pa_cons (pv 2) pa_nil)))) pa_nil))))
      (pss_cons (ps_set (i := 5) sc.nd rfl (.inl rfl) (pe_lst (pa_cons (pe_lamcall (T := [(PR, qLam)]) (k := 6) (a := "_law_action") (Ng := nmNone) (by rfl) gO kO lkO hcO bO scNone rfl (Or.inl rfl) (none_gives gB xm xf nl) TB rfl (List.mem_singleton.mpr rfl) (fun p hp _ => by rw [List.mem_singleton.mp hp]; rfl) hr (lamS_by (by kernel_rfl)) rfl (fun _ _ _ _ _ => rfl) (fun A outer s H E f c' hr => by have hr4 : Room 4 _ := hr.mono (by decide); have hr5 : Room 5 _ := hr.mono (by decide); exact (pe_makeS MD GIN hr5 (by rfl) TD.mgC bI (fun σ => passAt (takes_of rfl rfl rfl rfl) σ) (by exact (pa_cons (pv 4) (pa_cons (pv 3) (pa_cons (pv 2) (pa_cons (pe_un un_neg pe_int) pa_nil)))))))) pa_nil)))
      (pss_cons (ps_expr (pe_bm PySem.F.plainAttrs_list PySem.F.slot_list_append PySem.F.type_list_append mt_append (pv 5) (pa_cons (pe_lamcall (T := [(PR, qLam)]) (k := 6) (a := "_law_action") (Ng := nmNone) (by rfl) gO kO lkO hcO bO scNone rfl (Or.inl rfl) (none_gives gB xm xf nl) TB rfl (List.mem_singleton.mpr rfl) (fun p hp _ => by rw [List.mem_singleton.mp hp]; rfl) hr (lamS_by (by kernel_rfl)) rfl (fun _ _ _ _ _ => rfl) (fun A outer s H E f c' hr => by have hr4 : Room 4 _ := hr.mono (by decide); have hr5 : Room 5 _ := hr.mono (by decide); exact (pe_makeS MD GIN hr5 (by rfl) TD.mgC bI (fun σ => passAt (takes_of rfl rfl rfl rfl) σ) (by exact (pa_cons pe_int (pa_cons (pv 2) (pa_cons (pv 3) (pa_cons pe_int pa_nil)))))))) pa_nil)))
      (pss_cons (ps_expr (pe_bm PySem.F.plainAttrs_list PySem.F.slot_list_append PySem.F.type_list_append mt_append (pv 5) (pa_cons (pe_lamcall (T := [(PR, qLam)]) (k := 6) (a := "_law_action") (Ng := nmNone) (by rfl) gO kO lkO hcO bO scNone rfl (Or.inl rfl) (none_gives gB xm xf nl) TB rfl (List.mem_singleton.mpr rfl) (fun p hp _ => by rw [List.mem_singleton.mp hp]; rfl) hr (lamS_by (by kernel_rfl)) rfl (fun _ _ _ _ _ => rfl) (fun A outer s H E f c' hr => by have hr4 : Room 4 _ := hr.mono (by decide); have hr5 : Room 5 _ := hr.mono (by decide); exact (pe_makeS MD GIN hr5 (by rfl) TD.mgC bI (fun σ => passAt (takes_of rfl rfl rfl rfl) σ) (by exact (pa_cons pe_int (pa_cons pe_int (pa_cons (pv 2) (pa_cons (pv 3) pa_nil)))))))) pa_nil)))
      (pss_cons (ps_expr (pe_bm PySem.F.plainAttrs_list PySem.F.slot_list_append PySem.F.type_list_append mt_append (pv 5) (pa_cons (pe_lamcall (T := [(PR, qLam)]) (k := 6) (a := "_law_action") (Ng := nmNone) (by rfl) gO kO lkO hcO bO scNone rfl (Or.inl rfl) (none_gives gB xm xf nl) TB rfl (List.mem_singleton.mpr rfl) (fun p hp _ => by rw [List.mem_singleton.mp hp]; rfl) hr (lamS_by (by kernel_rfl)) rfl (fun _ _ _ _ _ => rfl) (fun A outer s H E f c' hr => by have hr4 : Room 4 _ := hr.mono (by decide); have hr5 : Room 5 _ := hr.mono (by decide); exact (pe_makeS MD GIN hr5 (by rfl) TD.mgC bI (fun σ => passAt (takes_of rfl rfl rfl rfl) σ) (by exact (pa_cons pe_int (pa_cons pe_int (pa_cons pe_int (pa_cons pe_int pa_nil)))))))) pa_nil)))
      (pss_cons (ps_expr (pe_bm PySem.F.plainAttrs_list PySem.F.slot_list_append PySem.F.type_list_append mt_append (pv 5) (pa_cons (pe_lamcall (T := [(PR, qLam)]) (k := 6) (a := "_law_action") (Ng := nmNone) (by rfl) gO kO lkO hcO bO scNone rfl (Or.inl rfl) (none_gives gB xm xf nl) TB rfl (List.mem_singleton.mpr rfl) (fun p hp _ => by rw [List.mem_singleton.mp hp]; rfl) hr (lamS_by (by kernel_rfl)) rfl (fun _ _ _ _ _ => rfl) (fun A outer s H E f c' hr => by have hr4 : Room 4 _ := hr.mono (by decide); have hr5 : Room 5 _ := hr.mono (by decide); exact (pe_methX (pv 1) TD.cl mQ GQN hr4 bQ (fun σ => passAt (takes_of rfl rfl rfl rfl) σ) (by exact (pa_cons (pv 2) pa_nil))))) pa_nil)))
      (pss_cons (ps_expr (pe_bm PySem.F.plainAttrs_list PySem.F.slot_list_append PySem.F.type_list_append mt_append (pv 5) (pa_cons (pe_lamcall (T := [(PR, qLam)]) (k := 6) (a := "_law_action") (Ng := nmNone) (by rfl) gO kO lkO hcO bO scNone rfl (Or.inl rfl) (none_gives gB xm xf nl) TB rfl (List.mem_singleton.mpr rfl) (fun p hp _ => by rw [List.mem_singleton.mp hp]; rfl) hr (lamS_by (by kernel_rfl)) rfl (fun _ _ _ _ _ => rfl) (fun A outer s H E f c' hr => by have hr4 : Room 4 _ := hr.mono (by decide); have hr5 : Room 5 _ := hr.mono (by decide); exact (pe_callS GRN hr5 rfl gR kR bR (fun σ => passAt (takes_of rfl rfl rfl rfl) σ) (by exact (pa_cons (pv 1) (pa_cons (pv 2) pa_nil)))))) pa_nil)))
      (pss_cons (ps_expr (pe_bm PySem.F.plainAttrs_list PySem.F.slot_list_append PySem.F.type_list_append mt_append (pv 5) (pa_cons (pe_lamcall (T := [(PR, qLam)]) (k := 6) (a := "_law_action") (Ng := nmNone) (by rfl) gO kO lkO hcO bO scNone rfl (Or.inl rfl) (none_gives gB xm xf nl) TB rfl (List.mem_singleton.mpr rfl) (fun p hp _ => by rw [List.mem_singleton.mp hp]; rfl) hr (lamS_by (by kernel_rfl)) rfl (fun _ _ _ _ _ => rfl) (fun A outer s H E f c' hr => by have hr4 : Room 4 _ := hr.mono (by decide); have hr5 : Room 5 _ := hr.mono (by decide); exact (pe_callS GWN hr rfl gW kW bW (fun σ => passAt (takes_of rfl rfl rfl rfl) σ) (by exact (pa_cons (pv 1) (pa_cons (pv 2) pa_nil)))))) pa_nil)))
      (pss_cons (ps_expr (pe_bm PySem.F.plainAttrs_list PySem.F.slot_list_append PySem.F.type_list_append mt_append (pv 5) (pa_cons (pe_lamcall (T := [(PR, qLam)]) (k := 6) (a := "_law_action") (Ng := nmNone) (by rfl) gO kO lkO hcO bO scNone rfl (Or.inl rfl) (none_gives gB xm xf nl) TB rfl (List.mem_singleton.mpr rfl) (fun p hp _ => by rw [List.mem_singleton.mp hp]; rfl) hr (lamS_by (by kernel_rfl)) rfl (fun _ _ _ _ _ => rfl) (fun A outer s H E f c' hr => by have hr4 : Room 4 _ := hr.mono (by decide); have hr5 : Room 5 _ := hr.mono (by decide); exact (pe_callS GNN hr rfl gN kN bN (fun σ => passAt (takes_of rfl rfl rfl rfl) σ) (by exact (pa_cons (pv 1) (pa_cons (pv 2) pa_nil)))))) pa_nil)))
      (pss_cons (ps_expr (pe_bm PySem.F.plainAttrs_list PySem.F.slot_list_append PySem.F.type_list_append mt_append (pv 5) (pa_cons (pe_lamcall (T := [(PR, qLam)]) (k := 6) (a := "_law_action") (Ng := nmNone) (by rfl) gO kO lkO hcO bO scNone rfl (Or.inl rfl) (none_gives gB xm xf nl) TB rfl (List.mem_singleton.mpr rfl) (fun p hp _ => by rw [List.mem_singleton.mp hp]; rfl) hr (lamS_by (by kernel_rfl)) rfl (fun _ _ _ _ _ => rfl) (fun A outer s H E f c' hr => by have hr4 : Room 4 _ := hr.mono (by decide); have hr5 : Room 5 _ := hr.mono (by decide); exact (pe_callS GMN hr5 rfl gM kM bM (fun σ => passAt (takes_of rfl rfl rfl rfl) σ) (by exact (pa_cons (pv 1) (pa_cons (pv 2) pa_nil)))))) pa_nil)))
      (pss_cons (ps_expr (pe_bm PySem.F.plainAttrs_list PySem.F.slot_list_append PySem.F.type_list_append mt_append (pv 5) (pa_cons (pe_lamcall (T := [(PR, qLam)]) (k := 6) (a := "_law_action") (Ng := nmNone) (by rfl) gO kO lkO hcO bO scNone rfl (Or.inl rfl) (none_gives gB xm xf nl) TB rfl (List.mem_singleton.mpr rfl) (fun p hp _ => by rw [List.mem_singleton.mp hp]; rfl) hr (lamS_by (by kernel_rfl)) rfl (fun _ _ _ _ _ => rfl) (fun A outer s H E f c' hr => by have hr4 : Room 4 _ := hr.mono (by decide); have hr5 : Room 5 _ := hr.mono (by decide); exact (pe_callS GTN hr4 rfl gT kT bT (fun σ => passAt (takes_of rfl rfl rfl rfl) σ) (by exact (pa_cons (pv 4) (pa_cons pe_int (pa_cons (pe_un un_neg pe_int) pa_nil))))))) pa_nil)))
      (pss_cons (ps_expr (pe_bm PySem.F.plainAttrs_list PySem.F.slot_list_append PySem.F.type_list_append mt_append (pv 5) (pa_cons (pe_lamcall (T := [(PR, qLam)]) (k := 6) (a := "_law_action") (Ng := nmNone) (by rfl) gO kO lkO hcO bO scNone rfl (Or.inl rfl) (none_gives gB xm xf nl) TB rfl (List.mem_singleton.mpr rfl) (fun p hp _ => by rw [List.mem_singleton.mp hp]; rfl) hr (lamS_by (by kernel_rfl)) rfl (fun _ _ _ _ _ => rfl) (fun A outer s H E f c' hr => by have hr4 : Room 4 _ := hr.mono (by decide); have hr5 : Room 5 _ := hr.mono (by decide); exact (pe_callS GTN hr4 rfl gT kT bT (fun σ => passAt (takes_of rfl rfl rfl rfl) σ) (by exact (pa_cons pe_int (pa_cons pe_int (pa_cons (pv 3) pa_nil))))))) pa_nil)))
      (pss_cons (ps_expr (pe_bm PySem.F.plainAttrs_list PySem.F.slot_list_append PySem.F.type_list_append mt_append (pv 5) (pa_cons (pe_lamcall (T := [(PR, qLam)]) (k := 6) (a := "_law_action") (Ng := nmNone) (by rfl) gO kO lkO hcO bO scNone rfl (Or.inl rfl) (none_gives gB xm xf nl) TB rfl (List.mem_singleton.mpr rfl) (fun p hp _ => by rw [List.mem_singleton.mp hp]; rfl) hr (lamS_by (by kernel_rfl)) rfl (fun _ _ _ _ _ => rfl) (fun A outer s H E f c' hr => by have hr4 : Room 4 _ := hr.mono (by decide); have hr5 : Room 5 _ := hr.mono (by decide); exact (pe_callS GTN hr4 rfl gT kT bT (fun σ => passAt (takes_of rfl rfl rfl rfl) σ) (by exact (pa_cons pe_int (pa_cons pe_int (pa_cons (pv 3) pa_nil))))))) pa_nil)))
      (pss_cons (ps_expr (pe_bm PySem.F.plainAttrs_list PySem.F.slot_list_append PySem.F.type_list_append mt_append (pv 5) (pa_cons (pe_lamcall (T := [(PR, qLam)]) (k := 6) (a := "_law_action") (Ng := nmNone) (by rfl) gO kO lkO hcO bO scNone rfl (Or.inl rfl) (none_gives gB xm xf nl) TB rfl (List.mem_singleton.mpr rfl) (fun p hp _ => by rw [List.mem_singleton.mp hp]; rfl) hr (lamS_by (by kernel_rfl)) rfl (fun _ _ _ _ _ => rfl) (fun A outer s H E f c' hr => by have hr4 : Room 4 _ := hr.mono (by decide); have hr5 : Room 5 _ := hr.mono (by decide); exact (pe_callS GLN hr4 rfl gL kL bL (fun σ => passAt (takes_of rfl rfl rfl rfl) σ) (by exact (pa_cons (pv 4) (pa_cons pe_int pa_nil)))))) pa_nil)))
      (pss_cons (ps_expr (pe_bm PySem.F.plainAttrs_list PySem.F.slot_list_append PySem.F.type_list_append mt_append (pv 5) (pa_cons (pe_lamcall (T := [(PR, qLam)]) (k := 6) (a := "_law_action") (Ng := nmNone) (by rfl) gO kO lkO hcO bO scNone rfl (Or.inl rfl) (none_gives gB xm xf nl) TB rfl (List.mem_singleton.mpr rfl) (fun p hp _ => by rw [List.mem_singleton.mp hp]; rfl) hr (lamS_by (by kernel_rfl)) rfl (fun _ _ _ _ _ => rfl) (fun A outer s H E f c' hr => by have hr4 : Room 4 _ := hr.mono (by decide); have hr5 : Room 5 _ := hr.mono (by decide); exact (pe_callS GLN hr4 rfl gL kL bL (fun σ => passAt (takes_of rfl rfl rfl rfl) σ) (by exact (pa_cons pe_int (pa_cons pe_int pa_nil)))))) pa_nil)))
      (pss_cons (ps_expr (pe_bm PySem.F.plainAttrs_list PySem.F.slot_list_append PySem.F.type_list_append mt_append (pv 5) (pa_cons (pe_lamcall (T := [(PR, qLam)]) (k := 6) (a := "_law_action") (Ng := nmNone) (by rfl) gO kO lkO hcO bO scNone rfl (Or.inl rfl) (none_gives gB xm xf nl) TB rfl (List.mem_singleton.mpr rfl) (fun p hp _ => by rw [List.mem_singleton.mp hp]; rfl) hr (lamS_by (by kernel_rfl)) rfl (fun _ _ _ _ _ => rfl) (fun A outer s H E f c' hr => by have hr4 : Room 4 _ := hr.mono (by decide); have hr5 : Room 5 _ := hr.mono (by decide); exact (pe_meth (pe_make MD GI hr5 (by rfl) TD.mgC bI .nil pass0 (pa_cons (pe_op op_pow pe_int pe_int) (pa_cons (pe_op op_pow pe_int pe_int) (pa_cons (pe_op op_pow pe_int pe_int) (pa_cons pe_int pa_nil))))) TD.cl mQ GQ hr4 bQ .nil pass0 (pa_cons (pe_op op_pow pe_int pe_int) pa_nil)))) pa_nil)))
      (pss_cons (ps_expr (pe_bm PySem.F.plainAttrs_list PySem.F.slot_list_append PySem.F.type_list_append mt_append (pv 5) (pa_cons (pe_lamcall (T := [(PR, qLam)]) (k := 6) (a := "_law_action") (Ng := nmNone) (by rfl) gO kO lkO hcO bO scNone rfl (Or.inl rfl) (none_gives gB xm xf nl) TB rfl (List.mem_singleton.mpr rfl) (fun p hp _ => by rw [List.mem_singleton.mp hp]; rfl) hr (lamS_by (by kernel_rfl)) rfl (fun _ _ _ _ _ => rfl) (fun A outer s H E f c' hr => by have hr4 : Room 4 _ := hr.mono (by decide); have hr5 : Room 5 _ := hr.mono (by decide); exact (pe_call GT hr4 rfl gT kT bT .nil pass0 (pa_cons pe_int (pa_cons (pe_op op_pow pe_int pe_int) (pa_cons pe_int pa_nil)))))) pa_nil)))
      (pss_cons (ps_expr (pe_bm PySem.F.plainAttrs_list PySem.F.slot_list_append PySem.F.type_list_append mt_append (pv 5) (pa_cons (pe_lamcall (T := [(PR, qLam)]) (k := 6) (a := "_law_action") (Ng := nmNone) (by rfl) gO kO lkO hcO bO scNone rfl (Or.inl rfl) (none_gives gB xm xf nl) TB rfl (List.mem_singleton.mpr rfl) (fun p hp _ => by rw [List.mem_singleton.mp hp]; rfl) hr (lamS_by (by kernel_rfl)) rfl (fun _ _ _ _ _ => rfl) (fun A outer s H E f c' hr => by have hr4 : Room 4 _ := hr.mono (by decide); have hr5 : Room 5 _ := hr.mono (by decide); exact (pe_callS GTN hr4 rfl gT kT bT (fun σ => passAt (takes_of rfl rfl rfl rfl) σ) (by exact (pa_cons pe_int (pa_cons pe_int (pa_cons pe_int pa_nil))))))) pa_nil)))
      (pss_cons (ps_expr (pe_bm PySem.F.plainAttrs_list PySem.F.slot_list_append PySem.F.type_list_append mt_append (pv 5) (pa_cons (pe_lamcall (T := [(PR, qLam)]) (k := 6) (a := "_law_action") (Ng := nmNone) (by rfl) gO kO lkO hcO bO scNone rfl (Or.inl rfl) (none_gives gB xm xf nl) TB rfl (List.mem_singleton.mpr rfl) (fun p hp _ => by rw [List.mem_singleton.mp hp]; rfl) hr (lamS_by (by kernel_rfl)) rfl (fun _ _ _ _ _ => rfl) (fun A outer s H E f c' hr => by have hr4 : Room 4 _ := hr.mono (by decide); have hr5 : Room 5 _ := hr.mono (by decide); exact (pe_callS GTN hr4 rfl gT kT bT (fun σ => passAt (takes_of rfl rfl rfl rfl) σ) (by exact (pa_cons pe_int (pa_cons (pv 2) (pa_cons pe_int pa_nil))))))) pa_nil)))
      (pss_cons (ps_expr (pe_bm PySem.F.plainAttrs_list PySem.F.slot_list_append PySem.F.type_list_append mt_append (pv 5) (pa_cons (pe_lamcall (T := [(PR, qLam)]) (k := 6) (a := "_law_action") (Ng := nmNone) (by rfl) gO kO lkO hcO bO scNone rfl (Or.inl rfl) (none_gives gB xm xf nl) TB rfl (List.mem_singleton.mpr rfl) (fun p hp _ => by rw [List.mem_singleton.mp hp]; rfl) hr (lamS_by (by kernel_rfl)) rfl (fun _ _ _ _ _ => rfl) (fun A outer s H E f c' hr => by have hr4 : Room 4 _ := hr.mono (by decide); have hr5 : Room 5 _ := hr.mono (by decide); exact (pe_callS GLN hr4 rfl gL kL bL (fun σ => passAt (takes_of rfl rfl rfl rfl) σ) (by exact (pa_cons pe_int (pa_cons (pv 2) pa_nil)))))) pa_nil)))
      (pss_one (ps_ret (pe_cmpR (op_eqD hr1.units) (pv 5) (pe_op op_cat (pe_op op_cat (pe_lst (pa_cons (pe_lst (pa_cons (pv 4) pa_nil)) (pa_cons (pe_lst (pa_cons (pv 2) pa_nil)) (pa_cons (pe_lst (pa_cons (pv 2) pa_nil)) (pa_cons (pe_lst (pa_cons pe_int pa_nil)) pa_nil))))) (pe_op op_rep (pe_lst (pa_cons (pe_lst (pa_cons (pv 2) pa_nil)) pa_nil)) pe_int)) (pe_lst (pa_cons (pe_lst (pa_cons (pv 4) pa_nil)) (pa_cons (pe_lst (pa_cons pe_int pa_nil)) (pa_cons (pe_lst (pa_cons (pv 3) pa_nil)) (pa_cons (pe_lst (pa_cons (pv 4) pa_nil)) (pa_cons (pe_lst (pa_cons pe_int pa_nil)) (pa_cons (pe_lst pa_nil) (pa_cons (pe_lst pa_nil) (pa_cons (pe_lst (pa_cons pe_int pa_nil)) (pa_cons (pe_lst (pa_cons (pv 2) pa_nil)) (pa_cons (pe_lst (pa_cons (pv 2) pa_nil)) pa_nil)))))))))))) (nomark _)))))))))))))))))))))))), ?_⟩
    refine ⟨_, rfl, 1, rfl, 10, 60, rfl, rfl, ⟨by decide, by decide, by decide⟩, _, _, rfl, rfl, (by show 1 ≤ sizeLine; decide), fun tp nt => ⟨(by show 6 ≤ sizeLine; decide), fun a1 n1 => ?_⟩⟩
    have s1 := (Same.new nt).trans (Same.new (o := .lst [.int (-1), .non, .bl true, .str "2", .int (10 ^ 60 + 1), .ref tp]) n1)
    have B0 := hB.keep s1
    have gt : upd (upd H tp (.tup [.int 2])) a1 (.lst [.int (-1), .non, .bl true, .str "2", .int (10 ^ 60 + 1), .ref tp]) tp = some (.tup [.int 2]) := (Same.new n1) _ _ upd_same
    refine ⟨b, c, a1, m, [.int (-1), .non, .bl true, .str "2", .int (10 ^ 60 + 1), .ref tp], rfl, B0, by omega, upd_same, by simp, by simp, fun vo G1 hv B1 e1 => ?_⟩
    obtain ⟨od, ho⟩ : ∃ od, OdV G1 0 vo od := by
      simp only [List.mem_cons, List.not_mem_nil, or_false] at hv
      rcases hv with rfl | rfl | rfl | rfl | rfl | rfl
      · exact ⟨_, .int _ (.inl (by decide))⟩
      · exact ⟨_, .non⟩
      · exact ⟨_, .bl _⟩
      · exact ⟨_, .str _ (by kernel_rfl)⟩
      · exact ⟨_, .int _ (.inr (by decide))⟩
      · exact ⟨_, .tup tp (e1 _ _ gt (bag_ne B0 gt (by intro l z; cases z)))⟩
    have D1 := (hD.keep s1).but B0 e1
    have T1 := tabs_but (hT.ext s1) B0 e1
    clear hv gt B0
    -- more
    refine ⟨_, rfl, 7, rfl, (by show 0 ≤ sizeLine; decide), fun te ne => ⟨(by show 4 ≤ sizeLine; decide), fun a2 n2 => ?_⟩⟩
    have s2 := (Same.new ne).trans (Same.new (o := .lst [.int (-7), .ref te, .str "x", .bl false]) n2)
    have B2 := B1.keep s2
    have gt : upd (upd G1 te (.lst [])) a2 (.lst [.int (-7), .ref te, .str "x", .bl false]) te = some (.lst []) := (Same.new n2) _ _ upd_same
    refine ⟨b, c, a2, _, [.int (-7), .ref te, .str "x", .bl false], rfl, B2, by omega, upd_same, by simp, by simp, fun vm G2 hv B3 e2 => ?_⟩
    obtain ⟨dm, hm2⟩ : ∃ dm, OdV G2 0 vm dm := by
      simp only [List.mem_cons, List.not_mem_nil, or_false] at hv
      rcases hv with rfl | rfl | rfl | rfl
      · exact ⟨_, .int _ (.inl (by decide))⟩
      · exact ⟨_, .lst te (e2 _ _ gt (bag_ne B2 gt (by intro l z; cases z)))⟩
      · exact ⟨_, .str _ (by kernel_rfl)⟩
      · exact ⟨_, .bl _⟩
    have D2 := (D1.keep s2).but B2 e2
    have T2 := tabs_but (T1.ext s2) B2 e2
    have ho2 := od_but (od_same ho s2) B2 e2
    clear hv gt B2 D1 T1 ho
    refine ⟨(by show 2 ≤ sizeLine; decide), fun pt npt => ⟨pt, _, rfl, .inl (.inl upd_same), rfl, _, _, rfl, _, _, rfl, rfl, ?_⟩⟩
    have s3 := Same.new (o := .tup [vo, vm]) npt
    -- part
    refine ⟨_, rfl, _, rfl, (by show 3 ≤ sizeLine; decide), fun a3 n3 => ?_⟩
    have s4 := s3.trans (Same.new (o := .lst [.int 1, .int 0, vo]) n3)
    have B4 := B3.keep s4
    refine ⟨b, c, a3, _, [.int 1, .int 0, vo], rfl, B4, by omega, upd_same, by simp, by simp, fun vp G3 hv B5 e3 => ?_⟩
    have ho3 := od_but (od_same ho2 s4) B4 e3
    have hm3 := od_but (od_same hm2 s4) B4 e3
    obtain ⟨dp, hp3⟩ : ∃ dp, OdV G3 2 vp dp := by
      simp only [List.mem_cons, List.not_mem_nil, or_false] at hv
      rcases hv with rfl | rfl | rfl
      · exact ⟨_, .int _ (.inl (by decide))⟩
      · exact ⟨_, .int _ (.inl (by decide))⟩
      · exact ⟨_, ho3.up (by decide)⟩
    have D3 := (D2.keep s4).but B4 e3
    have T3 := tabs_but (T2.ext s4) B4 e3
    clear hv B4 D2 T2 ho2 hm2 B3 s3 s4 e3 e2 s2 B1 e1 s1 hB hD hT
    -- 1
    refine ⟨T3, fun G eN T4 => ?_⟩
    refine ⟨_, rfl, _, rfl, _, rfl, 1, rfl, fun x dx nx ndx ne => ?_⟩
    have s0 := mk2 (C := C) nx ndx ne
    refine ⟨_, _, _, _, _, vp, rfl, .inl ⟨(od_same (hp3.keepN eN) s0).bad TK (by decide) (by decide), rfl⟩, fun d H' sd nd hd => ⟨rfl, d, vp, rfl, hd, fun _ _ p1 np1 => ⟨(by show 1 ≤ sizeLine; decide), fun fa nfa => ?_⟩⟩⟩
    have sG := s0.trans sd
    have sA := sG.trans ((Same.new (o := .lst [vp]) np1).trans (Same.new (o := .lst [.ref p1]) nfa))
    have R : RF C [(PR, qLam)] c b (m + 3) q D vo od vm dm vp dp fa [(p1, [vp])] (upd (upd H' p1 (.lst [vp])) fa (.lst [.ref p1])) := by
      refine ⟨(BagAt.keepN B5 eN).keep sA, (DvAt.keepN D3 eN).keep sA, od_same (ho3.keepN eN) sA, od_same (hm3.keepN eN) sA, od_same (hp3.keepN eN) sA, T4.ext sA, upd_same, by simp, ?_, fun y hy => ?_⟩
      · obtain ⟨ns, x1, x2, x3, x4, B⟩ := (BagAt.keepN B5 eN).keep (sG.trans (Same.new (o := .lst [vp]) np1))
        exact ne_of_none B.cs nfa
      · rw [List.mem_singleton.mp hy]
        exact ⟨(Same.new nfa) _ _ upd_same, ne_of_none upd_same nfa⟩
    clear sA sG sd nd hd s0 T4 eN T3 D3 hp3 hm3 ho3 B5 nfa np1
    -- 2
    refine ⟨_, rfl, .inl ⟨rfl, _, SqL.of R.at_⟩, R.tb, fun G eN T1 => ?_⟩
    have R0 := R.ext eN T1
    refine ⟨_, rfl, _, rfl, fun x dx nx ndx ne => ?_⟩
    have R0 := R0.same (mk2 (C := C) nx ndx ne)
    refine ⟨_, _, _, _, _, vo, rfl, .inr ⟨⟨2, rfl, by decide, by decide⟩, .inl ⟨R0.od_.bad TK (by decide) (by decide), rfl⟩⟩, fun d H' sd nd hd => ?_⟩
    have R0 := R0.same sd
    refine ⟨rfl, d, _, rfl, hd, fun _ _ p2 np => ?_⟩
    have R3 := R0.same (Same.new (o := .lst [vo]) np)
    refine ⟨fa, _, .ref p2, rfl, rfl, R3.at_, R3.len_ (Nat.le_of_ble_eq_true rfl), ?_⟩
    have R2 := R0.more (l := [vo]) np
    clear R R3 R0 T1 eN np sd nd hd
    have R := R2
    clear R2
    -- 3
    refine ⟨_, rfl, .inl ⟨rfl, _, SqL.of R.at_⟩, R.tb, fun G eN T1 => ?_⟩
    have R0 := R.ext eN T1
    refine ⟨_, rfl, _, rfl, fun x dx nx ndx ne => ?_⟩
    have R0 := R0.same (mk2 (C := C) nx ndx ne)
    refine ⟨_, _, _, _, _, vo, rfl, .inr ⟨⟨2, rfl, by decide, by decide⟩, .inr ⟨⟨5, rfl, by decide, by decide⟩, .inl ⟨R0.od_.bad TK (by decide) (by decide), rfl⟩⟩⟩, fun d H' sd nd hd => ?_⟩
    have R0 := R0.same sd
    refine ⟨rfl, d, _, rfl, hd, fun _ _ p3 np => ?_⟩
    have R3 := R0.same (Same.new (o := .lst [vo]) np)
    refine ⟨fa, _, .ref p3, rfl, rfl, R3.at_, R3.len_ (Nat.le_of_ble_eq_true rfl), ?_⟩
    have R2 := R0.more (l := [vo]) np
    clear R R3 R0 T1 eN np sd nd hd
    have R := R2
    clear R2
    -- 4
    refine ⟨_, rfl, .inl ⟨rfl, _, SqL.of R.at_⟩, R.tb, fun G eN T1 => ?_⟩
    have R0 := R.ext eN T1
    refine fun x dx nx ndx ne => ?_
    have R0 := R0.same (mk2 (C := C) nx ndx ne)
    refine ⟨_, _, _, _, _, .int 401, rfl, .inr ⟨⟨2, rfl, by decide, by decide⟩, .inr ⟨⟨5, rfl, by decide, by decide⟩, .inr ⟨⟨0, rfl, by decide, by decide⟩, .inl ⟨.inr ⟨401, rfl, .inr (by decide)⟩, rfl⟩⟩⟩⟩, fun d H' sd nd hd => ?_⟩
    have R0 := R0.same sd
    refine ⟨rfl, d, _, rfl, hd, fun _ _ p4 np => ?_⟩
    have R3 := R0.same (Same.new (o := .lst [.int 401]) np)
    refine ⟨fa, _, .ref p4, rfl, rfl, R3.at_, R3.len_ (Nat.le_of_ble_eq_true rfl), ?_⟩
    have R2 := R0.more (l := [.int 401]) np
    clear R R3 R0 T1 eN np sd nd hd
    have R := R2
    clear R2
    -- 5
    refine ⟨_, rfl, .inl ⟨rfl, _, SqL.of R.at_⟩, R.tb, fun G eN T1 => ?_⟩
    have R0 := R.ext eN T1
    obtain ⟨dq, hdq⟩ := R0.dv
    refine ⟨_, rfl, q, dq, _, rfl, hdq, dFl_q D, _, rfl, .ref q, vo, rfl, R0.od_.bad TK (by decide) (by decide), fun d H' sd nd hd => ?_⟩
    have R0 := R0.same sd
    refine ⟨rfl, d, _, rfl, hd, fun _ _ p5 np => ?_⟩
    have R3 := R0.same (Same.new (o := .lst [vo]) np)
    refine ⟨fa, _, .ref p5, rfl, rfl, R3.at_, R3.len_ (Nat.le_of_ble_eq_true rfl), ?_⟩
    have R2 := R0.more (l := [vo]) np
    clear R R3 R0 T1 eN np sd nd hd
    have R := R2
    clear R2
    -- 6
    refine ⟨_, rfl, .inl ⟨rfl, _, SqL.of R.at_⟩, R.tb, fun G eN T1 => ?_⟩
    have R0 := R.ext eN T1
    refine ⟨_, rfl, _, rfl, q, D, vo, rfl, R0.dv, R0.od_.bad TK (by decide) (by decide), fun d H' sd nd hd => ?_⟩
    have R0 := R0.same sd
    refine ⟨rfl, d, _, rfl, hd, fun _ _ p6 np => ?_⟩
    have R3 := R0.same (Same.new (o := .lst [vo]) np)
    refine ⟨fa, _, .ref p6, rfl, rfl, R3.at_, R3.len_ (Nat.le_of_ble_eq_true rfl), ?_⟩
    have R2 := R0.more (l := [vo]) np
    clear R R3 R0 T1 eN np sd nd hd
    have R := R2
    clear R2
    -- 7
    refine ⟨_, rfl, .inl ⟨rfl, _, SqL.of R.at_⟩, R.tb, fun G eN T1 => ?_⟩
    have R0 := R.ext eN T1
    refine ⟨_, rfl, _, rfl, _, vo, rfl, R0.od_.bad TK (by decide) (by decide), fun d H' sd nd hd => ?_⟩
    have R0 := R0.same sd
    refine ⟨rfl, d, _, rfl, hd, fun _ _ p7 np => ?_⟩
    have R3 := R0.same (Same.new (o := .lst [vo]) np)
    refine ⟨fa, _, .ref p7, rfl, rfl, R3.at_, R3.len_ (Nat.le_of_ble_eq_true rfl), ?_⟩
    have R2 := R0.more (l := [vo]) np
    clear R R3 R0 T1 eN np sd nd hd
    have R := R2
    clear R2
    -- 8
    refine ⟨_, rfl, .inl ⟨rfl, _, SqL.of R.at_⟩, R.tb, fun G eN T1 => ?_⟩
    have R0 := R.ext eN T1
    refine ⟨_, rfl, _, rfl, _, vo, rfl, R0.od_.bad TK (by decide) (by decide), fun d H' sd nd hd => ?_⟩
    have R0 := R0.same sd
    refine ⟨rfl, d, _, rfl, hd, fun _ _ p8 np => ?_⟩
    have R3 := R0.same (Same.new (o := .lst [vo]) np)
    refine ⟨fa, _, .ref p8, rfl, rfl, R3.at_, R3.len_ (Nat.le_of_ble_eq_true rfl), ?_⟩
    have R2 := R0.more (l := [vo]) np
    clear R R3 R0 T1 eN np sd nd hd
    have R := R2
    clear R2
    -- 9
    refine ⟨_, rfl, .inl ⟨rfl, _, SqL.of R.at_⟩, R.tb, fun G eN T1 => ?_⟩
    have R0 := R.ext eN T1
    refine ⟨_, rfl, _, rfl, _, vo, rfl, R0.od_.bad TK (by decide) (by decide), fun d H' sd nd hd => ?_⟩
    have R0 := R0.same sd
    refine ⟨rfl, d, _, rfl, hd, fun _ _ p9 np => ?_⟩
    have R3 := R0.same (Same.new (o := .lst [vo]) np)
    refine ⟨fa, _, .ref p9, rfl, rfl, R3.at_, R3.len_ (Nat.le_of_ble_eq_true rfl), ?_⟩
    have R2 := R0.more (l := [vo]) np
    clear R R3 R0 T1 eN np sd nd hd
    have R := R2
    clear R2
    -- 10
    refine ⟨_, rfl, .inl ⟨rfl, _, SqL.of R.at_⟩, R.tb, fun G eN T1 => ?_⟩
    have R0 := R.ext eN T1
    refine ⟨_, rfl, _, rfl, _, _, _, vp, rfl, .inl ⟨R0.pa_.bad TK (by decide) (by decide), rfl⟩, fun d H' sd nd hd => ?_⟩
    have R0 := R0.same sd
    refine ⟨rfl, d, _, rfl, hd, fun _ _ p10 np => ?_⟩
    have R3 := R0.same (Same.new (o := .lst [vp]) np)
    refine ⟨fa, _, .ref p10, rfl, rfl, R3.at_, R3.len_ (Nat.le_of_ble_eq_true rfl), ?_⟩
    have R2 := R0.more (l := [vp]) np
    clear R R3 R0 T1 eN np sd nd hd
    have R := R2
    clear R2
    -- 11
    refine ⟨_, rfl, .inl ⟨rfl, _, SqL.of R.at_⟩, R.tb, fun G eN T1 => ?_⟩
    have R0 := R.ext eN T1
    refine ⟨_, rfl, _, _, _, .int 0, rfl, .inr ⟨⟨7, rfl, by decide, by decide⟩, .inl ⟨.inr ⟨0, rfl, .inl (by decide)⟩, rfl⟩⟩, fun d H' sd nd hd => ?_⟩
    have R0 := R0.same sd
    refine ⟨rfl, d, _, rfl, hd, fun _ _ p11 np => ?_⟩
    have R3 := R0.same (Same.new (o := .lst [.int 0]) np)
    refine ⟨fa, _, .ref p11, rfl, rfl, R3.at_, R3.len_ (Nat.le_of_ble_eq_true rfl), ?_⟩
    have R2 := R0.more (l := [.int 0]) np
    clear R R3 R0 T1 eN np sd nd hd
    have R := R2
    clear R2
    -- 12
    refine ⟨_, rfl, .inl ⟨rfl, _, SqL.of R.at_⟩, R.tb, fun G eN T1 => ?_⟩
    have R0 := R.ext eN T1
    refine ⟨_, rfl, _, _, _, vm, rfl, .inr ⟨⟨7, rfl, by decide, by decide⟩, .inr ⟨⟨5, rfl, by decide, by decide⟩, .inl ⟨R0.mo_.bad TK (by decide) (by decide), rfl⟩⟩⟩, fun d H' sd nd hd => ?_⟩
    have R0 := R0.same sd
    refine ⟨rfl, d, _, rfl, hd, fun _ _ p12 np => ?_⟩
    have R3 := R0.same (Same.new (o := .lst [vm]) np)
    refine ⟨fa, _, .ref p12, rfl, rfl, R3.at_, R3.len_ (Nat.le_of_ble_eq_true rfl), ?_⟩
    have R2 := R0.more (l := [vm]) np
    clear R R3 R0 T1 eN np sd nd hd
    have R := R2
    clear R2
    -- 13
    refine ⟨_, rfl, .inl ⟨rfl, _, SqL.of R.at_⟩, R.tb, fun G eN T1 => ?_⟩
    have R0 := R.ext eN T1
    refine ⟨_, rfl, _, _, vp, rfl, .inl ⟨R0.pa_.bad TK (by decide) (by decide), rfl⟩, fun d H' sd nd hd => ?_⟩
    have R0 := R0.same sd
    refine ⟨rfl, d, _, rfl, hd, fun _ _ p13 np => ?_⟩
    have R3 := R0.same (Same.new (o := .lst [vp]) np)
    refine ⟨fa, _, .ref p13, rfl, rfl, R3.at_, R3.len_ (Nat.le_of_ble_eq_true rfl), ?_⟩
    have R2 := R0.more (l := [vp]) np
    clear R R3 R0 T1 eN np sd nd hd
    have R := R2
    clear R2
    -- 14
    refine ⟨_, rfl, .inl ⟨rfl, _, SqL.of R.at_⟩, R.tb, fun G eN T1 => ?_⟩
    have R0 := R.ext eN T1
    refine ⟨_, _, .int 0, rfl, .inr ⟨⟨3, rfl, by decide, by decide⟩, .inl ⟨.inr ⟨0, rfl, .inl (by decide)⟩, rfl⟩⟩, fun d H' sd nd hd => ?_⟩
    have R0 := R0.same sd
    refine ⟨rfl, d, _, rfl, hd, fun _ _ p14 np => ?_⟩
    have R3 := R0.same (Same.new (o := .lst [.int 0]) np)
    refine ⟨fa, _, .ref p14, rfl, rfl, R3.at_, R3.len_ (Nat.le_of_ble_eq_true rfl), ?_⟩
    have R2 := R0.more (l := [.int 0]) np
    clear R R3 R0 T1 eN np sd nd hd
    have R := R2
    clear R2
    -- 15
    refine ⟨_, rfl, .inl ⟨rfl, _, SqL.of R.at_⟩, R.tb, fun G eN T1 => ?_⟩
    have R0 := R.ext eN T1
    refine ⟨10, 60, rfl, rfl, ⟨by decide, by decide, by decide⟩, 10, 60, rfl, rfl, ⟨by decide, by decide, by decide⟩, 10, 60, rfl, rfl, ⟨by decide, by decide, by decide⟩, fun x dx nx ndx ne => ⟨x, dx, ⟨10 ^ 60, 10 ^ 60, 10 ^ 60, 400⟩, rfl, upd_same, limM, fun G6 b6 hq => ⟨rfl, ?_⟩⟩⟩
    have R0 := R0.same (mkS2 nx ndx ne b6)
    refine ⟨x, dx, _, rfl, hq, dFl_q _, 10, 60, rfl, rfl, ⟨by decide, by decide, by decide⟩, x, ⟨10 ^ 60, 10 ^ 60, 10 ^ 60, 400⟩, 10 ^ 60, rfl, ⟨_, hq⟩, limM, by decide, by decide, (by show 0 ≤ sizeLine; decide), fun p15 np => ?_⟩
    have R3 := R0.same (Same.new (o := .lst []) np)
    refine ⟨fa, _, .ref p15, rfl, rfl, R3.at_, R3.len_ (Nat.le_of_ble_eq_true rfl), ?_⟩
    have R2 := R0.more (l := []) np
    clear R R3 R0 T1 eN np
    have R := R2
    clear R2
    -- 16
    refine ⟨_, rfl, .inl ⟨rfl, _, SqL.of R.at_⟩, R.tb, fun G eN T1 => ?_⟩
    have R0 := R.ext eN T1
    refine ⟨10, 60, rfl, rfl, ⟨by decide, by decide, by decide⟩, 7, 10 ^ 60, 400, rfl, by decide, by decide, by decide, by decide, by decide, both_ways fun H' sd => ⟨(by show 0 ≤ sizeLine; decide), fun p16 np => ?_⟩⟩
    have R0 := R0.same sd
    have R3 := R0.same (Same.new (o := .lst []) np)
    refine ⟨fa, _, .ref p16, rfl, rfl, R3.at_, R3.len_ (Nat.le_of_ble_eq_true rfl), ?_⟩
    have R2 := R0.more (l := []) np
    clear R R3 R0 T1 eN np sd
    have R := R2
    clear R2
    -- 17
    refine ⟨_, rfl, .inl ⟨rfl, _, SqL.of R.at_⟩, R.tb, fun G eN T1 => ?_⟩
    have R0 := R.ext eN T1
    refine ⟨_, _, _, .int 401, rfl, .inr ⟨⟨7, rfl, by decide, by decide⟩, .inr ⟨⟨5, rfl, by decide, by decide⟩, .inl ⟨.inr ⟨401, rfl, .inr (by decide)⟩, rfl⟩⟩⟩, fun d H' sd nd hd => ?_⟩
    have R0 := R0.same sd
    refine ⟨rfl, d, _, rfl, hd, fun _ _ p17 np => ?_⟩
    have R3 := R0.same (Same.new (o := .lst [.int 401]) np)
    refine ⟨fa, _, .ref p17, rfl, rfl, R3.at_, R3.len_ (Nat.le_of_ble_eq_true rfl), ?_⟩
    have R2 := R0.more (l := [.int 401]) np
    clear R R3 R0 T1 eN np sd nd hd
    have R := R2
    clear R2
    -- 18
    refine ⟨_, rfl, .inl ⟨rfl, _, SqL.of R.at_⟩, R.tb, fun G eN T1 => ?_⟩
    have R0 := R.ext eN T1
    refine ⟨_, rfl, _, _, _, vo, rfl, .inr ⟨⟨7, rfl, by decide, by decide⟩, .inl ⟨R0.od_.bad TK (by decide) (by decide), rfl⟩⟩, fun d H' sd nd hd => ?_⟩
    have R0 := R0.same sd
    refine ⟨rfl, d, _, rfl, hd, fun _ _ p18 np => ?_⟩
    have R3 := R0.same (Same.new (o := .lst [vo]) np)
    refine ⟨fa, _, .ref p18, rfl, rfl, R3.at_, R3.len_ (Nat.le_of_ble_eq_true rfl), ?_⟩
    have R2 := R0.more (l := [vo]) np
    clear R R3 R0 T1 eN np sd nd hd
    have R := R2
    clear R2
    -- 19
    refine ⟨_, rfl, .inl ⟨rfl, _, SqL.of R.at_⟩, R.tb, fun G eN T1 => ?_⟩
    have R0 := R.ext eN T1
    refine ⟨_, rfl, _, _, vo, rfl, .inr ⟨⟨3, rfl, by decide, by decide⟩, .inl ⟨R0.od_.bad TK (by decide) (by decide), rfl⟩⟩, fun d H' sd nd hd => ?_⟩
    have R0 := R0.same sd
    refine ⟨rfl, d, _, rfl, hd, fun _ _ p19 np => ?_⟩
    have R3 := R0.same (Same.new (o := .lst [vo]) np)
    refine ⟨fa, _, .ref p19, rfl, rfl, R3.at_, R3.len_ (Nat.le_of_ble_eq_true rfl), ?_⟩
    have R2 := R0.more (l := [vo]) np
    clear R R3 R0 T1 eN np sd nd hd
    have R := R2
    clear R2
    refine ⟨_, rfl, ?_⟩
    refine ⟨_, rfl, (by show 1 ≤ sizeLine; decide), fun a1 n1 => ?_⟩
    have t1 := Same.new (o := .lst [vp]) n1
    refine ⟨_, rfl, (by show 1 ≤ sizeLine; decide), fun a2 n2 => ?_⟩
    have t2 := Same.new (o := .lst [vo]) n2
    refine ⟨_, rfl, (by show 1 ≤ sizeLine; decide), fun a3 n3 => ?_⟩
    have t3 := Same.new (o := .lst [vo]) n3
    refine ⟨(by show 1 ≤ sizeLine; decide), fun a4 n4 => ?_⟩
    have t4 := Same.new (o := .lst [.int 401]) n4
    refine ⟨(by show 4 ≤ sizeLine; decide), fun b1 m1 => ?_⟩
    have o1 := Same.new (o := .lst [.ref a1, .ref a2, .ref a3, .ref a4]) m1
    refine ⟨_, rfl, (by show 1 ≤ sizeLine; decide), fun a5 n5 => ?_⟩
    have t5 := Same.new (o := .lst [vo]) n5
    refine ⟨(by show 1 ≤ sizeLine; decide), fun b2 m2 => ?_⟩
    have o2 := Same.new (o := .lst [.ref a5]) m2
    refine ⟨b2, 5, _, rfl, rfl, upd_same, by decide, by decide, (by show 1 * 5 ≤ sizeLine; decide), fun b3 m3 => ?_⟩
    have o3 := Same.new (o := .lst (List.replicate (Int.toNat 5) [V.ref a5]).flatten) m3
    refine ⟨b1, b3, _, _, rfl, rfl, (t5.trans (o2.trans o3)) _ _ upd_same, upd_same, (by show 4 + 5 ≤ sizeLine; decide), fun b4 m4 => ?_⟩
    have o4 := Same.new (o := .lst ([V.ref a1, .ref a2, .ref a3, .ref a4] ++ (List.replicate (Int.toNat 5) [V.ref a5]).flatten)) m4
    refine ⟨_, rfl, (by show 1 ≤ sizeLine; decide), fun a6 n6 => ?_⟩
    have t6 := Same.new (o := .lst [vp]) n6
    refine ⟨(by show 1 ≤ sizeLine; decide), fun a7 n7 => ?_⟩
    have t7 := Same.new (o := .lst [.int 0]) n7
    refine ⟨_, rfl, (by show 1 ≤ sizeLine; decide), fun a8 n8 => ?_⟩
    have t8 := Same.new (o := .lst [vm]) n8
    refine ⟨_, rfl, (by show 1 ≤ sizeLine; decide), fun a9 n9 => ?_⟩
    have t9 := Same.new (o := .lst [vp]) n9
    refine ⟨(by show 1 ≤ sizeLine; decide), fun a10 n10 => ?_⟩
    have t10 := Same.new (o := .lst [.int 0]) n10
    refine ⟨(by show 0 ≤ sizeLine; decide), fun a11 n11 => ?_⟩
    have t11 := Same.new (o := .lst []) n11
    refine ⟨(by show 0 ≤ sizeLine; decide), fun a12 n12 => ?_⟩
    have t12 := Same.new (o := .lst []) n12
    refine ⟨(by show 1 ≤ sizeLine; decide), fun a13 n13 => ?_⟩
    have t13 := Same.new (o := .lst [.int 401]) n13
    refine ⟨_, rfl, (by show 1 ≤ sizeLine; decide), fun a14 n14 => ?_⟩
    have t14 := Same.new (o := .lst [vo]) n14
    refine ⟨_, rfl, (by show 1 ≤ sizeLine; decide), fun a15 n15 => ?_⟩
    have t15 := Same.new (o := .lst [vo]) n15
    refine ⟨(by show 10 ≤ sizeLine; decide), fun b5 m5 => ?_⟩
    have o5 := Same.new (o := .lst [.ref a6, .ref a7, .ref a8, .ref a9, .ref a10, .ref a11, .ref a12, .ref a13, .ref a14, .ref a15]) m5
    refine ⟨b4, b5, _, _, rfl, rfl, (t6.trans (t7.trans (t8.trans (t9.trans (t10.trans (t11.trans (t12.trans (t13.trans (t14.trans (t15.trans (o5))))))))))) _ _ upd_same, upd_same, (by show 9 + 10 ≤ sizeLine; decide), fun b6 m6 => ?_⟩
    have o6 := Same.new (o := .lst (([V.ref a1, .ref a2, .ref a3, .ref a4] ++ (List.replicate (Int.toNat 5) [V.ref a5]).flatten) ++ [.ref a6, .ref a7, .ref a8, .ref a9, .ref a10, .ref a11, .ref a12, .ref a13, .ref a14, .ref a15])) m6
    have w_o5 := o6
    have w_t15 := o5.trans w_o5
    have w_t14 := t15.trans w_t15
    have w_t13 := t14.trans w_t14
    have w_t12 := t13.trans w_t13
    have w_t11 := t12.trans w_t12
    have w_t10 := t11.trans w_t11
    have w_t9 := t10.trans w_t10
    have w_t8 := t9.trans w_t9
    have w_t7 := t8.trans w_t8
    have w_t6 := t7.trans w_t7
    have w_o4 := t6.trans w_t6
    have w_o3 := o4.trans w_o4
    have w_o2 := o3.trans w_o3
    have w_t5 := o2.trans w_o2
    have w_o1 := t5.trans w_t5
    have w_t4 := o1.trans w_o1
    have w_t3 := t4.trans w_t4
    have w_t2 := t3.trans w_t3
    have w_t1 := t2.trans w_t2
    have Z := R.same (t1.trans w_t1)
    obtain ⟨ls, els⟩ : ∃ ls : List (List PyData), ls = [[dp], [od], [od], [.int 401], [od], [od], [od], [od], [od], [dp], [.int 0], [dm], [dp], [.int 0], [], [], [.int 401], [od], [od]] := ⟨_, rfl⟩
    have hfl : ∀ l ∈ ls, ∀ d ∈ l, Flat d := by
      have z1 := Z.pa_.flat; have z2 := Z.od_.flat; have z3 := Z.mo_.flat; have z4 := flat_int 401; have z5 := flat_int 0
      rw [els]; intro l hl d hd; simp only [List.mem_cons, List.not_mem_nil, or_false] at hl
      rcases hl with rfl | rfl | rfl | rfl | rfl | rfl | rfl | rfl | rfl | rfl | rfl | rfl | rfl | rfl | rfl | rfl | rfl | rfl | rfl <;> simp only [List.mem_cons, List.not_mem_nil, or_false] at hd <;> subst hd <;> assumption
    have sh := shaped_two hfl
    refine ⟨.list (ls.map .list), .list (ls.map .list), ?_, ?_, sh, sh, ?_⟩
    · rw [els]
      exact .lst (SqL.of Z.at_) (.cons (.lst (SqL.of (Z.each (p1, [vp]) (by simp)).1) (.cons (Z.pa_.dp) .nil)) (.cons (.lst (SqL.of (Z.each (p2, [vo]) (by simp)).1) (.cons (Z.od_.dp) .nil)) (.cons (.lst (SqL.of (Z.each (p3, [vo]) (by simp)).1) (.cons (Z.od_.dp) .nil)) (.cons (.lst (SqL.of (Z.each (p4, [.int 401]) (by simp)).1) (.cons (.int _) .nil)) (.cons (.lst (SqL.of (Z.each (p5, [vo]) (by simp)).1) (.cons (Z.od_.dp) .nil)) (.cons (.lst (SqL.of (Z.each (p6, [vo]) (by simp)).1) (.cons (Z.od_.dp) .nil)) (.cons (.lst (SqL.of (Z.each (p7, [vo]) (by simp)).1) (.cons (Z.od_.dp) .nil)) (.cons (.lst (SqL.of (Z.each (p8, [vo]) (by simp)).1) (.cons (Z.od_.dp) .nil)) (.cons (.lst (SqL.of (Z.each (p9, [vo]) (by simp)).1) (.cons (Z.od_.dp) .nil)) (.cons (.lst (SqL.of (Z.each (p10, [vp]) (by simp)).1) (.cons (Z.pa_.dp) .nil)) (.cons (.lst (SqL.of (Z.each (p11, [.int 0]) (by simp)).1) (.cons (.int _) .nil)) (.cons (.lst (SqL.of (Z.each (p12, [vm]) (by simp)).1) (.cons (Z.mo_.dp) .nil)) (.cons (.lst (SqL.of (Z.each (p13, [vp]) (by simp)).1) (.cons (Z.pa_.dp) .nil)) (.cons (.lst (SqL.of (Z.each (p14, [.int 0]) (by simp)).1) (.cons (.int _) .nil)) (.cons (.lst (SqL.of (Z.each (p15, []) (by simp)).1) .nil) (.cons (.lst (SqL.of (Z.each (p16, []) (by simp)).1) .nil) (.cons (.lst (SqL.of (Z.each (p17, [.int 401]) (by simp)).1) (.cons (.int _) .nil)) (.cons (.lst (SqL.of (Z.each (p18, [vo]) (by simp)).1) (.cons (Z.od_.dp) .nil)) (.cons (.lst (SqL.of (Z.each (p19, [vo]) (by simp)).1) (.cons (Z.od_.dp) .nil)) (.nil))))))))))))))))))))
    · rw [els]
      exact .lst (SqL.of upd_same) (.cons (.lst (SqL.of (w_t1 _ _ upd_same)) (.cons (Z.pa_.dp) .nil)) (.cons (.lst (SqL.of (w_t2 _ _ upd_same)) (.cons (Z.od_.dp) .nil)) (.cons (.lst (SqL.of (w_t3 _ _ upd_same)) (.cons (Z.od_.dp) .nil)) (.cons (.lst (SqL.of (w_t4 _ _ upd_same)) (.cons (.int _) .nil)) (.cons (.lst (SqL.of (w_t5 _ _ upd_same)) (.cons (Z.od_.dp) .nil)) (.cons (.lst (SqL.of (w_t5 _ _ upd_same)) (.cons (Z.od_.dp) .nil)) (.cons (.lst (SqL.of (w_t5 _ _ upd_same)) (.cons (Z.od_.dp) .nil)) (.cons (.lst (SqL.of (w_t5 _ _ upd_same)) (.cons (Z.od_.dp) .nil)) (.cons (.lst (SqL.of (w_t5 _ _ upd_same)) (.cons (Z.od_.dp) .nil)) (.cons (.lst (SqL.of (w_t6 _ _ upd_same)) (.cons (Z.pa_.dp) .nil)) (.cons (.lst (SqL.of (w_t7 _ _ upd_same)) (.cons (.int _) .nil)) (.cons (.lst (SqL.of (w_t8 _ _ upd_same)) (.cons (Z.mo_.dp) .nil)) (.cons (.lst (SqL.of (w_t9 _ _ upd_same)) (.cons (Z.pa_.dp) .nil)) (.cons (.lst (SqL.of (w_t10 _ _ upd_same)) (.cons (.int _) .nil)) (.cons (.lst (SqL.of (w_t11 _ _ upd_same)) .nil) (.cons (.lst (SqL.of (w_t12 _ _ upd_same)) .nil) (.cons (.lst (SqL.of (w_t13 _ _ upd_same)) (.cons (.int _) .nil)) (.cons (.lst (SqL.of (w_t14 _ _ upd_same)) (.cons (Z.od_.dp) .nil)) (.cons (.lst (SqL.of (w_t15 _ _ upd_same)) (.cons (Z.od_.dp) .nil)) (.nil))))))))))))))))))))
    · rw [eqv_self sh]
      exact k _ Z.bag

end
end KD

set_option Elab.async false
set_option linter.all false
set_option maxRecDepth 100000
set_option maxHeartbeats 8000000
/-! k61: != where the class has __eq__ alone -/
namespace L2
open PySem PySem.Spec PyProof.Rows
section
variable {X : Cx} {n : Nat}
def rNeO (C : Addr) (sp : Sp) (E : XK) : R2 := fun x y H Q => ∃ a b dx dy fs gs, x = .ref a ∧ y = .ref b ∧ H a = some (.ins C dx fs) ∧ H b = some (.ins C dy gs) ∧ sp [.ref a, .ref b] H (fun v H' => ∃ z, v = .bl z ∧ Q (.bl !z) H') E
theorem ask_ne {M : Model} {A : Around} {EE : Value → Shared → Prop} {s : Shared} {K : PySem.W.Frag} {x y C : Addr} {ox : Obj} {od : Option Obj} {Q : Option Value → Shared → Prop} (kin : K.In s.heap) (J : PySem.W.InstAt s.heap x ox C od)
    (hn : PySem.W.findIn K (.ref C) "__ne__" = some (some (.builtin "object.__ne__"))) (h : wpAny M A (call (.builtin "object.__ne__") [.ref x, .ref y]) (fun v => Q (some v)) EE s) : wpAny M A (callSpecialIfBound? (.ref x) "__ne__" [.ref y]) Q EE s := by
  unfold callSpecialIfBound? bindSpecialIfBound?
  refine wpAny_holding (wpAny_bind (wpAny_bind (wpAny_bind (J.type.here ((PySem.W.looks_findIn kin hn).here ?_)))))
  dsimp only
  rw [F.cmp_object.ne.bind (.ref x)]
  have tail : wpAny M A (call (.builtin "object.__ne__") ([.ref x] ++ [.ref y]) >>= fun v => pure (some v)) Q EE s :=
    wpAny_bind (wpAny_mono h (fun _ _ z => wpAny_pure z) fun _ _ z => z)
  refine wpAny_bind (wpAny_askSetting (wpAny_ite ?_))
  split
  · exact wpAny_bind (wpAny_pure (wpAny_pure tail))
  · exact wpAny_tryCatch (wpAny_bind (wpAny_pure (wpAny_pure tail)))
theorem body_ne {M : Model} {A : Around} {EE : Value → Shared → Prop} {s : Shared} {K : PySem.W.Frag} {x y C f : Addr} {ox : Obj} {od : Option Obj} {Q : Fin → Shared → Prop} (kin : K.In s.heap) (J : PySem.W.InstAt s.heap x ox C od) (hu : A.units < cLine)
    (he : PySem.W.findIn K (.ref C) "__eq__" = some (some (.ref f))) (hf : PySem.W.isFn K (.ref f) = true) (h : wpAny M A (call (.ref f) [.ref x, .ref y]) (fun v s' => ∃ z, v = .bool z ∧ Q (.done (.ret (.bool !z))) s') EE s) :
    wpAny M A (Builtin.«object.__ne__» ⟨[.ref x, .ref y], []⟩) Q EE s := by
  unfold Builtin.«object.__ne__»
  have asked : wpAny M A (callSpecialIfBound? (.ref x) "__eq__" [.ref y]) (fun r s' => ∃ z, r = some (.bool z) ∧ Q (.done (.ret (.bool !z))) s') EE s :=
    PySem.W.ifBound_K kin J he hf (wpAny_mono h (fun v s' ⟨z, e, q⟩ => ⟨z, by rw [e], q⟩) fun _ _ z => z)
  repeat (first
    | with_reducible refine wpAny_cRoomFor hu ?_
    | (refine wpAny_bind (m := callSpecialIfBound? (.ref x) (Str.ofString "__eq__") [.ref y]) (wpAny_mono asked (fun r s' hr => ?_) fun _ _ z => z))
    | wp_step)
  obtain ⟨z, rfl, q⟩ := hr
  repeat (first | exact q | exact wpAny_pure q | exact wpAny_truthy_bool q | (refine wpAny_bind (m := truthy (.bool _)) (wpAny_truthy_bool ?_)) | wp_step)
theorem op_neO {CX : CXT} {C f : Addr} {fd : FuncData} {ps : List Str} {sp : Sp} {E : XK} (F : FnOk X.prog X.w X.K X.mg X.base CX n f fd ps sp) (hn : PySem.W.findIn X.K (.ref C) "__ne__" = some (some (.builtin "object.__ne__"))) (ho : PySem.W.subIn X.K (.ref C) (.type "object") = some true)
    (he : PySem.W.findIn X.K (.ref C) "__eq__" = some (some (.ref f))) (hf : PySem.W.isFn X.K (.ref f) = true) (hb : Binds X.K fd ps []) (hx : Passes CX X E) (hr : Room (n + 1) X.A) : OpR X (compareOp .NotEq) (rNeO C sp E) := by
  intro pins s σ H x y v u Q I rx ry hq
  obtain ⟨a, b, dx, dy, fs, gs, rfl, rfl, ha, hb', q⟩ := hq
  cases rx
  cases ry
  obtain ⟨mA, J, _⟩ := ins_get I.hok ha
  obtain ⟨mB, J', _⟩ := ins_get I.hok hb'
  obtain ⟨od, J, _⟩ := J.look
  obtain ⟨od', J', _⟩ := J'.look
  have kin := I.kIn
  have r2 : Vals [V.ref a, .ref b] [Value.ref a, .ref b] := .cons rfl (.cons rfl .nil)
  have hl : [Value.ref a, .ref b].length = ps.length := by rw [← F.len _ _ _ _ q]; rfl
  have hu1 : X.A.units + 1 < cLine := Nat.lt_of_le_of_lt (Nat.add_le_add_left (by decide : 1 ≤ 64) _) hr.units
  have bnd : BindsTo s fd ⟨[.ref a, .ref b], []⟩ (ps.zip [.ref a, .ref b]) := by
    have z := hb s [.ref a, .ref b] kin (by rw [List.append_nil]; exact hl)
    rw [List.append_nil] at z
    exact z
  have inner : wpAny (model X.prog X.w) X.A.in1 (call (.ref f) [.ref a, .ref b]) (fun v s' => ∃ z, v = .bool z ∧ EP X pins σ Q (.bool !z) s') X.xe s := by
    refine wpAny_call (codeAny_mono (F.run X.A.in1 X.stack s H ⟨[.ref a, .ref b], []⟩ [.ref a, .ref b] [.ref a, .ref b] _ E hr.in1 I.env0.in1 bnd r2 q) fun r s' hq => ?_)
    cases r with
    | error e => exact hx pins σ H s e s' I hq
    | ok fl =>
      cases fl with
      | ret w =>
        obtain ⟨v, H', I', rv, z, rfl, q'⟩ := I.after hq
        cases rv
        exact ⟨z, rfl, .bl !z, H', I', rfl, q'⟩
      | next => exact False.elim hq
      | brk => exact False.elim hq
      | cont => exact False.elim hq
  show wpAny (model X.prog X.w) X.A (richCompare .NotEq (.ref a) (.ref b)) (EP X pins σ Q) X.xe s
  unfold richCompare
  simp only [oneThing_ref]
  refine wpAny_holding (wpAny_bind (wpAny_cRoomFor (Nat.lt_of_succ_lt hu1) ?_))
  rw [cmpInfo_NotEq]
  dsimp only
  refine wpAny_bind (J.type.here (wpAny_bind (J'.type.here ?_)))
  rw [show (Value.ref C != Value.ref C) = false by simp]
  simp only [Bool.false_eq_true, if_false]
  refine wpAny_bind (wpAny_pure ?_)
  simp only [Bool.false_eq_true, if_false]
  have one : wpAny (model X.prog X.w) X.A (tryCompare (.ref a) "__ne__" (.ref b)) (fun r s' => ∃ z, r = some (.bool z) ∧ EP X pins σ Q (.bool z) s') X.xe s := by
    unfold tryCompare
    refine wpAny_bind (ask_ne kin J hn (wpAny_call (codeAny_call_builtin PySem.F.cmp_object.ne.plain PySem.F.cmpEntry_ne (PySem.W.check_slot PySem.F.cmpKind_ne PySem.F.cmpSplit_ne (J.type.andThen (PySem.W.looks_subIn kin ho)) (PySem.F.cmpArgs_ne _ _) ?_))))
    refine body_ne kin J hu1 he hf (wpAny_mono inner (fun v s' ⟨z, e, q⟩ => ⟨z, e, ?_⟩) fun _ _ z => z)
    exact wpAny_pure ⟨_, rfl, q⟩
  refine wpAny_bind (wpAny_mono one (fun r s' ⟨z, e, q⟩ => ?_) fun _ _ z => z)
  subst e
  exact wpAny_pure q
end
end L2

set_option Elab.async false
set_option linter.all false
set_option maxRecDepth 100000
set_option maxHeartbeats 8000000
/-! k61: a dict with the keys True and False -/
namespace L2
open PySem PySem.Spec PyProof.Rows
/-- t at True, f at False -/
def BdR (P : Program) (w : World) (h : Heap) (a : Addr) (t f : V) : Prop := (a == sysModules) = false ∧ ∃ ut uf, RelV t ut ∧ RelV f uf ∧ h.DictOf (leafKind P w) a [(.num 1, ut), (.num 0, uf)]
def BdO (P : Program) (w : World) (a : Addr) (t f : V) : HO := .ext fun h => BdR P w h a t f
theorem bd_new {P : Program} {w : World} {H : Hp} {h : Heap} {a : Addr} {t f : V} (R : BdR P w h a t f) : ObjOk P w H h a (BdO P w a t f) := by
  refine ⟨R, ?_, fun h1 h2 q st => ?_⟩
  · obtain ⟨_, _, _, _, _, o, _, _, e, _⟩ := R
    exact ⟨o, e⟩
  · obtain ⟨z, ut, uf, r1, r2, o, es, ep, e, r⟩ := q
    exact ⟨z, ut, uf, r1, r2, o, es, ep, st o e, r⟩
theorem mix_empty {P : Program} {w : World} {h : Heap} {a : Addr} (d : h.DictOf (mixKind P w) a []) : h.DictOf (leafKind P w) a [] := by
  obtain ⟨o, es, ep, h1, h2, h3, h4, h5, h6⟩ := d
  have e0 : es = #[] := by
    cases q : es.toList with
    | nil => exact Array.toList_inj.mp q
    | cons x y => rw [q] at h5; cases h5
  subst e0
  exact ⟨o, #[], ep, h1, h2, h3, fun e he => by simp at he, .nil, List.nodup_nil⟩
section
variable {X : Cx} {pos pos' : Pos} {o i value : Expr} {td ty tv : TE}
theorem bd_at {pins : List (Addr × Obj)} {σ : St} {H : Hp} {s : Shared} {a : Addr} {t f : V} (I : Inv X pins σ H s) (e : H a = some (BdO X.prog X.w a t f)) : BdR X.prog X.w s.heap a t f := (I.hok a _ e).1
/-- {True: None, False: None} -/
def tBDisp (P : Program) (w : World) : TE := fun _ H Q => ∀ p, H p = none → Q (.ref p) (upd H p (BdO P w p .non .non))
theorem pe_bdisp {j1 j2 j3 j4 : Nat} {p1 p2 p3 p4 : Pos} : PE X (.Dict [some (.Constant (.bool true) j1 p1), some (.Constant (.bool false) j2 p2)] [.Constant .none j3 p3, .Constant .none j4 p4] pos) (tBDisp X.prog X.w) := by
  refine ⟨fun pins s σ H Q I q => ?_⟩
  have np := I.hok.fresh (Nat.le_refl s.heap.objs.size)
  have I1 := I.laid (a := s.heap.objs.size) (o := .dK []) (h' := s.heap.push { cls := .type "dict", data := .dict #[] }) (t' := s.toks) (fun _ _ z => Heap.get?_push_of_some _ z) (Nat.le_refl _) (dk_empty s.heap I.big)
  have two : PPs X pos [some (.Constant (.bool true) j1 p1), some (.Constant (.bool false) j2 p2)] [.Constant .none j3 p3, .Constant .none j4 p4] [(tC (.bl true), tC .non), (tC (.bl false), tC .non)] := pps_cons pe_bl pe_non (pps_cons pe_bl pe_non pps_nil)
  refine wpAny_Dict_walk (knd := leafKind X.prog X.w) rfl rfl (by simp) (by simp) (thn (two.run pins _ σ _ (fun ps H2 => ps = [(.bl true, .non), (.bl false, .non)] ∧ H2 = upd H s.heap.objs.size (.dK [])) I1 ⟨rfl, rfl⟩) fun ws s2 ⟨ps, H2, I2, rel, e1, e2⟩ => ?_)
  subst e1 e2
  obtain ⟨z, hd, vs0, r0, dd⟩ := dk_of I2.hok upd_same
  cases r0
  cases rel with
  | @cons _ b _ bs r1 rel =>
    obtain ⟨b1, b2⟩ := b
    obtain ⟨q1, q2⟩ := r1
    cases q1
    cases q2
    cases rel with
    | @cons _ c _ cs r2 rel =>
      obtain ⟨c1, c2⟩ := c
      obtain ⟨q1, q2⟩ := r2
      cases q1
      cases q2
      cases rel
      refine ⟨[(.num 1, .none), (.num 0, .none)], ⟨rfl, rfl, rfl, rfl, True.intro⟩, mix_empty dd, fun h' dd' hs => ⟨.ref s.heap.objs.size, _, ?_, rfl, q _ np⟩⟩
      have he : ∃ q, h'.get? s.heap.objs.size = some q := let ⟨y, _, _, hq, _⟩ := dd'; ⟨y, hq⟩
      have J := d_write (t' := s2.toks + 2) I2 (by rw [upd_same]; exact True.intro) hs he (bd_new (P := X.prog) (w := X.w) (t := .non) (f := .non) ⟨hd, .none, .none, rfl, rfl, dd'⟩)
      rw [upd_upd] at J
      exact J
/-- d[b] -/
def tBGet (P : Program) (w : World) (td ty : TE) : TE := fun σ H Q => td σ H fun x H1 => ty σ H1 fun y H2 => ∃ a b t f, x = .ref a ∧ y = .bl b ∧ H2 a = some (BdO P w a t f) ∧ Q (if b = true then t else f) H2
def keyB (b : Bool) : Leaf := .num (if b = true then 1 else 0)
theorem leaf_b {P : Program} {w : World} (b : Bool) : (leafKind P w).is (keyB b) (.bool b) = true := by cases b <;> rfl
theorem pe_bget (ho : PE X o td) (hi : PE X i ty) (hs : NoSl i) : PE X (.Subscript o i pos) (tBGet X.prog X.w td ty) := by
  refine ⟨fun pins s σ H Q I h => ?_⟩
  refine subD_of PySem.F.slot_dict_getitem.lookup hs (thn (ho.run pins s σ H _ I h) fun u s1 ⟨x, H1, I1, rx, q1⟩ => thn (hi.run pins s1 σ H1 _ I1 q1) fun iv s2 ⟨y, H2, I2, ry, a, b, t, f, ex, ey, e, q2⟩ => ?_)
  subst ex ey
  obtain rfl : u = Value.ref a := rx
  obtain rfl : iv = Value.bool b := ry
  obtain ⟨z, ut, uf, rt, rf, dd⟩ := bd_at I2 e
  refine ⟨dd.mapOf.typeIs, ?_⟩
  cases b with
  | true => exact wpAny_getItem_of (k := keyB true) (knd := leafKind X.prog X.w) (leaf_b true) dd.mapOf rfl ⟨t, H2, I2.tok _, rt, q2⟩
  | false => exact wpAny_getItem_of (k := keyB false) (knd := leafKind X.prog X.w) (leaf_b false) dd.mapOf rfl ⟨f, H2, I2.tok _, rf, q2⟩
/-- d[b] = v -/
def sBPut (P : Program) (w : World) (td ty tv : TE) : TS := fun D σ H => tv σ H fun v H1 => td σ H1 fun x H2 => ty σ H2 fun y H3 => ∃ a b t f, x = .ref a ∧ y = .bl b ∧ H3 a = some (BdO P w a t f) ∧ D.nx σ (upd H3 a (BdO P w a (if b = true then v else t) (if b = true then f else v)))
theorem ps_bput (ho : PE X o td) (hi : PE X i ty) (hv : PE X value tv) (hs : swapsWith value (some (.Subscript o i pos')) pos.line X.env = pure false) : PS X (.Assign [.Subscript o i pos'] value pos) (sBPut X.prog X.w td ty tv) := by
  refine ⟨fun pins s σ H D I h => ?_⟩
  refine wpAny_Assign_Subscript (thn (hv.run pins s σ H _ I h) fun r s1 ⟨v, H1, I1, rv, q1⟩ => thn (ho.run pins s1 σ H1 _ I1 q1) fun u s2 ⟨x, H2, I2, rx, q2⟩ => thn (hi.run pins s2 σ H2 _ I2 q2) fun iv s3 ⟨y, H3, I3, ry, a, b, t, f, ex, ey, e, q3⟩ => ?_) hs
  subst ex ey
  obtain rfl : u = Value.ref a := rx
  obtain rfl : iv = Value.bool b := ry
  obtain ⟨z, ut, uf, rt, rf, dd⟩ := bd_at I3 e
  refine wpAny_setItem_pairs (k := keyB b) (knd := leafKind X.prog X.w) (hsz := by show 2 ≤ sizeLine; decide) (leaf_b b) dd fun h' dd' hs' => ⟨σ, _, ?_, q3⟩
  have he : ∃ q, h'.get? a = some q := let ⟨y, _, _, hq, _⟩ := dd'; ⟨y, hq⟩
  refine d_write I3 (by rw [e]; exact True.intro) hs' he (bd_new ?_)
  cases b with
  | true => exact ⟨z, r, uf, rv, rf, dd'⟩
  | false => exact ⟨z, ut, r, rt, rv, dd'⟩
end
end L2

set_option Elab.async false
set_option linter.all false
set_option maxRecDepth 100000
set_option maxHeartbeats 8000000
/-! k61: all that is tried of one divider -/
namespace DV
theorem cw_first (D : Dv) : D.cw 0 = if D.R 0 then 0 else 1 := by
  show (0 : Int) + 1 - S D.ind 1 = _
  show (0 : Int) + 1 - (0 + D.ind 0) = _
  unfold Dv.ind
  by_cases h : D.R ((0 : Nat) : Int)
  · rw [if_pos h, if_pos (show D.R 0 from h)]; rfl
  · rw [if_neg h, if_neg (show ¬ D.R 0 from h)]; rfl
theorem cw_after (D : Dv) (i : Nat) : D.cw ((i + 1 : Nat) : Int) = D.cw (i : Int) + if D.R ((i + 1 : Nat) : Int) then 0 else 1 := by
  have e : ∀ j : Nat, D.cw (j : Int) = (j : Int) + 1 - S D.ind (j + 1) := fun j => by
    unfold Dv.cw
    rw [show ((j : Int) + 1).toNat = j + 1 by omega]
    rfl
  rw [e, e]
  show ((i + 1 : Nat) : Int) + 1 - (S D.ind (i + 1) + D.ind (i + 1)) = _
  unfold Dv.ind
  by_cases h : D.R ((i + 1 : Nat) : Int)
  · rw [if_pos h, if_pos h]; omega
  · rw [if_neg h, if_neg h]; omega
end DV
namespace KD
open PySem PySem.Spec PyProof.Rows L2
open DV (Dv)
open KDB (TxtB BagAt spBag spDraw)
def tb {α : Type} (f : Nat → α) : Nat → List α
  | 0 => []
  | n + 1 => tb f n ++ [f n]
theorem tb_len {α : Type} (f : Nat → α) : ∀ n, (tb f n).length = n
  | 0 => rfl
  | n + 1 => by
    show (tb f n ++ [f n]).length = _
    rw [List.length_append, tb_len f n]
    rfl
theorem tb_at {α : Type} (f : Nat → α) : ∀ {n j : Nat}, j < n → (tb f n)[j]? = some (f j)
  | 0, j, h => absurd h (Nat.not_lt_zero _)
  | n + 1, j, h => by
    show (tb f n ++ [f n])[j]? = _
    by_cases c : j < n
    · rw [List.getElem?_append_left (by rw [tb_len]; exact c), tb_at f c]
    · have e : j = n := by omega
      subst e
      rw [List.getElem?_append_right (by rw [tb_len]; exact Nat.le_refl _), tb_len, Nat.sub_self]
      rfl
theorem tb_map {α β : Type} (f : Nat → α) (g : α → β) : ∀ n, (tb f n).map g = tb (fun i => g (f i)) n
  | 0 => rfl
  | n + 1 => by
    show (tb f n ++ [f n]).map g = _
    rw [List.map_append, tb_map f g n]
    rfl
theorem tb_nil {α : Type} {f : Nat → α} {n : Nat} : tb f n = [] ↔ n = 0 := by
  rw [← List.length_eq_zero_iff, tb_len]
theorem shOT (a b : Option Int) : SeqAt.shaped (.tuple [dO a, dO b]) = true := by
  cases a <;> cases b <;> simp [dO, SeqAt.shaped, PyData.canLay0, PyData.canLayAll0, PyData.depth, PyData.depthAll]
theorem bag_obj2 {H G : Hp} {a b c : Addr} {m : Nat} {o : HO} (B : BagAt c H b m) (e : But b H G) (h : H a = some o) (n : ∀ l, o ≠ .dK l) : G a = some o := e _ _ h (bag_ne B h n)
/-- the pairs told downward, the first n -/
def Lat (D : Dv) (N : Nat) (G : Hp) (l : Addr) (n : Nat) : Prop := ∃ ys : List V, G l = some (.lst ys) ∧ ys.length = n ∧
  ∀ j, j < n → ∃ p, ys[j]? = some (.ref p) ∧ G p = some (.tup [optI (DV.lw D false (N : Int) (j + 1)), optI (DV.lw D true (N : Int) (j + 1))])
def spAllR (C : Addr) : Sp := fun vs H Q _ => ∃ (b c q : Addr) (m : Nat) (D : Dv) (N : Nat), vs = [.ref b, .ref q, .int (N : Nat)] ∧ BagAt c H b m ∧ m ≤ 90000 ∧ DvAt C H q D ∧ Lim D ∧ D.s ≤ 6 ∧ (N : Int) = 2 * (D.b * DV.blocks D) ∧ N ≤ 20000 ∧
  ∀ H', BagAt c H' b (m + 16) → But b H H' → Q (.bl true) H'
abbrev nmAR : List Str := ["_law_bag_here", "_law_cutter", "_law_last", "_law_part", "_law_scale", "_law_told", "_law_right", "_law_counts", "_law_later", "_law_figure", "_law_next_ones", "_law_k"]
theorem scAllR : FnScope nmAR ["_law_bag_here", "_law_cutter", "_law_last"] (defScope sAllR) := ⟨rfl, rfl, rfl, by decide +kernel, rfl, by decide +kernel, by decide +kernel⟩
theorem upd_free {G : Hp} {d p : Addr} {o : HO} (n : upd G d o p = none) : p ≠ d ∧ G p = none := by
  by_cases z : p = d
  · rw [z, upd_same] at n; cases n
  · exact ⟨z, by rw [upd_ne z] at n; exact n⟩
theorem upd_old {G : Hp} {d p l : Addr} {o u : HO} (_ : upd G d o p = none) (h : l ≠ d) (g : G l = some u) : upd G d o l = some u := by
  rw [upd_ne h]
  exact g
theorem told_dec (D : Dv) (x : Int) : decide (V.int (D.told x) = V.int (x / D.b)) = decide (D.R x) := by
  by_cases z : D.R x
  · rw [decide_eq_true z]
    exact decide_eq_true (congrArg V.int z)
  · rw [decide_eq_false z]
    exact decide_eq_false fun y => z (V.int.inj y)
theorem sz {α : Type} {f : Nat → α} {n : Nat} (h : n ≤ 20001) : (tb f n).length < sizeLine := by
  rw [tb_len]
  exact Nat.lt_of_le_of_lt h (by decide)
section
variable {P : Program} {w : World} {K : PySem.W.Frag} {mg : Str → Option Value} {base : Heap}
theorem ok_allr {f C fQ f1 f2 f3 f4 f5 f6 : Addr} {fd fdQ fd1 fd2 fd3 fd4 fd5 fd6 : FuncData} (F : Fun K "_law_all_right" "_law_all_right" sAllR f fd) (T : TxtB mg) (TD : TxtD K mg C)
    (GD : FnOk P w K mg base CX0 1 f1 fd1 ["_law_bag_here", "_law_limit"] spDraw) (kD : PySem.W.keepIn K (.ref f1) = true) (bD : Binds K fd1 ["_law_bag_here", "_law_limit"] []) (gD : mg "_law_draw" = some (.ref f1))
    (GP : FnOk P w K mg base CX0 1 f2 fd2 ["_law_bits"] spPower) (kP : PySem.W.keepIn K (.ref f2) = true) (bP : Binds K fd2 ["_law_bits"] []) (gP : mg "_law_power" = some (.ref f2))
    (GR : FnOk P w K mg base CX0 5 f3 fd3 ["divider", "x"] (spDR C)) (kR : PySem.W.keepIn K (.ref f3) = true) (bR : Binds K fd3 ["divider", "x"] []) (gR : mg "divider_right" = some (.ref f3))
    (GW : FnOk P w K mg base CX0 6 f4 fd4 ["divider", "x"] (spDW C)) (kW : PySem.W.keepIn K (.ref f4) = true) (bW : Binds K fd4 ["divider", "x"] []) (gW : mg "divider_wrong" = some (.ref f4))
    (GN : FnOk P w K mg base CX0 6 f5 fd5 ["divider", "x"] (spDN C)) (kN : PySem.W.keepIn K (.ref f5) = true) (bN : Binds K fd5 ["divider", "x"] []) (gN : mg "divider_next" = some (.ref f5))
    (GM : FnOk P w K mg base CX0 5 f6 fd6 ["divider", "x"] (spDM C)) (kM : PySem.W.keepIn K (.ref f6) = true) (bM : Binds K fd6 ["divider", "x"] []) (gM : mg "divider_many" = some (.ref f6))
    (GQ : FnOk P w K mg base CX0 4 fQ fdQ ["self", "x"] (spQuot C)) (mQ : Meth K C "quotient" fQ) (bQ : Binds K fdQ ["self", "x"] []) :
    FnOk P w K mg base CX0 7 f fd ["_law_bag_here", "_law_cutter", "_law_last"] (spAllR C) := by
  have sc := scAllR
  refine F.ok scAllR (fun vs H Q E h => ?_) (fun cdv A outer s H vs Q E hr h => ?_)
  · obtain ⟨b, c, q, m, D, N, rfl, _⟩ := h
    rfl
  · obtain ⟨b, c, q, m, D, N, rfl, hB, hm, hD, L, s6, hN, hN1, k⟩ := h
    have hr1 : Room 1 _ := hr.mono (by decide)
    have hr4 : Room 4 _ := hr.mono (by decide)
    have hr5 : Room 5 _ := hr.mono (by decide)
    have hr6 : Room 6 _ := hr.mono (by decide)
    refine ⟨_, pss_cons (ps_asg (pe_tup (pa_cons (pe_fld (pv 1) rfl) (pa_cons (pe_call GP hr1 rfl gP kP bP .nil pass0 (pa_cons (pe_fld (pv 1) rfl) pa_nil)) pa_nil))) (pg_tup rfl (pgs_cons (pg_name (i := 3) sc.nd rfl (.inr rfl)) (pgs_cons (pg_name (i := 4) sc.nd rfl (.inr rfl)) pgs_nil))))
      (pss_cons (ps_set (i := 5) sc.nd rfl (.inr rfl) (pe_lc (own := [("_law_figure", 9)]) (g := gName 9) (tt := tYes) rfl sc.nd (by exact pi_range1 (by rfl) T.range (pa_cons (pe_op op_add (pv 2) pe_int) pa_nil)) (blkOk_by (own := [("_law_figure", 9)]) (N := nmAR) (sc := defScope sAllR) (by decide +kernel)) (fun _ _ _ _ _ => pg_name (i := 9) sc.nd rfl (Or.inl rfl)) (fun _ _ _ _ _ => pts_nil) (fun _ _ _ _ _ => (pe_op op_fdivW (pe_op op_add (pe_op op_mulW (pv 9) (show PE _ _ (tFld K (tVar 1) "multiplier") from pe_fld (pv 1) rfl)) (show PE _ _ (tFld K (tVar 1) "offset") from pe_fld (pv 1) rfl)) (pv 4)))))
      (pss_cons (ps_par3 (i := 6) (j := 7) (l := 8) rfl sc.nd rfl rfl rfl (by decide) (by decide) (by decide) rfl rfl rfl (pa_cons (pe_lc (own := [("_law_figure", 9)]) (g := gName 9) (tt := tYes) rfl sc.nd (by exact pi_range1 (by rfl) T.range (pa_cons (pe_op op_add (pv 2) pe_int) pa_nil)) (blkOk_by (own := [("_law_figure", 9)]) (N := nmAR) (sc := defScope sAllR) (by decide +kernel)) (fun _ _ _ _ _ => pg_name (i := 9) sc.nd rfl (Or.inl rfl)) (fun _ _ _ _ _ => pts_nil) (fun _ _ _ _ _ => (pe_cmpR op_eq (pe_ix (show IxR _ (rIxL K) from ix_list) (pv 5) (pv 9) (fun _ _ => rfl)) (pe_op op_fdivW (pv 9) (pv 3)) (nomark _)))) (pa_cons (pe_lst pa_nil) (pa_cons (pe_lst pa_nil) pa_nil))) (by rfl))
      (pss_cons (ps_for PassesOwn.never rfl (by exact pi_range1 (by rfl) T.range (pa_cons (pe_op op_add (pv 2) pe_int) pa_nil)) (pg_name (i := 9) sc.nd rfl (Or.inl rfl)) (pss_one (ps_expr (pe_bm PySem.F.plainAttrs_list PySem.F.slot_list_append PySem.F.type_list_append mt_append (pv 7) (pa_cons (pe_op op_add (pe_ifExp (pt_cmpR (op_neD hr1.units) (pv 7) (pe_lst pa_nil) (nomark _)) (pe_ix ix_list (pv 7) (pe_un un_neg pe_int) (fun _ _ => rfl)) pe_int) (pe_callTy call_int1 (by rfl) T.int (by decide +kernel) (pa_cons (pe_not (pe_ix ix_list (pv 6) (pv 9) (fun _ _ => rfl))) pa_nil))) pa_nil)))))
      (pss_cons (ps_set (i := 10) sc.nd rfl (.inl rfl) pe_bdisp)
      (pss_cons (ps_for PassesOwn.never rfl (pi_range3 (by rfl) T.range (pa_cons (pv 2) (pa_cons (pe_un un_neg pe_int) (pa_cons (pe_un un_neg pe_int) pa_nil)))) (pg_name (i := 9) sc.nd rfl (Or.inl rfl)) (pss_cons (ps_bput (pv 10) (pe_ix ix_list (pv 6) (pv 9) (fun _ _ => rfl)) (pv 9) rfl)
      (pss_one (ps_expr (pe_bm PySem.F.plainAttrs_list PySem.F.slot_list_append PySem.F.type_list_append mt_append (pv 8) (pa_cons (pe_tup (pa_cons (by exact pe_bget (pv 10) pe_bl (fun _ _ => rfl)) (pa_cons (by exact pe_bget (pv 10) pe_bl (fun _ _ => rfl)) pa_nil))) pa_nil))))))
      (pss_cons (ps_for PassesOwn.never rfl (pi_range1 (by rfl) T.range (pa_cons pe_int pa_nil)) (pg_name (i := 11) sc.nd rfl (Or.inl rfl)) (pss_cons (ps_set (i := 9) sc.nd rfl (.inl rfl) (pe_call GD hr1 rfl gD kD bD .nil pass0 (pa_cons (pv 0) (pa_cons (pe_op op_add (pv 2) pe_int) pa_nil))))
      (pss_cons (ps_if (PW.pt (pw_or (pt_cmpR op_ne (pe_meth (pv 1) TD.cl mQ GQ hr4 bQ .nil pass0 (pa_cons (pv 9) pa_nil)) (pe_ix ix_list (pv 5) (pv 9) (fun _ _ => rfl)) (nomark _)) (pw_or1 (pt_cmpR op_ne (pe_call GR hr5 rfl gR kR bR .nil pass0 (pa_cons (pv 1) (pa_cons (pv 9) pa_nil))) (pe_ix ix_list (pv 6) (pv 9) (fun _ _ => rfl)) (nomark _))))) (pss_one (ps_ret pe_bl)) pss_nil)
      (pss_cons (ps_if (pt_cmpR op_ne (pe_call GM hr5 rfl gM kM bM .nil pass0 (pa_cons (pv 1) (pa_cons (pv 9) pa_nil))) (pe_ix ix_list (pv 7) (pv 9) (fun _ _ => rfl)) (nomark _)) (pss_one (ps_ret pe_bl)) pss_nil)
      (pss_cons (ps_set (i := 9) sc.nd rfl (.inl rfl) (pe_call GD hr1 rfl gD kD bD .nil pass0 (pa_cons (pv 0) (pa_cons (pe_op op_add (pe_op op_fdivW (pv 2) pe_int) pe_int) pa_nil))))
      (pss_one (ps_if (pt_cmpR (op_neD hr1.units) (pe_tup (pa_cons (pe_call GW hr6 rfl gW kW bW .nil pass0 (pa_cons (pv 1) (pa_cons (pv 9) pa_nil))) (pa_cons (pe_call GN hr6 rfl gN kN bN .nil pass0 (pa_cons (pv 1) (pa_cons (pv 9) pa_nil))) pa_nil))) (pe_ix ix_list (pv 8) (pe_op op_sub (pv 2) (pv 9)) (fun _ _ => rfl)) (nomark _)) (pss_one (ps_ret pe_bl)) pss_nil)))))))
      (pss_one (ps_ret pe_bl)))))))), ?_⟩
    obtain ⟨dx, hq⟩ := hD
    have b2 := L.b2
    have m0 := L.m0
    have o0 := L.o0
    have N60 : (N : Int) ≤ 10 ^ 60 := Int.le_trans (show (N : Int) ≤ 20000 by omega) (by decide)
    have wpos : (0 : Int) < 2 ^ D.s := Int.pow_pos (by decide)
    have bW : CDivW 0 (2 ^ D.s) → True := fun _ => True.intro
    have fld : ∀ {G : Hp}, Same H G → G q = some (.ins C dx (dFl D)) := fun s => s _ _ hq
    refine ⟨_, rfl, q, C, dx, _, _, rfl, hq, TD.cl, TD.nB, dFl_b D, _, rfl, q, C, dx, _, _, rfl, hq, TD.cl, TD.nS, dFl_s D, D.s, rfl, by omega, (by show 2 ≤ sizeLine; decide), fun pt npt => ⟨pt, _, rfl, .inl (.inl upd_same), rfl, _, _, rfl, _, _, rfl, rfl, ?_⟩⟩
    have sP := Same.new (o := .tup [.int D.b, .int (2 ^ D.s)]) npt
    have eN : ((N : Int) + 1).toNat = N + 1 := by omega
    -- told
    refine ⟨_, rfl, _, _, rfl, rfl, _, rfl, by omega, by omega, fun t0 nt0 => ?_⟩
    rw [eN]
    refine lc_range (lo := 0) (n := N + 1) (fun i G => Same H G ∧ G t0 = some (.lst (tb (fun i => V.int (D.told (i : Int))) i))) ⟨sP.trans (Same.new nt0), upd_same⟩ ?_ ?_
    · rintro i G hi ⟨sG, gT⟩
      simp only [Int.zero_add]
      refine ⟨rfl, ?_⟩
      unfold tYes
      dsimp only
      rw [if_pos rfl]
      have i60 : (i : Int) ≤ 10 ^ 60 := by omega
      refine ⟨_, rfl, _, rfl, q, C, dx, _, _, rfl, fld sG, TD.cl, TD.nM, dFl_m D, _, _, rfl, rfl, (one60 (by omega) i60).w (one60 m0 L.m1), _, rfl, q, C, dx, _, _, rfl, fld sG, TD.cl, TD.nO, dFl_o D, _, _, rfl, rfl, _, rfl, _, _, rfl, rfl, (bd_pow (by omega)).d wpos, _, gT, sz (by omega), Same.write sG (none_of sP nt0), ?_⟩
      rw [upd_same]
      rfl
    rintro G1 ⟨s1, gT⟩
    -- right
    refine ⟨_, rfl, _, _, rfl, rfl, _, rfl, by omega, by omega, fun r0 nr0 => ?_⟩
    rw [eN]
    refine lc_range (lo := 0) (n := N + 1) (fun i G => Same G1 G ∧ G r0 = some (.lst (tb (fun i => V.bl (decide (D.R (i : Int)))) i))) ⟨Same.new nr0, upd_same⟩ ?_ ?_
    · rintro i G hi ⟨sG, gR⟩
      simp only [Int.zero_add]
      refine ⟨rfl, ?_⟩
      unfold tYes
      dsimp only
      rw [if_pos rfl]
      refine ⟨_, rfl, _, rfl, t0, _, (i : Int), .int (D.told i), rfl, rfl, SqL.of (sG _ _ gT), atI_nat (tb_at _ (by omega)), _, rfl, _, rfl, _, _, rfl, rfl, L.bb.d (by omega), rfl, _, gR, sz (by omega), Same.write sG nr0, ?_⟩
      rw [upd_same, told_dec]
      rfl
    rintro G2 ⟨s2, gR⟩
    refine ⟨(by show 0 ≤ sizeLine; decide), fun c0 nc0 => ⟨(by show 0 ≤ sizeLine; decide), fun l0 nl0 => ⟨_, _, _, rfl, ?_⟩⟩⟩
    have lc : l0 ≠ c0 := fun z => by rw [z, upd_same] at nl0; cases nl0
    have nl2 : G2 l0 = none := by rw [upd_ne lc] at nl0; exact nl0
    -- counts
    refine ⟨_, rfl, _, _, rfl, rfl, _, rfl, by omega, by omega, ?_⟩
    rw [eN]
    refine for_range (lo := 0) (n := N + 1) (fun i σ G => ∃ v9, σ = [some (.ref b), some (.ref q), some (.int (N : Nat)), some (.int D.b), some (.int (2 ^ D.s)), some (.ref t0), some (.ref r0), some (.ref c0), some (.ref l0), v9, none, none] ∧
      Same G2 G ∧ G c0 = some (.lst ((tb (fun i => D.cw (i : Int)) i).map V.int)) ∧ G l0 = some (.lst [])) ⟨none, rfl, Same.write (Same.write (Same.refl _) nc0) nl2, by rw [upd_ne lc.symm, upd_same]; rfl, upd_same⟩ ?_ ?_
    · rintro i σ G hi ⟨v9, rfl, sG, gc, gl⟩
      simp only [Int.zero_add]
      refine ⟨_, rfl, .inl ⟨rfl, _, SqL.of gc⟩, _, rfl, (by show 0 ≤ sizeLine; decide), fun z nz => ?_⟩
      have sz0 := Same.new (o := .lst []) nz
      have gc1 := sz0 _ _ gc
      have gl1 := sz0 _ _ gl
      have gr1 := (sG.trans sz0) _ _ gR
      refine ⟨.list ((tb (fun i => D.cw (i : Int)) i).map PyData.int), .list [], .lst (SqL.of gc1) (dpI _), .lst (SqL.of upd_same) .nil, shapedI _, by decide +kernel, _, rfl, ?_⟩
      rw [eqv_nil]
      have w1 : ∀ u : Int, u + (if (!decide (D.R (i : Int))) = true then 1 else 0) = D.cw (i : Int) → upd (upd G z (.lst [])) c0 (.lst ((tb (fun i => D.cw (i : Int)) i).map V.int ++ [.int (u + (if (!decide (D.R (i : Int))) = true then 1 else 0))])) c0 = some (.lst ((tb (fun i => D.cw (i : Int)) (i + 1)).map V.int)) := fun u e => by
        rw [e, upd_same]
        show _ = some (HO.lst ((tb (fun i => D.cw (i : Int)) i ++ [D.cw (i : Int)]).map V.int))
        rw [List.map_append]
        rfl
      have n1 : ∀ u : HO, upd (upd G z (.lst [])) c0 u l0 = some (.lst []) := fun u => by rw [upd_ne lc]; exact gl1
      have s3 : ∀ u : HO, Same G2 (upd (upd G z (.lst [])) c0 u) := fun u => Same.write (sG.trans sz0) nc0
      have len0 : ((tb (fun i => D.cw (i : Int)) i).map V.int).length < sizeLine := by
        rw [List.length_map]
        exact sz (by omega)
      by_cases i0 : i = 0
      · refine iteF' (by rw [decide_eq_true (tb_nil.mpr i0)]; rfl) ?_
        refine ⟨_, rfl, _, rfl, r0, _, (i : Int), .bl (decide (D.R (i : Int))), rfl, rfl, SqL.of gr1, atI_nat (tb_at _ hi), _, rfl, .inr ⟨_, rfl, _, _, rfl, rfl, c0, _, _, rfl, rfl, gc1, len0, _, rfl, s3 _, w1 _ ?_, n1 _⟩⟩
        subst i0
        show (0 : Int) + _ = D.cw 0
        rw [DV.cw_first]
        by_cases hR : D.R 0
        · rw [if_pos hR, decide_eq_true (show D.R ((0 : Nat) : Int) from hR)]; rfl
        · rw [if_neg hR, decide_eq_false (show ¬ D.R ((0 : Nat) : Int) from hR)]; rfl
      · obtain ⟨j, rfl⟩ : ∃ j, i = j + 1 := ⟨i - 1, by omega⟩
        refine iteT' (by rw [decide_eq_false (fun z => i0 (tb_nil.mp z))]; rfl) ?_
        have lst : atI ((tb (fun i => D.cw (i : Int)) (j + 1)).map V.int) (-1) = some (V.int (D.cw (j : Int))) := by
          show atI ((tb (fun i => D.cw (i : Int)) j ++ [D.cw (j : Int)]).map V.int) (-1) = _
          rw [List.map_append]
          exact atI_last _ _
        refine ⟨_, rfl, _, rfl, c0, _, -1, .int (D.cw (j : Int)), rfl, rfl, SqL.of gc1, lst, ?_⟩
        refine ⟨_, rfl, _, rfl, r0, _, ((j + 1 : Nat) : Int), .bl (decide (D.R ((j + 1 : Nat) : Int))), rfl, rfl, SqL.of gr1, atI_nat (tb_at _ hi), _, rfl, .inr ⟨_, rfl, _, _, rfl, rfl, c0, _, _, rfl, rfl, gc1, len0, _, rfl, s3 _, w1 _ ?_, n1 _⟩⟩
        rw [DV.cw_after]
        by_cases hR : D.R ((j + 1 : Nat) : Int)
        · rw [if_pos hR, decide_eq_true hR]; rfl
        · rw [if_neg hR, decide_eq_false hR]; rfl
    rintro σ G3 ⟨v9, rfl, s3, gC, gl3⟩
    -- downward
    refine fun d0 nd0 => ?_
    have nd2 : G2 d0 = none := none_of s3 nd0
    have rg : RgC (N : Int) (-1) (-1) (N + 1) := by
      have := RgC.neg (i := (N : Int)) (j := -1) (by omega) (by omega) (by decide) (by decide)
      rw [show ((N : Int) - -1).toNat = N + 1 by omega] at this
      exact this
    refine ⟨_, rfl, 1, rfl, 1, rfl, (N : Int), -1, -1, N + 1, rfl, rg, ?_⟩
    refine for_rangeC (lo := (N : Int)) (c := -1) (n := N + 1) (fun i σ G => ∃ v9, σ = [some (.ref b), some (.ref q), some (.int (N : Nat)), some (.int D.b), some (.int (2 ^ D.s)), some (.ref t0), some (.ref r0), some (.ref c0), some (.ref l0), v9, some (.ref d0), none] ∧
      Same G2 G ∧ G c0 = some (.lst ((tb (fun i => D.cw (i : Int)) (N + 1)).map V.int)) ∧ Lat D N G l0 i ∧ G d0 = some (BdO P w d0 (optI (DV.lw D true (N : Int) i)) (optI (DV.lw D false (N : Int) i)))) ⟨v9, rfl, s3.trans (Same.new nd0), (Same.new nd0) _ _ gC, ⟨[], (Same.new nd0) _ _ gl3, rfl, fun j hj => absurd hj (Nat.not_lt_zero _)⟩, upd_same⟩ ?_ ?_
    · rintro i σ G hi ⟨v9, rfl, sG, gc, ⟨ys, gl, ly, hy⟩, gd⟩
      obtain ⟨y, ey⟩ : ∃ y : Nat, y = N - i := ⟨_, rfl⟩
      have ex : (N : Int) + (i : Nat) * -1 = (y : Int) := by omega
      have ex2 : (N : Int) - (i : Nat) = (y : Int) := by omega
      rw [ex]
      refine ⟨_, rfl, _, rfl, _, rfl, _, rfl, r0, _, (y : Int), .bl (decide (D.R (y : Int))), rfl, rfl, SqL.of (sG _ _ gR), atI_nat (tb_at _ (by omega)), d0, _, _, _, rfl, rfl, gd, ?_⟩
      have eT : (if decide (D.R (y : Int)) = true then V.int (y : Int) else optI (DV.lw D true (N : Int) i)) = optI (DV.lw D true (N : Int) (i + 1)) := by
        show _ = optI (if decide (D.R ((N : Int) - i)) = true then some ((N : Int) - i) else DV.lw D true (N : Int) i)
        rw [ex2]
        by_cases hR : decide (D.R (y : Int)) = true
        · rw [if_pos hR, if_pos hR]; rfl
        · rw [if_neg hR, if_neg hR]
      have eF : (if decide (D.R (y : Int)) = true then optI (DV.lw D false (N : Int) i) else V.int (y : Int)) = optI (DV.lw D false (N : Int) (i + 1)) := by
        show _ = optI (if decide (D.R ((N : Int) - i)) = false then some ((N : Int) - i) else DV.lw D false (N : Int) i)
        rw [ex2]
        by_cases hR : decide (D.R (y : Int)) = true
        · rw [if_pos hR, if_neg (by rw [hR]; decide)]
        · rw [if_neg hR, if_pos (Bool.eq_false_iff.mpr hR)]; rfl
      rw [eT, eF]
      have ld : l0 ≠ d0 := ne_of gl gd (by intro z; unfold BdO at z; cases z)
      have cd : c0 ≠ d0 := ne_of gc gd (by intro z; unfold BdO at z; cases z)
      refine ⟨_, rfl, .inl ⟨rfl, _, SqL.of ((upd_ne ld).trans gl)⟩, _, rfl, d0, false, _, _, rfl, rfl, upd_same, _, rfl, d0, true, _, _, rfl, rfl, upd_same, (by show 2 ≤ sizeLine; decide), fun p np => ?_⟩
      obtain ⟨npd, np0⟩ := upd_free np
      have npl : p ≠ l0 := (ne_of_none gl np0).symm
      have npc : p ≠ c0 := (ne_of_none gc np0).symm
      have n2p : G2 p = none := none_of sG np0
      have cl : c0 ≠ l0 := lc.symm
      refine ⟨l0, ys, .ref p, rfl, rfl, ?_, Nat.lt_of_le_of_lt (show ys.length ≤ 20001 by omega) (by decide), _, rfl, ?_, ?_, ⟨ys ++ [.ref p], upd_same, by rw [List.length_append, ly]; rfl, fun j hj => ?_⟩, ?_⟩
      · rw [upd_ne npl.symm]
        exact upd_old np ld gl
      · exact Same.write (Same.write (Same.write sG nd2) n2p) nl2
      · rw [upd_ne cl, upd_ne npc.symm]
        exact upd_old np cd gc
      · by_cases hji : j < i
        · obtain ⟨pj, e1, e2⟩ := hy j hji
          refine ⟨pj, by rw [List.getElem?_append_left (by omega)]; exact e1, ?_⟩
          rw [upd_ne (ne_of e2 gl (by intro z; cases z)), upd_ne (ne_of_none e2 np0)]
          exact upd_old np (ne_of e2 gd (by intro z; unfold BdO at z; cases z)) e2
        · have : j = i := by omega
          subst this
          refine ⟨p, by rw [List.getElem?_append_right (by omega), ly, Nat.sub_self]; rfl, ?_⟩
          rw [upd_ne npl, upd_same]
          rfl
      · rw [upd_ne ld.symm, upd_ne npd.symm, upd_same]
        rfl
    rintro σ G5 ⟨v9', rfl, s5, gC5, ⟨ys, gl5, ly, hy⟩, gd5⟩
    have gC5' : G5 c0 = some (.lst (tb (fun i => V.int (D.cw (i : Int))) (N + 1))) := by rw [gC5, tb_map]
    have gT5 := (s2.trans s5) _ _ gT
    have gR5 := s5 _ _ gR
    have hq5 := (s1.trans (s2.trans s5)) _ _ hq
    have B5 := hB.keep (s1.trans (s2.trans s5))
    have lst0 : ∀ {xs : List V} (l : List (Key × V)), HO.lst xs ≠ .dK l := fun l z => by cases z
    refine ⟨8, rfl, by decide, by decide, for_range (lo := 0) (n := 8) (fun i σ G => ∃ v9 v11, σ = [some (.ref b), some (.ref q), some (.int (N : Nat)), some (.int D.b), some (.int (2 ^ D.s)), some (.ref t0), some (.ref r0), some (.ref c0), some (.ref l0), v9, some (.ref d0), v11] ∧
      BagAt c G b (m + 2 * i) ∧ But b G5 G) ⟨_, none, rfl, B5, But.same (Same.refl _)⟩ ?_ ?_⟩
    · rintro i σ G hi ⟨v9, v11, rfl, B2, e2⟩
      refine ⟨_, rfl, _, rfl, _, _, rfl, rfl, b, c, _, _, rfl, B2, by omega, by omega, by omega, fun r G6 x0 x1 B6 e6 => ?_⟩
      obtain ⟨x, rfl⟩ : ∃ x : Nat, r = (x : Int) := ⟨r.toNat, by omega⟩
      have eA : But b G5 G6 := But.trans e2 e6
      have k6 : ∀ {a : Addr} {o : HO}, G5 a = some o → (∀ l, o ≠ .dK l) → G6 a = some o := fun h n => eA _ _ h (bag_ne B5 h n)
      have q6 := k6 hq5 (by intro l z; cases z)
      have x60 : (x : Int) ≤ 10 ^ 60 := by omega
      refine ⟨_, rfl, q, dx, _, rfl, q6, dFl_q D, _, rfl, q, D, (x : Int), rfl, ⟨_, q6⟩, L, x0, x60, _, rfl, _, rfl, t0, _, (x : Int), .int (D.told (x : Int)), rfl, rfl, SqL.of (k6 gT5 lst0), atI_nat (tb_at _ (by omega)), rfl, _, rfl, iteF' (by rw [decide_eq_true rfl]; rfl) ?_⟩
      refine ⟨_, rfl, _, rfl, q, D, (x : Int), rfl, ⟨_, q6⟩, L, x0, x60, _, rfl, _, rfl, r0, _, (x : Int), .bl (decide (D.R (x : Int))), rfl, rfl, SqL.of (k6 gR5 lst0), atI_nat (tb_at _ (by omega)), rfl, _, rfl, iteF' (by rw [decide_eq_true rfl]; rfl) ?_⟩
      refine ⟨_, rfl, _, rfl, q, D, (x : Int), rfl, ⟨_, q6⟩, L, x0, x60, fun G7 s7 => ⟨_, rfl, _, rfl, c0, _, (x : Int), .int (D.cw (x : Int)), rfl, rfl, SqL.of (s7 _ _ (k6 gC5' lst0)), atI_nat (tb_at _ (by omega)), rfl, _, rfl, iteF' (by rw [decide_eq_true rfl]; rfl) ?_⟩⟩
      have B7 := B6.keep s7
      refine ⟨_, rfl, _, rfl, _, _, rfl, rfl, (one60 (by decide) (by decide)).d (by decide), _, _, rfl, rfl, b, c, _, _, rfl, B7, by omega, by omega, by omega, fun r G8 y0 y1 B8 e8 => ?_⟩
      obtain ⟨y, rfl⟩ : ∃ y : Nat, r = (y : Int) := ⟨r.toNat, by omega⟩
      have eB : But b G5 G8 := But.trans eA (But.trans (But.same s7) e8)
      have k8 : ∀ {a : Addr} {o : HO}, G5 a = some o → (∀ l, o ≠ .dK l) → G8 a = some o := fun h n => eB _ _ h (bag_ne B5 h n)
      have q8 := k8 hq5 (by intro l z; cases z)
      have y60 : (y : Int) ≤ 10 ^ 60 := by omega
      refine ⟨_, rfl, _, rfl, q, D, (y : Int), rfl, ⟨_, q8⟩, L, y0, y60, fun G9 s9 => ?_⟩
      refine ⟨_, rfl, _, rfl, q, D, (y : Int), rfl, ⟨_, s9 _ _ q8⟩, L, y0, y60, fun GA sA => ⟨(by show 2 ≤ sizeLine; decide), fun pu npu => ?_⟩⟩
      have sU := Same.new (o := .tup [optI (D.nw (y : Int)), optI (D.nr (y : Int))]) npu
      have sC := s9.trans (sA.trans sU)
      have hyN : y ≤ N := by omega
      obtain ⟨pj, f1, f2⟩ := hy (N - y) (by omega)
      have ej : (N : Int) - (y : Int) = ((N - y : Nat) : Int) := by omega
      refine ⟨_, rfl, _, rfl, _, rfl, _, _, rfl, rfl, l0, _, ((N - y : Nat) : Int), .ref pj, rfl, congrArg V.int ej, SqL.of (sC _ _ (k8 gl5 lst0)), atI_nat f1, ?_⟩
      have nW := DV.nw_try D L.ok y0 (by omega) (n := N - y + 1) (by omega)
      have nR := DV.nr_try D L.ok y0 (by omega) (n := N - y + 1) (by omega)
      rw [← hN] at nW nR
      refine ⟨.tuple [dO (D.nw (y : Int)), dO (D.nr (y : Int))], .tuple [dO (D.nw (y : Int)), dO (D.nr (y : Int))], .tup (.inl (.inl upd_same)) (.cons (dpO _) (.cons (dpO _) .nil)), ?_, shOT _ _, shOT _ _, _, rfl, ?_⟩
      · have f3 := sC _ _ (k8 f2 (by intro l z; cases z))
        rw [← nW, ← nR] at f3
        exact .tup (.inl (.inl f3)) (.cons (dpO _) (.cons (dpO _) .nil))
      · rw [eqv_self (shOT _ _)]
        refine iteF ?_
        exact ⟨_, _, rfl, BagAt.up (B8.keep sC) (by omega), But.trans eB (But.same sC)⟩
    · rintro σ G ⟨v9, v11, rfl, B2, e2⟩
      exact k _ (BagAt.up B2 (by omega)) (But.trans (But.same (s1.trans (s2.trans s5))) e2)

end
end KD

set_option Elab.async false
set_option linter.all false
set_option maxRecDepth 100000
set_option maxHeartbeats 8000000
/-! k61: the law -/
namespace KD
open PySem PySem.Spec PyProof.Rows L2 LamX
open DV (Dv)
open KDB (TxtB BagAt spBag spDraw)
structure TxtA (mg : Str → Option Value) : Prop where
  abs : mg "abs" = none
abbrev nmLaw : List Str := ["_law_script", "_law_bag_here", "_law_turn", "_law_part", "_law_move", "_law_scale", "_law_near", "_law_times", "_law_more", "_law_cutter", "_law_step", "_law_others", "_law_blocks", "_law_last", "_law_due", "_law_less", "_law_other", "_law_one"]
theorem scLaw : FnScope nmLaw ["_law_script"] (defScope sLaw) := ⟨rfl, rfl, rfl, by decide +kernel, rfl, by decide +kernel, by decide +kernel⟩
def spLaw (K : PySem.W.Frag) (PR : Addr) : Sp := fun vs H Q _ => ∃ (a : Addr) (ns : List Int), vs = [.ref a] ∧ SqL K H a (ns.map V.int) ∧ ns.length ≤ 63 ∧ Tabs [(PR, qLam)] H ∧ ∀ H', Q (.bl true) H'
section
variable {P : Program} {w : World} {K : PySem.W.Frag} {mg : Str → Option Value} {base : Heap}
theorem ok_law {f C fI fE PR f1 f2 f3 f4 f5 f6 f7 f8 f9 f10 : Addr} {fd fdI fdE fd1 fd2 fd3 fd4 fd5 fd6 fd7 fd8 fd9 fd10 : FuncData} (F : Fun K "law" "law" sLaw f fd) (T : TxtI mg) (T2 : TxtA mg) (TD : TxtD K mg C)
    (GB : FnOk P w K mg base CX0 1 f1 fd1 ["_law_script"] (spBag K)) (kB : PySem.W.keepIn K (.ref f1) = true) (bB : Binds K fd1 ["_law_script"] []) (gB : mg "_law_bag" = some (.ref f1))
    (GD : FnOk P w K mg base CX0 1 f2 fd2 ["_law_bag_here", "_law_limit"] spDraw) (kD : PySem.W.keepIn K (.ref f2) = true) (bD : Binds K fd2 ["_law_bag_here", "_law_limit"] []) (gD : mg "_law_draw" = some (.ref f2))
    (GK : FnOk P w K mg base CX0 2 f3 fd3 ["_law_bag_here", "_law_pool"] spPick) (kK : PySem.W.keepIn K (.ref f3) = true) (bK : Binds K fd3 ["_law_bag_here", "_law_pool"] []) (gK : mg "_law_pick" = some (.ref f3))
    (GP : FnOk P w K mg base CX0 1 f4 fd4 ["_law_bits"] spPower) (kP : PySem.W.keepIn K (.ref f4) = true) (bP : Binds K fd4 ["_law_bits"] []) (gP : mg "_law_power" = some (.ref f4))
    (GA : FnOk P w K mg base CX0 7 f5 fd5 ["_law_bag_here", "_law_cutter", "_law_last"] (spAllR C)) (kA : PySem.W.keepIn K (.ref f5) = true) (bA : Binds K fd5 ["_law_bag_here", "_law_cutter", "_law_last"] []) (gA : mg "_law_all_right" = some (.ref f5))
    (GR : FnOk P w K mg base CX0 9 f6 fd6 ["_law_bag_here", "_law_cutter"] (spRef C PR)) (kR : PySem.W.keepIn K (.ref f6) = true) (bR : Binds K fd6 ["_law_bag_here", "_law_cutter"] []) (gR : mg "_law_refused" = some (.ref f6))
    (GN : FnOk P w K mg base CX0 7 f7 fd7 ["_law_bag_here"] spBN) (kN : PySem.W.keepIn K (.ref f7) = true) (bN : Binds K fd7 ["_law_bag_here"] []) (gN : mg "_law_by_names_told" = some (.ref f7))
    (GV : FnOk P w K mg base CX0 2 f8 fd8 ["_law_part", "_law_last", "_law_move"] (spWin K)) (kV : PySem.W.keepIn K (.ref f8) = true) (bV : Binds K fd8 ["_law_part", "_law_last", "_law_move"] []) (gV : mg "_law_window" = some (.ref f8))
    (GT : FnOk P w K mg base CX0 4 f9 fd9 ["by", "top", "shift"] (spTB K)) (kT : PySem.W.keepIn K (.ref f9) = true) (bT : Binds K fd9 ["by", "top", "shift"] []) (gT : mg "times_for" = some (.ref f9))
    (GL : FnOk P w K mg base CX0 4 f10 fd10 ["by", "top"] spLS) (kL : PySem.W.keepIn K (.ref f10) = true) (bL : Binds K fd10 ["by", "top"] []) (gL : mg "least_shift" = some (.ref f10))
    (MD : Mk K C fI) (GI : FnOk P w K mg base CX0 4 fI fdI ["self", "by", "multiplier", "offset", "shift"] (spDI C)) (bI : Binds K fdI ["self", "by", "multiplier", "offset", "shift"] [])
    (GE : FnOk P w K mg base CX0 1 fE fdE ["self", "other"] (spDEq C)) (bE : Binds K fdE ["self", "other"] []) (eq_s : PySem.W.findIn K (.ref C) "__eq__" = some (some (.ref fE))) (eq_f : PySem.W.isFn K (.ref fE) = true)
    (ne_s : PySem.W.findIn K (.ref C) "__ne__" = some (some (.builtin "object.__ne__"))) (ob_s : PySem.W.subIn K (.ref C) (.type "object") = some true) (nf_s : PySem.W.notFirst K C (.type "int") = true) :
    FnOk P w K mg base CX0 10 f fd ["_law_script"] (spLaw K PR) := by
  have sc := scLaw
  refine F.ok scLaw (fun vs H Q E h => ?_) (fun cdv A outer s H vs Q E hr h => ?_)
  · obtain ⟨a, ns, rfl, _⟩ := h
    rfl
  · obtain ⟨a, ns, rfl, hS, hlen, hT, k⟩ := h
    have hr1 : Room 1 _ := hr.mono (by decide)
    have hr2 : Room 2 _ := hr.mono (by decide)
    have hr4 : Room 4 _ := hr.mono (by decide)
    have hr5 : Room 5 _ := hr.mono (by decide)
    have hr7 : Room 7 _ := hr.mono (by decide)
    refine ⟨_, pss_cons (ps_set (i := 1) sc.nd rfl (.inl rfl) (pe_call GB hr1 rfl gB kB bB .nil pass0 (pa_cons (pv 0) pa_nil)))
      (pss_cons (ps_for PassesOwn.never rfl (pi_range1 (by rfl) T.range (pa_cons (pe_op op_add pe_int (pe_callB (call_min2 rfl) (by rfl) T.min (by kernel_rfl) (pa_cons pe_int (pa_cons (pe_callB call_len_seq (by rfl) T.len PySem.boot_len (pa_cons (pv 0) pa_nil)) pa_nil)))) pa_nil)) (pg_name (i := 2) sc.nd rfl (Or.inl rfl)) (pss_cons (ps_asg (pe_tup (pa_cons (pe_op op_add pe_int (pe_call GD hr1 rfl gD kD bD .nil pass0 (pa_cons (pv 1) (pa_cons pe_int pa_nil)))) (pa_cons (pe_call GD hr1 rfl gD kD bD .nil pass0 (pa_cons (pv 1) (pa_cons pe_int pa_nil))) pa_nil))) (pg_tup rfl (pgs_cons (pg_name (i := 3) sc.nd rfl (.inr rfl)) (pgs_cons (pg_name (i := 4) sc.nd rfl (.inl rfl)) pgs_nil))))
      (pss_cons (ps_set (i := 5) sc.nd rfl (.inl rfl) (pe_call GP hr1 rfl gP kP bP .nil pass0 (pa_cons (pv 4) pa_nil)))
      (pss_cons (ps_set (i := 6) sc.nd rfl (.inl rfl) (pe_op op_add (pe_un un_neg (pe_op op_fdivW (pe_un un_neg (pv 5)) (pv 3))) (pe_call GK hr2 rfl gK kK bK .nil pass0 (pa_cons (pv 1) (pa_cons (pe_lst (pa_cons pe_int (pa_cons pe_int (pa_cons pe_int (pa_cons pe_int (pa_cons (pe_un un_neg pe_int) pa_nil)))))) pa_nil)))))
      (pss_cons (ps_set (i := 7) sc.nd rfl (.inl rfl) (pe_callB (call_max2 rfl) (by rfl) T.max (by kernel_rfl) (pa_cons pe_int (pa_cons (pe_call GK hr2 rfl gK kK bK .nil pass0 (pa_cons (pv 1) (pa_cons (pe_lst (pa_cons (pv 6) (pa_cons (pv 6) (pa_cons (pv 6) (pa_cons (pe_call GD hr1 rfl gD kD bD .nil pass0 (pa_cons (pv 1) (pa_cons (pe_op op_mulW pe_int (pv 5)) pa_nil))) (pa_cons (pv 5) (pa_cons (pe_op op_add (pv 5) pe_int) (pa_cons pe_int pa_nil)))))))) pa_nil))) pa_nil))))
      (pss_cons (ps_set (i := 8) sc.nd rfl (.inl rfl) (pe_call GK hr2 rfl gK kK bK .nil pass0 (pa_cons (pv 1) (pa_cons (pe_lst (pa_cons pe_int (pa_cons pe_int (pa_cons (pe_call GD hr1 rfl gD kD bD .nil pass0 (pa_cons (pv 1) (pa_cons (pe_op op_mulW pe_int (pv 5)) pa_nil))) (pa_cons (pv 7) (pa_cons (pe_call GD hr1 rfl gD kD bD .nil pass0 (pa_cons (pv 1) (pa_cons pe_int pa_nil))) pa_nil)))))) pa_nil))))
      (pss_cons (ps_asg (pe_tup (pa_cons (pe_make MD GI hr5 (by rfl) TD.mgC bI .nil pass0 (pa_cons (pv 3) (pa_cons (pv 7) (pa_cons (pv 8) (pa_cons (pv 4) pa_nil))))) (pa_cons (pe_callB call_abs (by rfl) T2.abs (by decide +kernel) (pa_cons (pe_op op_sub (pe_op op_mulW (pv 7) (pv 3)) (pv 5)) pa_nil)) pa_nil))) (pg_tup rfl (pgs_cons (pg_name (i := 9) sc.nd rfl (.inr rfl)) (pgs_cons (pg_name (i := 10) sc.nd rfl (.inl rfl)) pgs_nil))))
      (pss_cons (ps_if (pt_cmpR (op_neD hr1.units) (pe_lst (pa_cons (pe_fld (pv 9) rfl) (pa_cons (pe_fld (pv 9) rfl) (pa_cons (pe_fld (pv 9) rfl) (pa_cons (pe_fld (pv 9) rfl) pa_nil))))) (pe_lst (pa_cons (pv 3) (pa_cons (pv 7) (pa_cons (pv 8) (pa_cons (pv 4) pa_nil))))) (nomark _)) (pss_one (ps_ret pe_bl)) pss_nil)
      (pss_cons (ps_if (PW.pt (pw_or (pt_cmpR (op_neO GE ne_s ob_s eq_s eq_f bE pass0 hr2) (pv 9) (pe_make MD GI hr5 (by rfl) TD.mgC bI .nil pass0 (pa_cons (pv 3) (pa_cons (pv 7) (pa_cons (pv 8) (pa_cons (pv 4) pa_nil))))) (nomark _)) (pw_or1 (pt_cmpR (op_eqOI GE nf_s eq_s eq_f bE pass0 hr1) (pv 9) pe_int (nomark _))))) (pss_one (ps_ret pe_bl)) pss_nil)
      (pss_cons (ps_set (i := 11) sc.nd rfl (.inl rfl) (pe_lst (pa_cons (pe_make MD GI hr5 (by rfl) TD.mgC bI .nil pass0 (pa_cons (pv 3) (pa_cons (pv 7) (pa_cons (pv 8) (pa_cons (pe_op op_add (pv 4) pe_int) pa_nil))))) (pa_cons (pe_make MD GI hr5 (by rfl) TD.mgC bI .nil pass0 (pa_cons (pe_op op_add (pv 3) pe_int) (pa_cons (pv 7) (pa_cons (pv 8) (pa_cons (pv 4) pa_nil))))) pa_nil))))
      (pss_cons (ps_set (i := 11) sc.nd rfl (.inl rfl) (pe_op op_cat (pv 11) (pe_lst (pa_cons (pe_make MD GI hr5 (by rfl) TD.mgC bI .nil pass0 (pa_cons (pv 3) (pa_cons (pe_op op_add (pv 7) pe_int) (pa_cons (pv 8) (pa_cons (pv 4) pa_nil))))) (pa_cons (pe_make MD GI hr5 (by rfl) TD.mgC bI .nil pass0 (pa_cons (pv 3) (pa_cons (pv 7) (pa_cons (pe_op op_add (pv 8) pe_int) (pa_cons (pv 4) pa_nil))))) pa_nil)))))
      (pss_cons (ps_if (pt_cmpR (op_neD hr1.units) (pe_lc (own := [("_law_other", 16)]) (g := gName 16) (te := tVar 16) rfl sc.nd (by exact pi_list (pv 11)) (blkOk_by (own := [("_law_other", 16)]) (N := nmLaw) (sc := defScope sLaw) (by decide +kernel)) (fun _ _ _ _ _ => pg_name (i := 16) sc.nd rfl (Or.inl rfl)) (fun _ _ _ _ _ => pts_one (pt_cmpR (show OpR _ _ (rEqO C (spDEq C) E0) from op_eqO GE eq_s eq_f bE pass0 hr1) (pv 16) (pv 9) (nomark _))) (fun _ _ _ _ _ => pv 16)) (pe_lst pa_nil) (nomark _)) (pss_one (ps_ret pe_bl)) pss_nil)
      (pss_cons (ps_set (i := 12) sc.nd rfl (.inl rfl) (pe_ifExp (pt_cmpR op_eq (pv 10) pe_int (nomark _)) pe_int (pe_op op_add (pe_op op_fdivW (pe_op op_add (pe_op op_mulW pe_int (pv 5)) (pv 8)) (pv 10)) pe_int)))
      (pss_one (ps_if (pt_not (pt_val (pe_call GA hr7 rfl gA kA bA .nil pass0 (pa_cons (pv 1) (pa_cons (pv 9) (pa_cons (pe_op op_mulW (pe_op op_mulW pe_int (pv 3)) (pv 12)) pa_nil)))))) (pss_one (ps_ret pe_bl)) pss_nil)))))))))))))))
      (pss_cons (ps_if (PW.pt (pw_or (pt_not (pt_val (pe_call GR hr rfl gR kR bR .nil pass0 (pa_cons (pv 1) (pa_cons (pv 9) pa_nil))))) (pw_or1 (pt_not (pt_val (pe_call GN hr7 rfl gN kN bN .nil pass0 (pa_cons (pv 1) pa_nil))))))) (pss_one (ps_ret pe_bl)) pss_nil)
      (pss_cons (ps_asg (pe_tup (pa_cons (pe_op op_add pe_int (pe_call GD hr1 rfl gD kD bD .nil pass0 (pa_cons (pv 1) (pa_cons pe_int pa_nil)))) (pa_cons (pe_op op_add pe_int (pe_call GD hr1 rfl gD kD bD .nil pass0 (pa_cons (pv 1) (pa_cons pe_int pa_nil)))) pa_nil))) (pg_tup rfl (pgs_cons (pg_name (i := 3) sc.nd rfl (.inr rfl)) (pgs_cons (pg_name (i := 13) sc.nd rfl (.inr rfl)) pgs_nil))))
      (pss_cons (ps_set (i := 4) sc.nd rfl (.inl rfl) (pe_call GD hr1 rfl gD kD bD .nil pass0 (pa_cons (pv 1) (pa_cons pe_int pa_nil))))
      (pss_cons (ps_set (i := 14) sc.nd rfl (.inl rfl) (pe_call GV hr2 rfl gV kV bV .nil pass0 (pa_cons (pv 3) (pa_cons (pv 13) (pa_cons (pv 4) pa_nil)))))
      (pss_cons (ps_if (pt_cmpR (op_neD hr1.units) (pe_call GT hr4 rfl gT kT bT .nil pass0 (pa_cons (pv 3) (pa_cons (pv 13) (pa_cons (pv 4) pa_nil)))) (pv 14) (nomark _)) (pss_one (ps_ret pe_bl)) pss_nil)
      (pss_cons (ps_setLc (i := 15) (own := [("_law_one", 17)]) (g := gName 17) (te := tVar 17) rfl sc.nd rfl rfl (sw_true rfl rfl rfl (by decide +kernel)) (pi_range1 (by rfl) T.range (pa_cons pe_int pa_nil)) (blkOk_by (own := [("_law_one", 17)]) (N := nmLaw) (sc := defScope sLaw) (by decide +kernel)) (fun _ _ _ _ _ => pg_name (i := 17) sc.nd rfl (Or.inl rfl)) (fun _ _ _ _ _ => pts_one (pt_cmpR op_notN (pe_call GV hr2 rfl gV kV bV .nil pass0 (pa_cons (pv 3) (pa_cons (pv 13) (pa_cons (pv 17) pa_nil)))) pe_non (nomark _))) (fun _ _ _ _ _ => pv 17))
      (pss_one (ps_ret (pe_or (pe_cmpR (op_eqD hr1.units) (pv 15) (pe_lst pa_nil) (nomark _)) (pe_one (pe_cmpR op_eq (pe_call GL hr4 rfl gL kL bL .nil pass0 (pa_cons (pv 3) (pa_cons (pv 13) pa_nil))) (pe_ix ix_list (pv 15) pe_int (fun _ _ => rfl)) (nomark _))))))))))))), ?_⟩
    refine ⟨_, rfl, a, ns, rfl, hS, hlen, fun b c G0 s0 B0 => ?_⟩
    have T0 := hT.ext s0
    have S0 : SqL K G0 a (ns.map V.int) := s0.seq hS
    obtain ⟨TN, eTN, t2, t4⟩ : ∃ TN : Nat, (2 : Int) + (if (((ns.map V.int).length : Nat) : Int) < 2 then (((ns.map V.int).length : Nat) : Int) else 2) = (TN : Int) ∧ 2 ≤ TN ∧ TN ≤ 4 := by
      by_cases h : (((ns.map V.int).length : Nat) : Int) < 2
      · exact ⟨2 + (ns.map V.int).length, by rw [if_pos h]; omega, by omega, by omega⟩
      · exact ⟨4, by rw [if_neg h]; rfl, by omega, by omega⟩
    refine ⟨_, rfl, a, _, rfl, .inl S0, _, _, rfl, _, _, rfl, rfl, _, rfl, ?_, ?_, ?_⟩
    · rw [eTN]; omega
    · rw [eTN]; omega
    rw [eTN, Int.toNat_natCast]
    refine for_range (lo := 0) (n := TN) (fun i σ G => ∃ v2 v3 v4 v5 v6 v7 v8 v9 v10 v11 v12, σ = [some (.ref a), some (.ref b), v2, v3, v4, v5, v6, v7, v8, v9, v10, v11, v12, none, none, none, none, none] ∧ BagAt c G b (40 * i) ∧ But b G0 G ∧
      (0 < i → ∃ (q : Addr) (D : Dv), v9 = some (.ref q) ∧ DvAt C G q D ∧ Lim D)) ⟨none, none, none, none, none, none, none, none, none, none, none, rfl, B0, But.same (Same.refl _), fun z => absurd z (Nat.lt_irrefl _)⟩ ?_ ?_
    · rintro i σ G hi ⟨v2, v3, v4, v5, v6, v7, v8, v9, v10, v11, v12, rfl, B2, e2, _⟩
      refine ⟨_, rfl, b, c, 12, _, rfl, B2, by omega, by decide, by decide, fun r G1 r0 r1 B3 e3 => ⟨_, _, rfl, rfl, _, rfl, b, c, 7, _, rfl, B3, by omega, by decide, by decide, fun n G2 n0 n1 B4 e4 => ⟨(by show 2 ≤ sizeLine; decide), fun pt npt => ⟨pt, _, rfl, .inl (.inl upd_same), rfl, _, _, rfl, _, _, rfl, rfl, ?_⟩⟩⟩⟩
      obtain ⟨n, rfl⟩ : ∃ k : Nat, n = (k : Int) := ⟨n.toNat, by omega⟩
      obtain ⟨p, hp⟩ : ∃ p : Int, 2 + r = p := ⟨_, rfl⟩
      have p2 : 2 ≤ p := by omega
      have p13 : p ≤ 13 := by omega
      dsimp only
      rw [hp]
      have sP := Same.new (o := .tup [.int p, .int (n : Nat)]) npt
      have eP := But.trans e2 (But.trans e3 (But.trans e4 (But.same sP)))
      have B5 := B4.keep sP
      -- scale, near
      refine ⟨_, rfl, n, rfl, by omega, ?_⟩
      obtain ⟨W, hW⟩ : ∃ W : Int, (2 : Int) ^ n = W := ⟨_, rfl⟩
      have W1 : 1 ≤ W := by rw [← hW]; exact Int.pow_pos (by decide)
      have W64 : W ≤ 64 := by
        rw [← hW]
        have := Nat.pow_le_pow_right (n := 2) (by decide) (show n ≤ 6 by omega)
        exact_mod_cast this
      rw [hW]
      refine ⟨_, rfl, W, rfl, _, rfl, _, _, rfl, rfl, (one60 (by omega) (Int.le_trans p13 (by decide))).d (by omega), _, rfl, _, rfl, 1, rfl, (by show 5 ≤ sizeLine; decide), fun a1 n1 => ?_⟩
      have s1 := Same.new (o := .lst [.int 0, .int 0, .int 0, .int 1, .int (-1)]) n1
      refine ⟨b, c, a1, _, [.int 0, .int 0, .int 0, .int 1, .int (-1)], rfl, B5.keep s1, by omega, upd_same, by simp, by simp, fun v G3 hv B6 e6 => ?_⟩
      have eQ := But.trans eP (But.trans (But.same s1) e6)
      obtain ⟨dv, rfl, dv0, dv1⟩ : ∃ dv : Int, v = .int dv ∧ -1 ≤ dv ∧ dv ≤ 1 := by
        simp only [List.mem_cons, List.not_mem_nil, or_false] at hv
        rcases hv with rfl | rfl | rfl | rfl | rfl
        all_goals exact ⟨_, rfl, by decide, by decide⟩
      have u0 : (-W) / p < 0 := Int.ediv_neg_of_neg_of_pos (by omega) (by omega)
      have u1 : -W ≤ (-W) / p := (Int.le_ediv_iff_mul_le (by omega)).mpr (by
        have := Int.mul_le_mul_of_nonneg_left (show (1 : Int) ≤ p by omega) (show (0 : Int) ≤ W by omega)
        rw [Int.neg_mul]
        omega)
      refine ⟨_, _, rfl, rfl, ?_⟩
      obtain ⟨nr, hnr⟩ : ∃ nr : Int, -((-W) / p) + dv = nr := ⟨_, rfl⟩
      have nr0 : 0 ≤ nr := by omega
      have nr1 : nr ≤ 65 := by omega
      dsimp only
      rw [hnr]
      have W60 : Bd 200 W := one60 (by omega) (Int.le_trans W64 (by decide))
      have two : Bd 200 2 := one60 (by decide) (by decide)
      -- times
      refine ⟨_, rfl, _, rfl, _, rfl, _, rfl, _, rfl, _, rfl, _, _, rfl, rfl, two.w W60, b, c, _, _, rfl, B6, by omega, by omega, by omega, fun d1 G4 d10 d11 B7 e7 => ?_⟩
      refine ⟨_, rfl, _, rfl, _, _, rfl, rfl, (by show 7 ≤ sizeLine; decide), fun a2 n2 => ?_⟩
      have s2 := Same.new (o := .lst [.int nr, .int nr, .int nr, .int d1, .int W, .int (W + 3), .int 0]) n2
      refine ⟨b, c, a2, _, [.int nr, .int nr, .int nr, .int d1, .int W, .int (W + 3), .int 0], rfl, B7.keep s2, by omega, upd_same, by simp, by simp, fun v G5 hv B8 e8 => ?_⟩
      have eR := But.trans eQ (But.trans e7 (But.trans (But.same s2) e8))
      obtain ⟨u, rfl, hu0, hu1⟩ : ∃ u : Int, v = .int u ∧ 0 ≤ u ∧ u ≤ 130 := by
        simp only [List.mem_cons, List.not_mem_nil, or_false] at hv
        rcases hv with rfl | rfl | rfl | rfl | rfl | rfl | rfl
        · exact ⟨_, rfl, by omega, by omega⟩
        · exact ⟨_, rfl, by omega, by omega⟩
        · exact ⟨_, rfl, by omega, by omega⟩
        · exact ⟨_, rfl, by omega, by omega⟩
        · exact ⟨_, rfl, by omega, by omega⟩
        · exact ⟨_, rfl, by omega, by omega⟩
        · exact ⟨_, rfl, by omega, by omega⟩
      refine ⟨_, _, rfl, ?_⟩
      obtain ⟨t, ht⟩ : ∃ t : Int, (if u > 0 then u else 0) = t := ⟨_, rfl⟩
      have t0 : 0 ≤ t := by rw [← ht]; split <;> omega
      have t1 : t ≤ 130 := by rw [← ht]; split <;> omega
      dsimp only
      rw [ht]
      -- more
      refine ⟨_, rfl, _, rfl, _, rfl, _, _, rfl, rfl, two.w W60, b, c, _, _, rfl, B8, by omega, by omega, by omega, fun d2 G6 d20 d21 B9 e9 => ?_⟩
      refine ⟨_, rfl, _, rfl, b, c, 60, _, rfl, B9, by omega, by decide, by decide, fun d3 G7 d30 d31 BA eA => ⟨(by show 5 ≤ sizeLine; decide), fun a3 n3 => ?_⟩⟩
      have s3 := Same.new (o := .lst [.int 0, .int 0, .int d2, .int t, .int d3]) n3
      refine ⟨b, c, a3, _, [.int 0, .int 0, .int d2, .int t, .int d3], rfl, BA.keep s3, by omega, upd_same, by simp, by simp, fun v G8 hv BB eB => ?_⟩
      have eS := But.trans eR (But.trans e9 (But.trans eA (But.trans (But.same s3) eB)))
      obtain ⟨o, rfl, o0, o1⟩ : ∃ o : Int, v = .int o ∧ 0 ≤ o ∧ o ≤ 130 := by
        simp only [List.mem_cons, List.not_mem_nil, or_false] at hv
        rcases hv with rfl | rfl | rfl | rfl | rfl
        · exact ⟨_, rfl, by omega, by omega⟩
        · exact ⟨_, rfl, by omega, by omega⟩
        · exact ⟨_, rfl, by omega, by omega⟩
        · exact ⟨_, rfl, by omega, by omega⟩
        · exact ⟨_, rfl, by omega, by omega⟩
      clear e3 e4 e6 e7 e8 e9 eA eB eP eQ eR s1 s2 s3 B3 B4 B5 B6 B7 B8 B9 BA B2 e2
      -- the divider
      have LM : ∀ (p' t' o' : Int) (n' : Nat), 2 ≤ p' → p' ≤ 100 → 0 ≤ t' → t' ≤ 200 → 0 ≤ o' → o' ≤ 200 → n' ≤ 20 → Lim ⟨p', t', o', n'⟩ := fun p' t' o' n' h1 h2 h3 h4 h5 h6 h7 =>
        ⟨h1, Int.le_trans h2 (by decide), h3, Int.le_trans h4 (by decide), h5, Int.le_trans h6 (by decide), by show n' ≤ 400; omega⟩
      obtain ⟨D, hD⟩ : ∃ D : Dv, D = ⟨p, t, o, n⟩ := ⟨_, rfl⟩
      have LD : Lim D := by rw [hD]; exact LM p t o n p2 (by omega) t0 (by omega) o0 (by omega) (by omega)
      have b60 : Bd 200 p := one60 (by omega) (Int.le_trans p13 (by decide))
      have tB : Bd 200 t := one60 t0 (Int.le_trans t1 (by decide))
      refine ⟨_, rfl, _, rfl, _, rfl, _, rfl, fun q dq nq ndq ne => ⟨q, dq, ⟨p, t, o, n⟩, rfl, upd_same, by rw [← hD]; exact LD, fun G9 b9 hq => ⟨rfl, ?_⟩⟩⟩
      have s9 := mkS2 nq ndq ne b9
      rw [← hD] at hq
      refine ⟨_, rfl, _, rfl, _, _, rfl, rfl, tB.w b60, _, rfl, _, _, rfl, rfl, _, rfl, (by show 2 ≤ sizeLine; decide), fun pu npu => ⟨pu, _, rfl, .inl (.inl upd_same), rfl, _, _, rfl, _, _, rfl, rfl, ?_⟩⟩
      obtain ⟨st, hst⟩ : ∃ st : Int, (if t * p - W < 0 then -(t * p - W) else t * p - W) = st := ⟨_, rfl⟩
      dsimp only
      rw [hst]
      have sU := s9.trans (Same.new (o := .tup [.ref q, .int st]) npu)
      have hqU := (Same.new (o := .tup [.ref q, .int st]) npu) _ _ hq
      -- its words
      have dD : dFl ⟨p, t, o, n⟩ = dFl D := by rw [hD]
      rw [← dD] at hqU
      have lk := hqU
      refine ⟨_, rfl, q, C, dq, _, _, rfl, hqU, TD.cl, TD.nB, dFl_b _, _, rfl, q, C, dq, _, _, rfl, hqU, TD.cl, TD.nM, dFl_m _, _, rfl, q, C, dq, _, _, rfl, hqU, TD.cl, TD.nO, dFl_o _, _, rfl, q, C, dq, _, _, rfl, hqU, TD.cl, TD.nS, dFl_s _, (by show 4 ≤ sizeLine; decide), fun x1 nx1 => ?_⟩
      refine ⟨_, rfl, _, rfl, _, rfl, _, rfl, (by show 4 ≤ sizeLine; decide), fun x2 nx2 => ?_⟩
      have w1 := Same.new (o := .lst [.int p, .int t, .int o, .int (n : Nat)]) nx1
      have w2 := Same.new (o := .lst [.int p, .int t, .int o, .int (n : Nat)]) nx2
      refine ⟨.list ([p, t, o, (n : Int)].map .int), .list ([p, t, o, (n : Int)].map .int), .lst (SqL.of (w2 _ _ upd_same)) (dpI [p, t, o, (n : Int)]), .lst (SqL.of upd_same) (dpI [p, t, o, (n : Int)]), shapedI _, shapedI _, _, rfl, ?_⟩
      rw [eqv_self (shapedI _)]
      refine iteF ?_
      have sV := sU.trans (w1.trans w2)
      have hqV := (w1.trans w2) _ _ hqU
      rw [dD] at hqV
      clear hqU lk w1 w2 sU
      -- not itself, not 4
      refine ⟨_, rfl, _, rfl, _, rfl, _, rfl, _, rfl, fun q2 dq2 nq2 ndq2 ne2 => ⟨q2, dq2, ⟨p, t, o, n⟩, rfl, upd_same, by rw [← hD]; exact LD, fun GA bA hq2 => ⟨rfl, ?_⟩⟩⟩
      have sA := mkS2 nq2 ndq2 ne2 bA
      rw [← hD] at hq2
      have hqA := sA _ _ hqV
      refine ⟨q, q2, _, _, _, _, rfl, rfl, hqA, hq2, q, D, ⟨_, hqA⟩, .inl ⟨q2, D, rfl, ⟨_, hq2⟩, _, rfl, _, rfl, iteF' (by rw [decide_eq_true (rfl : D = D)]; rfl) ?_⟩⟩
      refine ⟨_, rfl, q, _, _, 4, rfl, rfl, hqA, q, D, ⟨_, hqA⟩, .inr ⟨4, rfl, _, rfl, _, rfl, iteF ?_⟩⟩
      -- others
      refine ⟨_, rfl, _, rfl, _, rfl, _, rfl, _, _, rfl, rfl, fun k1 dk1 nk1 ndk1 nek1 => ⟨k1, dk1, ⟨p, t, o, n + 1⟩, rfl, upd_same, LM p t o (n + 1) p2 (by omega) t0 (by omega) o0 (by omega) (by omega), fun GB bB hk1 => ⟨rfl, ?_⟩⟩⟩
      have sB := mkS2 nk1 ndk1 nek1 bB
      refine ⟨_, rfl, _, _, rfl, rfl, _, rfl, _, rfl, _, rfl, fun k2 dk2 nk2 ndk2 nek2 => ⟨k2, dk2, ⟨p + 1, t, o, n⟩, rfl, upd_same, LM (p + 1) t o n (by omega) (by omega) t0 (by omega) o0 (by omega) (by omega), fun GC bC hk2 => ⟨rfl, ?_⟩⟩⟩
      have sC := mkS2 nk2 ndk2 nek2 bC
      refine ⟨(by show 2 ≤ sizeLine; decide), fun a4 n4 => ?_⟩
      have s4 := Same.new (o := .lst [.ref k1, .ref k2]) n4
      refine ⟨_, rfl, _, rfl, _, rfl, _, _, rfl, rfl, _, rfl, _, rfl, fun k3 dk3 nk3 ndk3 nek3 => ⟨k3, dk3, ⟨p, t + 1, o, n⟩, rfl, upd_same, LM p (t + 1) o n p2 (by omega) (by omega) (by omega) o0 (by omega) (by omega), fun GD' bD' hk3 => ⟨rfl, ?_⟩⟩⟩
      have sD := mkS2 nk3 ndk3 nek3 bD'
      refine ⟨_, rfl, _, rfl, _, rfl, _, _, rfl, rfl, _, rfl, fun k4 dk4 nk4 ndk4 nek4 => ⟨k4, dk4, ⟨p, t, o + 1, n⟩, rfl, upd_same, LM p t (o + 1) n p2 (by omega) t0 (by omega) (by omega) (by omega) (by omega), fun GE' bE' hk4 => ⟨rfl, ?_⟩⟩⟩
      have sE := mkS2 nk4 ndk4 nek4 bE'
      refine ⟨(by show 2 ≤ sizeLine; decide), fun a5 n5 => ?_⟩
      have s5 := Same.new (o := .lst [.ref k3, .ref k4]) n5
      refine ⟨a4, a5, _, _, rfl, rfl, (sD.trans (sE.trans s5)) _ _ upd_same, upd_same, (by show 2 + 2 ≤ sizeLine; decide), fun a6 n6 => ?_⟩
      have s6 := Same.new (o := .lst [.ref k1, .ref k2, .ref k3, .ref k4]) n6
      have v4 := s5.trans s6
      have v3 := sE.trans v4
      have v2 := s4.trans (sD.trans v3)
      have v1 := sC.trans v2
      have sF := sA.trans (sB.trans v1)
      have hqF := sF _ _ hqV
      obtain ⟨GF, hGF⟩ : ∃ GF : Hp, GF = upd (upd GE' a5 (.lst [.ref k3, .ref k4])) a6 (.lst [.ref k1, .ref k2, .ref k3, .ref k4]) := ⟨_, rfl⟩
      have hO : ∀ (j : Nat) (x : V), [V.ref k1, .ref k2, .ref k3, .ref k4][j]? = some x → ∃ (kk : Addr) (DD : Dv), x = .ref kk ∧ DvAt C GF kk DD ∧ ¬ DD = D := by
        intro j x hx
        rw [hGF, hD]
        match j, hx with
        | 0, hx => exact ⟨k1, _, (Option.some.inj hx).symm, ⟨_, v1 _ _ hk1⟩, fun z => by have := congrArg Dv.s z; simp at this⟩
        | 1, hx => exact ⟨k2, _, (Option.some.inj hx).symm, ⟨_, v2 _ _ hk2⟩, fun z => by have : p + 1 = p := congrArg Dv.b z; omega⟩
        | 2, hx => exact ⟨k3, _, (Option.some.inj hx).symm, ⟨_, v3 _ _ hk3⟩, fun z => by have : t + 1 = t := congrArg Dv.m z; omega⟩
        | 3, hx => exact ⟨k4, _, (Option.some.inj hx).symm, ⟨_, v4 _ _ hk4⟩, fun z => by have : o + 1 = o := congrArg Dv.o z; omega⟩
        | _ + 4, hx => simp at hx
      have g6 : GF a6 = some (.lst [.ref k1, .ref k2, .ref k3, .ref k4]) := by rw [hGF]; exact upd_same
      have hqF' : GF q = some (.ins C dq (dFl D)) := by rw [hGF]; exact hqF
      have sVF : Same G8 GF := by rw [hGF]; exact sV.trans sF
      show tSeq _ _ _ _ (upd (upd GE' a5 (.lst [.ref k3, .ref k4])) a6 (.lst [.ref k1, .ref k2, .ref k3, .ref k4]))
      rw [← hGF]
      clear hGF v1 v2 v3 v4 hk1 hk2 hk3 hk4 hqF hqV hqA hq2 sF sV
      refine ⟨_, rfl, a6, rfl, ⟨_, SqL.of g6⟩, fun A0 nA => ?_⟩
      refine lc_list (K := K) (a := a6) (xs := [.ref k1, .ref k2, .ref k3, .ref k4]) (fun i G => Same GF G ∧ G A0 = some (.lst [])) ⟨Same.new nA, upd_same⟩ (fun i G _ hp => SqL.of (hp.1 _ _ g6)) ?_ ?_
      · rintro j x G hx ⟨sG, gA⟩
        obtain ⟨kk, DD, rfl, ⟨dk, hk⟩, hne⟩ := hO j x hx
        refine ⟨rfl, ?_⟩
        refine ⟨_, rfl, _, rfl, kk, q, _, _, _, _, rfl, rfl, sG _ _ hk, sG _ _ hqF', kk, DD, ⟨_, sG _ _ hk⟩, .inl ⟨q, D, rfl, ⟨_, sG _ _ hqF'⟩, _, rfl, _, rfl, ?_⟩⟩
        rw [decide_eq_false hne]
        exact iteF ⟨sG, gA⟩
      rintro G ⟨sG, gA⟩
      refine ⟨(by show 0 ≤ sizeLine; decide), fun z nz => ?_⟩
      have sZ := sG.trans (Same.new (o := .lst []) nz)
      refine ⟨.list [], .list [], .lst (SqL.of ((Same.new nz) _ _ gA)) .nil, .lst (SqL.of upd_same) .nil, by decide +kernel, by decide +kernel, _, rfl, ?_⟩
      rw [show PyData.eqv (.list []) (.list []) = true from by decide +kernel]
      refine iteF ?_
      have hqZ := sZ _ _ hqF'
      have BZ := BB.keep (sVF.trans sZ)
      have eZ := But.trans eS (But.same (sVF.trans sZ))
      -- the blocks
      have DbE : D.b = p := by rw [hD]
      have DgE : D.g = W - t * p := by rw [hD, ← hW]; rfl
      have st0 : 0 ≤ st := by rw [← hst]; split <;> omega
      have hg : (D.g.natAbs : Int) = st := by rw [DgE, ← hst]; split <;> omega
      have hbl : DV.blocks D = if st = 0 then 2 else (2 * W + o) / st + 4 := by
        unfold DV.blocks
        rw [hg]
        have e1 : D.W = W := by rw [hD]; exact hW
        have e2 : D.o = o := by rw [hD]
        rw [e1, e2]
      have bl0 : 2 ≤ DV.blocks D := DV.blocks_ge D LD.ok
      have bl1 : DV.blocks D ≤ 262 := by
        rw [hbl]
        split
        · decide
        · have := Int.ediv_le_self (a := 2 * W + o) st (by omega)
          omega
      have pb0 : 0 ≤ p * DV.blocks D := Int.mul_nonneg (by omega) (by omega)
      have pb1 : p * DV.blocks D ≤ 13 * 262 := Int.mul_le_mul p13 bl1 (by omega) (by decide)
      obtain ⟨N, hN⟩ : ∃ N : Nat, (N : Int) = 2 * (D.b * DV.blocks D) := ⟨(2 * (D.b * DV.blocks D)).toNat, by rw [DbE]; omega⟩
      have hN1 : N ≤ 20000 := by rw [DbE] at hN; omega
      have hN2 : 2 * p * DV.blocks D = (N : Int) := by rw [hN, DbE, Int.mul_assoc]
      have tp : Bd 200 (2 * p) := one60 (by omega) (Int.le_trans (show 2 * p ≤ 26 by omega) (by decide))
      have VB : Bd 200 (DV.blocks D) := one60 (by omega) (Int.le_trans bl1 (by decide))
      refine ⟨_, rfl, rfl, _, rfl, ?_⟩
      by_cases h0 : st = 0
      · refine iteT' (decide_eq_true (congrArg V.int h0)) ?_
        rw [if_pos h0] at hbl
        rw [hbl] at hN2 VB
        refine ⟨_, rfl, _, rfl, _, rfl, _, _, rfl, rfl, two.w b60, _, rfl, _, _, rfl, rfl, tp.w VB, b, c, q, _, D, N, congrArg (fun z => [V.ref b, .ref q, .int z]) hN2, BZ, by omega, ⟨_, hqZ⟩, LD, by rw [hD]; show n ≤ 6; omega, hN, hN1, fun Gf Bf ef => ⟨_, rfl, iteF ?_⟩⟩
        exact ⟨_, _, _, _, _, _, _, _, _, _, _, rfl, BagAt.up Bf (by omega), But.trans eZ ef, fun _ => ⟨q, D, rfl, DvAt.but ⟨_, hqZ⟩ BZ ef, LD⟩⟩
      · refine iteF' (decide_eq_false fun z => h0 (V.int.inj z)) ?_
        rw [if_neg h0] at hbl
        rw [hbl] at hN2 VB
        refine ⟨_, rfl, _, _, rfl, rfl, two.w W60, _, rfl, _, _, rfl, rfl, _, rfl, _, _, rfl, rfl, (one60 st0 (Int.le_trans (show st ≤ 2000 by
          rw [← hst]
          have := Int.mul_le_mul t1 p13 (by omega) (by decide)
          have := Int.mul_nonneg t0 (show 0 ≤ p by omega)
          split <;> omega) (by decide))).d (by omega), _, _, rfl, rfl, ?_⟩
        refine ⟨_, rfl, _, rfl, _, rfl, _, _, rfl, rfl, two.w b60, _, rfl, _, _, rfl, rfl, tp.w VB, b, c, q, _, D, N, congrArg (fun z => [V.ref b, .ref q, .int z]) hN2, BZ, by omega, ⟨_, hqZ⟩, LD, by rw [hD]; show n ≤ 6; omega, hN, hN1, fun Gf Bf ef => ⟨_, rfl, iteF ?_⟩⟩
        exact ⟨_, _, _, _, _, _, _, _, _, _, _, rfl, BagAt.up Bf (by omega), But.trans eZ ef, fun _ => ⟨q, D, rfl, DvAt.but ⟨_, hqZ⟩ BZ ef, LD⟩⟩
    rintro σ G ⟨v2, v3, v4, v5, v6, v7, v8, v9, v10, v11, v12, rfl, B1, e1, hcut⟩
    obtain ⟨q, D, rfl, hq, LD⟩ := hcut (by omega)
    have T1 := tabs_but T0 B0 e1
    refine ⟨_, rfl, _, rfl, b, c, q, _, D, rfl, B1, by omega, hq, LD, T1, fun G2 B2 => ⟨_, rfl, iteF ?_⟩⟩
    refine ⟨_, rfl, b, c, _, rfl, B2, by omega, fun G3 B3 e3 => ⟨_, rfl, iteF ?_⟩⟩
    refine ⟨_, rfl, b, c, 9, _, rfl, B3, by omega, by decide, by decide, fun r G4 r0 r1 B4 e4 => ⟨_, _, rfl, rfl, _, rfl, b, c, 40, _, rfl, B4, by omega, by decide, by decide, fun l G5 l0 l1 B5 e5 => ⟨_, _, rfl, rfl, (by show 2 ≤ sizeLine; decide), fun pt npt => ⟨pt, _, rfl, .inl (.inl upd_same), rfl, _, _, rfl, _, _, rfl, rfl, ?_⟩⟩⟩⟩
    obtain ⟨p, hp⟩ : ∃ p : Int, 2 + r = p := ⟨_, rfl⟩
    obtain ⟨y, hy⟩ : ∃ y : Nat, 1 + l = (y : Int) := ⟨(1 + l).toNat, by omega⟩
    have p2 : 2 ≤ p := by omega
    have p13 : p ≤ 13 := by omega
    have y1 : 1 ≤ y := by omega
    have y40 : y ≤ 40 := by omega
    dsimp only
    rw [hp, hy]
    have B6 := B5.keep (Same.new (o := .tup [.int p, .int (y : Nat)]) npt)
    refine ⟨_, rfl, b, c, 7, _, rfl, B6, by omega, by decide, by decide, fun n G7 n0 n1 B7 e7 => ?_⟩
    obtain ⟨n, rfl⟩ : ∃ k : Nat, n = (k : Int) := ⟨n.toNat, by omega⟩
    have hlim : p * ((y : Int) + 1) ≤ 2 ^ 400 := Int.le_trans (Int.mul_le_mul p13 (show (y : Int) + 1 ≤ 41 by omega) (by omega) (by decide)) (by decide)
    have p60 : p ≤ 10 ^ 60 := Int.le_trans p13 (by decide)
    have y60 : (y : Int) ≤ 10 ^ 60 := Int.le_trans (show (y : Int) ≤ 100 by omega) (by decide)
    refine ⟨_, rfl, _, rfl, _, rfl, p, y, n, rfl, p2, by omega, y1, by omega, by omega, fun G8 s8 hE => ?_, fun G8 pw l g s8 hpw l0 lg hA => ?_⟩
    · refine ⟨_, rfl, _, rfl, _, rfl, p, y, n, rfl, p2, p60, by omega, y60, by omega, fun G9 s9 hE2 => ?_, fun G9 pw2 l2 g2 s9 hpw2 l20 lg2 hA2 => absurd ⟨l2, l20, (hA2 l2 l20).mpr ⟨Int.le_refl _, lg2⟩⟩ hE⟩
      refine ⟨_, rfl, .none, .none, .non, .non, by decide +kernel, by decide +kernel, _, rfl, ?_⟩
      rw [show PyData.eqv .none .none = true from by decide +kernel]
      refine iteF ?_
      refine ⟨7, rfl, by decide, by decide, fun A0 nA => ?_⟩
      refine lc_range (lo := 0) (n := 7) (fun i G => ∃ xs : List Int, G A0 = some (.lst (xs.map V.int)) ∧ xs.length ≤ i ∧ ((xs = [] ∧ ∀ k, k < i → ¬ Ex p y k) ∨ ∃ (m : Nat) (r : List Int), xs = (m : Int) :: r ∧ Ex p y m ∧ ∀ k, k < m → ¬ Ex p y k)) ⟨[], upd_same, Nat.le_refl _, .inl ⟨rfl, fun k hk => absurd hk (Nat.not_lt_zero _)⟩⟩ ?_ ?_
      · rintro i G hi ⟨xs, gA, lx, hx⟩
        simp only [Int.zero_add]
        refine ⟨rfl, ?_⟩
        refine ⟨_, rfl, _, rfl, _, rfl, p, y, i, rfl, p2, by omega, y1, by omega, by omega, fun G' s' hE => ⟨rfl, _, rfl, iteF' (by rw [decide_eq_true rfl]; rfl) ?_⟩, fun G' pt l g s' hpt l0 lg hA => ⟨rfl, _, rfl, iteT' (by rw [decide_eq_false fun z => by cases z]; rfl) ?_⟩⟩
        · refine ⟨xs, s' _ _ gA, by omega, hx.imp (fun ⟨h1, h2⟩ => ⟨h1, fun k hk => ?_⟩) id⟩
          by_cases c : k = i
          · rw [c]; exact hE
          · exact h2 k (by omega)
        · have hE : Ex p y i := ⟨l, l0, (hA l l0).mpr ⟨Int.le_refl _, lg⟩⟩
          refine ⟨_, rfl, _, s' _ _ gA, Nat.lt_of_le_of_lt (show (xs.map V.int).length ≤ 1000 by rw [List.length_map]; omega) (by decide), xs ++ [(i : Int)], by rw [upd_same, List.map_append]; rfl, by rw [List.length_append]; show xs.length + 1 ≤ _; omega, .inr ?_⟩
          rcases hx with ⟨h1, h2⟩ | ⟨m, r, h1, h2, h3⟩
          · exact ⟨i, [], by rw [h1]; rfl, hE, h2⟩
          · exact ⟨m, r ++ [(i : Int)], by rw [h1]; rfl, h2, h3⟩
      rintro G ⟨xs, gA, lx, hx⟩
      refine ⟨_, rfl, (by show 0 ≤ sizeLine; decide), fun z nz => ?_⟩
      have gZ := (Same.new (o := .lst []) nz) _ _ gA
      refine ⟨.list (xs.map PyData.int), .list [], .lst (SqL.of gZ) (dpI xs), .lst (SqL.of upd_same) .nil, shapedI _, by decide +kernel, _, rfl, ?_⟩
      rw [eqv_nil]
      rcases hx with ⟨h1, h2⟩ | ⟨m, r, h1, h2, h3⟩
      · exact iteT' (decide_eq_true h1) (k _)
      · refine iteF' (decide_eq_false (by rw [h1]; exact fun z => by cases z)) ?_
        refine ⟨_, rfl, _, rfl, p, y, rfl, p2, Int.le_trans p13 (by decide), by omega, Int.le_trans (show (y : Int) ≤ 100 by omega) (by decide), hlim, fun n1 G' s' n1l x1 m1 => ⟨_, rfl, A0, _, 0, .int (m : Int), rfl, rfl, SqL.of (s' _ _ gZ), by rw [h1]; exact atI_nat (j := 0) rfl, rfl, ?_⟩⟩
        rw [least_one x1 h2 m1 h3, decide_eq_true rfl]
        exact k _
    · refine ⟨_, rfl, _, rfl, _, rfl, p, y, n, rfl, p2, p60, by omega, y60, by omega, fun G9 s9 hE2 => absurd ⟨l, l0, (hA l l0).mpr ⟨Int.le_refl _, lg⟩⟩ hE2, fun G9 pw2 l2 g2 s9 hpw2 l20 lg2 hA2 => ?_⟩
      obtain ⟨rfl, rfl⟩ := win_one l0 lg hA l20 lg2 hA2
      refine ⟨_, rfl, .tuple [.int l, .int g], .tuple [.int l, .int g], .tup hpw2 (.cons (.int _) (.cons (.int _) .nil)), .tup (Or.imp (fun r => Or.imp (s9 _ _) (fun ⟨o, h⟩ => ⟨o, s9 _ _ h⟩) r) id hpw) (.cons (.int _) (.cons (.int _) .nil)), shT2 _ _, shT2 _ _, _, rfl, ?_⟩
      rw [eqv_self (shT2 _ _)]
      refine iteF ?_
      refine ⟨7, rfl, by decide, by decide, fun A0 nA => ?_⟩
      refine lc_range (lo := 0) (n := 7) (fun i G => ∃ xs : List Int, G A0 = some (.lst (xs.map V.int)) ∧ xs.length ≤ i ∧ ((xs = [] ∧ ∀ k, k < i → ¬ Ex p y k) ∨ ∃ (m : Nat) (r : List Int), xs = (m : Int) :: r ∧ Ex p y m ∧ ∀ k, k < m → ¬ Ex p y k)) ⟨[], upd_same, Nat.le_refl _, .inl ⟨rfl, fun k hk => absurd hk (Nat.not_lt_zero _)⟩⟩ ?_ ?_
      · rintro i G hi ⟨xs, gA, lx, hx⟩
        simp only [Int.zero_add]
        refine ⟨rfl, ?_⟩
        refine ⟨_, rfl, _, rfl, _, rfl, p, y, i, rfl, p2, by omega, y1, by omega, by omega, fun G' s' hE => ⟨rfl, _, rfl, iteF' (by rw [decide_eq_true rfl]; rfl) ?_⟩, fun G' pt l g s' hpt l0 lg hA => ⟨rfl, _, rfl, iteT' (by rw [decide_eq_false fun z => by cases z]; rfl) ?_⟩⟩
        · refine ⟨xs, s' _ _ gA, by omega, hx.imp (fun ⟨h1, h2⟩ => ⟨h1, fun k hk => ?_⟩) id⟩
          by_cases c : k = i
          · rw [c]; exact hE
          · exact h2 k (by omega)
        · have hE : Ex p y i := ⟨l, l0, (hA l l0).mpr ⟨Int.le_refl _, lg⟩⟩
          refine ⟨_, rfl, _, s' _ _ gA, Nat.lt_of_le_of_lt (show (xs.map V.int).length ≤ 1000 by rw [List.length_map]; omega) (by decide), xs ++ [(i : Int)], by rw [upd_same, List.map_append]; rfl, by rw [List.length_append]; show xs.length + 1 ≤ _; omega, .inr ?_⟩
          rcases hx with ⟨h1, h2⟩ | ⟨m, r, h1, h2, h3⟩
          · exact ⟨i, [], by rw [h1]; rfl, hE, h2⟩
          · exact ⟨m, r ++ [(i : Int)], by rw [h1]; rfl, h2, h3⟩
      rintro G ⟨xs, gA, lx, hx⟩
      refine ⟨_, rfl, (by show 0 ≤ sizeLine; decide), fun z nz => ?_⟩
      have gZ := (Same.new (o := .lst []) nz) _ _ gA
      refine ⟨.list (xs.map PyData.int), .list [], .lst (SqL.of gZ) (dpI xs), .lst (SqL.of upd_same) .nil, shapedI _, by decide +kernel, _, rfl, ?_⟩
      rw [eqv_nil]
      rcases hx with ⟨h1, h2⟩ | ⟨m, r, h1, h2, h3⟩
      · exact iteT' (decide_eq_true h1) (k _)
      · refine iteF' (decide_eq_false (by rw [h1]; exact fun z => by cases z)) ?_
        refine ⟨_, rfl, _, rfl, p, y, rfl, p2, Int.le_trans p13 (by decide), by omega, Int.le_trans (show (y : Int) ≤ 100 by omega) (by decide), hlim, fun n1 G' s' n1l x1 m1 => ⟨_, rfl, A0, _, 0, .int (m : Int), rfl, rfl, SqL.of (s' _ _ gZ), by rw [h1]; exact atI_nat (j := 0) rfl, rfl, ?_⟩⟩
        rw [least_one x1 h2 m1 h3, decide_eq_true rfl]
        exact k _

end
end KD

set_option Elab.async false
set_option linter.all false
set_option maxRecDepth 100000
set_option maxHeartbeats 8000000
/-! k61: the facts of the text, the end -/
namespace KD
open PySem PySem.Spec PyProof.Rows L2 LamX
open KDB (TxtB ok_bag ok_draw)
theorem eb_num : ErrA.ErrBody PP sBadNI "number" [] where
  ex := ⟨_, _, _, _, _, _, _, _, _, _, _, _, _, ⟨fun _ _ _ _ _ => ⟨_, rfl⟩, rfl, rfl, by decide +kernel, rfl, rfl, rfl, by decide +kernel, by decide +kernel, ⟨_, rfl, rfl⟩, by decide +kernel⟩, ErrA.Sets.nil, rfl⟩
  nd := by decide +kernel
  bind := fun _ _ _ _ _ _ _ _ us hl => match us, hl with | [_, _], _ => rfl
  few := by decide
theorem rel2r {vs zs : List V} {us ws : List Value} (_ : Vals vs us) (r : Vals zs ws) : Vals (g2r vs zs) (g2r us ws) := by
  cases r with
  | nil => exact .nil
  | cons a r =>
    cases r with
    | nil => exact .nil
    | cons b r =>
      cases r with
      | nil => exact .cons b (.cons a .nil)
      | cons c r => exact .nil
theorem rel3r {vs zs : List V} {us ws : List Value} (_ : Vals vs us) (r : Vals zs ws) : Vals (g3r vs zs) (g3r us ws) := by
  cases r with
  | nil => exact .nil
  | cons a r =>
    cases r with
    | nil => exact .nil
    | cons b r =>
      cases r with
      | nil => exact .nil
      | cons c r =>
        cases r with
        | nil => exact .cons c (.cons b (.cons a .nil))
        | cons d r => exact .nil
theorem rel5i {vs zs : List V} {us ws : List Value} (q : Vals vs us) (r : Vals zs ws) : Vals (g5i vs zs) (g5i us ws) := by
  cases q with
  | nil => cases r <;> exact .nil
  | cons p q =>
    cases q with
    | cons p2 q => cases r <;> exact .nil
    | nil =>
      cases r with
      | nil => exact .nil
      | cons a r =>
        cases r with
        | nil => exact .nil
        | cons b r =>
          cases r with
          | nil => exact .nil
          | cons c r =>
            cases r with
            | nil => exact .nil
            | cons d r =>
              cases r with
              | nil => exact .cons p (.cons c (.cons d (.cons b (.cons a .nil))))
              | cons e r => exact .nil
theorem rel1q {vs zs : List V} {us ws : List Value} (q : Vals vs us) (r : Vals zs ws) : Vals (g1q vs zs) (g1q us ws) := q.append r
section
variable {w : World} {K : PySem.W.Frag} {mg : Str → Option Value} {h : Heap}
theorem all_mk {fa CD CR CB fI cc cda cq28 P28 f4 f6 f10 f11 f14 f15 f16 f17 f18 f19 f20 f21 f23 f24 f25 f26 f27 f28 f29 f30 f31 f32 fd0 fd1 fd2 fr0 fr1 fr2 fr3 fr4 fr5 fr6 fr7 fr8 fr9 : Addr} {tiN tiS : Tok} {nm qq : Str} {N : Addr} {bs bm : List Value} {sn : List Str} {sub : List Value} {ab : Bool} {col : Option Bool} {dd : Option Addr} {k0 k1 k2 k3 k5 : Option Value} {cl : Value} {cld : Option Addr} {csl : Array (Option Value)} {ccl : Value} {cdd : Option Addr} {vs : Array Value} {ccs : Array (Option Value)} {file : Str} {tf : Tok} {ocE : Value} {odE : Option Addr} {kVE docE pmE : Value} {anE : Option Addr} {ctE : Value} {oslE : Array (Option Value)} {e28 : Value} {dd28 : Option Addr} {vs28 : Array Value} {sm28 : Array (Option Value)} {oc4 kV4 dc4 pm4 cd4 ct4 : Value} {od4 an4 : Option Addr} {sl4 : Array (Option Value)} {oc6 kV6 dc6 pm6 cd6 ct6 : Value} {od6 an6 : Option Addr} {sl6 : Array (Option Value)} {oc10 kV10 dc10 pm10 cd10 ct10 : Value} {od10 an10 : Option Addr} {sl10 : Array (Option Value)} {oc11 kV11 dc11 pm11 cd11 ct11 : Value} {od11 an11 : Option Addr} {sl11 : Array (Option Value)} {oc14 kV14 dc14 pm14 cd14 ct14 : Value} {od14 an14 : Option Addr} {sl14 : Array (Option Value)} {oc15 kV15 dc15 pm15 cd15 ct15 : Value} {od15 an15 : Option Addr} {sl15 : Array (Option Value)} {oc16 kV16 dc16 pm16 cd16 ct16 : Value} {od16 an16 : Option Addr} {sl16 : Array (Option Value)} {oc17 kV17 dc17 pm17 cd17 ct17 : Value} {od17 an17 : Option Addr} {sl17 : Array (Option Value)} {oc18 kV18 dc18 pm18 cd18 ct18 : Value} {od18 an18 : Option Addr} {sl18 : Array (Option Value)} {oc19 kV19 dc19 pm19 cd19 ct19 : Value} {od19 an19 : Option Addr} {sl19 : Array (Option Value)} {oc20 kV20 dc20 pm20 cd20 ct20 : Value} {od20 an20 : Option Addr} {sl20 : Array (Option Value)} {oc21 kV21 dc21 pm21 cd21 ct21 : Value} {od21 an21 : Option Addr} {sl21 : Array (Option Value)} {oc23 kV23 dc23 pm23 cd23 ct23 : Value} {od23 an23 : Option Addr} {sl23 : Array (Option Value)} {oc24 kV24 dc24 pm24 cd24 ct24 : Value} {od24 an24 : Option Addr} {sl24 : Array (Option Value)} {oc25 kV25 dc25 pm25 cd25 ct25 : Value} {od25 an25 : Option Addr} {sl25 : Array (Option Value)} {oc26 kV26 dc26 pm26 cd26 ct26 : Value} {od26 an26 : Option Addr} {sl26 : Array (Option Value)} {oc27 kV27 dc27 pm27 cd27 ct27 : Value} {od27 an27 : Option Addr} {sl27 : Array (Option Value)} {oc28 kV28 dc28 pm28 ct28 : Value} {od28 an28 : Option Addr} {sl28 : Array (Option Value)} {oc29 kV29 dc29 pm29 cd29 ct29 : Value} {od29 an29 : Option Addr} {sl29 : Array (Option Value)} {oc30 kV30 dc30 pm30 cd30 ct30 : Value} {od30 an30 : Option Addr} {sl30 : Array (Option Value)} {oc31 kV31 dc31 pm31 cd31 ct31 : Value} {od31 an31 : Option Addr} {sl31 : Array (Option Value)} {oc32 kV32 dc32 pm32 cd32 ct32 : Value} {od32 an32 : Option Addr} {sl32 : Array (Option Value)} {ocd0 kVd0 dcd0 pmd0 cdd0 ctd0 : Value} {odd0 and0 : Option Addr} {sld0 : Array (Option Value)} {ocd1 kVd1 dcd1 pmd1 cdd1 ctd1 : Value} {odd1 and1 : Option Addr} {sld1 : Array (Option Value)} {ocd2 kVd2 dcd2 pmd2 cdd2 ctd2 : Value} {odd2 and2 : Option Addr} {sld2 : Array (Option Value)} {ocr0 kVr0 dcr0 pmr0 cdr0 ctr0 : Value} {odr0 anr0 : Option Addr} {slr0 : Array (Option Value)} {ocr1 kVr1 dcr1 pmr1 cdr1 ctr1 : Value} {odr1 anr1 : Option Addr} {slr1 : Array (Option Value)} {ocr2 kVr2 dcr2 pmr2 cdr2 ctr2 : Value} {odr2 anr2 : Option Addr} {slr2 : Array (Option Value)} {ocr3 kVr3 dcr3 pmr3 cdr3 ctr3 : Value} {odr3 anr3 : Option Addr} {slr3 : Array (Option Value)} {ocr4 kVr4 dcr4 pmr4 cdr4 ctr4 : Value} {odr4 anr4 : Option Addr} {slr4 : Array (Option Value)} {ocr5 kVr5 dcr5 pmr5 cdr5 ctr5 : Value} {odr5 anr5 : Option Addr} {slr5 : Array (Option Value)} {ocr6 kVr6 dcr6 pmr6 cdr6 ctr6 : Value} {odr6 anr6 : Option Addr} {slr6 : Array (Option Value)} {ocr7 kVr7 dcr7 pmr7 cdr7 ctr7 : Value} {odr7 anr7 : Option Addr} {slr7 : Array (Option Value)} {ocr8 kVr8 dcr8 pmr8 cdr8 ctr8 : Value} {odr8 anr8 : Option Addr} {slr8 : Array (Option Value)} {ocr9 kVr9 dcr9 pmr9 cdr9 ctr9 : Value} {odr9 anr9 : Option Addr} {slr9 : Array (Option Value)} (X : K.In h) (G : h.Ns mainGlobals mg) (hfa : mg "law" = some (.ref fa))
    (a4 : PySem.W.nsIn K mainGlobals "is_whole" = some (some (.ref f4))) (l4 : K.lookup f4 = some ⟨oc4, od4, .func (PySem.W.fnOf "is_whole" "is_whole" (defArgs (top 4)) (defBody (top 4)) (defScope (top 4)) .none kV4 dc4 pm4 an4 cd4 ct4), sl4⟩) (c4 : PySem.W.codeIn K cd4 "is_whole" = true) (k4 : PySem.W.keepIn K (.ref f4) = true)
    (a6 : PySem.W.nsIn K mainGlobals "is_between" = some (some (.ref f6))) (l6 : K.lookup f6 = some ⟨oc6, od6, .func (PySem.W.fnOf "is_between" "is_between" (defArgs (top 6)) (defBody (top 6)) (defScope (top 6)) .none kV6 dc6 pm6 an6 cd6 ct6), sl6⟩) (c6 : PySem.W.codeIn K cd6 "is_between" = true) (k6 : PySem.W.keepIn K (.ref f6) = true)
    (a10 : PySem.W.nsIn K mainGlobals "check_between" = some (some (.ref f10))) (l10 : K.lookup f10 = some ⟨oc10, od10, .func (PySem.W.fnOf "check_between" "check_between" (defArgs (top 10)) (defBody (top 10)) (defScope (top 10)) .none kV10 dc10 pm10 an10 cd10 ct10), sl10⟩) (c10 : PySem.W.codeIn K cd10 "check_between" = true) (k10 : PySem.W.keepIn K (.ref f10) = true)
    (a11 : PySem.W.nsIn K mainGlobals "upward" = some (some (.ref f11))) (l11 : K.lookup f11 = some ⟨oc11, od11, .func (PySem.W.fnOf "upward" "upward" (defArgs (top 11)) (defBody (top 11)) (defScope (top 11)) .none kV11 dc11 pm11 an11 cd11 ct11), sl11⟩) (c11 : PySem.W.codeIn K cd11 "upward" = true) (k11 : PySem.W.keepIn K (.ref f11) = true)
    (a14 : PySem.W.nsIn K mainGlobals "floor_sum" = some (some (.ref f14))) (l14 : K.lookup f14 = some ⟨oc14, od14, .func (PySem.W.fnOf "floor_sum" "floor_sum" (defArgs (top 14)) (defBody (top 14)) (defScope (top 14)) .none kV14 dc14 pm14 an14 cd14 ct14), sl14⟩) (c14 : PySem.W.codeIn K cd14 "floor_sum" = true) (k14 : PySem.W.keepIn K (.ref f14) = true)
    (a15 : PySem.W.nsIn K mainGlobals "divider_right" = some (some (.ref f15))) (l15 : K.lookup f15 = some ⟨oc15, od15, .func (PySem.W.fnOf "divider_right" "divider_right" (defArgs (top 15)) (defBody (top 15)) (defScope (top 15)) .none kV15 dc15 pm15 an15 cd15 ct15), sl15⟩) (c15 : PySem.W.codeIn K cd15 "divider_right" = true) (k15 : PySem.W.keepIn K (.ref f15) = true)
    (a16 : PySem.W.nsIn K mainGlobals "divider_wrong" = some (some (.ref f16))) (l16 : K.lookup f16 = some ⟨oc16, od16, .func (PySem.W.fnOf "divider_wrong" "divider_wrong" (defArgs (top 16)) (defBody (top 16)) (defScope (top 16)) .none kV16 dc16 pm16 an16 cd16 ct16), sl16⟩) (c16 : PySem.W.codeIn K cd16 "divider_wrong" = true) (k16 : PySem.W.keepIn K (.ref f16) = true)
    (a17 : PySem.W.nsIn K mainGlobals "divider_next" = some (some (.ref f17))) (l17 : K.lookup f17 = some ⟨oc17, od17, .func (PySem.W.fnOf "divider_next" "divider_next" (defArgs (top 17)) (defBody (top 17)) (defScope (top 17)) .none kV17 dc17 pm17 an17 cd17 ct17), sl17⟩) (c17 : PySem.W.codeIn K cd17 "divider_next" = true) (k17 : PySem.W.keepIn K (.ref f17) = true)
    (a18 : PySem.W.nsIn K mainGlobals "divider_many" = some (some (.ref f18))) (l18 : K.lookup f18 = some ⟨oc18, od18, .func (PySem.W.fnOf "divider_many" "divider_many" (defArgs (top 18)) (defBody (top 18)) (defScope (top 18)) .none kV18 dc18 pm18 an18 cd18 ct18), sl18⟩) (c18 : PySem.W.codeIn K cd18 "divider_many" = true) (k18 : PySem.W.keepIn K (.ref f18) = true)
    (a19 : PySem.W.nsIn K mainGlobals "times_between" = some (some (.ref f19))) (l19 : K.lookup f19 = some ⟨oc19, od19, .func (PySem.W.fnOf "times_between" "times_between" (defArgs (top 19)) (defBody (top 19)) (defScope (top 19)) .none kV19 dc19 pm19 an19 cd19 ct19), sl19⟩) (c19 : PySem.W.codeIn K cd19 "times_between" = true) (k19 : PySem.W.keepIn K (.ref f19) = true)
    (a20 : PySem.W.nsIn K mainGlobals "times_for" = some (some (.ref f20))) (l20 : K.lookup f20 = some ⟨oc20, od20, .func (PySem.W.fnOf "times_for" "times_for" (defArgs (top 20)) (defBody (top 20)) (defScope (top 20)) .none kV20 dc20 pm20 an20 cd20 ct20), sl20⟩) (c20 : PySem.W.codeIn K cd20 "times_for" = true) (k20 : PySem.W.keepIn K (.ref f20) = true)
    (a21 : PySem.W.nsIn K mainGlobals "least_shift" = some (some (.ref f21))) (l21 : K.lookup f21 = some ⟨oc21, od21, .func (PySem.W.fnOf "least_shift" "least_shift" (defArgs (top 21)) (defBody (top 21)) (defScope (top 21)) .none kV21 dc21 pm21 an21 cd21 ct21), sl21⟩) (c21 : PySem.W.codeIn K cd21 "least_shift" = true) (k21 : PySem.W.keepIn K (.ref f21) = true)
    (a23 : PySem.W.nsIn K mainGlobals "_law_bag" = some (some (.ref f23))) (l23 : K.lookup f23 = some ⟨oc23, od23, .func (PySem.W.fnOf "_law_bag" "_law_bag" (defArgs (top 23)) (defBody (top 23)) (defScope (top 23)) .none kV23 dc23 pm23 an23 cd23 ct23), sl23⟩) (c23 : PySem.W.codeIn K cd23 "_law_bag" = true) (k23 : PySem.W.keepIn K (.ref f23) = true)
    (a24 : PySem.W.nsIn K mainGlobals "_law_draw" = some (some (.ref f24))) (l24 : K.lookup f24 = some ⟨oc24, od24, .func (PySem.W.fnOf "_law_draw" "_law_draw" (defArgs (top 24)) (defBody (top 24)) (defScope (top 24)) .none kV24 dc24 pm24 an24 cd24 ct24), sl24⟩) (c24 : PySem.W.codeIn K cd24 "_law_draw" = true) (k24 : PySem.W.keepIn K (.ref f24) = true)
    (a25 : PySem.W.nsIn K mainGlobals "_law_pick" = some (some (.ref f25))) (l25 : K.lookup f25 = some ⟨oc25, od25, .func (PySem.W.fnOf "_law_pick" "_law_pick" (defArgs (top 25)) (defBody (top 25)) (defScope (top 25)) .none kV25 dc25 pm25 an25 cd25 ct25), sl25⟩) (c25 : PySem.W.codeIn K cd25 "_law_pick" = true) (k25 : PySem.W.keepIn K (.ref f25) = true)
    (a26 : PySem.W.nsIn K mainGlobals "_law_power" = some (some (.ref f26))) (l26 : K.lookup f26 = some ⟨oc26, od26, .func (PySem.W.fnOf "_law_power" "_law_power" (defArgs (top 26)) (defBody (top 26)) (defScope (top 26)) .none kV26 dc26 pm26 an26 cd26 ct26), sl26⟩) (c26 : PySem.W.codeIn K cd26 "_law_power" = true) (k26 : PySem.W.keepIn K (.ref f26) = true)
    (a27 : PySem.W.nsIn K mainGlobals "_law_none" = some (some (.ref f27))) (l27 : K.lookup f27 = some ⟨oc27, od27, .func (PySem.W.fnOf "_law_none" "_law_none" (defArgs (top 27)) (defBody (top 27)) (defScope (top 27)) .none kV27 dc27 pm27 an27 cd27 ct27), sl27⟩) (c27 : PySem.W.codeIn K cd27 "_law_none" = true) (k27 : PySem.W.keepIn K (.ref f27) = true)
    (a28 : PySem.W.nsIn K mainGlobals "_law_refused" = some (some (.ref f28))) (l28 : K.lookup f28 = some ⟨oc28, od28, .func (PySem.W.fnOf "_law_refused" "_law_refused" (defArgs (top 28)) (defBody (top 28)) (defScope (top 28)) .none kV28 dc28 pm28 an28 (.ref cq28) ct28), sl28⟩) (c28 : PySem.W.codeIn K (.ref cq28) "_law_refused" = true) (k28 : PySem.W.keepIn K (.ref f28) = true)
    (a29 : PySem.W.nsIn K mainGlobals "_law_window" = some (some (.ref f29))) (l29 : K.lookup f29 = some ⟨oc29, od29, .func (PySem.W.fnOf "_law_window" "_law_window" (defArgs (top 29)) (defBody (top 29)) (defScope (top 29)) .none kV29 dc29 pm29 an29 cd29 ct29), sl29⟩) (c29 : PySem.W.codeIn K cd29 "_law_window" = true) (k29 : PySem.W.keepIn K (.ref f29) = true)
    (a30 : PySem.W.nsIn K mainGlobals "_law_all_right" = some (some (.ref f30))) (l30 : K.lookup f30 = some ⟨oc30, od30, .func (PySem.W.fnOf "_law_all_right" "_law_all_right" (defArgs (top 30)) (defBody (top 30)) (defScope (top 30)) .none kV30 dc30 pm30 an30 cd30 ct30), sl30⟩) (c30 : PySem.W.codeIn K cd30 "_law_all_right" = true) (k30 : PySem.W.keepIn K (.ref f30) = true)
    (a31 : PySem.W.nsIn K mainGlobals "_law_by_names_told" = some (some (.ref f31))) (l31 : K.lookup f31 = some ⟨oc31, od31, .func (PySem.W.fnOf "_law_by_names_told" "_law_by_names_told" (defArgs (top 31)) (defBody (top 31)) (defScope (top 31)) .none kV31 dc31 pm31 an31 cd31 ct31), sl31⟩) (c31 : PySem.W.codeIn K cd31 "_law_by_names_told" = true) (k31 : PySem.W.keepIn K (.ref f31) = true)
    (a32 : PySem.W.nsIn K mainGlobals "law" = some (some (.ref f32))) (l32 : K.lookup f32 = some ⟨oc32, od32, .func (PySem.W.fnOf "law" "law" (defArgs (top 32)) (defBody (top 32)) (defScope (top 32)) .none kV32 dc32 pm32 an32 cd32 ct32), sl32⟩) (c32 : PySem.W.codeIn K cd32 "law" = true) (k32 : PySem.W.keepIn K (.ref f32) = true)
    (ad0 : PySem.W.findIn K (.ref CD) "__init__" = some (some (.ref fd0))) (jd0 : PySem.W.isFn K (.ref fd0) = true) (ld0 : K.lookup fd0 = some ⟨ocd0, odd0, .func (PySem.W.fnOf "__init__" "Divider.__init__" (defArgs (inClass (top 12) 0)) (defBody (inClass (top 12) 0)) (defScope (inClass (top 12) 0)) .none kVd0 dcd0 pmd0 and0 cdd0 ctd0), sld0⟩) (cd0 : PySem.W.codeIn K cdd0 "Divider.__init__" = true) (kd0 : PySem.W.keepIn K (.ref fd0) = true)
    (ad1 : PySem.W.findIn K (.ref CD) "__eq__" = some (some (.ref fd1))) (jd1 : PySem.W.isFn K (.ref fd1) = true) (ld1 : K.lookup fd1 = some ⟨ocd1, odd1, .func (PySem.W.fnOf "__eq__" "Divider.__eq__" (defArgs (inClass (top 12) 1)) (defBody (inClass (top 12) 1)) (defScope (inClass (top 12) 1)) .none kVd1 dcd1 pmd1 and1 cdd1 ctd1), sld1⟩) (cd1 : PySem.W.codeIn K cdd1 "Divider.__eq__" = true) (kd1 : PySem.W.keepIn K (.ref fd1) = true)
    (ad2 : PySem.W.findIn K (.ref CD) "quotient" = some (some (.ref fd2))) (jd2 : PySem.W.isFn K (.ref fd2) = true) (ld2 : K.lookup fd2 = some ⟨ocd2, odd2, .func (PySem.W.fnOf "quotient" "Divider.quotient" (defArgs (inClass (top 12) 2)) (defBody (inClass (top 12) 2)) (defScope (inClass (top 12) 2)) .none kVd2 dcd2 pmd2 and2 cdd2 ctd2), sld2⟩) (cd2 : PySem.W.codeIn K cdd2 "Divider.quotient" = true) (kd2 : PySem.W.keepIn K (.ref fd2) = true)
    (ar0 : PySem.W.findIn K (.ref CR) "__init__" = some (some (.ref fr0))) (jr0 : PySem.W.isFn K (.ref fr0) = true) (lr0 : K.lookup fr0 = some ⟨ocr0, odr0, .func (PySem.W.fnOf "__init__" "Rests.__init__" (defArgs (inClass (top 13) 0)) (defBody (inClass (top 13) 0)) (defScope (inClass (top 13) 0)) .none kVr0 dcr0 pmr0 anr0 cdr0 ctr0), slr0⟩) (cr0 : PySem.W.codeIn K cdr0 "Rests.__init__" = true) (kr0 : PySem.W.keepIn K (.ref fr0) = true)
    (ar1 : PySem.W.findIn K (.ref CR) "rests_below" = some (some (.ref fr1))) (jr1 : PySem.W.isFn K (.ref fr1) = true) (lr1 : K.lookup fr1 = some ⟨ocr1, odr1, .func (PySem.W.fnOf "rests_below" "Rests.rests_below" (defArgs (inClass (top 13) 1)) (defBody (inClass (top 13) 1)) (defScope (inClass (top 13) 1)) .none kVr1 dcr1 pmr1 anr1 cdr1 ctr1), slr1⟩) (cr1 : PySem.W.codeIn K cdr1 "Rests.rests_below" = true) (kr1 : PySem.W.keepIn K (.ref fr1) = true)
    (ar2 : PySem.W.findIn K (.ref CR) "few" = some (some (.ref fr2))) (jr2 : PySem.W.isFn K (.ref fr2) = true) (lr2 : K.lookup fr2 = some ⟨ocr2, odr2, .func (PySem.W.fnOf "few" "Rests.few" (defArgs (inClass (top 13) 2)) (defBody (inClass (top 13) 2)) (defScope (inClass (top 13) 2)) .none kVr2 dcr2 pmr2 anr2 cdr2 ctr2), slr2⟩) (cr2 : PySem.W.codeIn K cdr2 "Rests.few" = true) (kr2 : PySem.W.keepIn K (.ref fr2) = true)
    (ar3 : PySem.W.findIn K (.ref CR) "fit" = some (some (.ref fr3))) (jr3 : PySem.W.isFn K (.ref fr3) = true) (lr3 : K.lookup fr3 = some ⟨ocr3, odr3, .func (PySem.W.fnOf "fit" "Rests.fit" (defArgs (inClass (top 13) 3)) (defBody (inClass (top 13) 3)) (defScope (inClass (top 13) 3)) .none kVr3 dcr3 pmr3 anr3 cdr3 ctr3), slr3⟩) (cr3 : PySem.W.codeIn K cdr3 "Rests.fit" = true) (kr3 : PySem.W.keepIn K (.ref fr3) = true)
    (ar4 : PySem.W.findIn K (.ref CR) "wrong_from" = some (some (.ref fr4))) (jr4 : PySem.W.isFn K (.ref fr4) = true) (lr4 : K.lookup fr4 = some ⟨ocr4, odr4, .func (PySem.W.fnOf "wrong_from" "Rests.wrong_from" (defArgs (inClass (top 13) 4)) (defBody (inClass (top 13) 4)) (defScope (inClass (top 13) 4)) .none kVr4 dcr4 pmr4 anr4 cdr4 ctr4), slr4⟩) (cr4 : PySem.W.codeIn K cdr4 "Rests.wrong_from" = true) (kr4 : PySem.W.keepIn K (.ref fr4) = true)
    (ar5 : PySem.W.findIn K (.ref CR) "right_from" = some (some (.ref fr5))) (jr5 : PySem.W.isFn K (.ref fr5) = true) (lr5 : K.lookup fr5 = some ⟨ocr5, odr5, .func (PySem.W.fnOf "right_from" "Rests.right_from" (defArgs (inClass (top 13) 5)) (defBody (inClass (top 13) 5)) (defScope (inClass (top 13) 5)) .none kVr5 dcr5 pmr5 anr5 cdr5 ctr5), slr5⟩) (cr5 : PySem.W.codeIn K cdr5 "Rests.right_from" = true) (kr5 : PySem.W.keepIn K (.ref fr5) = true)
    (ar6 : PySem.W.findIn K (.ref CR) "wrong_q" = some (some (.ref fr6))) (jr6 : PySem.W.isFn K (.ref fr6) = true) (lr6 : K.lookup fr6 = some ⟨ocr6, odr6, .func (PySem.W.fnOf "wrong_q" "Rests.wrong_q" (defArgs (inClass (top 13) 6)) (defBody (inClass (top 13) 6)) (defScope (inClass (top 13) 6)) .none kVr6 dcr6 pmr6 anr6 cdr6 ctr6), slr6⟩) (cr6 : PySem.W.codeIn K cdr6 "Rests.wrong_q" = true) (kr6 : PySem.W.keepIn K (.ref fr6) = true)
    (ar7 : PySem.W.findIn K (.ref CR) "right_q" = some (some (.ref fr7))) (jr7 : PySem.W.isFn K (.ref fr7) = true) (lr7 : K.lookup fr7 = some ⟨ocr7, odr7, .func (PySem.W.fnOf "right_q" "Rests.right_q" (defArgs (inClass (top 13) 7)) (defBody (inClass (top 13) 7)) (defScope (inClass (top 13) 7)) .none kVr7 dcr7 pmr7 anr7 cdr7 ctr7), slr7⟩) (cr7 : PySem.W.codeIn K cdr7 "Rests.right_q" = true) (kr7 : PySem.W.keepIn K (.ref fr7) = true)
    (ar8 : PySem.W.findIn K (.ref CR) "count_right" = some (some (.ref fr8))) (jr8 : PySem.W.isFn K (.ref fr8) = true) (lr8 : K.lookup fr8 = some ⟨ocr8, odr8, .func (PySem.W.fnOf "count_right" "Rests.count_right" (defArgs (inClass (top 13) 8)) (defBody (inClass (top 13) 8)) (defScope (inClass (top 13) 8)) .none kVr8 dcr8 pmr8 anr8 cdr8 ctr8), slr8⟩) (cr8 : PySem.W.codeIn K cdr8 "Rests.count_right" = true) (kr8 : PySem.W.keepIn K (.ref fr8) = true)
    (ar9 : PySem.W.findIn K (.ref CR) "sum_below" = some (some (.ref fr9))) (jr9 : PySem.W.isFn K (.ref fr9) = true) (lr9 : K.lookup fr9 = some ⟨ocr9, odr9, .func (PySem.W.fnOf "sum_below" "Rests.sum_below" (defArgs (inClass (top 13) 9)) (defBody (inClass (top 13) 9)) (defScope (inClass (top 13) 9)) .none kVr9 dcr9 pmr9 anr9 cdr9 ctr9), slr9⟩) (cr9 : PySem.W.codeIn K cdr9 "Rests.sum_below" = true) (kr9 : PySem.W.keepIn K (.ref fr9) = true)
    (d_g : PySem.W.nsIn K mainGlobals "Divider" = some (some (.ref CD)))
    (d_pg : PySem.W.plainGet K CD Str.empty = true)
    (d_hd : PySem.W.hasDictIn K CD = true)
    (d_po : PySem.W.plainOver K CD = true)
    (d_sa : PySem.W.findIn K (.ref CD) "__setattr__" = some (some (.builtin "object.__setattr__")))
    (d_mk : PySem.W.makesIn K CD = true)
    (d_kc : PySem.W.keepIn K (.ref CD) = true)
    (d_nby : PySem.W.findIn K (.ref CD) "by" = some none)
    (d_nmultiplier : PySem.W.findIn K (.ref CD) "multiplier" = some none)
    (d_noffset : PySem.W.findIn K (.ref CD) "offset" = some none)
    (d_nshift : PySem.W.findIn K (.ref CD) "shift" = some none)
    (r_g : PySem.W.nsIn K mainGlobals "Rests" = some (some (.ref CR)))
    (r_pg : PySem.W.plainGet K CR Str.empty = true)
    (r_hd : PySem.W.hasDictIn K CR = true)
    (r_po : PySem.W.plainOver K CR = true)
    (r_sa : PySem.W.findIn K (.ref CR) "__setattr__" = some (some (.builtin "object.__setattr__")))
    (r_mk : PySem.W.makesIn K CR = true)
    (r_kc : PySem.W.keepIn K (.ref CR) = true)
    (r_nby : PySem.W.findIn K (.ref CR) "by" = some none)
    (r_ntimes : PySem.W.findIn K (.ref CR) "times" = some none)
    (r_noffset : PySem.W.findIn K (.ref CR) "offset" = some none)
    (r_nwhole : PySem.W.findIn K (.ref CR) "whole" = some none)
    (r_ngain : PySem.W.findIn K (.ref CR) "gain" = some none)
    (aiN : PySem.W.nsIn K mainGlobals "MOST_NUMBER" = some (some (.int 1000000000000000000000000000000000000000000000000000000000000 tiN)))
    (aiS : PySem.W.nsIn K mainGlobals "MOST_SHIFT" = some (some (.int 400 tiS)))
    (z0 : PySem.W.nsIn K mainGlobals "isinstance" = some none)
    (z1 : PySem.W.nsIn K mainGlobals "int" = some none)
    (z2 : PySem.W.nsIn K mainGlobals "bool" = some none)
    (z3 : PySem.W.nsIn K mainGlobals "min" = some none)
    (z4 : PySem.W.nsIn K mainGlobals "max" = some none)
    (z5 : PySem.W.nsIn K mainGlobals "divmod" = some none)
    (z6 : PySem.W.nsIn K mainGlobals "len" = some none)
    (z7 : PySem.W.nsIn K mainGlobals "list" = some none)
    (z8 : PySem.W.nsIn K mainGlobals "range" = some none)
    (z9 : PySem.W.nsIn K mainGlobals "abs" = some none)
    (e_a : PySem.W.nsIn K mainGlobals "BadNumber" = some (some (.ref CB)))
    (e_xL : K.lookup CB = some (excClassObj nm qq CB N bs bm true sn sub ab col dd k0 k1 k2 k3 k5 "ValueError.__new__"))
    (e_hbm : PySem.HandSPX.refsVE bm = true)
    (e_sa : PySem.W.findIn K (.ref CB) "__setattr__" = some (some (.builtin "object.__setattr__")))
    (e_iC : PySem.W.findIn K (.ref CB) "__init__" = some (some (.ref fI)))
    (e_tI : PySem.W.typeIn K (.ref fI) = some (.type "function"))
    (e_kC : PySem.W.keepIn K (.ref CB) = true)
    (e_exC : PySem.W.subIn K (.ref CB) (.type "BaseException") = some true)
    (e_veC : PySem.W.subIn K (.ref CB) (.type "ValueError") = some true)
    (e_meC : PySem.W.mroIn K CB (.ref CB) = some true)
    (e_tyC : PySem.W.typeIn K (.ref CB) = some (.type "type"))
    (e_sup : PySem.W.ks_superIn K CB CB "__init__" = some (some (.builtin "ValueError.__init__")))
    (e_opq : PySem.W.nsIn K cStatics "thirdparty.any" = some none)
    (e_gS : PySem.W.nsIn K mainGlobals "super" = some none)
    (e_fn : K.lookup fI = some ⟨ocE, odE, .func (PySem.W.ksFn "__init__" "BadNumber.__init__" (defArgs sBadNI) (defBody sBadNI) (defScope sBadNI) .none kVE docE pmE anE (.ref cda) ctE cc), oslE⟩)
    (e_cell : K.lookup cc = some ⟨cl, cld, .cell (some (.ref CB)), csl⟩)
    (e_code : K.lookup cda = some ⟨ccl, cdd, .fields vs, ccs⟩)
    (e_hvs : vs[2]? = some (.str file tf))
    (e_hfile : ((PP.main.file : Str) == file) = true)
    (e_rc : PySem.W.codeIn K (.ref cda) "BadNumber.__init__" = true)
    (e_n1 : PySem.W.findIn K (.ref CB) "number" = some none)
    (e_ga : PySem.W.findIn K (.ref CB) "__getattribute__" = some (some (.builtin "BaseException.__getattribute__")))
    (e_gg : PySem.W.findIn K (.ref CB) "__getattr__" = some none)
    (e_hd : PySem.W.hasDictIn K CB = true)
    (e_xm : PySem.W.exmOne K (.ref CB) (.ref CB) = some true)
    (q_ha : PySem.W.findIn K (.ref CD) "__class__" = some (some (.builtin "object.__class__")))
    (q_hn : PySem.W.specialIn K (.builtin "object.__class__") "__get__" = some (some (.builtin "getset_descriptor.__get__")))
    (q_ht : PySem.W.takesIn K (.builtin "object.__class__") = some true)
    (q_hm : PySem.W.mroIn K CD (.type "object") = some true)
    (q_k1 : PySem.W.kitOne K (.ref CD) (.ref CD) = some true)
    (q_k2 : PySem.W.kitOne K (.type "int") (.ref CD) = some false)
    (x_n : PySem.W.kitOne K (.type "NoneType") (.type "int") = some false)
    (x_s : PySem.W.kitOne K (.type "str") (.type "int") = some false)
    (x_t : PySem.W.kitOne K (.type "tuple") (.type "int") = some false)
    (x_l : PySem.W.kitOne K (.type "list") (.type "int") = some false)
    (x_b : PySem.W.kitOne K (.type "bool") (.type "int") = some true)
    (x_bb : PySem.W.kitOne K (.type "bool") (.type "bool") = some true)
    (n_ne : PySem.W.findIn K (.ref CD) "__ne__" = some (some (.builtin "object.__ne__")))
    (n_ob : PySem.W.subIn K (.ref CD) (.type "object") = some true)
    (n_nf : PySem.W.notFirst K CD (.type "int") = true)
    (t_lc : K.lookup cq28 = some ⟨e28, dd28, .fields vs28, sm28⟩)
    (t_v : vs28[11]? = some (.ref P28))
    (t_h : PySem.W.codeHdIn K cq28 P28 = true)
    (t_n : K.lookup P28 = none)
    (t_t : h.get? P28 = some (PySem.W.tabObj #[])) :
    ∃ (fd : FuncData) (cs : List (Addr × Addr)) (sp : Sp), (∀ p ∈ cs, h.get? p.2 = some { cls := .none, data := .fields #[] }) ∧ (∀ p ∈ cs, K.lookup p.2 = none) ∧ (∀ p ∈ cs, PySem.W.CodeHd h p.1 p.2) ∧ (∀ (s : Shared) (u : Value), BindsTo s fd ⟨[u], []⟩ [("_law_script", u)]) ∧
      (∀ (H : Hp) (a : Addr) (ns : List Int), ns.length ≤ 63 → (∀ z ∈ ns, Builtin.Int.intBits z ≤ 1048576) → (∀ p ∈ cs, H p.2 = some (.tbl #[])) → SqL K H a (ns.map V.int) → sp [.ref a] H (fun v _ => v = .bl true) fun _ _ _ => False) ∧
      ∀ base : Heap, K.In base → base.Ns mainGlobals mg → (∀ p ∈ cs, TabB base mg p.1 p.2) → FnOk PP w K mg base CX0 10 fa fd ["_law_script"] sp := by
  have e := hfa.symm.trans (PySem.W.mg_of X G a32)
  cases e
  have F4 := fun_mk (st := top 4) l4 c4 k4
  have g4 := PySem.W.mg_of X G a4
  have b4 := F4.binds (ps := ["value"]) fun _ _ _ _ _ _ us hl => match us, hl with | [_], _ => rfl
  have F6 := fun_mk (st := top 6) l6 c6 k6
  have g6 := PySem.W.mg_of X G a6
  have b6 := F6.binds (ps := ["value", "least", "most"]) fun _ _ _ _ _ _ us hl => match us, hl with | [_, _, _], _ => rfl
  have F10 := fun_mk (st := top 10) l10 c10 k10
  have g10 := PySem.W.mg_of X G a10
  have b10 := F10.binds (ps := ["number", "least", "most"]) fun _ _ _ _ _ _ us hl => match us, hl with | [_, _, _], _ => rfl
  have F11 := fun_mk (st := top 11) l11 c11 k11
  have g11 := PySem.W.mg_of X G a11
  have b11 := F11.binds (ps := ["number", "by"]) fun _ _ _ _ _ _ us hl => match us, hl with | [_, _], _ => rfl
  have F14 := fun_mk (st := top 14) l14 c14 k14
  have g14 := PySem.W.mg_of X G a14
  have b14 := F14.binds (ps := ["many", "divisor", "factor", "added"]) fun _ _ _ _ _ _ us hl => match us, hl with | [_, _, _, _], _ => rfl
  have F15 := fun_mk (st := top 15) l15 c15 k15
  have g15 := PySem.W.mg_of X G a15
  have b15 := F15.binds (ps := ["divider", "x"]) fun _ _ _ _ _ _ us hl => match us, hl with | [_, _], _ => rfl
  have F16 := fun_mk (st := top 16) l16 c16 k16
  have g16 := PySem.W.mg_of X G a16
  have b16 := F16.binds (ps := ["divider", "x"]) fun _ _ _ _ _ _ us hl => match us, hl with | [_, _], _ => rfl
  have F17 := fun_mk (st := top 17) l17 c17 k17
  have g17 := PySem.W.mg_of X G a17
  have b17 := F17.binds (ps := ["divider", "x"]) fun _ _ _ _ _ _ us hl => match us, hl with | [_, _], _ => rfl
  have F18 := fun_mk (st := top 18) l18 c18 k18
  have g18 := PySem.W.mg_of X G a18
  have b18 := F18.binds (ps := ["divider", "x"]) fun _ _ _ _ _ _ us hl => match us, hl with | [_, _], _ => rfl
  have F19 := fun_mk (st := top 19) l19 c19 k19
  have g19 := PySem.W.mg_of X G a19
  have b19 := F19.binds (ps := ["by", "top", "shift"]) fun _ _ _ _ _ _ us hl => match us, hl with | [_, _, _], _ => rfl
  have F20 := fun_mk (st := top 20) l20 c20 k20
  have g20 := PySem.W.mg_of X G a20
  have b20 := F20.binds (ps := ["by", "top", "shift"]) fun _ _ _ _ _ _ us hl => match us, hl with | [_, _, _], _ => rfl
  have F21 := fun_mk (st := top 21) l21 c21 k21
  have g21 := PySem.W.mg_of X G a21
  have b21 := F21.binds (ps := ["by", "top"]) fun _ _ _ _ _ _ us hl => match us, hl with | [_, _], _ => rfl
  have F23 := fun_mk (st := top 23) l23 c23 k23
  have g23 := PySem.W.mg_of X G a23
  have b23 := F23.binds (ps := ["_law_script"]) fun _ _ _ _ _ _ us hl => match us, hl with | [_], _ => rfl
  have F24 := fun_mk (st := top 24) l24 c24 k24
  have g24 := PySem.W.mg_of X G a24
  have b24 := F24.binds (ps := ["_law_bag_here", "_law_limit"]) fun _ _ _ _ _ _ us hl => match us, hl with | [_, _], _ => rfl
  have F25 := fun_mk (st := top 25) l25 c25 k25
  have g25 := PySem.W.mg_of X G a25
  have b25 := F25.binds (ps := ["_law_bag_here", "_law_pool"]) fun _ _ _ _ _ _ us hl => match us, hl with | [_, _], _ => rfl
  have F26 := fun_mk (st := top 26) l26 c26 k26
  have g26 := PySem.W.mg_of X G a26
  have b26 := F26.binds (ps := ["_law_bits"]) fun _ _ _ _ _ _ us hl => match us, hl with | [_], _ => rfl
  have F27 := fun_mk (st := top 27) l27 c27 k27
  have g27 := PySem.W.mg_of X G a27
  have b27 := F27.binds (ps := ["_law_action"]) fun _ _ _ _ _ _ us hl => match us, hl with | [_], _ => rfl
  have F28 := fun_mk (st := top 28) l28 c28 k28
  have g28 := PySem.W.mg_of X G a28
  have b28 := F28.binds (ps := ["_law_bag_here", "_law_cutter"]) fun _ _ _ _ _ _ us hl => match us, hl with | [_, _], _ => rfl
  have F29 := fun_mk (st := top 29) l29 c29 k29
  have g29 := PySem.W.mg_of X G a29
  have b29 := F29.binds (ps := ["_law_part", "_law_last", "_law_move"]) fun _ _ _ _ _ _ us hl => match us, hl with | [_, _, _], _ => rfl
  have F30 := fun_mk (st := top 30) l30 c30 k30
  have g30 := PySem.W.mg_of X G a30
  have b30 := F30.binds (ps := ["_law_bag_here", "_law_cutter", "_law_last"]) fun _ _ _ _ _ _ us hl => match us, hl with | [_, _, _], _ => rfl
  have F31 := fun_mk (st := top 31) l31 c31 k31
  have g31 := PySem.W.mg_of X G a31
  have b31 := F31.binds (ps := ["_law_bag_here"]) fun _ _ _ _ _ _ us hl => match us, hl with | [_], _ => rfl
  have F32 := fun_mk (st := top 32) l32 c32 k32
  have g32 := PySem.W.mg_of X G a32
  have Fd0 := fun_mk (st := inClass (top 12) 0) ld0 cd0 kd0
  have bd0 := Fd0.binds (ps := ["self", "by", "multiplier", "offset", "shift"]) fun _ _ _ _ _ _ us hl => match us, hl with | [_, _, _, _, _], _ => rfl
  have Fd1 := fun_mk (st := inClass (top 12) 1) ld1 cd1 kd1
  have bd1 := Fd1.binds (ps := ["self", "other"]) fun _ _ _ _ _ _ us hl => match us, hl with | [_, _], _ => rfl
  have md1 : Meth K CD "__eq__" fd1 := ⟨ad1, jd1, kd1⟩
  have Fd2 := fun_mk (st := inClass (top 12) 2) ld2 cd2 kd2
  have bd2 := Fd2.binds (ps := ["self", "x"]) fun _ _ _ _ _ _ us hl => match us, hl with | [_, _], _ => rfl
  have md2 : Meth K CD "quotient" fd2 := ⟨ad2, jd2, kd2⟩
  have Fr0 := fun_mk (st := inClass (top 13) 0) lr0 cr0 kr0
  have br0 := Fr0.binds (ps := ["self", "divider"]) fun _ _ _ _ _ _ us hl => match us, hl with | [_, _], _ => rfl
  have Fr1 := fun_mk (st := inClass (top 13) 1) lr1 cr1 kr1
  have br1 := Fr1.binds (ps := ["self", "product"]) fun _ _ _ _ _ _ us hl => match us, hl with | [_, _], _ => rfl
  have mr1 : Meth K CR "rests_below" fr1 := ⟨ar1, jr1, kr1⟩
  have Fr2 := fun_mk (st := inClass (top 13) 2) lr2 cr2 kr2
  have br2 := Fr2.binds (ps := ["self", "q"]) fun _ _ _ _ _ _ us hl => match us, hl with | [_, _], _ => rfl
  have mr2 : Meth K CR "few" fr2 := ⟨ar2, jr2, kr2⟩
  have Fr3 := fun_mk (st := inClass (top 13) 3) lr3 cr3 kr3
  have br3 := Fr3.binds (ps := ["self", "q"]) fun _ _ _ _ _ _ us hl => match us, hl with | [_, _], _ => rfl
  have mr3 : Meth K CR "fit" fr3 := ⟨ar3, jr3, kr3⟩
  have Fr4 := fun_mk (st := inClass (top 13) 4) lr4 cr4 kr4
  have br4 := Fr4.binds (ps := ["self", "q", "r"]) fun _ _ _ _ _ _ us hl => match us, hl with | [_, _, _], _ => rfl
  have mr4 : Meth K CR "wrong_from" fr4 := ⟨ar4, jr4, kr4⟩
  have Fr5 := fun_mk (st := inClass (top 13) 5) lr5 cr5 kr5
  have br5 := Fr5.binds (ps := ["self", "q", "r"]) fun _ _ _ _ _ _ us hl => match us, hl with | [_, _, _], _ => rfl
  have mr5 : Meth K CR "right_from" fr5 := ⟨ar5, jr5, kr5⟩
  have Fr6 := fun_mk (st := inClass (top 13) 6) lr6 cr6 kr6
  have br6 := Fr6.binds (ps := ["self", "q"]) fun _ _ _ _ _ _ us hl => match us, hl with | [_, _], _ => rfl
  have mr6 : Meth K CR "wrong_q" fr6 := ⟨ar6, jr6, kr6⟩
  have Fr7 := fun_mk (st := inClass (top 13) 7) lr7 cr7 kr7
  have br7 := Fr7.binds (ps := ["self", "q"]) fun _ _ _ _ _ _ us hl => match us, hl with | [_, _], _ => rfl
  have mr7 : Meth K CR "right_q" fr7 := ⟨ar7, jr7, kr7⟩
  have Fr8 := fun_mk (st := inClass (top 13) 8) lr8 cr8 kr8
  have br8 := Fr8.binds (ps := ["self", "x"]) fun _ _ _ _ _ _ us hl => match us, hl with | [_, _], _ => rfl
  have mr8 : Meth K CR "count_right" fr8 := ⟨ar8, jr8, kr8⟩
  have Fr9 := fun_mk (st := inClass (top 13) 9) lr9 cr9 kr9
  have br9 := Fr9.binds (ps := ["self", "start", "many"]) fun _ _ _ _ _ _ us hl => match us, hl with | [_, _, _], _ => rfl
  have mr9 : Meth K CR "sum_below" fr9 := ⟨ar9, jr9, kr9⟩
  have kb15 := F15.kbn (ps := ["divider", "x"]) 0 ["x", "divider"] (fun {α : Type} => @g2r α) rel2r fun _ _ _ _ _ _ us ws l1 l2 => match us, ws, l1, l2 with | [], [_, _], _, _ => rfl
  have kb16 := F16.kbn (ps := ["divider", "x"]) 0 ["x", "divider"] (fun {α : Type} => @g2r α) rel2r fun _ _ _ _ _ _ us ws l1 l2 => match us, ws, l1, l2 with | [], [_, _], _, _ => rfl
  have kb17 := F17.kbn (ps := ["divider", "x"]) 0 ["x", "divider"] (fun {α : Type} => @g2r α) rel2r fun _ _ _ _ _ _ us ws l1 l2 => match us, ws, l1, l2 with | [], [_, _], _, _ => rfl
  have kb18 := F18.kbn (ps := ["divider", "x"]) 0 ["x", "divider"] (fun {α : Type} => @g2r α) rel2r fun _ _ _ _ _ _ us ws l1 l2 => match us, ws, l1, l2 with | [], [_, _], _, _ => rfl
  have kb21 := F21.kbn (ps := ["by", "top"]) 0 ["top", "by"] (fun {α : Type} => @g2r α) rel2r fun _ _ _ _ _ _ us ws l1 l2 => match us, ws, l1, l2 with | [], [_, _], _, _ => rfl
  have kb20 := F20.kbn (ps := ["by", "top", "shift"]) 0 ["shift", "top", "by"] (fun {α : Type} => @g3r α) rel3r fun _ _ _ _ _ _ us ws l1 l2 => match us, ws, l1, l2 with | [], [_, _, _], _, _ => rfl
  have kbd0 := Fd0.kbn (ps := ["self", "by", "multiplier", "offset", "shift"]) 1 ["shift", "offset", "by", "multiplier"] (fun {α : Type} => @g5i α) rel5i fun _ _ _ _ _ _ us ws l1 l2 => match us, ws, l1, l2 with | [_], [_, _, _, _], _, _ => rfl
  have kbd2 := Fd2.kbn (ps := ["self", "x"]) 1 ["x"] (fun {α : Type} => @g1q α) rel1q fun _ _ _ _ _ _ us ws l1 l2 => match us, ws, l1, l2 with | [_], [_], _, _ => rfl
  have T : TxtI mg := ⟨(PySem.W.mg_none_of X G z0), (PySem.W.mg_none_of X G z1), (PySem.W.mg_none_of X G z2), (PySem.W.mg_none_of X G z3), (PySem.W.mg_none_of X G z4), (PySem.W.mg_none_of X G z5), (PySem.W.mg_none_of X G z6), (PySem.W.mg_none_of X G z7), (PySem.W.mg_none_of X G z8), ⟨_, PySem.W.mg_of X G aiN⟩, ⟨_, PySem.W.mg_of X G aiS⟩⟩
  have TB : TxtB mg := ⟨(PySem.W.mg_none_of X G z6), (PySem.W.mg_none_of X G z1), (PySem.W.mg_none_of X G z7), (PySem.W.mg_none_of X G z8)⟩
  have TA' : TxtA mg := ⟨(PySem.W.mg_none_of X G z9)⟩
  have TD : TxtD K mg CD := ⟨⟨d_pg, d_hd, d_po, d_sa⟩, d_nby, d_nmultiplier, d_noffset, d_nshift, PySem.W.mg_of X G d_g⟩
  have TS : TxtS K mg CR := ⟨⟨r_pg, r_hd, r_po, r_sa⟩, r_nby, r_ntimes, r_noffset, r_nwhole, r_ngain, PySem.W.mg_of X G r_g⟩
  have TE : TxtE PP K mg CB fI cc cda := ⟨PySem.W.mg_of X G e_a, ⟨⟨_, _, _, _, _, _, _, _, _, _, _, _, _, _, _, e_xL, e_hbm⟩, e_sa, e_iC, e_tI, e_kC, e_exC, e_veC, e_meC, e_tyC, e_sup, e_opq, e_gS, ⟨_, _, _, e_cell⟩, ⟨_, _, _, _, _, _, e_code, e_hvs, e_hfile⟩, e_rc, ⟨_, _, _, _, _, _, _, _, e_fn⟩⟩, eb_num, fun g hg => by
    rw [List.mem_singleton.mp hg]
    exact e_n1⟩
  have TQ : TxtQ K mg CD := ⟨q_ha, q_hn, q_ht, q_hm, q_k1, q_k2⟩
  have TK : TxtK K := ⟨x_n, x_s, x_t, x_l, x_b, x_bb⟩
  have XB : XfC K CB := ⟨e_ga, e_gg, e_exC, e_hd⟩
  have MD : Mk K CD fd0 := ⟨d_mk, ad0, jd0, d_kc⟩
  have MR : Mk K CR fr0 := ⟨r_mk, ar0, jr0, r_kc⟩
  have one : ∀ {A : Addr × Addr → Prop}, A (cq28, P28) → ∀ p ∈ [(cq28, P28)], A p := fun ha p hp => by rw [List.mem_singleton.mp hp]; exact ha
  refine ⟨PySem.W.fnOf "law" "law" (defArgs (top 32)) (defBody (top 32)) (defScope (top 32)) .none kV32 dc32 pm32 an32 cd32 ct32, [(cq28, P28)], spLaw K P28, one t_t, one t_n, one (PySem.W.codeHd_of_K X t_h), fun s v => .of_eq rfl,
    fun H a ns hl _ hT hS => ⟨a, ns, rfl, hS, hl, fun p hp => by rw [List.mem_singleton.mp hp]; exact TabS.nil (hT _ (List.mem_singleton.mpr rfl)), fun _ => rfl⟩, fun base _ _ hTB => ?_⟩
  have TT : TabB base mg cq28 P28 := hTB _ (List.mem_singleton.mpr rfl)
  have O4 := ok_whole (P := PP) (w := w) (base := base) F4 T
  have O6 := ok_betw F6 O4 k4 b4 g4
  have O10 := ok_check F10 O6 k6 b6 g6
  have N4 := ok_wholeN (P := PP) (w := w) (base := base) F4 T
  have N6 := ok_betwN F6 N4 k4 b4 g4
  have N10 := ok_checkN F10 TE O6 N6 k6 b6 g6
  have O11 := ok_up (P := PP) (w := w) (mg := mg) (base := base) F11
  have O14 := ok_floor (P := PP) (w := w) (mg := mg) (base := base) F14
  have Od0 := ok_dinit Fd0 T TD O10 k10 b10 g10
  have Od1 := ok_deq (P := PP) (w := w) (base := base) Fd1 T TD TQ
  have Od2 := ok_quot Fd2 T TD O10 k10 b10 g10
  have Nd0 := ok_dinitN Fd0 T N10 k10 b10 g10
  have Nd2 := ok_quotN Fd2 T N10 k10 b10 g10
  have Or0 := ok_rinit (P := PP) (w := w) (base := base) Fr0 TD TS
  have Or1 := ok_rb Fr1 T TS O11 k11 b11 g11
  have Or2 := ok_few Fr2 TS Or1 mr1 br1
  have Or3 := ok_fit Fr3 TS Or1 mr1 br1
  have Or4 := ok_wf Fr4 T TS Or2 mr2 br2 Or3 mr3 br3
  have Or5 := ok_rf Fr5 T TS Or2 mr2 br2 Or3 mr3 br3
  have Or6 := ok_wq Fr6 T TS Or4 mr4 br4 O11 k11 b11 g11
  have Or7 := ok_rq Fr7 T TS Or5 mr5 br5
  have Or9 := ok_sb Fr9 T TS Or1 mr1 br1 O11 k11 b11 g11 O14 k14 b14 g14
  have Or8 := ok_cr Fr8 T TS Or2 mr2 br2 Or3 mr3 br3 Or9 mr9 br9
  have O15 := ok_dr F15 TD Od2 md2 bd2
  have O18 := ok_dm F18 T TD TS O10 k10 b10 g10 MR Or0 br0 Or8 mr8 br8
  have O16 := ok_dw F16 T TD TS O10 k10 b10 g10 MR Or0 br0 Or4 mr4 br4 Or6 mr6 br6
  have O17 := ok_dn F17 T TD TS O10 k10 b10 g10 MR Or0 br0 Or5 mr5 br5 Or7 mr7 br7
  have O19 := ok_tb F19 T O11 k11 b11 g11
  have O20 := ok_tf F20 T O10 k10 b10 g10 O19 k19 b19 g19
  have O21 := ok_ls F21 T O10 k10 b10 g10 O19 k19 b19 g19
  have N15 := ok_drN F15 TD Nd2 md2 bd2
  have N16 := ok_dwN F16 T N10 k10 b10 g10
  have N17 := ok_dnN F17 T N10 k10 b10 g10
  have N18 := ok_dmN F18 T N10 k10 b10 g10
  have N20 := ok_tfN F20 T N10 k10 b10 g10
  have N21 := ok_lsN F21 T N10 k10 b10 g10
  have O23 := ok_bag (P := PP) (w := w) (base := base) F23 TB
  have O24 := ok_draw (P := PP) (w := w) (K := K) (base := base) F24 TB
  have O25 := ok_pick F25 TB O24 k24 b24 g24
  have O26 := ok_power (P := PP) (w := w) (base := base) F26 TB
  have O28 := ok_refused F28 TD O25 k25 b25 g25 N15 k15 b15 g15 N16 k16 b16 g16 N17 k17 b17 g17 N18 k18 b18 g18 N21 k21 b21 g21 N20 O20 k20 b20 g20 MD Nd0 Od0 bd0 Nd2 Od2 md2 bd2 F27 b27 g27 (PySem.W.mg_of X G e_a) e_xm XB e_n1 TK TT rfl
  have O29 := ok_win F29 TB O26 k26 b26 g26
  have O30 := ok_allr F30 TB TD O24 k24 b24 g24 O26 k26 b26 g26 O15 k15 b15 g15 O16 k16 b16 g16 O17 k17 b17 g17 O18 k18 b18 g18 Od2 md2 bd2
  have O31 := ok_names F31 TD O24 k24 b24 g24 O26 k26 b26 g26 O15 k15 b15 g15 kb15 O16 k16 b16 g16 kb16 O17 k17 b17 g17 kb17 O18 k18 b18 g18 kb18 O21 k21 b21 g21 kb21 O20 k20 b20 g20 kb20 MD Od0 bd0 kbd0 Od2 md2 kbd2 Od1 bd1 ad1 jd1
  exact ok_law F32 T TA' TD O23 k23 b23 g23 O24 k24 b24 g24 O25 k25 b25 g25 O26 k26 b26 g26 O30 k30 b30 g30 O28 k28 b28 g28 O31 k31 b31 g31 O29 k29 b29 g29 O20 k20 b20 g20 O21 k21 b21 g21 MD Od0 bd0 Od1 bd1 ad1 jd1 n_ne n_ob n_nf
end
end KD

set_option Elab.async false
set_option linter.all false
set_option maxRecDepth 100000
open PySem PySem.W PyProof.Rows
set_option maxRecDepth 100000 in
set_option maxHeartbeats 0 in
theorem PySem.Challenge.cw_tagblocks_k61_whole_small_dividers_holds : PySem.Challenge.rw_tagblocks_k61_whole_small_dividers.Holds := by
  w_on; o_law; k_head; (case hw => w_witness2)
  k_fill
  refine LamX.walk_ofTs (l := PySem.Challenge.rw_tagblocks_k61_whole_small_dividers) (n := 63) (k := 10) (x := "_law_script") (CX := fun _ => L2.CX0) rfl (by decide) rfl ⟨rfl, by decide, by decide⟩ (fun w h Y => PySem.W.km_in_of Y) ?F (fun _ _ _ _ _ z => z)
  case F =>
    intro w mg fa h Y KX G hmg
    have tb := PySem.W.km_tabs_of Y
    refine' KD.all_mk KX G hmg ?a4 ?l4 ?c4 ?k4 ?a6 ?l6 ?c6 ?k6 ?a10 ?l10 ?c10 ?k10 ?a11 ?l11 ?c11 ?k11 ?a14 ?l14 ?c14 ?k14 ?a15 ?l15 ?c15 ?k15 ?a16 ?l16 ?c16 ?k16 ?a17 ?l17 ?c17 ?k17 ?a18 ?l18 ?c18 ?k18 ?a19 ?l19 ?c19 ?k19 ?a20 ?l20 ?c20 ?k20 ?a21 ?l21 ?c21 ?k21 ?a23 ?l23 ?c23 ?k23 ?a24 ?l24 ?c24 ?k24 ?a25 ?l25 ?c25 ?k25 ?a26 ?l26 ?c26 ?k26 ?a27 ?l27 ?c27 ?k27 ?a28 ?l28 ?c28 ?k28 ?a29 ?l29 ?c29 ?k29 ?a30 ?l30 ?c30 ?k30 ?a31 ?l31 ?c31 ?k31 ?a32 ?l32 ?c32 ?k32 ?ad0 ?jd0 ?ld0 ?cd0 ?kd0 ?ad1 ?jd1 ?ld1 ?cd1 ?kd1 ?ad2 ?jd2 ?ld2 ?cd2 ?kd2 ?ar0 ?jr0 ?lr0 ?cr0 ?kr0 ?ar1 ?jr1 ?lr1 ?cr1 ?kr1 ?ar2 ?jr2 ?lr2 ?cr2 ?kr2 ?ar3 ?jr3 ?lr3 ?cr3 ?kr3 ?ar4 ?jr4 ?lr4 ?cr4 ?kr4 ?ar5 ?jr5 ?lr5 ?cr5 ?kr5 ?ar6 ?jr6 ?lr6 ?cr6 ?kr6 ?ar7 ?jr7 ?lr7 ?cr7 ?kr7 ?ar8 ?jr8 ?lr8 ?cr8 ?kr8 ?ar9 ?jr9 ?lr9 ?cr9 ?kr9 ?d_g ?d_pg ?d_hd ?d_po ?d_sa ?d_mk ?d_kc ?d_nby ?d_nmultiplier ?d_noffset ?d_nshift ?r_g ?r_pg ?r_hd ?r_po ?r_sa ?r_mk ?r_kc ?r_nby ?r_ntimes ?r_noffset ?r_nwhole ?r_ngain ?aiN ?aiS ?z0 ?z1 ?z2 ?z3 ?z4 ?z5 ?z6 ?z7 ?z8 ?z9 ?e_a ?e_xL ?e_hbm ?e_sa ?e_iC ?e_tI ?e_kC ?e_exC ?e_veC ?e_meC ?e_tyC ?e_sup ?e_opq ?e_gS ?e_fn ?e_cell ?e_code ?e_hvs ?e_hfile ?e_rc ?e_n1 ?e_ga ?e_gg ?e_hd ?e_xm ?q_ha ?q_hn ?q_ht ?q_hm ?q_k1 ?q_k2 ?x_n ?x_s ?x_t ?x_l ?x_b ?x_bb ?n_ne ?n_ob ?n_nf ?t_lc ?t_v ?t_h ?t_n ?t_t
    (case d_g => k_is); (case r_g => k_is); (case e_a => k_is); (case a4 => k_is); (case l4 => k_is); (case c4 => k_is)
    (case k4 => k_is); (case a6 => k_is); (case l6 => k_is); (case c6 => k_is); (case k6 => k_is); (case a10 => k_is)
    (case l10 => k_is); (case c10 => k_is); (case k10 => k_is); (case a11 => k_is); (case l11 => k_is); (case c11 => k_is)
    (case k11 => k_is); (case a14 => k_is); (case l14 => k_is); (case c14 => k_is); (case k14 => k_is); (case a15 => k_is)
    (case l15 => k_is); (case c15 => k_is); (case k15 => k_is); (case a16 => k_is); (case l16 => k_is); (case c16 => k_is)
    (case k16 => k_is); (case a17 => k_is); (case l17 => k_is); (case c17 => k_is); (case k17 => k_is); (case a18 => k_is)
    (case l18 => k_is); (case c18 => k_is); (case k18 => k_is); (case a19 => k_is); (case l19 => k_is); (case c19 => k_is)
    (case k19 => k_is); (case a20 => k_is); (case l20 => k_is); (case c20 => k_is); (case k20 => k_is); (case a21 => k_is)
    (case l21 => k_is); (case c21 => k_is); (case k21 => k_is); (case a23 => k_is); (case l23 => k_is); (case c23 => k_is)
    (case k23 => k_is); (case a24 => k_is); (case l24 => k_is); (case c24 => k_is); (case k24 => k_is); (case a25 => k_is)
    (case l25 => k_is); (case c25 => k_is); (case k25 => k_is); (case a26 => k_is); (case l26 => k_is); (case c26 => k_is)
    (case k26 => k_is); (case a27 => k_is); (case l27 => k_is); (case c27 => k_is); (case k27 => k_is); (case a28 => k_is)
    (case l28 => k_is); (case c28 => k_is); (case k28 => k_is); (case a29 => k_is); (case l29 => k_is); (case c29 => k_is)
    (case k29 => k_is); (case a30 => k_is); (case l30 => k_is); (case c30 => k_is); (case k30 => k_is); (case a31 => k_is)
    (case l31 => k_is); (case c31 => k_is); (case k31 => k_is); (case a32 => k_is); (case l32 => k_is); (case c32 => k_is)
    (case k32 => k_is); (case ad0 => k_is); (case jd0 => k_is); (case ld0 => k_is); (case cd0 => k_is); (case kd0 => k_is)
    (case ad1 => k_is); (case jd1 => k_is); (case ld1 => k_is); (case cd1 => k_is); (case kd1 => k_is); (case ad2 => k_is)
    (case jd2 => k_is); (case ld2 => k_is); (case cd2 => k_is); (case kd2 => k_is); (case ar0 => k_is); (case jr0 => k_is)
    (case lr0 => k_is); (case cr0 => k_is); (case kr0 => k_is); (case ar1 => k_is); (case jr1 => k_is); (case lr1 => k_is)
    (case cr1 => k_is); (case kr1 => k_is); (case ar2 => k_is); (case jr2 => k_is); (case lr2 => k_is); (case cr2 => k_is)
    (case kr2 => k_is); (case ar3 => k_is); (case jr3 => k_is); (case lr3 => k_is); (case cr3 => k_is); (case kr3 => k_is)
    (case ar4 => k_is); (case jr4 => k_is); (case lr4 => k_is); (case cr4 => k_is); (case kr4 => k_is); (case ar5 => k_is)
    (case jr5 => k_is); (case lr5 => k_is); (case cr5 => k_is); (case kr5 => k_is); (case ar6 => k_is); (case jr6 => k_is)
    (case lr6 => k_is); (case cr6 => k_is); (case kr6 => k_is); (case ar7 => k_is); (case jr7 => k_is); (case lr7 => k_is)
    (case cr7 => k_is); (case kr7 => k_is); (case ar8 => k_is); (case jr8 => k_is); (case lr8 => k_is); (case cr8 => k_is)
    (case kr8 => k_is); (case ar9 => k_is); (case jr9 => k_is); (case lr9 => k_is); (case cr9 => k_is); (case kr9 => k_is)
    (case d_pg => k_is); (case d_hd => k_is); (case d_po => k_is); (case d_sa => k_is); (case d_mk => k_is); (case d_kc => k_is)
    (case d_nby => k_is); (case d_nmultiplier => k_is); (case d_noffset => k_is); (case d_nshift => k_is); (case r_pg => k_is); (case r_hd => k_is)
    (case r_po => k_is); (case r_sa => k_is); (case r_mk => k_is); (case r_kc => k_is); (case r_nby => k_is); (case r_ntimes => k_is)
    (case r_noffset => k_is); (case r_nwhole => k_is); (case r_ngain => k_is); (case aiN => k_is); (case aiS => k_is); (case z0 => k_is)
    (case z1 => k_is); (case z2 => k_is); (case z3 => k_is); (case z4 => k_is); (case z5 => k_is); (case z6 => k_is)
    (case z7 => k_is); (case z8 => k_is); (case z9 => k_is); (case e_xL => k_is); (case e_hbm => decide +kernel); (case e_sa => k_is)
    (case e_iC => k_is); (case e_tI => k_is); (case e_kC => k_is); (case e_exC => k_is); (case e_veC => k_is); (case e_meC => k_is)
    (case e_tyC => k_is); (case e_sup => ks_is); (case e_opq => k_is); (case e_gS => k_is); (case e_fn => k_is); (case e_cell => k_is)
    (case e_code => k_is); (case e_hvs => rfl); (case e_hfile => decide +kernel); (case e_rc => k_is); (case e_n1 => k_is); (case e_ga => k_is)
    (case e_gg => k_is); (case e_hd => k_is); (case e_xm => kernel_rfl); (case q_ha => k_is); (case q_hn => first | k_is | kernel_rfl); (case q_ht => first | k_is | kernel_rfl)
    (case q_hm => first | k_is | kernel_rfl); (case q_k1 => kernel_rfl); (case q_k2 => kernel_rfl); (case x_n => kernel_rfl); (case x_s => kernel_rfl); (case x_t => kernel_rfl)
    (case x_l => kernel_rfl); (case x_b => kernel_rfl); (case x_bb => kernel_rfl); (case n_ne => k_is); (case n_ob => first | k_is | kernel_rfl); (case n_nf => first | k_is | kernel_rfl)
    (case t_lc => k_is); (case t_v => rfl); (case t_h => first | rfl | kernel_rfl); (case t_n => first | rfl | kernel_rfl); (case t_t => exact tb _ (by decide))
