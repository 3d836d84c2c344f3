/- A walk of the document's Next. -/
import Derived.Test.YtmoennlpendknaaRFind
namespace Go.Proofs.Ytmoennlpendknaa
open Go.RowKit

/-- What was read is what is gone. -/
theorem dec_rest (c : Nat → Nat) (y : List UInt8) : ∀ (k n v : Nat) (S : List Bool), (dec c y k n v S).2.2.1 = 0 → n < (dec c y k n v S).2.1 ∧ (dec c y k n v S).2.1 - n ≤ S.length ∧ (dec c y k n v S).2.2.2 = S.drop ((dec c y k n v S).2.1 - n)
  | 0, n, v, S, h => by simp [dec] at h
  | k + 1, n, v, [], h => by simp [dec] at h
  | k + 1, n, v, b :: S, h => by
    unfold dec at h ⊢
    by_cases hq : 2 * v + b.toNat < fst c n + c n
    · rw [if_pos hq]
      simp only
      refine ⟨by omega, by simp, ?_⟩
      rw [Nat.add_sub_cancel_left]
      rfl
    · rw [if_neg hq] at h ⊢
      obtain ⟨h1, h2, h3⟩ := dec_rest c y k (n + 1) _ S h
      refine ⟨by omega, by rw [List.length_cons]; omega, ?_⟩
      rw [h3, show (dec c y k (n + 1) (2 * v + b.toNat) S).2.1 - n = ((dec c y k (n + 1) (2 * v + b.toNat) S).2.1 - (n + 1)) + 1 by omega, List.drop_succ_cons]
theorem decode_rest (c : Nat → Nat) (y : List UInt8) (S : List Bool) (h : (decode c y S).2.2.1 = 0) : 1 ≤ (decode c y S).2.1 ∧ (decode c y S).2.1 ≤ S.length ∧ (decode c y S).2.2.2 = S.drop (decode c y S).2.1 := by
  obtain ⟨h1, h2, h3⟩ := dec_rest c y 16 0 0 S h
  exact ⟨h1, h2, h3⟩
theorem ret_three {a b d a' b' d' : Int} (h1 : a = a') (h2 : b = b') (h3 : d = d') : Ending.returned (.tuple #[.int .i64 a, .int .i64 b, .int .i64 d]) = .returned (.tuple #[.int .i64 a', .int .i64 b', .int .i64 d']) := by rw [h1, h2, h3]

set_option maxRecDepth 100000 in
set_option maxHeartbeats 4000000 in
theorem RNext_any (B g q : Nat) (c : Nat → Nat) (hc : ∀ i, c i < 256) (s : ByteArray) (hR : Right c s.data.toList) (p : Option Addr) (cap : Nat) (S : List Bool) (_hS : S.length ≤ 2000) (w : World) (hO : OwnC B (.slice (some ⟨g, 0, none⟩) s.size q) (codes c s.data.toList 16) w) (hV : View (.slice p S.length cap) S w) :
    Calls Try.prog 22 #[.slice (some ⟨g, 0, none⟩) s.size q, .slice p S.length cap] w fun e w' => e = .returned (.tuple #[.int .i64 (decode c s.data.toList S).1, .int .i64 (decode c s.data.toList S).2.1, .int .i64 (decode c s.data.toList S).2.2.1]) ∧ w = w' := by
  obtain ⟨R, hRR⟩ : ∃ R, R = decode c s.data.toList S := ⟨_, rfl⟩
  rw [← hRR]
  have HR := Lib.hid hRR
  have hs : s.size ≤ 256 := by have := hR.few; simpa using this
  have hs1 : 1 ≤ s.size := by have := hR.some; simpa using this
  obtain ⟨g', e, hcl⟩ := codes_cells rfl hO hR.sum (by omega)
  simp only [Option.some.injEq, Addr.mk.injEq, and_true] at e
  subst e
  have HCL := Lib.hid (hcl w hO)
  have HV := Lib.hid hV
  have HRR := Lib.hid hR
  have HCC := Lib.hid hc
  have HSUM : Hid (off c 16 = s.size) := by unfold Hid; rw [hR.sum]; simp
  clear hRR hO hV hR hc hcl
  go_enter Try.func22, Try.ntmps22
  go_wp2
  go_loop [7, 8] (fun x n => ∃ j v : Nat, j ≤ 16 ∧ n = .int .i64 ((j : Int) + 1) ∧ x = .int .i64 v ∧ v < 2 ^ j ∧ fst c j ≤ 2 * v ∧ dec c s.data.toList (16 - j) j v (S.drop j) = decode c s.data.toList S) (fun _ n => 17 - (intOf n).toNat)
  case atStart => exact ⟨0, 0, by omega, rfl, rfl, by decide, Nat.zero_le _, rfl⟩
  case round =>
    obtain ⟨j, v, hj, rfl, rfl, hv, hge, hd⟩ := hrel
    rw [← HR.out] at hd
    have hp : 2 ^ j ≤ 2 ^ 16 := Nat.pow_le_pow_right (by omega) hj
    have hv2 : v < 65536 := by omega
    have HVP := Lib.hid hv
    clear hv hp
    by_cases hlt : j < 16
    · have h16 : decide ((j : Int) + 1 ≤ 16) = true := decide_eq_true (by omega)
      have hcj := HCC.out j
      have hfj := fst_16 c HCC.out j hj
      have ho1 : off c (j + 1) ≤ s.size := by rw [← HSUM.out]; exact off_le c (by omega)
      rw [show off c (j + 1) = off c j + c j from rfl] at ho1
      have HF : Hid (fst c (j + 1) = 2 * (fst c j + c j)) := rfl
      rw [show 16 - j = (15 - j) + 1 by omega] at hd
      by_cases hjS : j < S.length
      · have hjS' : ¬ (S.length : Int) < (j : Int) + 1 := by omega
        rw [List.drop_eq_getElem_cons hjS] at hd
        unfold dec at hd
        obtain ⟨bb, o, rfl, hcell, _⟩ := HV.out.cell hjS
        have hb1 : S[j].toNat ≤ 1 := by cases S[j] <;> simp
        have hVI : (v : Int) * 2 + (S[j].toNat : Int) = ((2 * v + S[j].toNat : Nat) : Int) := by omega
        have hVF : fst c j ≤ 2 * v + S[j].toNat := by omega
        have hVl : 2 * v + S[j].toNat < 131072 := by omega
        have HVP2 : Hid (2 * v + S[j].toNat < 2 ^ (j + 1)) := by have := HVP.out; unfold Hid; rw [Nat.pow_succ]; omega
        generalize 2 * v + S[j].toNat = V at *
        generalize S[j].toNat = b at *
        by_cases hq : V < fst c j + c j
        · rw [if_pos hq] at hd
          have hidx : off c j + (V - fst c j) < s.size := by omega
          rw [getD_at s _ hidx] at hd
          obtain ⟨i, hi⟩ : ∃ i, i = off c j + (V - fst c j) := ⟨_, rfl⟩
          have his : i < s.size := by omega
          have hsi : s[off c j + (V - fst c j)].toNat = s[i].toNat := by congr 1; simp only [hi]
          have HR2 : Hid (R = (s[i].toNat, j + 1, 0, S.drop (j + 1))) := by unfold Hid; rw [← hsi]; exact hd.symm
          have HI := Lib.hid (fun a (ha : a < s.size) => code_iff HRR.out (j := a) (by simpa using ha) j V hVF)
          have HII := Lib.hid hi
          clear hd hidx hsi hi
          go_wp2
          go_loop [9] (fun k => ∃ a : Nat, a ≤ i ∧ k = .int .i64 a) (fun k => s.size - (intOf k).toNat)
          case atStart => exact ⟨0, Nat.zero_le _, rfl⟩
          case round =>
            obtain ⟨a, ha, rfl⟩ := hrel
            have has : a < s.size := by omega
            obtain ⟨y0, y1, y2⟩ := HCL.out a has
            have hiff := HI.out a has
            by_cases e : a = i
            · have h1 := hiff.2 ⟨hq, e.trans HII.out⟩
              rw [h1.2] at y1
              rw [h1.1] at y2
              subst e
              clear hiff h1
              go_wp2
              go_ret3
              exact ⟨by rw [HR2.out]; exact ret_three rfl rfl rfl, rfl⟩
            · have hno : ¬ (codeL c a = j + 1 ∧ codeN c a = V) := fun h => e ((hiff.1 h).2.trans HII.out.symm)
              clear hiff
              by_cases hL : codeL c a = j + 1
              · have hN : ((codeN c a : Int) == (V : Int)) = false := by rw [beq_eq_false_iff_ne]; intro h; exact hno ⟨hL, by omega⟩
                rw [hL] at y2
                generalize codeN c a = Xa at *
                clear hno hL
                go_wp2
                go_round
                case rel => exact ⟨a + 1, by omega, by go_num⟩
                case measure => simp [intOf]; omega
              · have hLI : ((codeL c a : Int) == (j : Int) + 1) = false := by rw [beq_eq_false_iff_ne]; omega
                generalize codeN c a = Xa at *
                generalize codeL c a = La at *
                clear hno hL
                go_wp2
                go_round
                case rel => exact ⟨a + 1, by omega, by go_num⟩
                case measure => simp [intOf]; omega
        · rw [if_neg hq] at hd
          have HD : Hid (dec c s.data.toList (16 - (j + 1)) (j + 1) V (S.drop (j + 1)) = R) := by unfold Hid; rw [← hd]; congr 1; omega
          have HG : Hid (fst c (j + 1) ≤ 2 * V) := by unfold Hid; rw [HF.out]; omega
          have HI := Lib.hid (fun a (ha : a < s.size) => code_iff HRR.out (j := a) (by simpa using ha) j V hVF)
          clear hd
          go_wp2
          go_loop [9] (fun k => ∃ a : Nat, a ≤ s.size ∧ k = .int .i64 a) (fun k => s.size - (intOf k).toNat)
          case atStart => exact ⟨0, Nat.zero_le _, rfl⟩
          case round =>
            obtain ⟨a, ha, rfl⟩ := hrel
            by_cases has : a < s.size
            · obtain ⟨y0, y1, y2⟩ := HCL.out a has
              have hno : ¬ (codeL c a = j + 1 ∧ codeN c a = V) := fun h => hq ((HI.out a has).1 h).1
              by_cases hL : codeL c a = j + 1
              · have hN : ((codeN c a : Int) == (V : Int)) = false := by rw [beq_eq_false_iff_ne]; intro h; exact hno ⟨hL, by omega⟩
                rw [hL] at y2
                generalize codeN c a = Xa at *
                clear hno hL
                go_wp2
                go_round
                case rel => exact ⟨a + 1, by omega, by go_num⟩
                case measure => simp [intOf]; omega
              · have hLI : ((codeL c a : Int) == (j : Int) + 1) = false := by rw [beq_eq_false_iff_ne]; omega
                generalize codeN c a = Xa at *
                generalize codeL c a = La at *
                clear hno hL
                go_wp2
                go_round
                case rel => exact ⟨a + 1, by omega, by go_num⟩
                case measure => simp [intOf]; omega
            · obtain rfl : a = s.size := by omega
              clear has
              go_wp2
              go_round
              case rel => exact ⟨j + 1, V, by omega, by go_num, rfl, HVP2.out, HG.out, by rw [HD.out, HR.out]⟩
              case measure => simp [intOf]; omega
      · have hjS' : (S.length : Int) < (j : Int) + 1 := by omega
        rw [List.drop_eq_nil_of_le (by omega)] at hd
        have HR2 : Hid (R = (0, 0, 2, [])) := hd.symm
        clear hd
        go_wp2
        go_ret3
        exact ⟨by rw [HR2.out]; rfl, rfl⟩
    · obtain rfl : j = 16 := by omega
      rw [dec_zero] at hd
      have HR2 : Hid (R = (0, 0, 9, S.drop 16)) := hd.symm
      clear hd
      go_wp2
      go_ret3
      exact ⟨by rw [HR2.out]; rfl, rfl⟩
end Go.Proofs.Ytmoennlpendknaa
