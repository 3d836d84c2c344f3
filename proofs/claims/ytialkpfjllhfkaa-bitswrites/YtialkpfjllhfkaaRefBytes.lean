/- A walk of the document's writer: Bytes. -/
import Derived.Test.YtialkpfjllhfkaaRefRd2
import Derived.Test.YtialkpfjllhfkaaRefWr
namespace Go.Proofs.Ytialkpfjllhfkaa
open Go.RowKit

/-- A slice of one byte as a string. -/
theorem conv_one (w : World) (z : Int) (b : UInt8) (hz : z = b.toNat) : (convert 56 9 (.slice (some ⟨w.heap.size, 0, none⟩) 1 1)).run Try.prog (w.alloc (.cells #[.int .u8 z] 5)) = .ok (.string ⟨#[b]⟩) (w.alloc (.cells #[.int .u8 z] 5)) := by
  subst hz
  refine run_convert_bytes_back _ 56 9 5 ⟨w.heap.size, 0, none⟩ 1 [b] Try.underlying56 Try.underlying5 Try.underlying9 fun j hj => ?_
  obtain rfl : j = 0 := by simpa using hj
  show (w.alloc _).cell? ⟨w.heap.size, 0, none⟩ = _
  rw [cell_of_row _ w.heap.size 0 _ 5 (0, 0) (heap_alloc_new w _)]
  rfl
theorem bytes_app (a b : List UInt8) : (⟨a.toArray⟩ : ByteArray) ++ ⟨b.toArray⟩ = ⟨(a ++ b).toArray⟩ := by
  apply ByteArray.ext
  simp
/-- Eight bits from a place on, 1s behind the last one. -/
def oct (L : List Bool) (i : Nat) : List Bool := L.drop i ++ List.replicate 8 true
theorem oct_length (L : List Bool) (i : Nat) : 8 ≤ (oct L i).length := by unfold oct; simp
theorem oct_in (L : List Bool) (i j : Nat) (h : i + j < L.length) : (oct L i)[j]? = some L[i + j] := by
  unfold oct
  rw [List.getElem?_append_left (by rw [List.length_drop]; omega), List.getElem?_drop, List.getElem?_eq_getElem h]
theorem oct_out (L : List Bool) (i j : Nat) (hj : j < 8) (h : L.length ≤ i + j) (hi : i ≤ L.length) : (oct L i)[j]? = some true := by
  unfold oct
  rw [List.getElem?_append_right (by rw [List.length_drop]; omega), List.getElem?_replicate, if_pos (by rw [List.length_drop]; omega)]
theorem oct_succ (L : List Bool) (i j : Nat) (b : Bool) (h : (oct L i)[j]? = some b) : val ((oct L i).take (j + 1)) = val ((oct L i).take j) * 2 + b.toNat := by
  obtain ⟨hl, hb⟩ := List.getElem?_eq_some_iff.1 h
  rw [val_take_succ _ _ hl, hb]
theorem toU8_toNat (n : Nat) (h : n < 256) : n.toUInt8.toNat = n := by simp; omega

set_option maxHeartbeats 2000000 in
theorem rBytes_any (p : Option Addr) (c : Nat) (L : List Bool) (w : World) (hv : View (.slice p L.length c) L w) (hL : L.length ≤ 100000) :
    Calls Try.prog 25 #[.slice p L.length c] w fun e w' => e = .returned (.string ⟨(stuff L).toArray⟩) ∧ Below w.heap.size w w' := by
  have HV := Lib.hid hv
  clear hv
  go_enter Try.func25, Try.ntmps25
  go_wp2
  go_loopw [3, 4] (fun t i wr => ∃ (k : Nat) (acc : List UInt8), i = .int .i64 k ∧ k ≤ L.length + 7 ∧ stuff L = acc ++ stuff (L.drop k) ∧ t = .string ⟨acc.toArray⟩ ∧ acc.length ≤ 2 * k ∧ Below w.heap.size w wr) (fun _ i _ => L.length + 8 - (intOf i).toNat)
  case atStart => exact ⟨0, [], rfl, by omega, by simp, rfl, by simp, Below.refl _ _⟩
  case round =>
    obtain ⟨k, acc, rfl, hk, hst, rfl, hal, hb⟩ := hrel
    have HST := Lib.hid hst
    have HB := Lib.hid hb
    have hBs := hb.size
    have HV2 := Lib.hid (HV.out.on hb)
    clear hst hb
    by_cases hlt : k < L.length
    · go_wp2
      go_loop [5, 6] (fun n q => ∃ j : Nat, j ≤ 8 ∧ q = .int .i64 (k + j : Nat) ∧ n = .int .i64 (val ((oct L k).take j))) (fun _ q => k + 8 - (intOf q).toNat)
      case atStart => exact ⟨0, by omega, by go_num, rfl⟩
      case round =>
        obtain ⟨j, hj, rfl, rfl⟩ := hrel
        by_cases hj8 : j < 8
        · have hlv := val_lt ((oct L k).take j)
          have hpw : 2 ^ ((oct L k).take j).length ≤ 2 ^ 8 := Nat.pow_le_pow_right (by omega) (by rw [List.length_take]; omega)
          by_cases hin : k + j < L.length
          · have HT := Lib.hid (oct_succ L k j _ (oct_in L k j hin))
            obtain ⟨b, o, rfl, hcell, _⟩ := HV2.out.cell hin
            have hb1 : L[k + j].toNat ≤ 1 := by cases L[k + j] <;> simp
            generalize val ((oct L k).take j) = x at *
            generalize L[k + j].toNat = y at *
            have hx : x < 256 := by omega
            go_wp2
            go_round
            case rel => exact ⟨j + 1, by omega, by go_num, by rw [HT.out]; go_num⟩
            case measure => simp [intOf]; omega
          · have HT := Lib.hid (oct_succ L k j true (oct_out L k j hj8 (by omega) (by omega)))
            generalize val ((oct L k).take j) = x at *
            have hx : x < 256 := by omega
            go_wp2
            go_round
            case rel => exact ⟨j + 1, by omega, by go_num, by rw [HT.out]; simp [Bool.toNat]⟩
            case measure => simp [intOf]; omega
        · obtain rfl : j = 8 := by omega
          have hlv := val_lt ((oct L k).take 8)
          rw [List.length_take, show min 8 (oct L k).length = 8 by have := oct_length L k; omega] at hlv
          have hstep := stuff_step (L.drop k) (by rw [List.length_drop]; omega)
          rw [List.drop_drop] at hstep
          have hst2 := HST.out
          rw [hstep, ← List.append_assoc] at hst2
          rw [show ((L.drop k ++ List.replicate 8 true).take 8) = (oct L k).take 8 from rfl] at hst2
          have HST2 := Lib.hid hst2
          clear hstep hst2
          generalize val ((oct L k).take 8) = x at *
          have hx : x < 256 := by omega
          by_cases h5 : x = 255
          · subst h5
            have hcv := conv_one wr 255 255 rfl
            have HB2 := Lib.hid (HB.out.alloc hBs (.cells #[.int .u8 255] 5))
            go_wp2
            go_roundw
            case rel =>
              refine ⟨k + 8, acc ++ data 255, by go_num, by omega, HST2.out, ?_, by rw [List.length_append]; simp [data]; omega, HB2.out⟩
              show Value.string ((⟨acc.toArray⟩ : ByteArray) ++ ⟨[255].toArray⟩ ++ ⟨[0].toArray⟩) = _
              rw [bytes_app, bytes_app, List.append_assoc]
              rfl
            case measure => simp [intOf]; omega
          · have hcv := conv_one wr (x : Int) x.toUInt8 (by rw [toU8_toNat x hx])
            have HB2 := Lib.hid (HB.out.alloc hBs (.cells #[.int .u8 (x : Int)] 5))
            have h5' : ((x : Int) == 255) = false := by rw [beq_eq_false_iff_ne]; omega
            have HD := Lib.hid (show data x = [x.toUInt8] by unfold data; rw [if_neg h5])
            go_wp2
            go_roundw
            case rel =>
              refine ⟨k + 8, acc ++ data x, by go_num, by omega, HST2.out, ?_, by rw [List.length_append, HD.out]; simp; omega, HB2.out⟩
              show Value.string ((⟨acc.toArray⟩ : ByteArray) ++ ⟨[x.toUInt8].toArray⟩) = _
              rw [bytes_app, HD.out]
            case measure => simp [intOf]; omega
    · go_wp2
      go_ret
      refine ⟨?_, HB.out⟩
      rw [HST.out, List.drop_eq_nil_of_le (by omega), stuff_nil, List.append_nil]
      rfl
end Go.Proofs.Ytialkpfjllhfkaa
