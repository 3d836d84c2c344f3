/- A walk: formatBits at base 16. -/
import Derived.Test.YthkjnhihpbomaaaDoorHexPlain
import Derived.Test.YthkjnhihpbomaaaDoorProg
import Derived.WalkKit
import Derived.BigCall
import Derived.WalkSpells
import Derived.WalkLawsBesides
import Derived.Lib.OwnKind
import Derived.Lib.Hide
import Derived.Laws.BitsAllLaws
namespace Go.Proofs.YthkjnhihpbomaaaDoor
open Go.RowKit

set_option maxHeartbeats 400000 in
theorem pow2_16 (w : World) : Calls Tryd.prog 63 #[.int .i64 16] w fun e w' => e = .returned (.bool true) ∧ w' = w := by
  go_enter Tryd.func63, Tryd.ntmps63
  go_wp2
  go_ret
  exact ⟨rfl, rfl⟩

set_option maxHeartbeats 400000 in
theorem tz64_16 (w : World) (h : w.cell? ⟨4, 15, none⟩ = some (.int .u8 4)) : Calls Tryd.prog 66 #[.int .u64 16] w fun e w' => e = .returned (.int .i64 4) ∧ w' = w := by
  have hx : IntKind.u64.wrap (bits BinOp.and IntKind.u64 16 (IntKind.u64.wrap (-16)) * 285870213051353865) / 288230376151711744 = 15 := by decide +kernel
  go_enter Tryd.func66, Tryd.ntmps66
  go_wp2
  go_ret
  exact ⟨rfl, rfl⟩

set_option maxHeartbeats 400000 in
theorem tz_16 (w : World) (h : w.cell? ⟨4, 15, none⟩ = some (.int .u8 4)) : Calls Tryd.prog 64 #[.int .u64 16] w fun e w' => e = .returned (.int .i64 4) ∧ w' = w := by
  go_enter Tryd.func64, Tryd.ntmps64
  go_wp2_with (go_at_call 66; refine (tz64_16 _ h).mono ?_; rintro e w' ⟨rfl, rfl⟩)
  go_ret
  exact ⟨rfl, rfl⟩

/-- A digit, for the walk to take. -/
theorem idx_dig (z : Int) (d : Nat) (hz : z = (d : Int)) (hd : d < 16) (w : World) : (Instr.index 9 (.string ⟨#[48, 49, 50, 51, 52, 53, 54, 55, 56, 57, 97, 98, 99, 100, 101, 102, 103, 104, 105, 106, 107, 108, 109, 110, 111, 112, 113, 114, 115, 116, 117, 118, 119, 120, 121, 122]⟩) (.int .u64 z)).run Tryd.prog w = .ok (.int .u8 ((hexDig d).toNat : Int)) w := by
  subst hz
  show (Instr.index 9 (.string digits36) (.int .u64 (d : Int))).run Tryd.prog w = _
  rw [run_index_string w 9 digits36 .u64 _ Tryd.underlying9, dif_pos ⟨by omega, by rw [digits36_size]; omega⟩]
  have e : ((d : Int)).toNat = d := by omega
  simp only [e]
  rw [digits36_at d hd]
theorem zc74 : Tryd.zeroCells74.size = 65 := by kernel_rfl

/-- The array behind a store of one digit ahead of those that stand there. -/
theorem stored (wr : World) (g k : Nat) (d : UInt8) (ds : List UInt8) (cur : Array Value) (hblk : wr.heap[g]? = some (.cells cur 74 (0, 0))) (hk : k + 1 ≤ cur.size) (hdr : cur.toList.drop (k + 1) = Lib.byteCells ds) :
    ∃ cur', (wr.setCell ⟨g, k, none⟩ (.int .u8 (d.toNat : Int))).heap[g]? = some (.cells cur' 74 (0, 0)) ∧ cur'.size = cur.size ∧ cur'.toList.drop k = Lib.byteCells (d :: ds) := by
  refine ⟨cur.setIfInBounds k (.int .u8 (d.toNat : Int)), ?_, by simp, ?_⟩
  · simp [World.setCell, Array.getElem?_modify, hblk]
  · have hk' : k < (cur.toList.set k (Value.int .u8 (d.toNat : Int))).length := by simp; omega
    rw [Array.toList_setIfInBounds, List.drop_eq_getElem_cons hk', List.getElem_set_self, List.drop_set_of_lt (by omega), hdr]
    rfl

/-- The array from a place on, for the walk to take. -/
theorem slice74 (g k : Nat) (hk : k < 65) (W : World) : (Instr.sliceAt 74 (.pointer (some ⟨g, 0, none⟩)) (some (.int .i64 (k : Int))) none none).run Tryd.prog W = .ok (.slice (some ⟨g, k, none⟩) (65 - k) (65 - k)) W := by
  have hal : Tryd.prog.arrayLen 74 = 65 := by simp [Program.arrayLen, Tryd.underlying74]
  have hs : (sizeOf (Tryd.prog.elem 74)).run Tryd.prog W = .ok 1 W := by kernel_rfl
  have hne : ¬ (65 = k) := by omega
  rw [run_sliceAt_array_l W 74 ⟨g, 0, none⟩ (by simp [Program.arrayLen, Program.elem, Tryd.underlying74]) .i64 (k : Int) (by omega) (by rw [hal]; omega), hs]
  simp [slicedAt, hal, hne, Addr.add]
  omega

/-- What the call owns it owns still where nothing that was there has turned. -/
theorem owns_below {w w' : World} {B : Nat} {e : TypeId} {size : Nat} {v : Value} {n : Nat} {xs : List Value} (h : w.ownsRow B e size v n xs) (hb : Below w.heap.size w w') : w'.ownsRow B e size v n xs :=
  h.kept (row := none) ⟨hb.os, hb.tape, hb.output, hb.size, fun k hk _ => hb.block k hk⟩ (by cases v.ownBlock <;> simp)
theorem others_below {w w' : World} (hb : Below w.heap.size w w') (e : TypeId) : Lib.OthersKept e none w w' := fun k o hk _ _ => by
  rw [hb.block k (Array.getElem?_eq_some_iff.1 hk).1]; exact hk

set_option maxHeartbeats 1000000 in
theorem formatBits16 (B n : Nat) (v : Value) (xs : List Value) (u : Nat) (hu : u < 4294967296) (w : World) (hT : w.cell? ⟨4, 15, none⟩ = some (.int .u8 4)) (hown : w.ownsRow B 5 1 v n xs) (hlen : n + 8 ≤ 140737488355328) (hBw : B ≤ w.heap.size) (hB4 : 4 < w.heap.size) :
    Calls Tryd.prog 59 #[v, .int .u64 u, .int .i64 16, .bool false, .bool true] w fun e w' => ∃ v', e = .returned (.tuple #[v', .string ⟨#[]⟩]) ∧ w'.ownsRow B 5 1 v' (n + (hexDigits u).length) (xs ++ Lib.byteCells (hexDigits u)) ∧ Below B w w' ∧ Lib.OthersKept 5 none w w' := by
  obtain ⟨i0, hi, hz0, hz1, hz2⟩ := info_parts (show (Tryd.prog.info? 5).map (fun i => (i.zero, i.size, i.bytes)) = some (some (.int .u8 0), 1, 1) by kernel_rfl)
  go_enter Tryd.func59, Tryd.ntmps59
  go_wp2_with (first
    | (go_at_call 63; refine (pow2_16 _).mono ?_; rintro e w' ⟨rfl, rfl⟩)
    | (go_at_call 64; refine (tz_16 _ ?hT).mono ?_; rotate_left; rintro e w' ⟨rfl, rfl⟩))
  case hT => rw [← hT]; exact Below.cell ((Below.refl w.heap.size w).alloc (Nat.le_refl _) _) hB4
  go_loopw [1, 13] (fun a i wr => ∃ (f k uc : Nat) (ds : List UInt8) (cur : Array Value), a = .int .u64 uc ∧ i = .int .i64 k ∧ k + ds.length = 65 ∧ ds.length + f = 7 ∧ uc < 16 ^ (f + 1) ∧ uc ≤ u ∧ hexN f uc ++ ds = hexDigits u ∧ Below w.heap.size w wr ∧ wr.heap[w.heap.size]? = some (.cells cur 74 (0, 0)) ∧ cur.size = 65 ∧ cur.toList.drop k = Lib.byteCells ds) (fun a _ _ => (intOf a).toNat)
  case atStart =>
    refine ⟨7, 65, u, [], Tryd.zeroCells74, rfl, rfl, rfl, rfl, by omega, Nat.le_refl _, by simp [hexDigits], (Below.refl _ _).alloc (Nat.le_refl _) _, heap_alloc_new w _, zc74, ?_⟩
    rw [List.drop_eq_nil_of_le (by simp)]; rfl
  case round =>
    obtain ⟨f, k, uc, ds, cur, rfl, rfl, hk, hf, huc, hucu, hhex, hbw, hblk, hcs, hdr⟩ := hrel
    obtain ⟨k, rfl⟩ : ∃ k', k = k' + 1 := ⟨k - 1, by omega⟩
    have hc : wr.cell? ⟨w.heap.size, k, none⟩ = some (cur[k]'(by omega)) := by
      rw [cell_of_row wr w.heap.size k cur 74 (0, 0) hblk, Array.getElem?_eq_getElem (by omega)]
    have hfz : wr.frozen? ⟨w.heap.size, k, none⟩ = false := by
      simp [World.frozen?, hblk]
    have Hst := Lib.hid (fun d => stored wr w.heap.size k d ds cur hblk (by omega) hdr)
    have Hh := Lib.hid hhex
    have Hu := Lib.hid huc
    have Hb := Lib.hid hbw
    clear hhex hdr huc hblk hbw
    by_cases hge : 16 ≤ uc
    · have hand : bits .and .u64 (uc : Int) 15 = ((uc % 16 : Nat) : Int) := by
        rw [show (15 : Int) = ((15 : Nat) : Int) from rfl, u64_and_nat uc 15 (by omega) (by omega), nat_mask4]
      have hidx := idx_dig (bits .and .u64 (uc : Int) 15) (uc % 16) hand (by omega)
      clear hand
      go_wp2
      go_roundw
      case rel =>
        obtain ⟨cur', h1, h2, h3⟩ := Hst.out (hexDig (uc % 16))
        obtain ⟨f, rfl⟩ : ∃ f', f = f' + 1 := ⟨f - 1, by
          rcases Nat.eq_zero_or_pos f with h0 | h0
          · have := Hu.out; subst h0; omega
          · omega⟩
        have hp : uc < 16 ^ (f + 1) * 16 := by have := Hu.out; rwa [Nat.pow_succ] at this
        refine ⟨f, k, uc / 16, hexDig (uc % 16) :: ds, cur', by go_num, by go_num, by simp; omega, by simp; omega, by omega, by omega, ?_, Hb.out.setCell (Nat.le_refl _) _, h1, by omega, h3⟩
        rw [← Hh.out, hexN_big f uc hge]; simp
      case measure => simp [intOf]; omega
    · have hidx := idx_dig (uc : Int) uc rfl (by omega)
      have hsl := slice74 w.heap.size k (by omega)
      obtain ⟨cur', h1, h2, h3⟩ := Hst.out (hexDig uc)
      have hfin : hexDig uc :: ds = hexDigits u := by rw [← Hh.out, hexN_small f uc (by omega)]; rfl
      have hbw2 : Below w.heap.size w (wr.setCell ⟨w.heap.size, k, none⟩ (.int .u8 ((hexDig uc).toNat : Int))) := Hb.out.setCell (Nat.le_refl _) _
      have hown2 := owns_below hown hbw2
      have hsz2 := hbw2.size
      have hcells : ∀ j u', (Lib.byteCells (hexDigits u))[j]? = some u' → (wr.setCell ⟨w.heap.size, k, none⟩ (.int .u8 ((hexDig uc).toNat : Int))).cell? ((⟨w.heap.size, k, none⟩ : Addr).add j) = some u' := by
        intro j u' hj
        rw [← hfin, ← h3, List.getElem?_drop] at hj
        have hadd : (⟨w.heap.size, k, none⟩ : Addr).add j = ⟨w.heap.size, k + j, none⟩ := by unfold Addr.add; split <;> simp_all
        rw [hadd, cell_of_row _ w.heap.size (k + j) cur' 74 (0, 0) h1]
        simpa using hj
      have hl8 := (hexDigits_length u).2
      have hl : (hexDigits u).length = 65 - k := by rw [← hfin]; simp; omega
      have Hw := Lib.hid hbw2
      have Hc := Lib.hid hcells
      have Hf := Lib.hid hfin
      have Ho := Lib.hid hown2
      have Hl := Lib.hid hl
      clear h1 h2 h3 hbw2 hcells hfin hown2 hl
      go_wp2_with (at_builtin; refine wpList_append_own _ rfl _ _ 38 rfl B 5 i0 (.int .u8 0) 1 1 Tryd.underlying38 hi hz0 hz1 hz2 rfl (by decide) _ _ _ rfl Ho.out ⟨w.heap.size, k, none⟩ (65 - k) (65 - k) (Lib.byteCells (hexDigits u)) rfl ?c0 Hc.out ?c2 ?c3 ?c4 ?c5 ?_)
      case c0 => rw [Lib.byteCells_length, Hl.out]
      case c2 => intro u' hu'; simp only [Lib.byteCells, List.mem_map] at hu'; obtain ⟨b, _, rfl⟩ := hu'; rfl
      case c3 => have := Hl.out; unfold maxLen; omega
      case c4 => have := Hl.out; omega
      case c5 => have := Hb.out.size; omega
      intro v2 w3 hown' hgrow _
      go_wp2
      go_ret2
      refine ⟨v2, rfl, ?_, (Hw.out.mono hBw).grown hgrow (by omega) (fun k hk => (Ho.out.lt k hk).1), (others_below Hw.out 5).grown hgrow (Lib.ownsRow_kind Ho.out)⟩
      rw [Hl.out]
      exact hown'

set_option maxHeartbeats 1000000 in
theorem appendUint16 (B n : Nat) (v : Value) (xs : List Value) (u : Nat) (hu : u < 4294967296) (w : World) (hT : w.cell? ⟨4, 15, none⟩ = some (.int .u8 4)) (hown : w.ownsRow B 5 1 v n xs) (hlen : n + 8 ≤ 140737488355328) (hBw : B ≤ w.heap.size) (hB4 : 4 < w.heap.size) :
    Calls Tryd.prog 55 #[v, .int .u64 u, .int .i64 16] w fun e w' => ∃ v', e = .returned v' ∧ w'.ownsRow B 5 1 v' (n + (hexDigits u).length) (xs ++ Lib.byteCells (hexDigits u)) ∧ Below B w w' ∧ Lib.OthersKept 5 none w w' := by
  have H := Lib.hid (formatBits16 B n v xs u hu w hT hown hlen hBw hB4)
  clear hT hown
  go_enter Tryd.func55, Tryd.ntmps55
  go_wp2_with fail
  go_at_call 59
  refine H.out.mono ?_
  rintro e w' ⟨v', rfl, h1, h2, h3⟩
  have H1 := Lib.hid h1
  clear h1
  go_wp2
  go_ret
  exact ⟨v', rfl, H1.out, h2, h3⟩

set_option maxHeartbeats 1000000 in
theorem iAppendInt16 (B n : Nat) (v : Value) (xs : List Value) (u : Nat) (hu : u < 4294967296) (w : World) (hT : w.cell? ⟨4, 15, none⟩ = some (.int .u8 4)) (hown : w.ownsRow B 5 1 v n xs) (hlen : n + 8 ≤ 140737488355328) (hBw : B ≤ w.heap.size) (hB4 : 4 < w.heap.size) :
    Calls Tryd.prog 51 #[v, .int .i64 u, .int .i64 16] w fun e w' => ∃ v', e = .returned v' ∧ w'.ownsRow B 5 1 v' (n + (hexDigits u).length) (xs ++ Lib.byteCells (hexDigits u)) ∧ Below B w w' ∧ Lib.OthersKept 5 none w w' := by
  have H := Lib.hid (appendUint16 B n v xs u hu w hT hown hlen hBw hB4)
  clear hT hown
  go_enter Tryd.func51, Tryd.ntmps51
  go_wp2_with fail
  go_at_call 55
  refine H.out.mono ?_
  rintro e w' ⟨v', rfl, h1, h2, h3⟩
  have H1 := Lib.hid h1
  clear h1
  go_wp2
  go_ret
  exact ⟨v', rfl, H1.out, h2, h3⟩

set_option maxHeartbeats 1000000 in
/-- strconv.AppendInt at base 16, of a number that isn't below 0 and has at most eight digits. -/
theorem appendInt16 (B n : Nat) (v : Value) (xs : List Value) (u : Nat) (hu : u < 4294967296) (w : World) (hT : w.cell? ⟨4, 15, none⟩ = some (.int .u8 4)) (hown : w.ownsRow B 5 1 v n xs) (hlen : n + 8 ≤ 140737488355328) (hBw : B ≤ w.heap.size) (hB4 : 4 < w.heap.size) :
    Calls Tryd.prog 46 #[v, .int .i64 u, .int .i64 16] w fun e w' => ∃ v', e = .returned v' ∧ w'.ownsRow B 5 1 v' (n + (hexDigits u).length) (xs ++ Lib.byteCells (hexDigits u)) ∧ Below B w w' ∧ Lib.OthersKept 5 none w w' := by
  have H := Lib.hid (iAppendInt16 B n v xs u hu w hT hown hlen hBw hB4)
  clear hT hown
  go_enter Tryd.func46, Tryd.ntmps46
  go_wp2_with fail
  go_at_call 51
  refine H.out.mono ?_
  rintro e w' ⟨v', rfl, h1, h2, h3⟩
  have H1 := Lib.hid h1
  clear h1
  go_wp2
  go_ret
  exact ⟨v', rfl, H1.out, h2, h3⟩
end Go.Proofs.YthkjnhihpbomaaaDoor
