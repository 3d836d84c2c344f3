/- A walk: tables of other numbers go the same way as blocks do. -/
import Derived.Test.YtmdamiodjiipaaaDoorInv
import Derived.Test.YtmdamiodjiipaaaDoorWalkU
namespace Go.Proofs.YtmdamiodjiipaaaDoor
open Go.RowKit

/-- What the first loop fills. -/
structure Fill (f c : Nat → Int) (w wr : World) : Prop where
  arg : Row 33 .u16 w.heap.size f wr
  out : Row 23 .i16 (w.heap.size + 1) c wr
  low : Below w.heap.size w wr
theorem Fill.set {f c c' : Nat → Int} {w wr : World} (h : Fill f c w wr) {i : Nat} {v : Int} (he : (blk .i16 c).setIfInBounds i (.int .i16 v) = blk .i16 c') : Fill f c' w (wr.setCell ⟨w.heap.size + 1, i, none⟩ (.int .i16 v)) :=
  ⟨h.arg.other (by omega) _, h.out.set he, h.low.setCell (p := ⟨_, _, none⟩) (by show _ ≤ w.heap.size + 1; omega) _⟩
theorem Fill.start {f c : Nat → Int} {w : World} {Z : Array Value} (hZ : Z = blk .i16 fun _ => 0) (hc : blk .i16 c = blk .i16 fun _ => 0) : Fill f c w ((w.alloc (.cells (blk .u16 f) 33)).alloc (.cells Z 23)) := by
  refine ⟨(Row.new rfl).old _, ?_, ?_⟩
  · have h := Row.new (t := 23) (w := w.alloc (.cells (blk .u16 f) 33)) (hZ.trans hc.symm)
    rwa [size_alloc] at h
  · exact ((Below.refl _ _).alloc (Nat.le_refl _) _).alloc (by rw [size_alloc]; omega) _

theorem zero33 : (Tryd.prog.info? 33).map (fun i => (i.zero, i.size)) = some (some (.agg (blk .u16 fun _ => 0)), 64) := by kernel_rfl
theorem zero23 : (Tryd.prog.info? 23).map (fun i => (i.zero, i.size)) = some (some (.agg (blk .i16 fun _ => 0)), 64) := by kernel_rfl
/-- What the second loop reads. -/
structure Four (g5 g6 g7 g8 : Nat) (f : Nat → Int) (w wr : World) : Prop where
  arg : Row 33 .u16 w.heap.size f wr
  h5 : Row 33 .u16 g5 (fun k => f (zz k)) wr
  h6 : Row 33 .u16 g6 (fun k => f (sw k)) wr
  h7 : Row 23 .i16 g7 (fun k => f (zz k) % 30000) wr
  h8 : Row 23 .i16 g8 (fun k => f (sw k) % 30000) wr
  tab : Tab wr
  low : Below w.heap.size w wr
theorem Four.drewN {g5 g6 g7 g8 : Nat} {f : Nat → Int} {w wr : World} (h : Four g5 g6 g7 g8 f w wr) (n : Nat) : Four g5 g6 g7 g8 f w (wr.drewN n) := ⟨h.arg, h.h5, h.h6, h.h7, h.h8, h.tab, ⟨h.low.os, h.low.tape, h.low.output, h.low.size, h.low.block⟩⟩

set_option maxHeartbeats 8000000 in
theorem ZigTables_any (f : Nat → Int) (hf : ∀ i, i < 64 → 0 ≤ f i ∧ f i ≤ 65535) (w : World) (hT : Tab w) : Calls Tryd.prog 7 #[.agg (blk .u16 f)] w fun e w' => e = .returned (.bool true) ∧ Below w.heap.size w w' := by
  have HT := Lib.hid hT
  have HF := Lib.hid hf
  clear hT hf
  go_enter Tryd.func7, Tryd.ntmps7
  go_wp2
  go_loopw [4] (fun i wr => ∃ k : Nat, i = .int .i64 k ∧ k ≤ 64 ∧ Fill f (mix id (fun i => f i % 30000) k) w wr) (fun i _ => 64 - (intOf i).toNat)
  case atStart => exact ⟨0, rfl, Nat.zero_le _, Fill.start (by kernel_rfl) (mix_zero _ _ _)⟩
  case round =>
    obtain ⟨k, rfl, hk, hS⟩ := hrel
    have HS := Lib.hid hS
    clear hS
    by_cases hlt : k < 64
    · have x1 := HS.out.arg.cell hlt
      have x2 := HS.out.out.cell hlt
      have x3 := HS.out.out.free k
      have hb := HF.out k hlt
      have HM := Lib.hid (mix_step .i16 id (fun i => f i % 30000) k k (f k % 30000) rfl fun i _ => id_iff k i)
      generalize f k = y at x1 hb HM
      obtain ⟨hb0, hb1⟩ := hb
      go_wp2
      go_roundw
      case rel => exact ⟨k + 1, by go_num, by omega, HS.out.set HM.out⟩
      case measure => simp [intOf]; omega
    · obtain rfl : k = 64 := by omega
      have HR : Hid (Row 23 .i16 (w.heap.size + 1) (fun i => f i % 30000) wr) := HS.out.out.same (mix_all .i16 id _ fun i hi => hi)
      have HT1 := Lib.hid (HT.out.on HS.out.low)
      have hs1 : w.heap.size + 1 < wr.heap.size := HS.out.out.lt
      go_upto_region 6 with fail
      go_cut [5, 6] from 10 to 59 (fun v5 v6 wx => ∃ g g' : Nat, v5 = .pointer (some ⟨g, 0, none⟩) ∧ v6 = .pointer (some ⟨g', 0, none⟩) ∧ wr.heap.size ≤ g ∧ wr.heap.size ≤ g' ∧ g ≠ g' ∧ Row 33 .u16 g (fun k => f (zz k)) wx ∧ Row 33 .u16 g' (fun k => f (sw k)) wx ∧ Below wr.heap.size wr wx)
      case first =>
        refine region_two_at 21 22 23 24 5 6 1 33 .u16 f (fun k => f (zz k)) (fun k => f (sw k)) 18 19 w.heap.size _ _ _ _ _ _ _ _ #[33] #[33] Tryd.f18 Tryd.f19 (by kernel_rfl) ?hdep rfl rfl rfl rfl rfl rfl rfl rfl ⟨rfl, rfl, rfl, rfl, rfl, rfl, rfl, rfl⟩ ?d1 ?d3 ?d6 ?d7
          rfl rfl rfl rfl rfl rfl rfl rfl (by decide) (by simp) (by simp [Act.eval]) HS.out.arg Tryd.underlying33 rfl size33 zero33 Tryd.func18 rfl rfl Tryd.func19 rfl rfl
          (fun W hW => ZigU f W (HT1.out.on hW)) (fun W _ => SwapU f W) ?fin
        case hdep => exact deps_of (by kernel_rfl)
        case d1 => exact ⟨{ on := 0, ground := .data }, by simp, rfl, rfl⟩
        case d3 => exact ⟨{ on := 2, ground := .data }, by simp, rfl, rfl⟩
        case d6 => exact ⟨⟨{ on := 4, ground := .data }, by simp, rfl, rfl⟩, { on := 1, ground := .data }, by simp, rfl, rfl⟩
        case d7 => exact ⟨⟨{ on := 5, ground := .data }, by simp, rfl, rfl⟩, { on := 3, ground := .data }, by simp, rfl, rfl⟩
        case fin =>
          intro v0 v1 v2 v3 g g' w' hg hg' hne r r' b
          simp only [putA, Act.put, List.setIfInBounds_toArray, List.set_cons_zero, List.set_cons_succ]
          go_wp2_with fail
          go_meet
          exact ⟨g, g', rfl, rfl, hg, hg', hne, r, r', b⟩
      case rest =>
        obtain ⟨g5, g6, rfl, rfl, hg5, hg6, hne, r5, r6, b1⟩ := hcut
        have HA := Lib.hid (HS.out.arg.on b1)
        have HR1 := Lib.hid (HR.out.on b1)
        have HT2 := Lib.hid (HT1.out.on b1)
        have HB1 := Lib.hid (HS.out.low.trans (b1.mono HS.out.low.size))
        have H5 := Lib.hid r5
        have H6 := Lib.hid r6
        clear r5 r6 b1 HS HR HT1 HT
        go_upto_region 7 with fail
        go_cut [7, 8] from 10 to 59 (fun v7 v8 wx => ∃ g g' : Nat, v7 = .pointer (some ⟨g, 0, none⟩) ∧ v8 = .pointer (some ⟨g', 0, none⟩) ∧ wc.heap.size ≤ g ∧ wc.heap.size ≤ g' ∧ g ≠ g' ∧ Row 23 .i16 g (fun k => f (zz k) % 30000) wx ∧ Row 23 .i16 g' (fun k => f (sw k) % 30000) wx ∧ Below wc.heap.size wc wx)
        case first =>
          refine region_two_at 25 26 27 28 7 8 3 23 .i16 (fun i => f i % 30000) (fun k => f (zz k) % 30000) (fun k => f (sw k) % 30000) 11 12 (w.heap.size + 1) _ _ _ _ _ _ _ _ #[23] #[23] Tryd.f11 Tryd.f12 (by kernel_rfl) ?hdep rfl rfl rfl rfl rfl rfl rfl rfl ⟨rfl, rfl, rfl, rfl, rfl, rfl, rfl, rfl⟩ ?d1 ?d3 ?d6 ?d7
            rfl rfl rfl rfl rfl rfl rfl rfl (by decide) (by simp) (by simp [Act.eval]) HR1.out Tryd.underlying23 rfl size23 zero23 Tryd.func11 rfl rfl Tryd.func12 rfl rfl
            (fun W hW => Zig16 _ W (HT2.out.on hW)) (fun W _ => Swap16 _ W) ?fin
          case hdep => exact deps_of (by kernel_rfl)
          case d1 => exact ⟨{ on := 0, ground := .data }, by simp, rfl, rfl⟩
          case d3 => exact ⟨{ on := 2, ground := .data }, by simp, rfl, rfl⟩
          case d6 => exact ⟨⟨{ on := 4, ground := .data }, by simp, rfl, rfl⟩, { on := 1, ground := .data }, by simp, rfl, rfl⟩
          case d7 => exact ⟨⟨{ on := 5, ground := .data }, by simp, rfl, rfl⟩, { on := 3, ground := .data }, by simp, rfl, rfl⟩
          case fin =>
            intro v0 v1 v2 v3 g g' w' hg hg' hne r r' b
            simp only [putA, Act.put, List.setIfInBounds_toArray, List.set_cons_zero, List.set_cons_succ]
            go_wp2_with fail
            go_meet
            exact ⟨g, g', rfl, rfl, hg, hg', hne, r, r', b⟩
        case rest =>
          obtain ⟨g7, g8, rfl, rfl, hg7, hg8, hne', r7, r8, b2⟩ := hcut
          have hbw := HB1.out.trans (b2.mono HB1.out.size)
          have H4 : Hid (Four g5 g6 g7 g8 f w wc) := ⟨HA.out.on b2, H5.out.on b2, H6.out.on b2, r7, r8, HT2.out.on b2, hbw⟩
          clear r7 r8 b2 HA HR1 HT2 HB1 H5 H6 hbw hg5 hg6 hg7 hg8 hne hne' hs1
          have e1 := eq33 (fun i => f (zz (sp i))) f (fun i hi => by rw [zz_sp i hi])
          have hgd := guard33
          go_wp2
          go_loopw [9] (fun i wr => ∃ k : Nat, i = .int .i64 k ∧ k ≤ 64 ∧ Four g5 g6 g7 g8 f w wr) (fun i _ => 64 - (intOf i).toNat)
          case atStart => exact ⟨0, rfl, Nat.zero_le _, H4.out⟩
          case round =>
            obtain ⟨k, rfl, hk, h4⟩ := hrel
            have H4 := Lib.hid h4
            clear h4
            by_cases hlt : k < 64
            · have x5 := H4.out.h5.cell hlt
              have x6 := H4.out.h6.cell hlt
              have x7 := H4.out.h7.cell hlt
              have x8 := H4.out.h8.cell hlt
              have hb5 := HF.out (zz k) (zz_lt k hlt)
              have hb6 := HF.out (sw k) (sw_lt k hlt)
              generalize f (zz k) = y at x5 x7 hb5
              generalize f (sw k) = z at x6 x8 hb6
              obtain ⟨y0, y1⟩ := hb5
              obtain ⟨z0, z1⟩ := hb6
              clear e1
              go_wp2
              go_quiet (fail)
              go_wp2
              go_roundw
              case rel => exact ⟨k + 1, by go_num, by omega, H4.out.drewN _⟩
              case measure => simp [intOf]; omega
            · obtain rfl : k = 64 := by omega
              go_wp2
              have hnb := nonempty_bel
              refine wp_region_bel (Below.refl _ _) (by kernel_rfl) (by kernel_rfl) ?_
              repeat (first
                | refine wpQuiet_load_row 33 _ rfl (by rfl) g5 rfl 33 _ (0, 0) _ (bel_row H4.out.h5) Tryd.underlying33 rfl (sizeB33 _) ?_
                | refine wpQuiet_load_row 33 _ rfl (by rfl) w.heap.size rfl 33 _ (0, 0) _ (bel_row H4.out.arg) Tryd.underlying33 rfl (sizeB33 _) ?_
                | quiet_step (first
                    | (go_at_call 9; exact bel_same (awake_any _ (H4.out.tab.bel _)))
                    | (go_at_call 20; exact bel_of (BackU _ _ (H4.out.tab.bel _)))))
              refine wpQuiet_nil ?_
              rintro _ ⟨x, rfl⟩
              go_wp2
              go_ret
              exact ⟨rfl, H4.out.low.trans (x.h.mono H4.out.low.size)⟩
end Go.Proofs.YtmdamiodjiipaaaDoor
