/- A walk of the document's reader: Bits. -/
import Derived.Test.YtmoennlpendknaaRefRd2
import Derived.Deep.RegionWith
namespace Go.Proofs.Ytmoennlpendknaa
open Go.RowKit

theorem View.drop {q : Option Addr} {cq k : Nat} {G : List Bool} {w : World} (h : View (.slice q G.length cq) G w) (hk : k ≤ G.length) (hc : G.length ≤ cq) :
    View (.slice (if cq = k then q else Option.map (fun x => x.add k) q) (G.drop k).length (cq - k)) (G.drop k) w := by
  obtain ⟨p, c, hv, ⟨rfl, rfl, rfl⟩ | ⟨b, o, cur, rfl, hh, hcell⟩⟩ := h
  · simp only [Value.slice.injEq] at hv
    obtain ⟨rfl, _, rfl⟩ := hv
    refine ⟨_, _, rfl, .inl ⟨?_, by omega, by simp⟩⟩
    split <;> rfl
  · simp only [Value.slice.injEq] at hv
    obtain ⟨rfl, _, rfl⟩ := hv
    refine ⟨_, _, rfl, .inr ?_⟩
    by_cases e : cq = k
    · refine ⟨b, o, cur, by rw [if_pos e], hh, fun i hi => ?_⟩
      rw [List.length_drop] at hi
      omega
    · refine ⟨b, o + k, cur, by rw [if_neg e]; simp [add_none], hh, fun i hi => ?_⟩
      rw [List.length_drop] at hi
      have := hcell (k + i) (by omega)
      rw [Nat.add_assoc, this]
      simp
set_option maxHeartbeats 2000000 in
theorem rBits_yes (s : ByteArray) (a : Nat) (p : Option Addr) (c : Nat) (H : List Bool) (n : Nat) (hn : n ≤ 16) (w : World) (hv : View (.slice p H.length c) H w) (hs : s.size ≤ 4000) (ha : a ≤ s.size) (hH : H.length < 8) :
    Calls Try.prog 21 #[.agg #[.string s, .int .i64 a, .slice p H.length c], .int .i64 n] w fun e w' => ∃ p' c', e = .returned (.tuple #[.int .i64 (rbits s.data.toList n a H).1, .agg #[.string s, .int .i64 (rbits s.data.toList n a H).2.1, .slice p' (rbits s.data.toList n a H).2.2.1.length c'], .int .i64 (rbits s.data.toList n a H).2.2.2]) ∧
      View (.slice p' (rbits s.data.toList n a H).2.2.1.length c') (rbits s.data.toList n a H).2.2.1 w' ∧ ((rbits s.data.toList n a H).2.2.2 = 0 → ∀ b, p' = some b → w.heap.size ≤ b.block) ∧ Below w.heap.size w w' := by
  obtain ⟨R, hR⟩ : ∃ R, R = rbits s.data.toList n a H := ⟨_, rfl⟩
  rw [← hR]
  have HR := Lib.hid hR
  clear hR
  have HVW := Lib.hid hv
  clear hv
  have q1 : decide ((n : Int) < 0) = false := decide_eq_false (by omega)
  have q2 : decide (16 < (n : Int)) = false := decide_eq_false (by omega)
  have HB0 : Hid (Below w.heap.size w ((w.alloc (.cells #[.string s, .int .i64 a, .slice p H.length c] 52)).alloc (.cells #[.string ⟨#[]⟩, .int .i64 0, .slice none 0 0] 52))) := ((Below.refl _ _).alloc (Nat.le_refl _) _).alloc (by simp) _
  have HX0 : Hid (Box w.heap.size s a (.slice p H.length c) ((w.alloc (.cells #[.string s, .int .i64 a, .slice p H.length c] 52)).alloc (.cells #[.string ⟨#[]⟩, .int .i64 0, .slice none 0 0] 52))) :=
    (Below.heap_alloc _ _ _ (by simp)).trans (heap_alloc_new _ _)
  have HZ0 : Hid (Box (w.heap.size + 1) ⟨#[]⟩ 0 (.slice none 0 0) ((w.alloc (.cells #[.string s, .int .i64 a, .slice p H.length c] 52)).alloc (.cells #[.string ⟨#[]⟩, .int .i64 0, .slice none 0 0] 52))) := by
    have := heap_alloc_new (w.alloc (.cells #[.string s, .int .i64 a, .slice p H.length c] 52)) (.cells #[.string ⟨#[]⟩, .int .i64 0, .slice none 0 0] 52)
    have e : (w.alloc (.cells #[.string s, .int .i64 a, .slice p H.length c] 52)).heap.size = w.heap.size + 1 := by simp
    rw [e] at this
    exact this
  have HV0 := Lib.hid (HVW.out.on HB0.out)
  go_enter Try.func21, Try.ntmps21
  go_wp2_with (at_builtin; refine wpList_appV rfl _ _ rfl w.heap.size (.slice none 0 0) (.slice p H.length c) [] H rfl rfl (World.ownsRow_nil _ _ _ _) HV0.out (by simp; omega) (by simp; omega) ?_)
  intro v1 w1 o1 b1 k1
  obtain ⟨p1, c1, rfl⟩ := o1.len
  have HO1 := Lib.hid o1
  have HB1 := Lib.hid (HB0.out.trans b1)
  have HX1 := Lib.hid (HX0.out.oth k1)
  have HZ1 := Lib.hid (HZ0.out.oth k1)
  have x1 := HX1.out.at
  clear o1 b1 k1
  go_wp2
  clear x1
  go_loopw [7, 8] (fun v x wr => ∃ (b : Nat) (G : List Bool) (q : Option Addr) (cq : Nat), fetch s.data.toList n b G = fetch s.data.toList n a H ∧ b ≤ s.size ∧ G.length < n + 8 ∧ v = .slice q G.length cq ∧ x = .int .i64 b ∧ OwnI w.heap.size v G wr ∧ Box w.heap.size s a (.slice p H.length c) wr ∧ Box (w.heap.size + 1) ⟨#[]⟩ 0 (.slice none 0 0) wr ∧ Below w.heap.size w wr) (fun v _ _ => match v with | .slice _ m _ => n - m | _ => 0)
  case atStart => exact ⟨a, H, p1, c1, rfl, ha, by omega, by simp, rfl, HO1.out, HX1.out, HZ1.out, HB1.out⟩
  case round =>
    obtain ⟨b, G, q, cq, hf, hb, hG, rfl, rfl, hO, hX, hZ, hB⟩ := hrel
    have HF := Lib.hid hf
    have HO := Lib.hid hO
    have HX := Lib.hid hX
    have HZ := Lib.hid hZ
    have HB := Lib.hid hB
    have hBs := hB.size
    have x0 := hX.text
    clear hf hO hX hZ hB
    by_cases hlt : G.length < n
    · have d2 := dbyte_le s.data.toList b (by simpa using hb)
      have hd2 : (dbyte s.data.toList b).2 ≤ 2 := by
        unfold dbyte; split
        · simp
        · split
          · split <;> simp
          · simp
      by_cases h0' : (dbyte s.data.toList b).2 = 0
      · have hfn := fetch_none s.data.toList n b G hlt h0'
        rw [HF.out] at hfn
        have hR := HR.out
        rw [rbits_none _ _ _ _ hn hfn] at hR
        have HR2 := Lib.hid hR
        have HC := Lib.hid (fun W => byteAt_none s b (by unfold maxLen; omega) hb W h0')
        have x1 := HX.out.at
        have x2 := HX.out.held
        have z0 := HZ.out.text
        have z1 := HZ.out.at
        have z2 := HZ.out.held
        have f0 := HZ.out.free 0
        have f1 := HZ.out.free 1
        have f2 := HZ.out.free 2
        clear hfn hR h0' d2 hd2
        go_wp2_with (go_at_call 35; refine (HC.out _).mono ?_; rintro e w' ⟨rfl, rfl⟩)
        go_region
        go_wp2
        have hbx := HZ.out.set s a a rfl (.slice p H.length c)
        have hbl := below_set3 HB.out (Nat.le_succ _) (.string s) (.int .i64 a) (.slice p H.length c)
        generalize ((wr.setCell ⟨w.heap.size + 1, 0, none⟩ (.string s)).setCell ⟨w.heap.size + 1, 1, none⟩ (.int .i64 a)).setCell ⟨w.heap.size + 1, 2, none⟩ (.slice p H.length c) = w5 at hbx hbl ⊢
        have n0 := hbx.text
        have n1 := hbx.at
        have n2 := hbx.held
        refine bodyPost_ret (v := .tuple #[.int .i64 0, .agg #[.string s, .int .i64 a, .slice p H.length c], .int .i64 2]) (by simp [results, Try.results21, go_sem, n0, n1, n2]) rfl ⟨p, c, by rw [HR2.out]; rfl, ?_, by rw [HR2.out]; exact fun h => absurd h (by simp), hbl.drew⟩
        rw [HR2.out]
        exact HVW.out.on hbl.drew
      · have hfm := fetch_more s.data.toList n b G hlt h0'
        rw [HF.out] at hfm
        have hC := fun W => byteAt_yes s b (by unfold maxLen; omega) hb W h0'
        have h0b : (((dbyte s.data.toList b).2 : Int) == 0) = false := by rw [beq_eq_false_iff_ne]; omega
        generalize (dbyte s.data.toList b).1 = D at hC hfm
        generalize (dbyte s.data.toList b).2 = E at hC d2 hfm hd2 h0b
        have HFM := Lib.hid hfm
        have HC := Lib.hid hC
        have hbE : b + E ≤ s.size := by simpa using d2
        clear hC hfm h0' d2
        go_wp2_with fail
        go_at_call 35
        refine (HC.out wr).mono ?_
        rintro e w4 ⟨v4, rfl, o4, b4⟩
        obtain ⟨p4, c4, rfl⟩ := o4.len
        have HV4 := Lib.hid o4.view
        have HO4 := Lib.hid (HO.out.below b4)
        have HX4 := Lib.hid (HX.out.on b4)
        have HZ4 := Lib.hid (HZ.out.on b4)
        have HB4 := Lib.hid (HB.out.trans (b4.mono hBs))
        have hs4 := HB4.out.size
        clear o4 b4
        have hl8 : (bitsOf D 8).length = 8 := bitsOf_length D 8
        have HL8 := Lib.hid hl8
        clear hl8
        go_wp2_with (at_builtin; refine wpList_appV rfl _ _ rfl w.heap.size (.slice q G.length cq) (.slice p4 (bitsOf D 8).length c4) G (bitsOf D 8) rfl rfl HO4.out HV4.out (by rw [HL8.out]; omega) hs4 ?_)
        intro v5 w5 o5 b5 k5
        obtain ⟨p5, c5, rfl⟩ := o5.len
        have HO5 := Lib.hid o5
        have HX5 := Lib.hid (HX4.out.oth k5)
        have HZ5 := Lib.hid (HZ4.out.oth k5)
        have HB5 := Lib.hid (HB4.out.trans b5)
        clear o5 b5 k5
        go_wp2
        go_roundw
        case rel => exact ⟨b + E, G ++ bitsOf D 8, p5, c5, HFM.out.symm, hbE, by rw [List.length_append, HL8.out]; omega, by simp, by go_num, HO5.out, HX5.out, HZ5.out, HB5.out⟩
        case measure => simp [HL8.out]; omega
    · have hfd := fetch_done s.data.toList n b G (by omega)
      rw [HF.out] at hfd
      have hR := HR.out
      rw [rbits_some _ _ _ _ hn _ _ hfd] at hR
      have HR2 := Lib.hid hR
      clear hfd hR
      go_wp2
      go_loop [11, 12] (fun v i => ∃ k : Nat, i = .int .i64 k ∧ k ≤ n ∧ v = .int .i64 (val (G.take k))) (fun _ i => n - (intOf i).toNat)
      case atStart => exact ⟨0, rfl, Nat.zero_le _, rfl⟩
      case round =>
        obtain ⟨k, rfl, hk, rfl⟩ := hrel
        by_cases hkn : k < n
        · have hkG : k < G.length := by omega
          obtain ⟨bb, o, rfl, hcell, _⟩ := HO.out.view.cell hkG
          have hlv := val_lt (G.take k)
          have hpw : 2 ^ (G.take k).length ≤ 2 ^ 16 := Nat.pow_le_pow_right (by omega) (by rw [List.length_take]; omega)
          have HT := Lib.hid (val_take_succ G k hkG)
          have hb1 : G[k].toNat ≤ 1 := by cases G[k] <;> simp
          generalize val (G.take k) = x at *
          generalize G[k].toNat = y at *
          have hx : x < 65536 := by omega
          go_wp2
          go_round
          case rel => exact ⟨k + 1, by go_num, by omega, by rw [HT.out]; go_num⟩
          case measure => simp [intOf]; omega
        · obtain rfl : k = n := by omega
          have x0 := HX.out.text
          have z0 := HZ.out.text
          have z1 := HZ.out.at
          have z2 := HZ.out.held
          have f0 := HZ.out.free 0
          have f1 := HZ.out.free 1
          have f2 := HZ.out.free 2
          have hcap : G.length ≤ cq := by
            rcases HO.out.2 with ⟨h1, h2⟩ | ⟨g, cap, cur, h1, _, _, h2, _⟩
            · omega
            · simp only [Value.slice.injEq] at h1; omega
          have hvd := HO.out.view.drop (k := k) (by omega) hcap
          rw [List.length_drop] at hvd
          have HVD := Lib.hid hvd
          have HLD := Lib.hid (show (G.drop k).length = G.length - k from List.length_drop)
          clear hvd
          have HQ : Hid (∀ b, (if cq = k then q else Option.map (fun x => x.add k) q) = some b → w.heap.size ≤ b.block) := by
            intro b hb
            rcases HO.out.2 with ⟨h1, h2⟩ | ⟨g, cap, cur, h1, hg, _⟩
            · simp only [Value.slice.injEq] at h1
              rw [h1.1] at hb
              split at hb <;> simp at hb
            · simp only [Value.slice.injEq] at h1
              rw [h1.1] at hb
              split at hb
              · simp only [Option.some.injEq] at hb
                subst hb
                exact hg
              · simp only [Option.map_some, Option.some.injEq] at hb
                subst hb
                rw [add_none]
                exact hg
          go_wp2
          go_region
          generalize (if cq = k then q else Option.map (fun x => x.add k) q) = q' at *
          have hbx := HZ.out.set s b b rfl (.slice q' (G.length - k) (cq - k))
          have hbl := below_set3 HB.out (Nat.le_succ _) (.string s) (.int .i64 b) (.slice q' (G.length - k) (cq - k))
          have hbt : But (w.heap.size + 1) wr (((wr.setCell ⟨w.heap.size + 1, 0, none⟩ (.string s)).setCell ⟨w.heap.size + 1, 1, none⟩ (.int .i64 b)).setCell ⟨w.heap.size + 1, 2, none⟩ (.slice q' (G.length - k) (cq - k))) := but_set3 _ _ _
          have HV5 := Lib.hid (HVD.out.but hbt HZ.out (by decide))
          generalize ((wr.setCell ⟨w.heap.size + 1, 0, none⟩ (.string s)).setCell ⟨w.heap.size + 1, 1, none⟩ (.int .i64 b)).setCell ⟨w.heap.size + 1, 2, none⟩ (.slice q' (G.length - k) (cq - k)) = w5 at hbx hbl HV5 ⊢
          clear hbt
          have n0 := hbx.text
          have n1 := hbx.at
          have n2 := hbx.held
          have HBL := Lib.hid hbl
          clear hbl hbx z0 z1 z2 f0 f1 f2 x0
          go_wp2
          refine bodyPost_ret (v := .tuple #[.int .i64 (val (G.take k)), .agg #[.string s, .int .i64 b, .slice q' (G.length - k) (cq - k)], .int .i64 0]) (by simp [results, Try.results21, go_sem, n0, n1, n2]) rfl ⟨q', cq - k, by rw [HR2.out]; simp only []; rw [HLD.out]; rfl, ?_, fun _ => HQ.out, HBL.out.drew⟩
          rw [HR2.out]
          simp only []
          rw [HLD.out]
          exact HV5.out
end Go.Proofs.Ytmoennlpendknaa
