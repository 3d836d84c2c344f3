/- A walk: every call of a writer, in every order, answers what the document says, and makes its bytes. -/
import Derived.Test.YtialkpfjllhfkaaRefMark
import Derived.Deep.DeepCutAuto
import Derived.Lib.Strings
namespace Go.Proofs.Ytialkpfjllhfkaa
open Go.RowKit

/-- A world that lies over 'w'. -/
structure Bel (w : World) where
  W : World
  h : Below w.heap.size w W
theorem nonempty_bel (w : World) : Nonempty (Bel w) := ⟨⟨w, Below.refl _ _⟩⟩
theorem bel_of {P : Program} {f : FuncId} {args : Array Value} {w : World} {x : Bel w} {v : Value} (h : Calls P f args x.W fun e w' => e = .returned v ∧ Below x.W.heap.size x.W w') : Calls P f args x.W fun e w'' => e = .returned v ∧ ∃ y : Bel w, w'' = y.W :=
  h.mono fun _ w' ⟨he, hb⟩ => ⟨he, ⟨w', x.h.trans (hb.mono x.h.size)⟩, rfl⟩
theorem wp_region_bel {P : Program} {id : Nat} {Q : Exit → Act → World → Prop} {a : Act} {w W : World} {l : List Oper} (hb : Below w.heap.size w W) (hm : P.follows .mixedOrders = true) (hB : Region.lexB .any l.toArray = true)
    (h : wpQuiet P l.toArray (fun W' => ∃ x : Bel w, W' = x.W) (fun a' => ∀ W', (∃ x : Bel w, W' = x.W) → Q .normal a' W') l a) : (Code.region id l.toArray true).wp P Q a W :=
  wp_region_quiet (C := fun W' => ∃ x : Bel w, W' = x.W) hm hB ⟨⟨_, hb.drew⟩, rfl⟩ (by simpa using h)

/-- Writer and document's writer stand side by side. -/
structure Both (g gm : Nat) (D : List UInt8) (T : List Bool) (p : Option Addr) (c : Nat) (w1 w : World) : Prop where
  wb : WB g g D T w
  box : BoxW gm ⟨D.toArray⟩ (.slice p T.length c) w
  view : View (.slice p T.length c) T w
  low : Below g w1 w
theorem Both.on {g gm : Nat} {D : List UInt8} {T : List Bool} {p : Option Addr} {c : Nat} {w1 w w' : World} (h : Both g gm D T p c w1 w) (hg : g ≤ w.heap.size) (hb : Below w.heap.size w w') : Both g gm D T p c w1 w' :=
  ⟨h.wb.on hb, h.box.on hb, h.view.on hb, h.low.trans (hb.mono hg)⟩
theorem wb_block {B k : Nat} {D : List UInt8} {L : List Bool} {w : World} (h : WB B k D L w) : ∃ cs fz, w.heap[k]? = some (.cells cs 58 fz) := by
  obtain ⟨_, v, hv, _⟩ := h
  exact ⟨_, _, hv⟩
/-- Behind what the writer did. -/
theorem kept_box {g gm : Nat} {d : ByteArray} {v : Value} {w w' : World} (h : BoxW gm d v w) (ho : Lib.OthersKept 5 (some g) w w') (hne : gm ≠ g) : BoxW gm d v w' := h.oth ho (by decide) (by simpa using hne)
theorem kept_view {g : Nat} {v : Value} {l : List Bool} {D : List UInt8} {T : List Bool} {w w' : World} (h : View v l w) (hw : WB g g D T w) (ho : Lib.OthersKept 5 (some g) w w') : View v l w' := by
  refine h.oth ho (by decide) ?_
  intro j hj
  obtain ⟨cs, fz, hc⟩ := wb_block hw
  cases hj
  exact ⟨cs, 58, fz, hc, by decide⟩
/-- Behind 'm, f = ..': the document's writer has been stored. -/
theorem wb_but {g gm : Nat} {D : List UInt8} {T : List Bool} {d : ByteArray} {v : Value} {w w' : World} (h : WB g g D T w) (hx : BoxW gm d v w) (hb : But gm w w') : WB g g D T w' := by
  obtain ⟨h1, u, hv, ho⟩ := h
  refine ⟨h1, u, ?_, ?_⟩
  · rw [hb.block g ?_ (Array.getElem?_eq_some_iff.1 hv).1]
    · exact hv
    · intro e
      subst e
      unfold BoxW at hx
      rw [hv] at hx
      simp at hx
  · refine World.ownsRow.kept ho hb.grown (.inr ?_)
    intro e
    obtain ⟨c, fz, hc⟩ := Lib.ownsRow_kind ho gm e
    unfold BoxW at hx
    rw [hx] at hc
    simp at hc
/-- The document's new writer is stored over the old one. -/
theorem stored {g gm : Nat} {D D' : List UInt8} {T T' : List Bool} {d : ByteArray} {v : Value} {p' : Option Addr} {c' : Nat} {w1 w5 : World} (hgm : g ≤ gm) (hw : WB g g D T w5) (hx : BoxW gm d v w5) (hv : View (.slice p' T'.length c') T' w5) (hb : Below g w1 w5) :
    WB g g D T ((w5.setCell ⟨gm, 0, none⟩ (.string ⟨D'.toArray⟩)).setCell ⟨gm, 1, none⟩ (.slice p' T'.length c')) ∧ BoxW gm ⟨D'.toArray⟩ (.slice p' T'.length c') ((w5.setCell ⟨gm, 0, none⟩ (.string ⟨D'.toArray⟩)).setCell ⟨gm, 1, none⟩ (.slice p' T'.length c')) ∧
      View (.slice p' T'.length c') T' ((w5.setCell ⟨gm, 0, none⟩ (.string ⟨D'.toArray⟩)).setCell ⟨gm, 1, none⟩ (.slice p' T'.length c')) ∧ Below g w1 ((w5.setCell ⟨gm, 0, none⟩ (.string ⟨D'.toArray⟩)).setCell ⟨gm, 1, none⟩ (.slice p' T'.length c')) := by
  have hbt : But gm w5 ((w5.setCell ⟨gm, 0, none⟩ (.string ⟨D'.toArray⟩)).setCell ⟨gm, 1, none⟩ (.slice p' T'.length c')) := but_set2 _ _
  exact ⟨wb_but hw hx hbt, hx.set _ _, hv.but hbt hx (by decide), below_set2 hb hgm _ _⟩

set_option maxRecDepth 100000 in
set_option maxHeartbeats 8000000 in
theorem writes_one (p0 : Option Addr) (cap : Nat) (L : List Call3) (w : World) (hL : L.length ≤ 200) (h256 : ∀ x ∈ L, x.1 < 256) (hc : Acts p0 L w) :
    Calls Try.prog 5 #[.slice p0 L.length cap] w fun e w' => e = .returned (.bool true) ∧ Below w.heap.size w w' := by
  have HC0 := Lib.hid hc
  clear hc
  have hLI : ¬ (200 : Int) < (L.length : Int) := by omega
  go_enter Try.func5, Try.ntmps5
  go_wp2_with fail
  go_at_call 8
  refine (awake_any w).mono ?_
  rintro e w1 ⟨rfl, b1⟩
  have HB1 := Lib.hid b1
  have HC1 := Lib.hid (HC0.out.on b1)
  have hs1 := b1.size
  clear b1
  go_wp2_with fail
  go_at_call 9
  refine (New_bits w1).mono ?_
  rintro e w2 ⟨rfl, c2, b2⟩
  have HW2 := Lib.hid c2
  have HB2 := Lib.hid b2
  clear c2 b2
  generalize hg : w1.heap.size = g at *
  have HG := Lib.hid hg
  clear hg
  have hgm : g < w2.heap.size := HW2.out.lt
  go_wp2
  have h3 : Both g w2.heap.size [] [] none 0 w1 (w2.alloc (.cells #[.string ⟨#[]⟩, .slice none 0 0] 50)) :=
    ⟨HW2.out.on ((Below.refl _ _).alloc (Nat.le_refl _) _), heap_alloc_new _ _, ⟨none, 0, rfl, .inl ⟨rfl, rfl, rfl⟩⟩, HB2.out.alloc (Nat.le_of_lt hgm) _⟩
  have H3 := Lib.hid h3
  generalize w2.alloc (.cells #[.string ⟨#[]⟩, .slice none 0 0] 50) = w3 at *
  clear h3 HW2 HB2
  generalize w2.heap.size = gm at *
  go_loopg [5] L.length (fun gk i wx => ∃ (k : Nat) (p : Option Addr) (c : Nat), gk = L.length - k ∧ i = .int .i64 k ∧ k ≤ L.length ∧ Both g gm (runW (L.take k)).1 (runW (L.take k)).2 p c w1 wx)
  case atStart => exact ⟨0, none, 0, rfl, rfl, Nat.zero_le _, H3.out⟩
  case round =>
    obtain ⟨k, p, c, rfl, rfl, hk, hBo⟩ := hrel
    have HB := Lib.hid hBo
    clear hBo H3
    by_cases hlt : k < L.length
    · obtain ⟨b, o, rfl, hb, hcell⟩ := HC1.out.resolve_left (fun h => by rw [h] at hlt; exact absurd hlt (Nat.not_lt_zero _))
      have hcell' := hcell k hlt
      have hts : L.take (k + 1) = L.take k ++ [L[k]] := List.take_succ_eq_append_getElem hlt
      have HR := Lib.hid (runW_snoc (L.take k) L[k])
      rw [← hts] at HR
      have hsz := runW_size (L.take k)
      have hsz2 : (L.take k).length ≤ 200 := by rw [List.length_take]; omega
      have hsz' := runW_size (L.take (k + 1))
      have hsz2' : (L.take (k + 1)).length ≤ 200 := by rw [List.length_take]; omega
      have h256k := h256 L[k] (List.getElem_mem hlt)
      have hb' : b < g := by rw [← HG.out]; exact hb
      clear hts hcell
      generalize hS' : runW (L.take (k + 1)) = S' at *
      have HS' := Lib.hid hS'
      clear hS'
      generalize runW (L.take k) = S at *
      obtain ⟨D, T⟩ := S
      obtain ⟨D', T'⟩ := S'
      simp only at HB hsz HR hsz'
      have HX : Hid (∀ W, Below g w1 W → W.cell? ⟨b, o + k * 3, none⟩ = some (.int .u8 (L[k].1 : Nat)) ∧ W.cell? ⟨b, o + k * 3 + 1, none⟩ = some (.int .i64 L[k].2.1) ∧ W.cell? ⟨b, o + k * 3 + 2, none⟩ = some (.int .i64 L[k].2.2)) := by
        intro W hW
        rw [hW.cell hb', hW.cell hb', hW.cell hb']
        exact hcell'
      clear hcell'
      generalize L[k] = a at *
      obtain ⟨d, v, n⟩ := a
      simp only at HX h256k
      obtain ⟨x0, x1, x2⟩ := HX.out wr HB.out.low
      go_upto_if 30 with fail
      go_cut [6, 7] from 18 to 101 (fun v6 v7 wx => ∃ (E : Nat) (p' : Option Addr) (c' : Nat), v6 = .int .i64 E ∧ v7 = .int .i64 E ∧ Both g gm D' T' p' c' w1 wx)
      case first =>
        by_cases hp : d % 6 < 5
        · have hq : isPut (d, v, n) = true := by unfold isPut; simp [hp]
          have hS : (D', T') = (D, T ++ putBits v n) := by rw [HR.out]; unfold stepW; rw [if_pos hq]
          simp only [Prod.mk.injEq] at hS
          obtain ⟨rfl, rfl⟩ := hS
          have hd : (d : Int) % 6 < 5 := by omega
          have HP := Lib.hid (Put_any g g D' T v n wr.drew HB.out.wb (by omega))
          have HRP := Lib.hid (fun W hv => rPut_any ⟨D'.toArray⟩ p c T v n W hv (by omega))
          generalize putErr v n = E at *
          clear hq HR
          go_upto_region 11 with fail
          go_cut [7] from 18 to 101 (fun v7 wx => v7 = .int .i64 E ∧ WB g g D' (T ++ putBits v n) wx ∧ BoxW gm ⟨D'.toArray⟩ (.slice p T.length c) wx ∧ View (.slice p T.length c) T wx ∧ Below g w1 wx)
          case first =>
            go_region_with (go_at_call 10; refine HP.out.mono ?_; rintro e w4 ⟨rfl, c4, b4, k4⟩)
            all_goals
              go_wp2_with fail
              go_meet
              exact ⟨rfl, c4, kept_box (w := wr.drew) HB.out.box k4 (Nat.ne_of_gt hgm), kept_view (w := wr.drew) HB.out.view HB.out.wb k4, HB.out.low.trans (Below.trans (b := wr.drew) ⟨rfl, rfl, rfl, Nat.le_refl _, fun _ _ => rfl⟩ b4)⟩
          case rest =>
            obtain ⟨rfl, c4, m4, v4, b4⟩ := hcut
            have HW4 := Lib.hid c4
            have HM4 := Lib.hid m4
            have HV4 := Lib.hid v4
            have HB4 := Lib.hid b4
            have m0 := m4.done
            have m1 := m4.bits
            have hml := m4.lt
            have hgs4 : g ≤ wc.heap.size := by rw [← HG.out]; exact b4.size
            obtain ⟨y0, y1, y2⟩ := HX.out wc b4
            have HRP4 := Lib.hid (HRP.out wc.drew v4)
            clear c4 m4 v4 b4 x0 x1 x2 HP HRP HB HX HC1
            go_wp2_with fail
            go_region_with (go_at_call 22; refine HRP4.out.mono ?_; rintro e w5 ⟨p', c', rfl, v5, b5⟩; have hb45 : Below wc.heap.size wc w5 := ⟨b5.os, b5.tape, b5.output, b5.size, b5.block⟩; have mm := HM4.out.on hb45; have n0 := mm.done; have n1 := mm.bits; have f0 := mm.free 0; have f1 := mm.free 1)
            all_goals
              go_wp2_with fail
              go_meet
              have hla : (T ++ putBits v n).length = T.length + (putBits v n).length := List.length_append
              have hst := stored (D' := D') (Nat.le_of_lt hgm) (HW4.out.on hb45) mm v5 (HB4.out.trans (hb45.mono hgs4))
              rw [hla] at hst
              exact ⟨E, p', c', rfl, rfl, ⟨hst.1, by rw [hla]; exact hst.2.1, by rw [hla]; exact hst.2.2.1, hst.2.2.2⟩⟩
        · have hq : ¬ isPut (d, v, n) = true := by unfold isPut; simp; omega
          have hS : markS D T v = (D', T') := by rw [HR.out]; unfold stepW; rw [if_neg hq]
          have hd : (d : Int) % 6 = 5 := by omega
          have hP := Mark_any g g D T v wr HB.out.wb (by omega)
          have hRP := fun W hv => rMark_any D p c T v W hv (by omega) (by omega)
          rw [hS] at hP hRP
          simp only at hP hRP
          have HP := Lib.hid hP
          have HRP := Lib.hid hRP
          generalize markErr v = E at *
          clear hq HR hS hP hRP
          go_wp2_with fail
          go_at_call 11
          refine HP.out.mono ?_
          rintro e w4 ⟨rfl, c4, b4, k4⟩
          have HW4 := Lib.hid c4
          have m4 := kept_box HB.out.box k4 (Nat.ne_of_gt hgm)
          have HM4 := Lib.hid m4
          have v4 := kept_view HB.out.view HB.out.wb k4
          have b14 := HB.out.low.trans b4
          have HB4 := Lib.hid b14
          have m0 := m4.done
          have m1 := m4.bits
          have hml := m4.lt
          have hgs4 : g ≤ w4.heap.size := by rw [← HG.out]; exact b14.size
          obtain ⟨y0, y1, y2⟩ := HX.out w4 b14
          have HRP4 := Lib.hid (HRP.out w4.drew v4)
          clear c4 m4 v4 b4 b14 k4 x0 x1 x2 HP HRP HB HX HC1
          go_wp2_with fail
          go_region_with (go_at_call 23; refine HRP4.out.mono ?_; rintro e w5 ⟨p', c', rfl, v5, b5⟩; have hb45 : Below w4.heap.size w4 w5 := ⟨b5.os, b5.tape, b5.output, b5.size, b5.block⟩; have mm := HM4.out.on hb45; have n0 := mm.done; have n1 := mm.bits; have f0 := mm.free 0; have f1 := mm.free 1)
          all_goals
            go_wp2_with fail
            go_meet
            have hst := stored (D' := D') (Nat.le_of_lt hgm) (HW4.out.on hb45) mm v5 (HB4.out.trans (hb45.mono hgs4))
            exact ⟨E, p', c', rfl, rfl, ⟨hst.1, hst.2.1, hst.2.2.1, hst.2.2.2⟩⟩
      case rest =>
        obtain ⟨E, p', c', rfl, rfl, hBo⟩ := hcut
        have HBo := Lib.hid hBo
        have hgs : g ≤ wc.heap.size := by rw [← HG.out]; exact hBo.low.size
        have lb : ∀ x : Bel wc, x.W.cell? ⟨gm, 1, none⟩ = some (.slice p' T'.length c') := fun x => (hBo.box.on x.h).bits
        have ld : ∀ x : Bel wc, x.W.cell? ⟨gm, 0, none⟩ = some (.string ⟨D'.toArray⟩) := fun x => (hBo.box.on x.h).done
        have LEN : Hid (∀ x : Bel wc, Calls Try.prog 24 #[.pointer (some ⟨g, 0, none⟩)] x.W fun e w' => e = .returned (.int .i64 T'.length) ∧ Below x.W.heap.size x.W w') := fun x => (Len_bits g g D' T' x.W (hBo.wb.on x.h)).mono fun e w' ⟨he, hw⟩ => ⟨he, hw ▸ Below.refl _ _⟩
        have BYT : Hid (∀ x : Bel wc, Calls Try.prog 13 #[.pointer (some ⟨g, 0, none⟩)] x.W fun e w' => e = .returned (.string ⟨(D' ++ stuff T').toArray⟩) ∧ Below x.W.heap.size x.W w') := fun x => Bytes_bits g g D' T' x.W (hBo.wb.on x.h) (by omega)
        have RBY : Hid (∀ x : Bel wc, Calls Try.prog 25 #[.slice p' T'.length c'] x.W fun e w' => e = .returned (.string ⟨(stuff T').toArray⟩) ∧ Below x.W.heap.size x.W w') := fun x => rBytes_any p' c' T' x.W (hBo.view.on x.h) (by omega)
        have hst : (stuff T').length ≤ 1000 := by have := stuff_length ((T'.length + 7) / 8) T' (by omega); omega
        have hcat := bytes_app D' (stuff T')
        have hn1 : ¬ 9223372036854775807 < (⟨D'.toArray⟩ : ByteArray).size + (⟨(stuff T').toArray⟩ : ByteArray).size := by
          rw [Lib.size_eq, Lib.size_eq]
          show ¬ 9223372036854775807 < D'.length + (stuff T').length
          omega
        generalize (⟨(D' ++ stuff T').toArray⟩ : ByteArray) = B1 at hcat BYT
        generalize (⟨D'.toArray⟩ : ByteArray) = D0 at hcat ld hn1
        generalize (⟨(stuff T').toArray⟩ : ByteArray) = S0 at hcat RBY hn1
        clear hBo x0 x1 x2 HX
        by_cases h8 : k % 8 = 0
        · have h8b : ((k : Int) % 8 == 0) = true := by rw [beq_iff_eq]; omega
          go_wp2_with fail
          have hnb := nonempty_bel
          refine wp_region_bel (Below.refl wc.heap.size wc) (by kernel_rfl) (by kernel_rfl) ?_
          repeat (go_big_quiet_step (first
            | (go_at_call 24; exact bel_of (LEN.out _))
            | (go_at_call 13; exact bel_of (BYT.out _))
            | (go_at_call 25; exact bel_of (RBY.out _))))
          refine wpQuiet_nil ?_
          intro _ hw'
          obtain ⟨x, hw''⟩ := hw'
          subst hw''
          have HF := Lib.hid (HBo.out.on hgs x.h)
          go_wp2
          go_roundg (L.length - (k + 1))
          case measure => omega
          case rel => exact ⟨k + 1, p', c', rfl, by go_num, by omega, by rw [HS'.out]; exact HF.out⟩
        · have h8b : ((k : Int) % 8 == 0) = false := by rw [beq_eq_false_iff_ne]; omega
          go_wp2_with fail
          have hnb := nonempty_bel
          refine wp_region_bel (Below.refl wc.heap.size wc) (by kernel_rfl) (by kernel_rfl) ?_
          repeat (go_big_quiet_step ((go_at_call 24; exact bel_of (LEN.out _))))
          refine wpQuiet_nil ?_
          intro _ hw'
          obtain ⟨x, hw''⟩ := hw'
          subst hw''
          have HF := Lib.hid (HBo.out.on hgs x.h)
          go_wp2
          go_roundg (L.length - (k + 1))
          case measure => omega
          case rel => exact ⟨k + 1, p', c', rfl, by go_num, by omega, by rw [HS'.out]; exact HF.out⟩
    · obtain rfl : k = L.length := by omega
      have hsz := runW_size (L.take L.length)
      have hsz2 : (L.take L.length).length ≤ 200 := by rw [List.length_take]; omega
      generalize runW (L.take L.length) = S at *
      obtain ⟨D, T⟩ := S
      simp only at HB hsz
      have hBo := HB.out
      have hgs : g ≤ wr.heap.size := by rw [← HG.out]; exact hBo.low.size
      have lb : ∀ x : Bel wr, x.W.cell? ⟨gm, 1, none⟩ = some (.slice p T.length c) := fun x => (hBo.box.on x.h).bits
      have ld : ∀ x : Bel wr, x.W.cell? ⟨gm, 0, none⟩ = some (.string ⟨D.toArray⟩) := fun x => (hBo.box.on x.h).done
      have BYT : Hid (∀ x : Bel wr, Calls Try.prog 13 #[.pointer (some ⟨g, 0, none⟩)] x.W fun e w' => e = .returned (.string ⟨(D ++ stuff T).toArray⟩) ∧ Below x.W.heap.size x.W w') := fun x => Bytes_bits g g D T x.W (hBo.wb.on x.h) (by omega)
      have RBY : Hid (∀ x : Bel wr, Calls Try.prog 25 #[.slice p T.length c] x.W fun e w' => e = .returned (.string ⟨(stuff T).toArray⟩) ∧ Below x.W.heap.size x.W w') := fun x => rBytes_any p c T x.W (hBo.view.on x.h) (by omega)
      have hst : (stuff T).length ≤ 1000 := by have := stuff_length ((T.length + 7) / 8) T (by omega); omega
      have hcat := bytes_app D (stuff T)
      have hn1 : ¬ 9223372036854775807 < (⟨D.toArray⟩ : ByteArray).size + (⟨(stuff T).toArray⟩ : ByteArray).size := by
        rw [Lib.size_eq, Lib.size_eq]
        show ¬ 9223372036854775807 < D.length + (stuff T).length
        omega
      generalize (⟨(D ++ stuff T).toArray⟩ : ByteArray) = B1 at hcat BYT
      generalize (⟨D.toArray⟩ : ByteArray) = D0 at hcat ld hn1
      generalize (⟨(stuff T).toArray⟩ : ByteArray) = S0 at hcat RBY hn1
      clear hBo
      go_wp2_with fail
      have hnb := nonempty_bel
      refine wp_region_bel (Below.refl wr.heap.size wr) (by kernel_rfl) (by kernel_rfl) ?_
      repeat (go_big_quiet_step (first
        | (go_at_call 13; exact bel_of (BYT.out _))
        | (go_at_call 25; exact bel_of (RBY.out _))))
      refine wpQuiet_nil ?_
      intro _ hw'
      obtain ⟨x, hw''⟩ := hw'
      subst hw''
      have HF := Lib.hid (HB.out.on hgs x.h).low
      go_wp2
      go_ret
      exact ⟨rfl, HB1.out.trans (HF.out.mono hs1)⟩
set_option maxRecDepth 100000 in
set_option maxHeartbeats 1000000 in
theorem writes_long (p : Option Addr) (n cap : Nat) (_hn : n ≤ maxLen) (h : 200 < n) (w : World) :
    Calls Try.prog 5 #[.slice p n cap] w fun e w' => e = .returned (.bool true) ∧ Below w.heap.size w w' := by
  have h' : (200 : Int) < (n : Int) := by omega
  unfold maxLen at _hn
  go_enter Try.func5, Try.ntmps5
  go_wp2_with fail
  go_at_call 8
  refine (awake_any w).mono ?_
  rintro e w1 ⟨rfl, b1⟩
  have HB1 := Lib.hid b1
  clear b1
  go_wp2_with fail
  go_at_call 8
  refine (awake_any w1).mono ?_
  rintro e w2 ⟨rfl, b2⟩
  have HB2 := Lib.hid (HB1.out.trans (b2.mono HB1.out.size))
  clear b2
  go_wp2
  go_ret
  exact ⟨rfl, HB2.out⟩
theorem BitsWrites_any (p : Option Addr) (cap : Nat) (L : List Call3) (w : World) (hn : L.length ≤ maxLen) (h256 : ∀ x ∈ L, x.1 < 256) (hc : Acts p L w) :
    Calls Try.prog 5 #[.slice p L.length cap] w fun e w' => e = .returned (.bool true) ∧ Below w.heap.size w w' := by
  by_cases h : 200 < L.length
  · exact writes_long p L.length cap hn h w
  · exact writes_one p cap L w (by omega) h256 hc
end Go.Proofs.Ytialkpfjllhfkaa
