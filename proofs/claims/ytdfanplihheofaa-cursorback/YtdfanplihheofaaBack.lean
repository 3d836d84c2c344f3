/- A walk: what was put is read again; what is read, put again, is the bytes. -/
import Derived.Test.YtdfanplihheofaaBackPlain
namespace Go.Proofs.Ytdfanplihheofaa
open Go.RowKit

theorem But.grown {k : Nat} {w w' : World} (h : But k w w') : w.grownBy w' (some k) := ⟨h.os, h.tape, h.output, h.size, fun j hj hne => h.block j (fun e => hne (by rw [e])) hj⟩
theorem below_grown {w w' : World} (h : Below w.heap.size w w') : w.grownBy w' none := ⟨h.os, h.tape, h.output, h.size, fun j hj _ => h.block j hj⟩

theorem info3 : (Try.prog.info? 3).map (fun i => (i.zero, i.size, i.bytes)) = some (some (.int .i64 0), 1, 8) := by kernel_rfl

def intCells (l : List Int) : List Value := l.map (Value.int .i64)
/-- A slice of ints of the call's own, from block B on. -/
def OwnI (B : Nat) (v : Value) (l : List Int) (w : World) : Prop := w.ownsRow B 3 1 v l.length (intCells l)
theorem OwnI.below {B : Nat} {v : Value} {l : List Int} {w w' : World} (h : OwnI B v l w) (hb : Below w.heap.size w w') : OwnI B v l w' := World.ownsRow.kept h (below_grown hb) (by cases v.ownBlock <;> simp)
theorem OwnI.but {B k : Nat} {v : Value} {l : List Int} {w w' : World} (h : OwnI B v l w) (hb : But k w w') (hk : v.ownBlock ≠ some k) : OwnI B v l w' := World.ownsRow.kept h hb.grown (.inr hk)
theorem OwnI.len {B : Nat} {v : Value} {l : List Int} {w : World} (h : OwnI B v l w) : ∃ p c, v = .slice p l.length c := by
  rcases h.2 with ⟨rfl, h0⟩ | ⟨g, cap, cur, rfl, _⟩
  · exact ⟨none, 0, by rw [h0]⟩
  · exact ⟨_, _, rfl⟩

/-- append(v, x): the new row is the call's own. -/
theorem wpList_appI {ops : Array Oper} {rest : List Oper} {o : Oper} {a : Act} {Q : Exit → Act → World → Prop} {w0 : World} (hgd : o.guard = none) (s x : Operand)
    (ho : o.op = .call { callee := .builtin .append, args := #[s, x], argTypes := #[22, 22] })
    (B : Nat) (v : Value) (acc : List Int) (z : Int)
    (hs : a.eval s = v) (hx : a.eval x = .slice (some ⟨w0.heap.size, 0, none⟩) 1 1)
    (hown : OwnI B v acc w0) (hlen : acc.length ≤ 1000000) (hB : B ≤ w0.heap.size)
    (h : ∀ v' w', OwnI B v' (acc ++ [z]) w' → Below B w0 w' → wpList Try.prog ops Q rest (a.put o.dst v') w') :
    wpList Try.prog ops Q (o :: rest) a (w0.alloc (.cells #[.int .i64 z] 3)) := by
  obtain ⟨i0, hi, hz0, hz1, hz2⟩ := info_parts info3
  refine wpList_append_own _ hgd s x 22 ho B 3 i0 (.int .i64 0) 1 8 Try.underlying22 hi hz0 hz1 hz2 rfl (by decide) v acc.length (intCells acc) hs (World.ownsRow.alloc hown _) ⟨w0.heap.size, 0, none⟩ 1 1 [.int .i64 z] hx rfl ?_ ?_ (by unfold maxLen; omega) (by omega) (by simp; omega) ?_
  · intro j u hj
    have hadd : (⟨w0.heap.size, 0, none⟩ : Addr).add j = ⟨w0.heap.size, j, none⟩ := by unfold Addr.add; split <;> simp_all
    rw [hadd, cell_of_row _ w0.heap.size j _ 3 (0, 0) (heap_alloc_new w0 _)]
    simpa using hj
  · intro u hu
    simp only [List.mem_singleton] at hu
    subst hu
    rfl
  · intro v' w' hown' hg _
    refine h v' w' ?_ ?_
    · unfold OwnI intCells
      rw [List.length_append, List.map_append]
      exact hown'
    · have ho2 := World.ownsRow.alloc hown (.cells #[.int .i64 z] 3)
      exact ((Below.refl B w0).alloc hB _).grown hg (by simp; omega) (fun k hk => (ho2.lt k hk).1)

set_option maxHeartbeats 4000000 in
theorem back_one (p0 : Option Addr) (cap : Nat) (L : List Int) (m : Int) (w : World) (hL : L.length ≤ 100)
    (hc : L = [] ∨ ∃ b o, p0 = some ⟨b, o, none⟩ ∧ b < w.heap.size ∧ ∀ i (hi : i < L.length), w.cell? ⟨b, o + i, none⟩ = some (.int .i64 L[i])) :
    Calls Try.prog 3 #[.slice p0 L.length cap, .int .i64 m] w fun e w' => e = .returned (.bool true) ∧ Below w.heap.size w w' := by
  have HC0 := Lib.hid hc
  clear hc
  go_enter Try.func3, Try.ntmps3
  go_wp2
  go_loopw [5, 6, 7] (fun s v i wr => ∃ k : Nat, i = .int .i64 k ∧ k ≤ L.length ∧ s = .string ⟨(textOf m (goods m (L.take k))).toArray⟩ ∧ OwnI w.heap.size v (goods m (L.take k)) wr ∧ Below w.heap.size w wr) (fun _ _ i _ => L.length - (intOf i).toNat)
  case atStart => exact ⟨0, rfl, Nat.zero_le _, rfl, World.ownsRow_nil _ _ _ _, Below.refl _ _⟩
  case round =>
    obtain ⟨k, rfl, hk, rfl, hO, hB⟩ := hrel
    have HO := Lib.hid hO
    have HB := Lib.hid hB
    have hBs := hB.size
    clear hO hB
    by_cases hlt : k < L.length
    · obtain ⟨b, o, rfl, hb, hc⟩ := HC0.out.resolve_left (fun h => by rw [h] at hlt; exact absurd hlt (Nat.not_lt_zero _))
      have HC := Lib.hid hc
      clear hc
      have hcell : wr.cell? ⟨b, o + k, none⟩ = some (.int .i64 L[k]) := by rw [HB.out.cell hb]; exact HC.out k hlt
      have hts : L.take (k + 1) = L.take k ++ [L[k]] := List.take_succ_eq_append_getElem hlt
      have hgl : (goods m (L.take k)).length ≤ 100 := Nat.le_trans (List.length_filter_le _ _) (by rw [List.length_take]; omega)
      have htl : (textOf m (goods m (L.take k))).length ≤ 400 := by
        by_cases h0 : goods m (L.take k) = []
        · rw [h0]; simp [textOf]
        · obtain ⟨y, hy⟩ := List.exists_mem_of_ne_nil _ h0
          have := (okP_iff m y).1 (goods_ok m _ y hy)
          rw [textOf_length m _ (goods_ok m _)]
          have h4 : m.toNat ≤ 4 := by omega
          exact Nat.le_trans (Nat.mul_le_mul hgl h4) (by decide)
      have HS := Lib.hid (goods_snoc m (L.take k) L[k])
      rw [← hts] at HS
      clear hts
      by_cases hok : okP m L[k] = true
      · have hp := Put_any L[k] m
        have hbl := bytesOf_length m L[k] hok
        have hm4 := ((okP_iff m L[k]).1 hok).1
        have h2 : (putted L[k] m).2 = 0 := by simpa [okP] using hok
        have HX := Lib.hid (textOf_snoc m (goods m (L.take k)) L[k])
        rw [h2] at hp
        unfold bytesOf at hbl HX
        generalize (putted L[k] m).1 = t at hp hbl HX
        have hts : t.size ≤ 4 := by rw [Lib.size_eq, hbl]; omega
        have HP := Lib.hid hp
        rw [if_pos hok] at HS
        clear hp hbl h2 hm4 hok
        generalize goods m (L.take k) = G at *
        generalize textOf m G = T at *
        go_wp2_with fail
        go_at_call 9
        refine (HP.out wr).mono ?_
        rintro e w1 ⟨rfl, b1⟩
        have HO1 := Lib.hid (HO.out.below b1)
        have HB1 := Lib.hid (HB.out.trans (b1.mono HB.out.size))
        have hB1 := HB1.out.size
        have hcell1 : w1.cell? ⟨b, o + k, none⟩ = some (.int .i64 L[k]) := by rw [HB1.out.cell hb]; exact HC.out k hlt
        clear b1
        go_wp2_with (at_builtin; refine wpList_appI rfl _ _ rfl w.heap.size u6 G L[k] rfl rfl HO1.out (by omega) hB1 ?_)
        intro v2 w2 o2 b2
        have HO2 := Lib.hid o2
        have HB2 := Lib.hid (HB1.out.trans b2)
        clear o2 b2
        go_wp2
        go_roundw
        case rel =>
          refine ⟨k + 1, by go_num, by omega, ?_, by rw [HS.out]; exact HO2.out, HB2.out⟩
          rw [HS.out, HX.out]
          congr 1
        case measure => simp [intOf]; omega
      · have hp := Put_any L[k] m
        have h2 : (putted L[k] m).2 ≠ 0 := by simpa [okP] using hok
        generalize putted L[k] m = R at hp h2
        obtain ⟨t, c⟩ := R
        simp only at hp h2
        have h2' : ((c : Int) == 0) = false := beq_eq_false_iff_ne.2 (by omega)
        have HP := Lib.hid hp
        rw [if_neg hok, List.append_nil] at HS
        clear hp h2 hok
        generalize goods m (L.take k) = G at *
        go_wp2_with fail
        go_at_call 9
        refine (HP.out wr).mono ?_
        rintro e w1 ⟨rfl, b1⟩
        have HO1 := Lib.hid (HO.out.below b1)
        have HB1 := Lib.hid (HB.out.trans (b1.mono HB.out.size))
        clear b1
        go_wp2
        go_roundw
        case rel => exact ⟨k + 1, by go_num, by omega, by rw [HS.out], by rw [HS.out]; exact HO1.out, HB1.out⟩
        case measure => simp [intOf]; omega
    · obtain rfl : k = L.length := by omega
      have hall := goods_ok m (L.take L.length)
      have hgl : (goods m (L.take L.length)).length ≤ 100 := Nat.le_trans (List.length_filter_le _ _) (by rw [List.length_take]; omega)
      generalize goods m (L.take L.length) = G at *
      have hsz : (⟨(textOf m G).toArray⟩ : ByteArray).size = G.length * m.toNat := by rw [Lib.size_eq]; exact textOf_length m G hall
      have hm4 : G.length = 0 ∨ (1 ≤ m ∧ m ≤ 4) := by
        cases G with
        | nil => exact .inl rfl
        | cons x G => exact .inr ((okP_iff m x).1 (hall x (List.mem_cons_self ..))).1
      have hs4 : (⟨(textOf m G).toArray⟩ : ByteArray).size ≤ 400 := by
        rw [hsz]
        rcases hm4 with h | h
        · rw [h]; omega
        · have h4 : m.toNat ≤ 4 := by omega
          exact Nat.le_trans (Nat.mul_le_mul hgl h4) (by decide)
      have hEx := extract_at m G hall
      generalize (⟨(textOf m G).toArray⟩ : ByteArray) = s at *
      have HSZ := Lib.hid hsz
      have HEX := Lib.hid hEx
      have HA := Lib.hid hall
      have HM4 := Lib.hid hm4
      clear hsz hEx hall hm4 hlt
      obtain ⟨p, c, hv⟩ := HO.out.len
      subst hv
      go_wp2_with fail
      go_at_call 10
      refine (New_cur s wr).mono ?_
      rintro e w1 ⟨rfl, c1, b1⟩
      have HO1 := Lib.hid (HO.out.below b1)
      have HB1 := Lib.hid (HB.out.trans (b1.mono HB.out.size))
      have hne : ∀ j, (Value.slice p G.length c).ownBlock = some j → j ≠ wr.heap.size := fun j hj => by have := (World.ownsRow.lt HO.out j hj).2; omega
      have hne' : (Value.slice p G.length c).ownBlock ≠ some wr.heap.size := fun h => hne _ h rfl
      have HNE := Lib.hid hne'
      have HC1 := Lib.hid c1
      clear b1 c1 hne hne'
      have hg0 : w.heap.size ≤ wr.heap.size := hBs
      generalize wr.heap.size = g at *
      go_wp2
      go_loopw [11] (fun i w2 => ∃ j : Nat, i = .int .i64 j ∧ j ≤ G.length ∧ Cur g s (j * m.toNat) w2 ∧ OwnI w.heap.size (.slice p G.length c) G w2 ∧ Below w.heap.size w w2) (fun i _ => G.length - (intOf i).toNat)
      case atStart => exact ⟨0, rfl, Nat.zero_le _, by rw [Nat.zero_mul]; exact HC1.out, HO1.out, HB1.out⟩
      case round =>
        obtain ⟨j, rfl, hj, hcur, hO2, hB2⟩ := hrel
        have HC2 := Lib.hid hcur
        have HO2 := Lib.hid hO2
        have HB2 := Lib.hid hB2
        have hs2 := hB2.size
        clear hcur hO2 hB2
        by_cases hlt : j < G.length
        · obtain ⟨M, rfl⟩ := Int.eq_ofNat_of_zero_le (show 0 ≤ m by have := HM4.out; omega)
          have hM := HM4.out
          have hM1 : 1 ≤ M := by omega
          have hM4 : M ≤ 4 := by omega
          have hx := (okP_iff _ _).1 (HA.out G[j] (List.getElem_mem hlt))
          have he := HEX.out j hlt
          have hsz := HSZ.out
          have hcur := HC2.out
          simp only [Int.toNat_natCast] at hx he hsz hcur
          have hpo := putted_ok M hM1 hM4 G[j] hx.2.1 hx.2.2
          rw [hpo] at he
          have hjm : j * M + M ≤ s.size := by
            rw [hsz, ← Nat.succ_mul]
            exact Nat.mul_le_mul_right _ hlt
          have hnu := numbered_at M hM1 hM4 s (j * M) hjm G[j] hx.2.1 hx.2.2 he
          have hN := Num_any g s (j * M) (M : Int) wr hcur (by unfold maxLen; omega) (by omega)
          rw [hnu] at hN
          have hP := Put_any G[j] (M : Int)
          rw [hpo] at hP
          have hc : ∃ q, p = some ⟨q, 0, none⟩ ∧ ∀ W, OwnI w.heap.size (.slice p G.length c) G W → W.cell? ⟨q, j, none⟩ = some (.int .i64 G[j]) := by
            rcases HO2.out.2 with ⟨h0, h1⟩ | ⟨q, cap', cur, h0, _⟩
            · omega
            · obtain ⟨rfl, rfl⟩ : p = some ⟨q, 0, none⟩ ∧ c = cap' := by simpa using h0
              refine ⟨q, rfl, fun W hW => ?_⟩
              rw [World.ownsRow.cellAt hW j (by omega)]
              simp [intCells, hlt]
          obtain ⟨q, rfl, hcell⟩ := hc
          have HCELL := Lib.hid hcell
          have ht : (⟨(be G[j].toNat M).toArray⟩ : ByteArray).size = M := by rw [Lib.size_eq]; exact be_length _ _
          generalize (⟨(be G[j].toNat M).toArray⟩ : ByteArray) = t at *
          obtain ⟨x, hxx⟩ := Int.eq_ofNat_of_zero_le hx.2.1
          generalize G[j] = y at *
          subst hxx
          simp only [Int.toNat_natCast] at hN
          generalize hA : j * M = a at *
          have HA0 := Lib.hid hA
          have HN := Lib.hid hN
          have HP := Lib.hid hP
          have HE := Lib.hid he
          have HT := Lib.hid ht
          clear hN hP he ht hx hpo hnu hcell hcur hsz hM hA
          go_wp2_with fail
          go_at_call 11
          refine HN.out.mono ?_
          rintro e w3 ⟨rfl, c3, b3⟩
          have HC3 := Lib.hid c3
          have HO3 := Lib.hid (HO2.out.but b3 HNE.out)
          have HB3 := Lib.hid (HB2.out.trans (b3.below hg0 hs2))
          clear c3 b3
          go_wp2_with fail
          go_at_call 9
          refine (HP.out w3).mono ?_
          rintro e w4 ⟨rfl, b4⟩
          have HC4 := Lib.hid (cur_on HC3.out b4)
          have HO4 := Lib.hid (HO3.out.below b4)
          have HB4 := Lib.hid (HB3.out.trans (b4.mono HB3.out.size))
          have hcell4 := HCELL.out w4 HO4.out
          have ht := HT.out
          have he := HE.out
          clear b4
          go_wp2_with (go_at_call 12; refine (At_any g s (a + M) _ HC4.out).mono ?_; rintro e w' ⟨rfl, rfl⟩)
          go_roundw
          case rel => exact ⟨j + 1, by go_num, by omega, by rw [show (j + 1) * ((M : Nat) : Int).toNat = a + M by rw [Int.toNat_natCast, Nat.succ_mul, HA0.out]]; exact HC4.out, HO4.out, HB4.out⟩
          case measure => simp [intOf]; omega
        · obtain rfl : j = G.length := by omega
          have HL := Lib.hid (show G.length * m.toNat = s.size from HSZ.out.symm)
          go_wp2_with fail
          go_at_call 8
          refine (awake_any _).mono ?_
          rintro e w3 ⟨rfl, b3⟩
          have hc3 := cur_on HC2.out b3
          rw [HL.out] at hc3
          have hl3 := Left_any g s s.size w3 hc3 (Nat.le_refl _) (by unfold maxLen; omega)
          rw [Nat.sub_self] at hl3
          have HL3 := Lib.hid hl3
          have HB3 := Lib.hid (HB2.out.trans (b3.mono HB2.out.size))
          clear hl3 hc3 b3
          go_wp2_with fail
          go_at_call 13
          refine HL3.out.mono ?_
          rintro e w4 ⟨rfl, n4, rfl⟩
          go_wp2
          go_ret
          exact ⟨rfl, HB3.out.trans ⟨rfl, rfl, rfl, Nat.le_refl _, fun _ _ => rfl⟩⟩

set_option maxHeartbeats 1000000 in
theorem back_long (p : Option Addr) (n cap : Nat) (_hn : n ≤ maxLen) (h : 100 < n) (m : Int) (w : World) :
    Calls Try.prog 3 #[.slice p n cap, .int .i64 m] w fun e w' => e = .returned (.bool true) ∧ Below w.heap.size w w' := by
  have h' : (100 : Int) < (n : Int) := by omega
  unfold maxLen at _hn
  go_enter Try.func3, Try.ntmps3
  go_wp2_with (go_at_call 8; refine (awake_any w).mono ?_; rintro e w' ⟨rfl, hb⟩)
  go_ret
  exact ⟨rfl, hb⟩

theorem CursorBack_any (p : Option Addr) (cap : Nat) (L : List Int) (m : Int) (w : World) (hn : L.length ≤ maxLen)
    (hc : L = [] ∨ ∃ b o, p = some ⟨b, o, none⟩ ∧ b < w.heap.size ∧ ∀ i (hi : i < L.length), w.cell? ⟨b, o + i, none⟩ = some (.int .i64 L[i])) :
    Calls Try.prog 3 #[.slice p L.length cap, .int .i64 m] w fun e w' => e = .returned (.bool true) ∧ Below w.heap.size w w' := by
  by_cases h : 100 < L.length
  · exact back_long p L.length cap hn h m w
  · exact back_one p cap L m w (by omega) hc
end Go.Proofs.Ytdfanplihheofaa
