/- A key's block, as the document has it. Conditions: a key has no more than 900,000 bytes. -/
import Derived.Test.YtilfmemfnheppaaDoorMB
import Derived.Test.YtilfmemfnheppaaDoorT
namespace Go.Proofs.YtilfmemfnheppaaDoor
open Go.RowKit Hx
set_option linter.unusedVariables false

theorem nth_app_left (l r : List Int) (i : Nat) (h : i < l.length) : nth (l ++ r) i = nth l i := by
  unfold nth; simp [List.getElem?_append_left h]
theorem mx_stop (l : List Int) (n : Nat) (h : l.length ≤ n) : mx (l ++ List.replicate (n - l.length) 0) (List.replicate n 0) l.length = l ++ List.replicate (n - l.length) 0 := by
  unfold mx
  rw [List.take_append_of_le_length (Nat.le_refl _), List.take_length, List.drop_replicate]

set_option maxRecDepth 100000 in
set_option maxHeartbeats 1000000 in
theorem rblock_any (v : Value) (key : List Int) (w : World) (hv : Sl w v key) (hnil : ∀ n c, v = .slice none n c → n = 0 ∧ c = 0) (hsz : key.length ≤ 900000) :
    Calls Tryd.prog 29 #[v] w fun en w' => en = .returned (arr .u8 (blkK key)) ∧ Below w.heap.size w w' := by
  have h64 : (Tryd.prog.info? 59).map (·.size) = some (blkK key).length := by rw [blkK_len]; exact Tryd.size59
  have hbl := blkK_len key
  have hX : (List.replicate 64 (0 : Int)).length = 64 := rfl
  have hAX : (blkK key).length = (List.replicate 64 (0 : Int)).length := hbl
  obtain ⟨ad, cap, hve, hbd, hl, hcap, hr⟩ := id hv
  by_cases hle : key.length ≤ 64
  · have hBK : blkK key = key ++ List.replicate (64 - key.length) 0 := by unfold blkK; rw [if_pos hle]
    have hat : ∀ k, k < key.length → nth (blkK key) k = nth key k := fun k hk => by rw [hBK]; exact nth_app_left _ _ _ hk
    have hstop : mx (blkK key) (List.replicate 64 0) key.length = blkK key := by rw [hBK]; exact mx_stop key 64 hle
    obtain ⟨n, hn⟩ : ∃ n, n = key.length := ⟨_, rfl⟩
    subst hve
    rw [← hn] at hle hstop hcap hl ⊢
    have hle' : (n : Int) ≤ 64 := by omega
    have HN : Hid (n = key.length) := hn
    have HS : Hid (mx (blkK key) (List.replicate 64 0) n = blkK key) := hstop
    clear hv hnil hBK hstop hn
    go_enter Tryd.func29, Tryd.ntmps29
    go_wp2_with (first
      | ((with_reducible refine wp_allocD 2 59 .u8 64 Tryd.zero59 ?_ ?_); (exact ⟨rfl, rfl, rfl⟩); intro p2 w2 hg2 hr2 hb2)
      | ((with_reducible refine wp_allocD 3 59 .u8 64 Tryd.zero59 ?_ ?_); (exact ⟨rfl, rfl, rfl⟩); intro p3 w3 hg3 hr3 hb3))
    have HI : Hid (Row w3 p2 .u8 (List.replicate 64 0) ∧ Row w3 p3 .u8 (mx (blkK key) (List.replicate 64 0) 0) ∧ Below w.heap.size w w3) := ⟨hr2.later hb3, by rw [mx_zero]; exact hr3, below_next hb2 hb3⟩
    have q1 : w.heap.size ≤ p2 := hg2
    have q2 : p2 < p3 := Nat.lt_of_lt_of_le hr2.lt hg3
    clear hr2 hr3 hb2 hb3 hg2 hg3
    go_loopw [4] (fun i wr => ∃ k : Nat, k ≤ n ∧ i = .int .i64 k ∧ Hid (Row wr p2 .u8 (List.replicate 64 0) ∧ Row wr p3 .u8 (mx (blkK key) (List.replicate 64 0) k) ∧ Below w.heap.size w wr)) (fun i _ => n - (intOf i).toNat)
    case atStart => exact ⟨0, by omega, rfl, HI.out⟩
    case round =>
      clear HI
      obtain ⟨k, hk, rfl, HI⟩ := hrel
      by_cases hlt : k < n
      · obtain ⟨b, off, rfl, hbs, hcell⟩ := hr (by have := HN.out; omega)
        obtain ⟨r2, r3, hb⟩ := HI.out
        have hlt' : (k : Int) < (n : Int) := by omega
        have hlt64 : (k : Int) < 64 := by omega
        have hk0 : (0 : Int) ≤ (k : Int) := by omega
        have hkl : k < key.length := by have := HN.out; omega
        have ck : wr.cell? ⟨b, off + k, none⟩ = some (.int .u8 (nth key k)) := (hb.cell (p := ⟨b, off + k, none⟩) hbs).trans (hcell k hkl)
        have c1 := r3.cell k (by rw [mx_len _ _ hAX k (by omega)]; omega)
        have f1 := r3.froz k
        rw [mx_at _ _ hAX k (by omega)] at c1
        have HM : Hid ((mx (blkK key) (List.replicate 64 0) k).set k (nth key k) = mx (blkK key) (List.replicate 64 0) (k + 1)) := by
          show _ = _
          rw [← hat k hkl]; exact mx_set _ _ hAX k (by omega)
        clear r2 r3 hb hcell hr hkl
        generalize nth (List.replicate 64 (0 : Int)) k = Z at *
        generalize nth key k = Y at *
        go_wp2
        go_roundw
        case rel =>
          obtain ⟨r2, r3, hb⟩ := HI.out
          have o := only_setCell wr p3 k (.int .u8 Y)
          have h6 := r3.set k Y
          rw [HM.out] at h6
          have a2 := r2.only o (show p2 ≠ p3 by omega)
          exact ⟨k + 1, by omega, by go_num, a2, h6, (below_only hb o (by omega) (Nat.le_refl _))⟩
        case measure => simp [intOf]; omega
      · have hk' : k = n := by omega
        subst hk'
        obtain ⟨r2, r3, hb⟩ := HI.out
        rw [HS.out] at r3
        have R2 : Hid (Row wr p2 .u8 (List.replicate 64 0)) := r2
        have R3 : Hid (Row wr p3 .u8 (blkK key)) := r3
        have HB : Hid (Below w.heap.size w wr) := hb
        clear r2 r3 hb HI
        go_wp2_with (first
          | ((with_reducible refine wp_loadR 59 (.tmp 3) p3 .u8 (blkK key) _ Tryd.underlying59 rfl h64 ?_ ?_ R3.out ?_); (exact ⟨rfl, rfl⟩); (exact rfl))
          | ((with_reducible refine wp_storeR 59 (.tmp 2) (.tmp 22) p2 .u8 (List.replicate 64 0) (blkK key) h64 ?_ ?_ ?_ ?_ R2.out ?_); (rw [hbl]; rfl); (exact ⟨rfl, rfl⟩); (exact rfl); (exact rfl); intro w4 r4 h4))
        refine ret_row rfl p2 .u8 (blkK key) _ Tryd.underlying59 rfl h64 rfl r4 rfl ⟨rfl, ?_⟩
        exact below_only HB.out h4 (by omega) (Nat.le_refl _)
  · have hBK : blkK key = sumB key ++ List.replicate (64 - (sumB key).length) 0 := by unfold blkK; rw [if_neg hle, sumB_len]
    have hs32 := sumB_len key
    have hat : ∀ k, k < 32 → nth (blkK key) k = nth (sumB key) k := fun k hk => by rw [hBK]; exact nth_app_left _ _ _ (by omega)
    have hstop : mx (blkK key) (List.replicate 64 0) 32 = blkK key := by rw [hBK, ← hs32]; exact mx_stop (sumB key) 64 (by omega)
    have h32 : (Tryd.prog.info? 49).map (·.size) = some (sumB key).length := by rw [hs32]; exact Tryd.size49
    have hle' : ¬ (key.length : Int) ≤ 64 := by omega
    have HV : Hid (Sl w v key) := hv
    have HNil : Hid (∀ n c, v = .slice none n c → n = 0 ∧ c = 0) := hnil
    have HS : Hid (mx (blkK key) (List.replicate 64 0) 32 = blkK key) := hstop
    subst hve
    clear hv hnil hBK hstop hr
    go_enter Tryd.func29, Tryd.ntmps29
    go_wp2_with (first
      | ((with_reducible refine wp_allocD 2 59 .u8 64 Tryd.zero59 ?_ ?_); (exact ⟨rfl, rfl, rfl⟩); intro p2 w2 hg2 hr2 hb2)
      | ((with_reducible refine wp_allocD 3 59 .u8 64 Tryd.zero59 ?_ ?_); (exact ⟨rfl, rfl, rfl⟩); intro p3 w3 hg3 hr3 hb3))
    refine (rsum_any _ key _ ((HV.out.later hb2).later hb3) HNil.out hsz).mono ?_
    rintro e w4 ⟨rfl, hb4⟩
    have r2 := (hr2.later hb3).later hb4
    have r3 := hr3.later hb4
    have hB4 := below_next (below_next hb2 hb3) hb4
    have q1 : w.heap.size ≤ p2 := hg2
    have q2 : p2 < p3 := Nat.lt_of_lt_of_le hr2.lt hg3
    clear hr2 hr3 hb2 hb3 hb4 hg2 hg3
    go_wp2_with (first
      | ((with_reducible refine wp_allocD 5 49 .u8 32 Tryd.zero49 ?_ ?_); (exact ⟨rfl, rfl, rfl⟩); intro p5 w5 hg5 hr5 hb5)
      | ((with_reducible refine wp_storeR 49 (.tmp 5) (.tmp 24) p5 .u8 (List.replicate 32 0) (sumB key) h32 ?_ ?_ ?_ ?_ hr5 ?_); (rw [hs32]; rfl); (exact ⟨rfl, rfl⟩); (exact rfl); (exact rfl); intro w6 r6 o6))
    have q3 : p3 < p5 := Nat.lt_of_lt_of_le r3.lt hg5
    have HI : Hid (Row w6 p2 .u8 (List.replicate 64 0) ∧ Row w6 p3 .u8 (mx (blkK key) (List.replicate 64 0) 0) ∧ Row w6 p5 .u8 (sumB key) ∧ Below w.heap.size w w6) :=
      ⟨(r2.later hb5).only o6 (show p2 ≠ p5 by omega), by rw [mx_zero]; exact (r3.later hb5).only o6 (show p3 ≠ p5 by omega), r6, below_only (below_next hB4 hb5) o6 (by omega) (Nat.le_refl _)⟩
    clear r2 r3 hB4 hb5 hr5 o6 r6 hg5
    go_loopw [6] (fun i wr => ∃ k : Nat, k ≤ 32 ∧ i = .int .i64 k ∧ Hid (Row wr p2 .u8 (List.replicate 64 0) ∧ Row wr p3 .u8 (mx (blkK key) (List.replicate 64 0) k) ∧ Row wr p5 .u8 (sumB key) ∧ Below w.heap.size w wr)) (fun i _ => 32 - (intOf i).toNat)
    case atStart => exact ⟨0, by omega, rfl, HI.out⟩
    case round =>
      clear HI
      obtain ⟨k, hk, rfl, HI⟩ := hrel
      by_cases hlt : k < 32
      · obtain ⟨r2, r3, r5, hb⟩ := HI.out
        have hlt' : (k : Int) < 32 := by omega
        have hlt64 : (k : Int) < 64 := by omega
        have hk0 : (0 : Int) ≤ (k : Int) := by omega
        have c5 := r5.cell k (by omega)
        have c1 := r3.cell k (by rw [mx_len _ _ hAX k (by omega)]; omega)
        have f1 := r3.froz k
        rw [mx_at _ _ hAX k (by omega)] at c1
        have HM : Hid ((mx (blkK key) (List.replicate 64 0) k).set k (nth (sumB key) k) = mx (blkK key) (List.replicate 64 0) (k + 1)) := by
          show _ = _
          rw [← hat k hlt]; exact mx_set _ _ hAX k (by omega)
        clear r2 r3 r5 hb
        generalize nth (List.replicate 64 (0 : Int)) k = Z at *
        generalize nth (sumB key) k = Y at *
        go_wp2
        go_roundw
        case rel =>
          obtain ⟨r2, r3, r5, hb⟩ := HI.out
          have o := only_setCell wr p3 k (.int .u8 Y)
          have h6 := r3.set k Y
          rw [HM.out] at h6
          have a2 := r2.only o (show p2 ≠ p3 by omega)
          have a5 := r5.only o (show p5 ≠ p3 by omega)
          exact ⟨k + 1, by omega, by go_num, a2, h6, a5, (below_only hb o (by omega) (Nat.le_refl _))⟩
        case measure => simp [intOf]; omega
      · have hk' : k = 32 := by omega
        subst hk'
        obtain ⟨r2, r3, r5, hb⟩ := HI.out
        rw [HS.out] at r3
        have R2 : Hid (Row wr p2 .u8 (List.replicate 64 0)) := r2
        have R3 : Hid (Row wr p3 .u8 (blkK key)) := r3
        have HB : Hid (Below w.heap.size w wr) := hb
        clear r2 r3 r5 hb HI
        go_wp2_with (first
          | ((with_reducible refine wp_loadR 59 (.tmp 3) p3 .u8 (blkK key) _ Tryd.underlying59 rfl h64 ?_ ?_ R3.out ?_); (exact ⟨rfl, rfl⟩); (exact rfl))
          | ((with_reducible refine wp_storeR 59 (.tmp 2) (.tmp 34) p2 .u8 (List.replicate 64 0) (blkK key) h64 ?_ ?_ ?_ ?_ R2.out ?_); (rw [hbl]; rfl); (exact ⟨rfl, rfl⟩); (exact rfl); (exact rfl); intro w4 r4 h4))
        refine ret_row rfl p2 .u8 (blkK key) _ Tryd.underlying59 rfl h64 rfl r4 rfl ⟨rfl, ?_⟩
        exact below_only HB.out h4 (by omega) (Nat.le_refl _)
end Go.Proofs.YtilfmemfnheppaaDoor
