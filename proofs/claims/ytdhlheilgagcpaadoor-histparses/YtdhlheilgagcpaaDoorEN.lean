/- The document's reading of what is handed in, from there on where it is known what is done. Conditions: the words are at most 2^62 bytes, at most a million. -/
import Derived.Test.YtdhlheilgagcpaaDoorEI
namespace Go.Proofs.YtdhlheilgagcpaaDoor
open Go.RowKit Go.PlainAid Ln
set_option linter.unusedVariables false
set_option linter.unusedSimpArgs false

/-- the event of an Invoke without time, client and type -/
def invEv (M : List (List UInt8)) : Ev := { noEv with m := cM M, k := vOf (M.drop 1), o := cO M, a := aV (M.drop 3) (cD M).length }
/-- how invoked ends -/
def RInv (w : World) (M : List (List UInt8)) (e : Ending) (w' : World) : Prop :=
  ∃ X va, e = .returned (.tuple #[.agg (evC X va nilS).toArray, .int .i64 (vF M)]) ∧ (vF M = 0 → X = invEv M) ∧ OwnV w' w.heap.size va X.a ∧ Below w.heap.size w w'
theorem cM_none {L : List (List UInt8)} (h : L.length ≤ 3) : cM (L.drop 3) = 0 := by unfold cM; rw [hdW_none L 3 h]; exact m_empty
theorem cO_eq (L : List (List UInt8)) : cO (L.drop 3) = wI on 14 (hdW (L.drop 5)) := by unfold cO; rw [tail_d, tail_d]
theorem cO_none {L : List (List UInt8)} (h : L.length ≤ 5) : cO (L.drop 3) = 0 := by rw [cO_eq, hdW_none L 5 h]; exact o_empty
theorem nE_empty : nE ⟨#[]⟩ = 2 := by unfold nE; rw [par_empty]; rfl
theorem aF_end {L : List (List UInt8)} {ds : List Int} {i : Nat} (h : L.length ≤ i) : tkF (nth ds i) 0 (L.drop i) = 2 := by
  rw [tkF_0, hdW_none L i h, par_empty]; rfl
theorem d36 (L : List (List UInt8)) (i : Nat) : (L.drop 6).drop i = L.drop (6 + i) := List.drop_drop
theorem vF_arg {M : List (List UInt8)} {f : Int} {k : Nat} (h0 : cF 0 M = 0) (hk : k < (cD M).length) (ha : aF (cD M) 0 (M.drop 3) k = 0) (hf : tkF (nth (cD M) k) 0 ((M.drop 3).drop k) = f) (hne : f ≠ 0) : vF M = f := by
  have e : aF (cD M) 0 (M.drop 3) (k + 1) = f := by rw [aF, ha, hf]
  unfold vF
  rw [h0, aF_le (k := k + 1) (by rw [e]; exact hne) hk, e, kp_ne hne]
theorem isl_stored {w w' : World} {v : Value} {xs : List Int} {q j : Nat} {C : List Value} {t : TypeId} {u : Value} (h : ISl w v xs) (ho : Oth q q w w') (hb : Blk w q C t) (hb' : Blk w' q (C.set j u) t) (hc : ∃ a n c, C[j]? = some (.slice a n c)) : ISl w' v xs := by
  obtain ⟨a, c, rfl, h3, h4, h5⟩ := h
  refine ⟨a, c, rfl, h3, h4, h5.imp id ?_⟩
  rintro ⟨b, o, rfl, hlt, hcell⟩
  refine ⟨b, o, rfl, Nat.lt_of_lt_of_le hlt ho.size, fun i hi => ?_⟩
  have h1 := hcell i hi
  by_cases e : b = q
  · subst e
    rw [cell_of_row w b _ _ t (0, 0) hb] at h1
    rw [cell_of_row w' b _ _ t (0, 0) hb']
    obtain ⟨a', n', c', hc⟩ := hc
    have hne : j ≠ o + i := by
      rintro rfl
      rw [List.getElem?_toArray, hc] at h1
      cases h1
    rw [List.getElem?_toArray] at h1 ⊢
    rw [List.getElem?_set_ne hne]; exact h1
  · have e2 : w'.heap[b]? = w.heap[b]? := ho.block b hlt e e
    unfold World.cell? at h1 ⊢
    rw [e2]; exact h1
/-- append of one value, laid in a block of its own, in a plain region -/
theorem wpl_appendV1 {ops : Array Oper} {rest : List Oper} {o : Oper} {a : Act} {w : World} {Q : Exit → Act → World → Prop} (s x : Operand)
    (ho : o.guard = none ∧ o.op = .call { callee := .builtin .append, args := #[s, x], argTypes := #[39, 39] }) (B : Nat) (v : Value) (xs : List Val) (hs : a.eval s = v) (hown : OwnV w B v xs)
    (g0 : Nat) (y : Val) (hx : a.eval x = .slice (some ⟨g0, 0, none⟩) 1 1) (hu : VSl w (.slice (some ⟨g0, 0, none⟩) 1 1) [y]) (hlen : xs.length + 1 ≤ 1000000) (hbase : B ≤ w.heap.size)
    (h : ∀ g cap w', OwnV w' B (.slice (some ⟨g, 0, none⟩) (xs.length + 1) cap) (xs ++ [y]) → w.grownBy w' v.ownBlock → wpList Tryd.prog ops Q rest (a.put o.dst (.slice (some ⟨g, 0, none⟩) (xs.length + 1) cap)) w') : wpList Tryd.prog ops Q (o :: rest) a w :=
  wpList_plain ho.1 fun K hK => wp_appendV1 s x ho.2 B v xs hs hown g0 y hx hu hlen hbase fun g cap w' h1 h2 => hK _ _ (h g cap w' h1 h2)
theorem ISl.kept {w w' : World} {v : Value} {xs : List Int} {row : Option Nat} {B : Nat} (h : ISl w v xs) (hl : LoB B v) (hg : w.grownBy w' row) (hr : ∀ g, row = some g → B ≤ g) : ISl w' v xs := by
  obtain ⟨a, c, rfl, h3, h4, h5⟩ := h
  refine ⟨a, c, rfl, h3, h4, h5.imp id ?_⟩
  rintro ⟨b, o, rfl, hb, hc⟩
  have hlt : b < B := hl b rfl
  exact ⟨b, o, rfl, Nat.lt_of_lt_of_le hb hg.size, fun i hi => hg.cell (hc i hi) (fun e => by have := hr b e.symm; omega)⟩
theorem run_in (ad : Option Addr) (n cd : Nat) (x : Int) (y z : Bool) (w : World) : (Instr.field 92 (.agg #[.slice ad n cd, .int .i64 x, .bool y, .bool z]) 0).run Tryd.prog w = .ok (.slice ad n cd) w := by
  have u := Tryd.underlying92
  have a5 := Tryd.isAgg90
  have z5 := Tryd.sizeOf90
  simp [Instr.field, run_underlying u, go_sem, a5, z5, asAgg]
theorem d33 (L : List (List UInt8)) : (L.drop 3).drop 3 = L.drop 6 := by rw [List.drop_drop]
theorem isl_lo {w : World} {v : Value} {xs : List Int} (h : ISl w v xs) (h0 : 0 < xs.length) : LoB w.heap.size v := by
  obtain ⟨a, c, rfl, _, _, h3⟩ := h
  rcases h3 with ⟨h3, _⟩ | ⟨b, o, rfl, hb, _⟩
  · rw [h3] at h0; cases h0
  · intro g hg
    have e : b = g := by simpa [Value.ownBlock] using hg
    omega

def sndC : Code → Code
  | .seq _ b => b
  | c => c
set_option maxRecDepth 100000 in
set_option maxHeartbeats 8000000 in
theorem inv_rest (L : List (List UInt8)) (w w5 : World) (r c b o m oo : Nat) (x5 x6 x7 x8 x9 x10 x11 x12 x13 x14 x15 x16 x17 x18 x19 x20 x21 x22 x23 x24 x25 x26 x27 x28 x29 x30 x31 x32 x33 x34 x35 x36 x37 x38 x39 x40 x41 x42 x43 x44 x45 x46 x47 x48 x49 x50 x51 x52 x53 x54 x55 x56 x57 x58 x59 x60 x61 x62 x63 x64 x65 x66 x67 x68 x69 x70 x71 x72 x73 x74 x75 x76 x77 x78 x79 x80 x81 x82 x83 x84 x85 x86 x87 x88 x89 x90 x91 x92 x93 x94 x95 x96 x97 x98 x99 x100 x101 x102 x103 x104 x105 x106 x107 x108 x109 x110 x111 x112 x113 x114 x115 x116 : Value) (hr : w.heap.size = r) (hlc : L.length ≤ c) (hcc : c ≤ 9223372036854775807) (hN : L.length ≤ 900001)
    (hv : SSl w (.slice (some ⟨b, o, none⟩) L.length c) L) (hs : Sm L) (hcm : cM (L.drop 3) = m) (hco : cO (L.drop 3) = oo) (hl6 : 6 ≤ L.length) (hcf : cF 0 (L.drop 3) = 0)
    (BQ : Blk w5 (r + 1) (evC ({ noEv with m := (m : Int), k := vOf (L.drop 4) } : Ev) nilS nilS) 41) (BR : Blk w5 r (evC noEv nilS nilS) 41) (bel : Below w.heap.size w w5) :
    Code.wp Tryd.prog (sndC (sndC (sndC (sndC (sndC (sndC (sndC (sndC (sndC (Tryd.f22.body.getD .skip))))))))) ) (bodyPost Tryd.prog Tryd.f22 fun e w' => RInv w (L.drop 3) e w') ⟨#[.slice (some ⟨b, o, none⟩) L.length c, undef, .pointer (some ⟨r, 0, none⟩), .int .i64 0, .pointer (some ⟨r + 1, 0, none⟩), x5, x6, x7, x8, x9, x10, x11, x12, x13, x14, x15, x16, x17, x18, x19, x20, x21, x22, x23, x24, x25, x26, x27, x28, x29, x30, x31, x32, x33, x34, x35, x36, x37, x38, x39, x40, x41, x42, x43, x44, x45, x46, x47, x48, x49, x50, x51, x52, x53, x54, x55, x56, x57, x58, x59, x60, x61, x62, x63, x64, x65, x66, x67, x68, x69, x70, x71, x72, x73, x74, x75, x76, x77, x78, x79, x80, x81, x82, x83, x84, x85, x86, x87, x88, x89, x90, x91, x92, x93, x94, x95, x96, x97, x98, x99, x100, x101, x102, x103, x104, x105, x106, x107, x108, x109, x110, x111, x112, x113, x114, x115, x116], []⟩ w5 := by
  have mixed : Tryd.prog.follows .mixedOrders = true := by kernel_rfl
  have hrr : w.heap.size ≤ r := by omega
  have hqr : w.heap.size ≤ r + 1 := by omega
  have HV0 : Hid (SSl w (.slice (some ⟨b, o, none⟩) L.length c) L) := hv
  have HSm : Hid (Sm L) := hs
  have HR : Hid (w.heap.size = r) := hr
  have CELLS : Hid (∀ wz, Below w.heap.size w wz → ∀ i, i < L.length → wz.cell? ⟨b, o + i, none⟩ = some (.string (hdW (L.drop i)))) := fun wz hz i hi => by
    rw [hdW_at L i hi]; exact SSl.cell (HV0.out.later hz) hi
  have HSZ : Hid (∀ i, i < L.length → (hdW (L.drop i)).size ≤ 4611686018427387904) := fun i hi => by rw [hdW_at L i hi, nt_eq L i hi]; exact hs _ (List.getElem_mem hi)
  have HCM : Hid (cM (L.drop 3) = m) := hcm
  have HCO : Hid (cO (L.drop 3) = oo) := hco
  have HCO2 : Hid (wI on 14 (hdW (L.drop 5)) = oo) := by show _ = _; rw [← cO_eq]; exact hco
  have HL6 : Hid (6 ≤ L.length) := hl6
  have HCF : Hid (cF 0 (L.drop 3) = 0) := hcf
  clear hv hs hcm hco hl6 hcf
  unfold Tryd.f22
  dsimp only [sndC, Option.getD]
  have cx := CELLS.out _ bel 5 HL6.out
  have h5y : ¬ ((L.length : Int) ≤ 5) := (by have := HL6.out; omega)
  go_wp2_with fail
  refine (rop_any _ _).mono ?_
  rintro e w7 ⟨o2, rfl, hho, _, b7⟩
  obtain rfl : oo = o2 := ((isW_eq apart_o hho).trans HCO2.out).symm
  clear hho cx
  replace BQ := BQ.later b7
  replace BR := BR.later b7
  replace bel := bel.trans (b7.mono bel.size)
  clear b7
  go_wp2_with ((with_reducible refine wp_storeC 3 (.tmp 63) (.tmp 62) (r + 1) 9 (.int .i64 (oo : Int)) (evC ({ noEv with m := (m : Int), k := vOf (L.drop 4) } : Ev) nilS nilS) 41 ?_ ?_ ?_ ?_ ?_ ?_ ?_ BQ ?_); (exact sizeI); (exact (show 9 < 14 by decide)); (exact rfl); (exact rfl); (exact ⟨rfl, rfl⟩); (exact rfl); (exact rfl); (intro w8 BQ1 ox); (replace BQ1 : Blk w8 (r + 1) (evC ({ noEv with m := (m : Int), k := vOf (L.drop 4), o := (oo : Int) } : Ev) nilS nilS) 41 := BQ1); (replace BR := BR.oth ox (by omega) (by omega)); (replace bel := below_oth bel ox hqr hqr bel.size); clear BQ ox; (have BQ := BQ1); clear BQ1; (have c5 : w8.cell? ⟨r + 1, 5, none⟩ = some (.int .i64 (m : Int)) := BQ.cell 5 _ rfl); (have c9 : w8.cell? ⟨r + 1, 9, none⟩ = some (.int .i64 (oo : Int)) := BQ.cell 9 _ rfl))
  refine (rfind_any _ _ _).mono ?_
  rintro e w9 ⟨vi, rfl, hvi, b9⟩
  clear c5 c9
  replace BQ := BQ.later b9
  replace BR := BR.later b9
  replace bel := bel.trans (b9.mono bel.size)
  clear b9
  obtain ⟨ds, hds⟩ : ∃ ds, (fr (m : Int) (oo : Int)).inn = ds := ⟨_, rfl⟩
  rw [hds] at hvi
  have HDS : Hid (cD (L.drop 3) = ds) := by show _ = _; unfold cD; rw [HCM.out, HCO.out]; exact hds
  obtain ⟨ad, cd, rfl⟩ := hvi.form
  obtain ⟨n, hn⟩ : ∃ n, ds.length = n := ⟨_, rfl⟩
  have HN2 : Hid (n ≤ 2) := by show _ ≤ _; rw [← hn, ← HDS.out]; exact cD_len _
  have HDN : Hid (ds.length = n) := hn
  have hvi' : ISl w9 (.slice ad n cd) ds := by rw [← hn]; exact hvi
  have HLO : Hid (0 < n → LoB w9.heap.size (.slice ad n cd)) := fun h0 => isl_lo hvi' (by rw [hn]; exact h0)
  have HL9 : Hid (r < w9.heap.size ∧ r + 1 < w9.heap.size) := ⟨BR.lt, BQ.lt⟩
  rw [hn]
  have HI0 : Hid (∃ va, Blk w9 (r + 1) (evC ({ noEv with m := (m : Int), k := vOf (L.drop 4), o := (oo : Int) } : Ev) va nilS) 41 ∧ Blk w9 r (evC noEv nilS nilS) 41 ∧ OwnV w9 w9.heap.size va (aV (L.drop 6) 0) ∧ ISl w9 (.slice ad n cd) ds ∧ Below w.heap.size w w9 ∧ w9.heap.size ≤ w9.heap.size ∧ aF ds 0 (L.drop 6) 0 = 0) := ⟨nilS, BQ, BR, OwnV.nil _ _, hvi', bel, Nat.le_refl _, rfl⟩
  clear hvi hvi' BQ BR bel hds hn
  have hfd := fun (x : Int) (y z : Bool) (w : World) => run_in ad n cd x y z w
  go_wp2_with fail
  clear hfd
  go_loopw [8] (fun i wr => ∃ k : Nat, k ≤ n ∧ i = .int .i64 (k : Int) ∧ Hid (∃ va, Blk wr (r + 1) (evC ({ noEv with m := (m : Int), k := vOf (L.drop 4), o := (oo : Int) } : Ev) va nilS) 41 ∧ Blk wr r (evC noEv nilS nilS) 41 ∧ OwnV wr w9.heap.size va (aV (L.drop 6) k) ∧ ISl wr (.slice ad n cd) ds ∧ Below w.heap.size w wr ∧ w9.heap.size ≤ wr.heap.size ∧ aF ds 0 (L.drop 6) k = 0)) (fun i wr => n - (intOf i).toNat)
  case atStart => exact ⟨0, by omega, rfl, HI0⟩
  case round =>
    obtain ⟨k, hk, rfl, HI⟩ := hrel
    clear HI0
    obtain ⟨va, BQ, BR, Ov, hvi, bel, lw, ha0⟩ := HI.out
    have oa : va.oneCell' = true := by obtain ⟨a1, c1, e1⟩ := Ov.form; rw [e1]; rfl
    have lb9 : w.heap.size ≤ w9.heap.size := by have := HL9.out.1; have := HR.out; omega
    have HA0 : Hid (aF ds 0 (L.drop 6) k = 0) := ha0
    clear ha0 HI
    by_cases hlt : k < n
    · have hlt' : (k : Int) < (n : Int) := by omega
      obtain ⟨b2, o2, rfl, _, _⟩ := isl_at hvi (by rw [HDN.out]; omega)
      obtain ⟨j, hj⟩ : ∃ j, 6 + k = j := ⟨_, rfl⟩
      have hjj : (6 : Int) + (k : Int) = (j : Int) := by omega
      have HJ : Hid (6 + k = j) := hj
      have hj8 : j ≤ 8 := by have := HN2.out; omega
      have HJD : Hid ((L.drop 6).drop k = L.drop j) := by show _ = _; rw [List.drop_drop, hj]
      have HLT : Hid (k < n) := hlt
      clear hj
      by_cases hw : L.length ≤ j
      · have hw' : (L.length : Int) ≤ (j : Int) := by omega
        have HV : Hid (vF (L.drop 3) = 2) := vF_arg HCF.out (k := k) (by rw [HDS.out, HDN.out]; exact hlt) (by rw [HDS.out, d33]; exact HA0.out) (by rw [HDS.out, d33, HJD.out, tkF_0, hdW_none L j hw, par_empty]; rfl) (by decide)
        clear hw
        go_wp2_with (first
          | ((with_reducible refine wp_loadB 41 (.tmp 4) (r + 1) 0 (evC ({ noEv with m := (m : Int), k := vOf (L.drop 4), o := (oo : Int) } : Ev) (va) nilS) (evC ({ noEv with m := (m : Int), k := vOf (L.drop 4), o := (oo : Int) } : Ev) (va) nilS) 41 _ Tryd.underlying41 ?_ ?_ ?_ ?_ BQ (fun j v hv => by rw [Nat.zero_add]; exact hv) ?_); (exact rfl); (exact sizeE); (exact ⟨rfl, rfl⟩); (exact rfl))
          | ((with_reducible refine wp_storeB 41 (.tmp 2) (.tmp 81) r 0 (evC ({ noEv with m := (m : Int), k := vOf (L.drop 4), o := (oo : Int) } : Ev) (va) nilS) (evC noEv nilS nilS) 41 ?_ ?_ (evC_one _ oa rfl) ?_ ?_ ?_ BR ?_); (exact sizeE); (exact (show 0 + 14 ≤ 14 by decide)); (exact ⟨rfl, rfl⟩); (exact rfl); (exact rfl); (intro wx Rx ox)))
        replace Rx : Blk wx r (evC ({ noEv with m := (m : Int), k := vOf (L.drop 4), o := (oo : Int) } : Ev) (va) nilS) 41 := Rx
        refine ret_blk2 rfl r (evC ({ noEv with m := (m : Int), k := vOf (L.drop 4), o := (oo : Int) } : Ev) (va) nilS) 41 _ (.int .i64 2) Tryd.underlying41 rfl sizeE rfl Rx rfl rfl ?_
        unfold RInv
        rw [HV.out]
        exact ⟨{ ({ noEv with m := (m : Int), k := vOf (L.drop 4), o := (oo : Int) } : Ev) with a := aV (L.drop 6) k }, va, rfl, fun h => absurd h (by first | decide | exact HNE.out), OwnV.oth (OwnV.base Ov lb9) ox BR (by decide), below_oth bel ox hrr hrr bel.size⟩
      have HLJ : Hid (j < L.length) := by show _ < _; omega
      have hw' : ¬ (L.length : Int) ≤ (j : Int) := by omega
      have cx := CELLS.out _ bel j (by omega)
      have hPz := HSZ.out j (by omega)
      have hPc := fun w => vrparse_any (hdW (L.drop j)) w hPz
      unfold ansV at hPc
      change ∀ w, Calls _ _ _ w fun e w' => e = .returned (.tuple #[.agg #[.int .i64 (vOf (L.drop j)).1, .int .i64 (vOf (L.drop j)).2.1, .string (vOf (L.drop j)).2.2], .int .i64 (parR (hdW (L.drop j))).2.2.2]) ∧ _ at hPc
      obtain ⟨pe, hpe⟩ : ∃ pe, (parR (hdW (L.drop j))).2.2.2 = pe := ⟨_, rfl⟩
      rw [hpe] at hPc
      obtain ⟨dk, hdk⟩ : ∃ dk, nth ds k = dk := ⟨_, rfl⟩
      have HDK : Hid (nth ds k = dk) := hdk
      have HTK : Hid (tkF (nth ds k) 0 ((L.drop 6).drop k) = kp pe (mf (takesB dk (vOf (L.drop j)).1 (vOf (L.drop j)).2.1 (vOf (L.drop j)).2.2))) := by show _ = _; rw [HJD.out, tkF_0, hpe, hdk]
      clear hw hpe hPz
      have LOADV : ∀ wz : World, Blk (wz.alloc (.cells #[.int .i64 (vOf (L.drop j)).1, .int .i64 (vOf (L.drop j)).2.1, .string (vOf (L.drop j)).2.2] 38)) wz.heap.size (vls (vOf (L.drop j)).1 (vOf (L.drop j)).2.1 (vOf (L.drop j)).2.2) 38 := fun wz => Blk.new wz (vls _ _ _) 38
      have HLV : Hid (∀ wz : World, Blk (wz.alloc (.cells #[.int .i64 (vOf (L.drop j)).1, .int .i64 (vOf (L.drop j)).2.1, .string (vOf (L.drop j)).2.2] 38)) wz.heap.size (vls (vOf (L.drop j)).1 (vOf (L.drop j)).2.1 (vOf (L.drop j)).2.2) 38) := LOADV
      clear LOADV
      by_cases hp0 : pe ≠ 0
      · have hne2 : (pe != 0) = true := by simp [hp0]
        have HNE : Hid (pe ≠ 0) := hp0
        have HV : Hid (vF (L.drop 3) = pe) := vF_arg HCF.out (k := k) (by rw [HDS.out, HDN.out]; exact hlt) (by rw [HDS.out, d33]; exact HA0.out) (by rw [HDS.out, d33, HTK.out]; exact kp_ne hp0 _) hp0
        clear hp0
        go_wp2_with fail
        refine (hPc _).mono ?_
        rintro e wp ⟨rfl, bp⟩
        clear cx
        replace BQ := BQ.later bp
        replace BR := BR.later bp
        replace Ov := Ov.later bp
        replace hvi := hvi.later bp
        replace bel := bel.trans (bp.mono bel.size)
        replace lw := Nat.le_trans lw bp.size
        have hV0 := HLV.out wp
        have hb : Below wp.heap.size wp (wp.alloc (.cells #[.int .i64 (vOf (L.drop j)).1, .int .i64 (vOf (L.drop j)).2.1, .string (vOf (L.drop j)).2.2] 38)) := below_more (Below.refl _ _) _
        have BQ1 := BQ.later hb
        have BR1 := BR.later hb
        have Ov1 := Ov.later hb
        have hvi1 := hvi.later hb
        have bel1 := bel.trans (hb.mono bel.size)
        have lw1 := Nat.le_trans lw hb.size
        have lq := BQ.lt
        have lr := BR.lt
        clear BQ BR Ov hvi bel lw bp hb
        have BQ := BQ1
        have BR := BR1
        have Ov := Ov1
        have hvi := hvi1
        have bel := bel1
        have lw := lw1
        clear BQ1 BR1 Ov1 hvi1 bel1 lw1
        go_wp2_with (first
          | ((with_reducible refine wp_loadB 41 (.tmp 4) (r + 1) 0 (evC ({ noEv with m := (m : Int), k := vOf (L.drop 4), o := (oo : Int) } : Ev) (va) nilS) (evC ({ noEv with m := (m : Int), k := vOf (L.drop 4), o := (oo : Int) } : Ev) (va) nilS) 41 _ Tryd.underlying41 ?_ ?_ ?_ ?_ BQ (fun j v hv => by rw [Nat.zero_add]; exact hv) ?_); (exact rfl); (exact sizeE); (exact ⟨rfl, rfl⟩); (exact rfl))
          | ((with_reducible refine wp_storeB 41 (.tmp 2) (.tmp 93) r 0 (evC ({ noEv with m := (m : Int), k := vOf (L.drop 4), o := (oo : Int) } : Ev) (va) nilS) (evC noEv nilS nilS) 41 ?_ ?_ (evC_one _ oa rfl) ?_ ?_ ?_ BR ?_); (exact sizeE); (exact (show 0 + 14 ≤ 14 by decide)); (exact ⟨rfl, rfl⟩); (exact rfl); (exact rfl); (intro wx Rx ox)))
        replace Rx : Blk wx r (evC ({ noEv with m := (m : Int), k := vOf (L.drop 4), o := (oo : Int) } : Ev) (va) nilS) 41 := Rx
        refine ret_blk2 rfl r (evC ({ noEv with m := (m : Int), k := vOf (L.drop 4), o := (oo : Int) } : Ev) (va) nilS) 41 _ (.int .i64 pe) Tryd.underlying41 rfl sizeE rfl Rx rfl rfl ?_
        unfold RInv
        rw [HV.out]
        exact ⟨{ ({ noEv with m := (m : Int), k := vOf (L.drop 4), o := (oo : Int) } : Ev) with a := aV (L.drop 6) k }, va, rfl, fun h => absurd h (by first | decide | exact HNE.out), OwnV.oth (OwnV.base Ov lb9) ox BR (by decide), below_oth bel ox hrr hrr bel.size⟩
      have hp1 : pe = 0 := Classical.not_not.1 hp0
      have hne2 : (pe != 0) = false := by rw [hp1]; rfl
      have HP1 : Hid (pe = 0) := hp1
      clear hp0 hp1
      cases htb : takesB dk (vOf (L.drop j)).1 (vOf (L.drop j)).2.1 (vOf (L.drop j)).2.2
      · have HTB : Hid (takesB dk (vOf (L.drop j)).1 (vOf (L.drop j)).2.1 (vOf (L.drop j)).2.2 = false) := htb
        have HV : Hid (vF (L.drop 3) = 2) := vF_arg HCF.out (k := k) (by rw [HDS.out, HDN.out]; exact hlt) (by rw [HDS.out, d33]; exact HA0.out) (by rw [HDS.out, d33, HTK.out, HTB.out, HP1.out]; rfl) (by decide)
        clear htb
        go_wp2_with fail
        refine (hPc _).mono ?_
        rintro e wp ⟨rfl, bp⟩
        clear cx
        replace BQ := BQ.later bp
        replace BR := BR.later bp
        replace Ov := Ov.later bp
        replace hvi := hvi.later bp
        replace bel := bel.trans (bp.mono bel.size)
        replace lw := Nat.le_trans lw bp.size
        have hV0 := HLV.out wp
        have hb : Below wp.heap.size wp (wp.alloc (.cells #[.int .i64 (vOf (L.drop j)).1, .int .i64 (vOf (L.drop j)).2.1, .string (vOf (L.drop j)).2.2] 38)) := below_more (Below.refl _ _) _
        have BQ1 := BQ.later hb
        have BR1 := BR.later hb
        have Ov1 := Ov.later hb
        have hvi1 := hvi.later hb
        have bel1 := bel.trans (hb.mono bel.size)
        have lw1 := Nat.le_trans lw hb.size
        have lq := BQ.lt
        have lr := BR.lt
        clear BQ BR Ov hvi bel lw bp hb
        have BQ := BQ1
        have BR := BR1
        have Ov := Ov1
        have hvi := hvi1
        have bel := bel1
        have lw := lw1
        clear BQ1 BR1 Ov1 hvi1 bel1 lw1
        go_wp2_with fail
        rename_i K9 hK9
        have BQd := BQ.drew
        have BRd := BR.drew
        have BVd := hV0.drew
        have beld : Below w.heap.size w { (wp.alloc (.cells #[.int .i64 (vOf (L.drop j)).1, .int .i64 (vOf (L.drop j)).2.1, .string (vOf (L.drop j)).2.2] 38)) with drawn := (wp.alloc (.cells #[.int .i64 (vOf (L.drop j)).1, .int .i64 (vOf (L.drop j)).2.1, .string (vOf (L.drop j)).2.2] 38)).drawn + 1 } := ⟨bel.os, bel.tape, bel.output, bel.size, bel.block⟩
        have hvid : ISl { (wp.alloc (.cells #[.int .i64 (vOf (L.drop j)).1, .int .i64 (vOf (L.drop j)).2.1, .string (vOf (L.drop j)).2.2] 38)) with drawn := (wp.alloc (.cells #[.int .i64 (vOf (L.drop j)).1, .int .i64 (vOf (L.drop j)).2.1, .string (vOf (L.drop j)).2.2] 38)).drawn + 1 } (.slice (some ⟨b2, o2, none⟩) n cd) ds := hvi
        have Ovd : OwnV { (wp.alloc (.cells #[.int .i64 (vOf (L.drop j)).1, .int .i64 (vOf (L.drop j)).2.1, .string (vOf (L.drop j)).2.2] 38)) with drawn := (wp.alloc (.cells #[.int .i64 (vOf (L.drop j)).1, .int .i64 (vOf (L.drop j)).2.1, .string (vOf (L.drop j)).2.2] 38)).drawn + 1 } w9.heap.size va (aV (L.drop 6) k) := Ov
        have lwd : w9.heap.size ≤ ({ (wp.alloc (.cells #[.int .i64 (vOf (L.drop j)).1, .int .i64 (vOf (L.drop j)).2.1, .string (vOf (L.drop j)).2.2] 38)) with drawn := (wp.alloc (.cells #[.int .i64 (vOf (L.drop j)).1, .int .i64 (vOf (L.drop j)).2.1, .string (vOf (L.drop j)).2.2] 38)).drawn + 1 } : World).heap.size := lw
        clear BQ BR hV0 bel hvi Ov lw
        refine wp_region_held (S := Below ({ (wp.alloc (.cells #[.int .i64 (vOf (L.drop j)).1, .int .i64 (vOf (L.drop j)).2.1, .string (vOf (L.drop j)).2.2] 38)) with drawn := (wp.alloc (.cells #[.int .i64 (vOf (L.drop j)).1, .int .i64 (vOf (L.drop j)).2.1, .string (vOf (L.drop j)).2.2] 38)).drawn + 1 } : World).heap.size ({ (wp.alloc (.cells #[.int .i64 (vOf (L.drop j)).1, .int .i64 (vOf (L.drop j)).2.1, .string (vOf (L.drop j)).2.2] 38)) with drawn := (wp.alloc (.cells #[.int .i64 (vOf (L.drop j)).1, .int .i64 (vOf (L.drop j)).2.1, .string (vOf (L.drop j)).2.2] 38)).drawn + 1 } : World)) mixed ?_
        generalize ({ (wp.alloc (.cells #[.int .i64 (vOf (L.drop j)).1, .int .i64 (vOf (L.drop j)).2.1, .string (vOf (L.drop j)).2.2] 38)) with drawn := (wp.alloc (.cells #[.int .i64 (vOf (L.drop j)).1, .int .i64 (vOf (L.drop j)).2.1, .string (vOf (L.drop j)).2.2] 38)).drawn + 1 } : World) = wd2 at BQd BRd BVd beld hvid Ovd lwd ⊢
        have HCK : Hid (∀ wx, Below wd2.heap.size wd2 wx → wx.cell? ⟨b2, o2 + k, none⟩ = some (.int .i64 dk)) := fun wx hx => by
          obtain ⟨b3, o3, e3, _, hc3⟩ := isl_at (hvid.later hx) (by rw [HDN.out]; have := HLT.out; omega)
          injection e3 with e3
          injection e3 with e4 e5 _
          subst e4 e5
          rw [hc3 k (by rw [HDN.out]; exact HLT.out), HDK.out]
        have HW : Below wd2.heap.size wd2 wd2 := Below.refl _ _
        refine takeH 0 95 (.slice (some ⟨b2, o2, none⟩) n cd) rfl rfl (by kernel_rfl) (by kernel_rfl) (by kernel_rfl) (fun c a w h => h) (.inl ⟨rfl, fun w _ => rfl⟩) HW ?_
        simp only [List.setIfInBounds_toArray, List.set_cons_zero, List.set_cons_succ]
        refine takeH 1 96 (.int .i64 (k : Int)) rfl rfl (by kernel_rfl) (by kernel_rfl) (by kernel_rfl) (fun c a w h => h) (.inl ⟨rfl, fun w _ => rfl⟩) HW ?_
        simp only [List.setIfInBounds_toArray, List.set_cons_zero, List.set_cons_succ]
        refine takeH 2 97 (.pointer (some ⟨b2, o2 + k, none⟩)) rfl rfl (by kernel_rfl) (by kernel_rfl) (by kernel_rfl) (fun c a w h => h) (.inl ⟨rfl, fun w _ => by have hkn : (k : Int) < (n : Int) := (by have := HLT.out; omega); go_simp⟩) HW ?_
        simp only [List.setIfInBounds_toArray, List.set_cons_zero, List.set_cons_succ]
        refine takeH 3 98 (.int .i64 dk) rfl rfl (by kernel_rfl) (by kernel_rfl) (by kernel_rfl) (fun c a w h => h) (.inl ⟨rfl, fun wx hx => by have c := HCK.out wx hx; go_simp⟩) HW ?_
        simp only [List.setIfInBounds_toArray, List.set_cons_zero, List.set_cons_succ]
        refine takeH 4 99 (.agg #[.int .i64 (vOf (L.drop j)).1, .int .i64 (vOf (L.drop j)).2.1, .string (vOf (L.drop j)).2.2]) rfl rfl (by kernel_rfl) (by kernel_rfl) (by kernel_rfl) (fun c a w h => h) (yieldsIf_load_mid rfl 38 (.tmp 9) rfl wp.heap.size 0 rfl (vls (vOf (L.drop j)).1 (vOf (L.drop j)).2.1 (vOf (L.drop j)).2.2) _ (fun wx hx => (Blk.later BVd hx).all) Tryd.underlying38 rfl sizeV) HW ?_
        simp only [List.setIfInBounds_toArray, List.set_cons_zero, List.set_cons_succ]
        refine wpAnyH_all (rs := [5]) (by kernel_rfl) (by simp) (fun i hi => ?_)
        obtain rfl : i = 5 := by simpa using hi
        refine wpOp_doG 5 (by rfl) (by rfl) ?_
        go_wp2_with fail
        refine (rtakes_any _ _ _ (vOf (L.drop j)).2.2 _ (parR_sz (HSZ.out j HLJ.out))).mono ?_
        rintro e z2 ⟨rfl, bz⟩
        rw [HTB.out]
        refine ⟨bz, ?_⟩
        clear HW
        have HW := bz
        refine takeH 6 101 (.bool true) rfl rfl (by kernel_rfl) (by kernel_rfl) (by kernel_rfl) (fun c a w h => h) (.inl ⟨rfl, fun w _ => by go_simp⟩) HW ?_
        simp only [List.setIfInBounds_toArray, List.set_cons_zero, List.set_cons_succ]
        have BQ := BQd.later HW
        have BR := BRd.later HW
        have BV := BVd.later HW
        have bel := beld.trans (HW.mono beld.size)
        have hvi := hvid.later HW
        have Ov := Ovd.later HW
        have lw := Nat.le_trans lwd HW.size
        clear BQd BRd BVd beld hvid Ovd lwd bz
        refine wpAnyH_done (by kernel_rfl) ?_ _
        clear HW
        show K9 _ _
        apply hK9
        clear hK9
        go_wp2_with (first
          | ((with_reducible refine wp_loadB 41 (.tmp 4) (r + 1) 0 (evC ({ noEv with m := (m : Int), k := vOf (L.drop 4), o := (oo : Int) } : Ev) (va) nilS) (evC ({ noEv with m := (m : Int), k := vOf (L.drop 4), o := (oo : Int) } : Ev) (va) nilS) 41 _ Tryd.underlying41 ?_ ?_ ?_ ?_ BQ (fun j v hv => by rw [Nat.zero_add]; exact hv) ?_); (exact rfl); (exact sizeE); (exact ⟨rfl, rfl⟩); (exact rfl))
          | ((with_reducible refine wp_storeB 41 (.tmp 2) (.tmp 102) r 0 (evC ({ noEv with m := (m : Int), k := vOf (L.drop 4), o := (oo : Int) } : Ev) (va) nilS) (evC noEv nilS nilS) 41 ?_ ?_ (evC_one _ oa rfl) ?_ ?_ ?_ BR ?_); (exact sizeE); (exact (show 0 + 14 ≤ 14 by decide)); (exact ⟨rfl, rfl⟩); (exact rfl); (exact rfl); (intro wx Rx ox)))
        replace Rx : Blk wx r (evC ({ noEv with m := (m : Int), k := vOf (L.drop 4), o := (oo : Int) } : Ev) (va) nilS) 41 := Rx
        refine ret_blk2 rfl r (evC ({ noEv with m := (m : Int), k := vOf (L.drop 4), o := (oo : Int) } : Ev) (va) nilS) 41 _ (.int .i64 2) Tryd.underlying41 rfl sizeE rfl Rx rfl rfl ?_
        unfold RInv
        rw [HV.out]
        exact ⟨{ ({ noEv with m := (m : Int), k := vOf (L.drop 4), o := (oo : Int) } : Ev) with a := aV (L.drop 6) k }, va, rfl, fun h => absurd h (by first | decide | exact HNE.out), OwnV.oth (OwnV.base Ov lb9) ox BR (by decide), below_oth bel ox hrr hrr bel.size⟩
      · have HTB : Hid (takesB dk (vOf (L.drop j)).1 (vOf (L.drop j)).2.1 (vOf (L.drop j)).2.2 = true) := htb
        have HVF : Hid (∃ a1 c1, va = .slice a1 (aV (L.drop 6) k).length c1) := Ov.form
        clear htb
        go_wp2_with fail
        refine (hPc _).mono ?_
        rintro e wp ⟨rfl, bp⟩
        clear cx
        replace BQ := BQ.later bp
        replace BR := BR.later bp
        replace Ov := Ov.later bp
        replace hvi := hvi.later bp
        replace bel := bel.trans (bp.mono bel.size)
        replace lw := Nat.le_trans lw bp.size
        have hV0 := HLV.out wp
        have hb : Below wp.heap.size wp (wp.alloc (.cells #[.int .i64 (vOf (L.drop j)).1, .int .i64 (vOf (L.drop j)).2.1, .string (vOf (L.drop j)).2.2] 38)) := below_more (Below.refl _ _) _
        have BQ1 := BQ.later hb
        have BR1 := BR.later hb
        have Ov1 := Ov.later hb
        have hvi1 := hvi.later hb
        have bel1 := bel.trans (hb.mono bel.size)
        have lw1 := Nat.le_trans lw hb.size
        have lq := BQ.lt
        have lr := BR.lt
        clear BQ BR Ov hvi bel lw bp hb
        have BQ := BQ1
        have BR := BR1
        have Ov := Ov1
        have hvi := hvi1
        have bel := bel1
        have lw := lw1
        clear BQ1 BR1 Ov1 hvi1 bel1 lw1
        go_wp2_with fail
        rename_i K9 hK9
        have BQd := BQ.drew
        have BRd := BR.drew
        have BVd := hV0.drew
        have beld : Below w.heap.size w { (wp.alloc (.cells #[.int .i64 (vOf (L.drop j)).1, .int .i64 (vOf (L.drop j)).2.1, .string (vOf (L.drop j)).2.2] 38)) with drawn := (wp.alloc (.cells #[.int .i64 (vOf (L.drop j)).1, .int .i64 (vOf (L.drop j)).2.1, .string (vOf (L.drop j)).2.2] 38)).drawn + 1 } := ⟨bel.os, bel.tape, bel.output, bel.size, bel.block⟩
        have hvid : ISl { (wp.alloc (.cells #[.int .i64 (vOf (L.drop j)).1, .int .i64 (vOf (L.drop j)).2.1, .string (vOf (L.drop j)).2.2] 38)) with drawn := (wp.alloc (.cells #[.int .i64 (vOf (L.drop j)).1, .int .i64 (vOf (L.drop j)).2.1, .string (vOf (L.drop j)).2.2] 38)).drawn + 1 } (.slice (some ⟨b2, o2, none⟩) n cd) ds := hvi
        have Ovd : OwnV { (wp.alloc (.cells #[.int .i64 (vOf (L.drop j)).1, .int .i64 (vOf (L.drop j)).2.1, .string (vOf (L.drop j)).2.2] 38)) with drawn := (wp.alloc (.cells #[.int .i64 (vOf (L.drop j)).1, .int .i64 (vOf (L.drop j)).2.1, .string (vOf (L.drop j)).2.2] 38)).drawn + 1 } w9.heap.size va (aV (L.drop 6) k) := Ov
        have lwd : w9.heap.size ≤ ({ (wp.alloc (.cells #[.int .i64 (vOf (L.drop j)).1, .int .i64 (vOf (L.drop j)).2.1, .string (vOf (L.drop j)).2.2] 38)) with drawn := (wp.alloc (.cells #[.int .i64 (vOf (L.drop j)).1, .int .i64 (vOf (L.drop j)).2.1, .string (vOf (L.drop j)).2.2] 38)).drawn + 1 } : World).heap.size := lw
        clear BQ BR hV0 bel hvi Ov lw
        refine wp_region_held (S := Below ({ (wp.alloc (.cells #[.int .i64 (vOf (L.drop j)).1, .int .i64 (vOf (L.drop j)).2.1, .string (vOf (L.drop j)).2.2] 38)) with drawn := (wp.alloc (.cells #[.int .i64 (vOf (L.drop j)).1, .int .i64 (vOf (L.drop j)).2.1, .string (vOf (L.drop j)).2.2] 38)).drawn + 1 } : World).heap.size ({ (wp.alloc (.cells #[.int .i64 (vOf (L.drop j)).1, .int .i64 (vOf (L.drop j)).2.1, .string (vOf (L.drop j)).2.2] 38)) with drawn := (wp.alloc (.cells #[.int .i64 (vOf (L.drop j)).1, .int .i64 (vOf (L.drop j)).2.1, .string (vOf (L.drop j)).2.2] 38)).drawn + 1 } : World)) mixed ?_
        generalize ({ (wp.alloc (.cells #[.int .i64 (vOf (L.drop j)).1, .int .i64 (vOf (L.drop j)).2.1, .string (vOf (L.drop j)).2.2] 38)) with drawn := (wp.alloc (.cells #[.int .i64 (vOf (L.drop j)).1, .int .i64 (vOf (L.drop j)).2.1, .string (vOf (L.drop j)).2.2] 38)).drawn + 1 } : World) = wd2 at BQd BRd BVd beld hvid Ovd lwd ⊢
        have HCK : Hid (∀ wx, Below wd2.heap.size wd2 wx → wx.cell? ⟨b2, o2 + k, none⟩ = some (.int .i64 dk)) := fun wx hx => by
          obtain ⟨b3, o3, e3, _, hc3⟩ := isl_at (hvid.later hx) (by rw [HDN.out]; have := HLT.out; omega)
          injection e3 with e3
          injection e3 with e4 e5 _
          subst e4 e5
          rw [hc3 k (by rw [HDN.out]; exact HLT.out), HDK.out]
        have HW : Below wd2.heap.size wd2 wd2 := Below.refl _ _
        refine takeH 0 95 (.slice (some ⟨b2, o2, none⟩) n cd) rfl rfl (by kernel_rfl) (by kernel_rfl) (by kernel_rfl) (fun c a w h => h) (.inl ⟨rfl, fun w _ => rfl⟩) HW ?_
        simp only [List.setIfInBounds_toArray, List.set_cons_zero, List.set_cons_succ]
        refine takeH 1 96 (.int .i64 (k : Int)) rfl rfl (by kernel_rfl) (by kernel_rfl) (by kernel_rfl) (fun c a w h => h) (.inl ⟨rfl, fun w _ => rfl⟩) HW ?_
        simp only [List.setIfInBounds_toArray, List.set_cons_zero, List.set_cons_succ]
        refine takeH 2 97 (.pointer (some ⟨b2, o2 + k, none⟩)) rfl rfl (by kernel_rfl) (by kernel_rfl) (by kernel_rfl) (fun c a w h => h) (.inl ⟨rfl, fun w _ => by have hkn : (k : Int) < (n : Int) := (by have := HLT.out; omega); go_simp⟩) HW ?_
        simp only [List.setIfInBounds_toArray, List.set_cons_zero, List.set_cons_succ]
        refine takeH 3 98 (.int .i64 dk) rfl rfl (by kernel_rfl) (by kernel_rfl) (by kernel_rfl) (fun c a w h => h) (.inl ⟨rfl, fun wx hx => by have c := HCK.out wx hx; go_simp⟩) HW ?_
        simp only [List.setIfInBounds_toArray, List.set_cons_zero, List.set_cons_succ]
        refine takeH 4 99 (.agg #[.int .i64 (vOf (L.drop j)).1, .int .i64 (vOf (L.drop j)).2.1, .string (vOf (L.drop j)).2.2]) rfl rfl (by kernel_rfl) (by kernel_rfl) (by kernel_rfl) (fun c a w h => h) (yieldsIf_load_mid rfl 38 (.tmp 9) rfl wp.heap.size 0 rfl (vls (vOf (L.drop j)).1 (vOf (L.drop j)).2.1 (vOf (L.drop j)).2.2) _ (fun wx hx => (Blk.later BVd hx).all) Tryd.underlying38 rfl sizeV) HW ?_
        simp only [List.setIfInBounds_toArray, List.set_cons_zero, List.set_cons_succ]
        refine wpAnyH_all (rs := [5]) (by kernel_rfl) (by simp) (fun i hi => ?_)
        obtain rfl : i = 5 := by simpa using hi
        refine wpOp_doG 5 (by rfl) (by rfl) ?_
        go_wp2_with fail
        refine (rtakes_any _ _ _ (vOf (L.drop j)).2.2 _ (parR_sz (HSZ.out j HLJ.out))).mono ?_
        rintro e z2 ⟨rfl, bz⟩
        rw [HTB.out]
        refine ⟨bz, ?_⟩
        clear HW
        have HW := bz
        refine takeH 6 101 (.bool false) rfl rfl (by kernel_rfl) (by kernel_rfl) (by kernel_rfl) (fun c a w h => h) (.inl ⟨rfl, fun w _ => by go_simp⟩) HW ?_
        simp only [List.setIfInBounds_toArray, List.set_cons_zero, List.set_cons_succ]
        have BQ := BQd.later HW
        have BR := BRd.later HW
        have BV := BVd.later HW
        have bel := beld.trans (HW.mono beld.size)
        have hvi := hvid.later HW
        have Ov := Ovd.later HW
        have lw := Nat.le_trans lwd HW.size
        clear BQd BRd BVd beld hvid Ovd lwd bz
        refine wpAnyH_done (by kernel_rfl) ?_ _
        clear HW
        show K9 _ _
        apply hK9
        clear hK9
        have hbz : Below z2.heap.size z2 (z2.alloc (.cells #[.int .i64 (vOf (L.drop j)).1, .int .i64 (vOf (L.drop j)).2.1, .string (vOf (L.drop j)).2.2] 38)) := below_more (Below.refl _ _) _
        have hv1 : VSl (z2.alloc (.cells #[.int .i64 (vOf (L.drop j)).1, .int .i64 (vOf (L.drop j)).2.1, .string (vOf (L.drop j)).2.2] 38)) (.slice (some ⟨z2.heap.size, 0, none⟩) 1 1) [vOf (L.drop j)] := vsl_one z2 (vOf (L.drop j))
        have Ov3 := Ov.later hbz
        have BQ3 := BQ.later hbz
        have BR3 := BR.later hbz
        have hvi3 := hvi.later hbz
        have bel3 := bel.trans (hbz.mono bel.size)
        have lw3 := Nat.le_trans lw hbz.size
        have c10 := BQ.cell 10 va rfl
        have hal : (aV (L.drop 6) k).length + 1 ≤ 1000000 := by rw [aV_len]; have := HN2.out; have := HLT.out; omega
        go_wp2_with (first
          | ((with_reducible refine wp_loadB 38 (.tmp 9) wp.heap.size 0 (vls (vOf (L.drop j)).1 (vOf (L.drop j)).2.1 (vOf (L.drop j)).2.2) (vls (vOf (L.drop j)).1 (vOf (L.drop j)).2.1 (vOf (L.drop j)).2.2) 38 _ Tryd.underlying38 ?_ ?_ ?_ ?_ BV (fun j v hv => by rw [Nat.zero_add]; exact hv) ?_); (exact rfl); (exact sizeV); (exact ⟨rfl, rfl⟩); (exact rfl))
          | ((with_reducible refine wpl_appendV1 (.tmp 104) (.tmp 106) ?_ w9.heap.size va (aV (L.drop 6) k) ?_ Ov3 z2.heap.size (vOf (L.drop j)) ?_ hv1 hal lw3 ?_); (exact ⟨rfl, rfl⟩); (exact rfl); (exact rfl); (intro g cap z4 Ov4 hgr); (have BQ4 := BQ3.kept hgr (BQ3.not_row (by decide) Ov3)); (have BR4 := BR3.kept hgr (BR3.not_row (by decide) Ov3)); (have hvi4 := ISl.kept hvi3 (HLO.out (Nat.lt_of_le_of_lt (Nat.zero_le _) HLT.out)) hgr (fun g' hg' => (Ov3.lt g' hg').1)); (have bel4 := below_own (OwnV.base Ov3 lb9) hgr bel3 bel3.size); (have lw4 := Nat.le_trans lw3 hgr.size); clear Ov3 BQ3 BR3 hvi3 bel3 lw3 hgr hv1 hbz c10 BQ BR hvi Ov bel lw BV)
          | ((with_reducible refine wp_storeC 39 (.tmp 108) (.tmp 107) (r + 1) 10 (.slice (some ⟨g, 0, none⟩) ((aV (L.drop 6) k).length + 1) cap) (evC ({ noEv with m := (m : Int), k := vOf (L.drop 4), o := (oo : Int) } : Ev) va nilS) 41 ?_ ?_ ?_ ?_ ?_ ?_ ?_ BQ4 ?_); (exact sizeVs); (exact (show 10 < 14 by decide)); (exact rfl); (exact rfl); (exact ⟨rfl, rfl⟩); (exact rfl); (exact rfl); (intro z5 BQ5 ox); (obtain ⟨va1, vc1, hva1⟩ := HVF.out); (have hvi5 := isl_stored hvi4 ox BQ4 BQ5 ⟨va1, _, vc1, (by rw [← hva1]; rfl)⟩); (replace BQ5 : Blk z5 (r + 1) (evC ({ noEv with m := (m : Int), k := vOf (L.drop 4), o := (oo : Int) } : Ev) (.slice (some ⟨g, 0, none⟩) ((aV (L.drop 6) k).length + 1) cap) nilS) 41 := BQ5); (have BR5 := BR4.oth ox (by omega) (by omega)); (have Ov5 := OwnV.oth Ov4 ox BQ4 (by decide)); (have bel5 := below_oth bel4 ox hqr hqr bel4.size); (have lw5 := Nat.le_trans lw4 ox.size); clear BQ4 BR4 hvi4 Ov4 bel4 lw4 ox hva1))
        go_roundw
        case rel =>
          refine ⟨k + 1, by omega, by go_num, ⟨_, BQ5, BR5, ?_, hvi5, bel5, lw5, ?_⟩⟩
          · rw [aV_succ, HJD.out]; exact Ov5
          · rw [aF, HA0.out, HTK.out, HTB.out, HP1.out]; rfl
        case measure => simp [intOf]; omega
    · have e : k = n := by omega
      subst e
      obtain ⟨j, hj⟩ : ∃ j, 6 + k = j := ⟨_, rfl⟩
      have hjj : (6 : Int) + (k : Int) = (j : Int) := by omega
      have HJ : Hid (6 + k = j) := hj
      have hj8 : j ≤ 8 := by have := HN2.out; omega
      have hA1 : aF (cD (L.drop 3)) (cF 0 (L.drop 3)) ((L.drop 3).drop 3) (cD (L.drop 3)).length = 0 := by rw [HCF.out, HDS.out, HDN.out, d33]; exact HA0.out
      have hLL : (((L.drop 3).drop 3).drop (cD (L.drop 3)).length).length = L.length - j := by rw [HDS.out, HDN.out, d33, List.drop_drop, List.length_drop, hj]
      clear hj
      by_cases hw : j < L.length
      · have hw' : (j : Int) < (L.length : Int) := by omega
        have HV : Hid (vF (L.drop 3) = 2) := by
          show _ = _
          unfold vF
          rw [hA1, kp_0, hLL, decide_eq_true (by omega)]; rfl
        clear hw hA1 hLL
        go_wp2_with (first
          | ((with_reducible refine wp_loadB 41 (.tmp 4) (r + 1) 0 (evC ({ noEv with m := (m : Int), k := vOf (L.drop 4), o := (oo : Int) } : Ev) (va) nilS) (evC ({ noEv with m := (m : Int), k := vOf (L.drop 4), o := (oo : Int) } : Ev) (va) nilS) 41 _ Tryd.underlying41 ?_ ?_ ?_ ?_ BQ (fun j v hv => by rw [Nat.zero_add]; exact hv) ?_); (exact rfl); (exact sizeE); (exact ⟨rfl, rfl⟩); (exact rfl))
          | ((with_reducible refine wp_storeB 41 (.tmp 2) (.tmp 115) r 0 (evC ({ noEv with m := (m : Int), k := vOf (L.drop 4), o := (oo : Int) } : Ev) (va) nilS) (evC noEv nilS nilS) 41 ?_ ?_ (evC_one _ oa rfl) ?_ ?_ ?_ BR ?_); (exact sizeE); (exact (show 0 + 14 ≤ 14 by decide)); (exact ⟨rfl, rfl⟩); (exact rfl); (exact rfl); (intro wx Rx ox)))
        replace Rx : Blk wx r (evC ({ noEv with m := (m : Int), k := vOf (L.drop 4), o := (oo : Int) } : Ev) (va) nilS) 41 := Rx
        refine ret_blk2 rfl r (evC ({ noEv with m := (m : Int), k := vOf (L.drop 4), o := (oo : Int) } : Ev) (va) nilS) 41 _ (.int .i64 2) Tryd.underlying41 rfl sizeE rfl Rx rfl rfl ?_
        unfold RInv
        rw [HV.out]
        exact ⟨{ ({ noEv with m := (m : Int), k := vOf (L.drop 4), o := (oo : Int) } : Ev) with a := aV (L.drop 6) k }, va, rfl, fun h => absurd h (by first | decide | exact HNE.out), OwnV.oth (OwnV.base Ov lb9) ox BR (by decide), below_oth bel ox hrr hrr bel.size⟩
      · have hw' : ¬ (j : Int) < (L.length : Int) := by omega
        have HV : Hid (vF (L.drop 3) = 0) := by
          show _ = _
          unfold vF
          rw [hA1, kp_0, hLL, decide_eq_false (by omega)]; rfl
        have HXI : Hid (evC ({ noEv with m := (m : Int), k := vOf (L.drop 4), o := (oo : Int) } : Ev) va nilS = evC (invEv (L.drop 3)) va nilS ∧ (invEv (L.drop 3)).a = aV (L.drop 6) k) := by
          refine ⟨?_, ?_⟩
          · unfold invEv; rw [HCM.out, HCO.out, List.drop_drop]; rfl
          · unfold invEv; rw [HDS.out, HDN.out, d33]
        clear hw hA1 hLL
        go_wp2_with (first
          | ((with_reducible refine wp_loadB 41 (.tmp 4) (r + 1) 0 (evC ({ noEv with m := (m : Int), k := vOf (L.drop 4), o := (oo : Int) } : Ev) (va) nilS) (evC ({ noEv with m := (m : Int), k := vOf (L.drop 4), o := (oo : Int) } : Ev) (va) nilS) 41 _ Tryd.underlying41 ?_ ?_ ?_ ?_ BQ (fun j v hv => by rw [Nat.zero_add]; exact hv) ?_); (exact rfl); (exact sizeE); (exact ⟨rfl, rfl⟩); (exact rfl))
          | ((with_reducible refine wp_storeB 41 (.tmp 2) (.tmp 116) r 0 (evC ({ noEv with m := (m : Int), k := vOf (L.drop 4), o := (oo : Int) } : Ev) (va) nilS) (evC noEv nilS nilS) 41 ?_ ?_ (evC_one _ oa rfl) ?_ ?_ ?_ BR ?_); (exact sizeE); (exact (show 0 + 14 ≤ 14 by decide)); (exact ⟨rfl, rfl⟩); (exact rfl); (exact rfl); (intro wx Rx ox)))
        replace Rx : Blk wx r (evC ({ noEv with m := (m : Int), k := vOf (L.drop 4), o := (oo : Int) } : Ev) (va) nilS) 41 := Rx
        refine ret_blk2 rfl r (evC ({ noEv with m := (m : Int), k := vOf (L.drop 4), o := (oo : Int) } : Ev) (va) nilS) 41 _ (.int .i64 0) Tryd.underlying41 rfl sizeE rfl Rx rfl rfl ?_
        unfold RInv
        rw [HV.out]
        rw [HXI.out.1]
        refine ⟨invEv (L.drop 3), va, rfl, fun _ => rfl, ?_, below_oth bel ox hrr hrr bel.size⟩
        rw [HXI.out.2]
        exact OwnV.oth (OwnV.base Ov lb9) ox BR (by decide)
end Go.Proofs.YtdhlheilgagcpaaDoor
