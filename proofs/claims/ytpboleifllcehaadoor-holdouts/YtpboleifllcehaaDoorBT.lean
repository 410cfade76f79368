/- Rows of values that a call owns; an append of any row of values to one; cuts; a copy. No conditions but sizes. The contract of the document's Same. Conditions: at most a million values. -/
import Derived.Test.YtpboleifllcehaaDoorBV
import Derived.Deep.AppendLies
import Derived.Laws.AppendOwnNone
import Derived.Laws.CopyRow
import Derived.Deep.MidRow
import Derived.OwnWalk
import Derived.Lib.QuietBelow
namespace Go.Proofs.YtpboleifllcehaaDoor
open Go.RowKit Go.PlainAid
set_option linter.unusedVariables false

/-- a value's cells; a row's -/
def encV (x : Val) : List Value := [.int .i64 x.1, .int .i64 x.2.1, .string x.2.2]
def cellsV (xs : List Val) : List Value := xs.flatMap encV
theorem cellsV_cons (x : Val) (xs : List Val) : cellsV (x :: xs) = .int .i64 x.1 :: .int .i64 x.2.1 :: .string x.2.2 :: cellsV xs := rfl
theorem cellsV_app (xs ys : List Val) : cellsV (xs ++ ys) = cellsV xs ++ cellsV ys := by simp [cellsV]
theorem cellsV_len : ∀ xs : List Val, (cellsV xs).length = xs.length * 3
  | [] => rfl
  | x :: xs => by rw [cellsV_cons]; simp only [List.length_cons]; rw [cellsV_len xs]; omega
theorem cellsV_one : ∀ xs : List Val, ∀ u ∈ cellsV xs, u.oneCell' = true
  | [], u, h => by cases h
  | x :: xs, u, h => by
    rw [cellsV_cons] at h
    simp only [List.mem_cons] at h
    rcases h with rfl | rfl | rfl | h
    · rfl
    · rfl
    · rfl
    · exact cellsV_one xs u h
theorem nv_cons (x : Val) (xs : List Val) (i : Nat) : nv (x :: xs) (i + 1) = nv xs i := by unfold nv; simp
theorem nv_zero (x : Val) (xs : List Val) : nv (x :: xs) 0 = x := by unfold nv; simp
theorem cellsV_at : ∀ (xs : List Val) (i : Nat), i < xs.length → (cellsV xs)[i * 3]? = some (.int .i64 (nv xs i).1) ∧ (cellsV xs)[i * 3 + 1]? = some (.int .i64 (nv xs i).2.1) ∧ (cellsV xs)[i * 3 + 2]? = some (.string (nv xs i).2.2)
  | [], i, h => by cases h
  | x :: xs, 0, _ => by rw [cellsV_cons, nv_zero]; exact ⟨rfl, rfl, rfl⟩
  | x :: xs, i + 1, h => by
    obtain ⟨h1, h2, h3⟩ := cellsV_at xs i (by simpa using h)
    rw [cellsV_cons, nv_cons]
    rw [show (i + 1) * 3 = i * 3 + 3 from by omega]
    refine ⟨?_, ?_, ?_⟩
    · simpa using h1
    · rw [show i * 3 + 3 + 1 = i * 3 + 1 + 3 from by omega]; simpa using h2
    · rw [show i * 3 + 3 + 2 = i * 3 + 2 + 3 from by omega]; simpa using h3

theorem VSl.form {w : World} {v : Value} {xs : List Val} (h : VSl w v xs) : ∃ a c, v = .slice a xs.length c ∧ xs.length ≤ c ∧ c ≤ 9223372036854775807 ∧ (a = none → xs = [] ∧ c = 0) := by
  obtain ⟨a, c, hv, h1, h2, h3⟩ := h
  refine ⟨a, c, hv, h1, h2, fun ha => ?_⟩
  rcases h3 with ⟨h3, h4⟩ | ⟨b, o, h3, _⟩
  · exact ⟨h3, h4 ha⟩
  · rw [ha] at h3; cases h3
theorem vsl_cells {w : World} {ad : Addr} {n c : Nat} {xs : List Val} (h : VSl w (.slice (some ad) n c) xs) : ∀ j u, (cellsV xs)[j]? = some u → w.cell? (ad.add j) = some u := by
  obtain ⟨a, c', hv, h1, h2, h3⟩ := h
  injection hv with ha hn hc
  intro j u hj
  have hjl : j < (cellsV xs).length := (List.getElem?_eq_some_iff.1 hj).1
  rw [cellsV_len] at hjl
  rcases h3 with ⟨h3, _⟩ | ⟨b, o, hb, hl, hat⟩
  · rw [h3] at hjl; simp at hjl
  · rw [← ha] at hb
    injection hb with hb
    subst hb
    rw [Addr.add_mid]
    have hi : j / 3 < xs.length := by omega
    obtain ⟨q0, q1, q2⟩ := hat (j / 3) hi
    obtain ⟨r0, r1, r2⟩ := cellsV_at xs (j / 3) hi
    rcases (by omega : j % 3 = 0 ∨ j % 3 = 1 ∨ j % 3 = 2) with r | r | r
    · rw [show j = j / 3 * 3 from by omega] at hj ⊢
      rw [r0] at hj
      rw [q0, hj]
    · rw [show j = j / 3 * 3 + 1 from by omega] at hj ⊢
      rw [r1] at hj
      rw [← Nat.add_assoc, q1, hj]
    · rw [show j = j / 3 * 3 + 2 from by omega] at hj ⊢
      rw [r2] at hj
      rw [← Nat.add_assoc, q2, hj]

/-- a row of values that the call owns, from block B on -/
def OwnV (w : World) (B : Nat) (v : Value) (xs : List Val) : Prop := w.ownsRow B 25 3 v xs.length (cellsV xs)
theorem OwnV.nil (w : World) (B : Nat) : OwnV w B (.slice none 0 0) [] := World.ownsRow_nil _ _ _ _
theorem OwnV.later {w w' : World} {B : Nat} {v : Value} {xs : List Val} (h : OwnV w B v xs) (hb : Below w.heap.size w w') : OwnV w' B v xs :=
  World.ownsRow.kept h (row := none) ⟨hb.os, hb.tape, hb.output, hb.size, fun k hk _ => hb.block k hk⟩ (by cases v.ownBlock <;> simp)
theorem OwnV.vsl {w : World} {B : Nat} {v : Value} {xs : List Val} (h : OwnV w B v xs) : VSl w v xs := by
  have h' := h
  obtain ⟨h1, h2⟩ := h
  rcases h2 with ⟨rfl, h0⟩ | ⟨g, cap, cur, rfl, hb, hg, hn, hc, hs, ht⟩
  · have e : xs = [] := List.eq_nil_of_length_eq_zero h0
    subst e
    exact ⟨none, 0, rfl, by simp, by simp, .inl ⟨rfl, fun _ => rfl⟩⟩
  · unfold maxLen at hc
    refine ⟨_, cap, rfl, hn, by omega, .inr ⟨g, 0, rfl, (World.ownsRow.lt h' g rfl).2, fun i hi => ?_⟩⟩
    obtain ⟨r0, r1, r2⟩ := cellsV_at xs i hi
    have q := World.ownsRow.cells h' (g := g) rfl
    have q0 := q _ _ r0
    have q1 := q _ _ r1
    have q2 := q _ _ r2
    rw [Addr.add_mid] at q0 q1 q2
    exact ⟨q0, by rw [Nat.add_assoc]; exact q1, by rw [Nat.add_assoc]; exact q2⟩
theorem OwnV.lt {w : World} {B : Nat} {v : Value} {xs : List Val} (h : OwnV w B v xs) : ∀ g, v.ownBlock = some g → B ≤ g ∧ g < w.heap.size := World.ownsRow.lt h

/-- a row stays while another one grows -/
theorem vsl_grown {w w' : World} {u : Value} {xs : List Val} {row : Option Nat} (h : VSl w u xs) (hg : w.grownBy w' row) (hd : 0 < xs.length → ∀ g, row = some g → u.ownBlock ≠ some g) : VSl w' u xs := by
  obtain ⟨a, c, rfl, h1, h2, h3⟩ := h
  refine ⟨a, c, rfl, h1, h2, ?_⟩
  rcases h3 with h3 | ⟨b, o, rfl, hb, hat⟩
  · exact .inl h3
  · by_cases h0 : xs = []
    · exact .inl ⟨h0, fun h => by cases h⟩
    · have hp : 0 < xs.length := List.length_pos_iff.2 h0
      have hne : some b ≠ row := fun e => hd hp b e.symm rfl
      exact .inr ⟨b, o, rfl, Nat.lt_of_lt_of_le hb hg.size, fun i hi => ⟨hg.cell (hat i hi).1 hne, hg.cell (hat i hi).2.1 hne, hg.cell (hat i hi).2.2 hne⟩⟩
theorem vsl_lt {w : World} {u : Value} {xs : List Val} (h : VSl w u xs) (h0 : 0 < xs.length) : ∀ g, u.ownBlock = some g → g < w.heap.size := by
  obtain ⟨a, c, rfl, h1, h2, h3⟩ := h
  rcases h3 with ⟨h3, _⟩ | ⟨b, o, rfl, hb, _⟩
  · rw [h3] at h0; cases h0
  · intro g hg
    simp [Value.ownBlock] at hg
    omega
theorem below_own {w w' : World} {B : Nat} {v : Value} {xs : List Val} (h : OwnV w B v xs) (hg : w.grownBy w' v.ownBlock) {w0 : World} (h0 : Below B w0 w) (hB : B ≤ w.heap.size) : Below B w0 w' :=
  Below.grown h0 hg hB (fun k hk => (h.lt k hk).1)

theorem infoV : (Tryd.prog.info? 25).map (fun i => (i.zero, i.size, i.bytes)) = some (some (.agg #[.int .i64 0, .int .i64 0, .string ⟨#[]⟩]), 3, 32) := by kernel_rfl

/-- append of a row of values, nil or not, to one that the call owns -/
theorem wpList_appendV {ops : Array Oper} {rest : List Oper} {o : Oper} {a : Act} {w : World} {Q : Exit → Act → World → Prop} (hgd : o.guard = none) (s x : Operand)
    (ho : o.op = .call { callee := .builtin .append, args := #[s, x], argTypes := #[26, 26] }) (B : Nat) (v : Value) (xs : List Val) (hs : a.eval s = v) (hown : OwnV w B v xs)
    (u : Value) (ys : List Val) (hx : a.eval x = u) (hu : VSl w u ys) (hlen : xs.length + ys.length ≤ 1000000) (hbase : B ≤ w.heap.size)
    (h : ∀ v' w', OwnV w' B v' (xs ++ ys) → w.grownBy w' v.ownBlock → (v'.ownBlock = v.ownBlock ∨ v'.ownBlock = some w.heap.size) → wpList Tryd.prog ops Q rest (a.put o.dst v') w') : wpList Tryd.prog ops Q (o :: rest) a w := by
  obtain ⟨i0, hi, hz0, hz1, hz2⟩ := info_parts infoV
  obtain ⟨au, cu, hv, _, _, hnn⟩ := hu.form
  subst hv
  unfold OwnV at hown h
  cases au with
  | none =>
    obtain ⟨hy, hc⟩ := hnn rfl
    subst hy hc
    refine wpList_append_own_none hgd s x 26 ho B 25 i0 3 Tryd.underlying26 hi v xs.length (cellsV xs) hs hown hx ?_
    exact h v w (by simpa using hown) ⟨rfl, rfl, rfl, Nat.le_refl _, fun _ _ _ => rfl⟩ (.inl rfl)
  | some ad =>
    refine wpList_append_own_at _ hgd s x 26 ho B 25 i0 (.agg #[.int .i64 0, .int .i64 0, .string ⟨#[]⟩]) 3 32 Tryd.underlying26 hi hz0 hz1 hz2 rfl (by decide) v xs.length (cellsV xs) hs hown ad ys.length cu (cellsV ys) hx (cellsV_len ys) (vsl_cells hu) (cellsV_one _) (by unfold maxLen; omega) (by omega) hbase ?_
    intro v' w' hown' hgrow _ hat
    refine h v' w' ?_ hgrow hat
    rw [cellsV_app, List.length_append]; exact hown'

/-- what is cut out of a row: from lo to hi -/
theorem slice_cutV {w : World} {a : Option Addr} {n c : Nat} {xs : List Val} (h : VSl w (.slice a n c) xs) (lo hi : Nat) (h1 : lo ≤ hi) (h2 : hi ≤ xs.length) :
    VSl w (sliced a lo hi c 3) ((xs.drop lo).take (hi - lo)) ∧ (sliced a lo hi c 3).ownBlock = (Value.slice a n c).ownBlock := by
  obtain ⟨a', c', hv, hl, hc, hr⟩ := h
  injection hv with ha hnn hcc
  subst ha hcc hnn
  have hlen : ((xs.drop lo).take (hi - lo)).length = hi - lo := by rw [List.length_take, List.length_drop]; omega
  refine ⟨?_, ?_⟩
  · refine ⟨if c = lo then a else a.map (·.add (lo * 3)), c - lo, by rw [hlen]; rfl, by omega, by omega, ?_⟩
    rcases hr with ⟨h3, h4⟩ | ⟨b, o, rfl, hb, hat⟩
    · subst h3
      have hh : hi = 0 := by simpa using h2
      have hl0 : lo = 0 := by omega
      subst hh hl0
      refine .inl ⟨rfl, fun e => ?_⟩
      have : a = none := by
        by_cases hcl : c = 0
        · rw [if_pos hcl] at e; exact e
        · rw [if_neg hcl] at e; simpa using e
      rw [h4 this]
    · by_cases h0 : hi - lo = 0
      · refine .inl ⟨List.eq_nil_of_length_eq_zero (by omega), fun e => ?_⟩
        by_cases hcl : c = lo
        · rw [if_pos hcl] at e; cases e
        · rw [if_neg hcl] at e; cases e
      · rw [if_neg (by omega)]
        refine .inr ⟨b, o + lo * 3, ?_, hb, fun i hi' => ?_⟩
        · show some ((⟨b, o, none⟩ : Addr).add (lo * 3)) = _
          rw [Addr.add_mid]
        · rw [hlen] at hi'
          have e : nv ((xs.drop lo).take (hi - lo)) i = nv xs (lo + i) := by
            unfold nv; simp [List.getD, List.getElem?_drop, hi']
          rw [e, show o + lo * 3 + i * 3 = o + (lo + i) * 3 from by omega]
          exact hat (lo + i) (by omega)
  · unfold sliced
    cases a with
    | none => simp [Value.ownBlock]
    | some ad =>
      have : ∀ k, (ad.add k).block = ad.block := fun k => by unfold Addr.add; split <;> rfl
      by_cases hcl : c = lo
      · rw [if_pos hcl]; rfl
      · rw [if_neg hcl]; simp [Value.ownBlock, this]

theorem elemV : Tryd.prog.elem 26 = 25 := by kernel_rfl
theorem undV : Tryd.prog.underlying 26 = some (.slice (Tryd.prog.elem 26)) := by kernel_rfl
theorem run_cut_h (k : IntKind) (a : Option Addr) (n c m : Nat) (hm : m ≤ c) (w : World) : (Instr.sliceAt 26 (.slice a n c) none (some (.int k (m : Int))) none).run Tryd.prog w = .ok (sliced a 0 m c 3) w := by
  rw [run_sliceAt_slice w 26 _ _ _ _ undV, run_slice_h w 26 _ _ _ undV k _ (by omega) (by omega), elemV, Tryd.sizeOf25, Int.toNat_natCast]; rfl
theorem run_cut_l (k : IntKind) (a : Option Addr) (n c m : Nat) (hm : m ≤ n) (w : World) : (Instr.sliceAt 26 (.slice a n c) (some (.int k (m : Int))) none none).run Tryd.prog w = .ok (sliced a m n c 3) w := by
  rw [run_sliceAt_slice w 26 _ _ _ _ undV, run_slice_l w 26 _ _ _ undV k _ (by omega) (by omega), elemV, Tryd.sizeOf25, Int.toNat_natCast]; rfl

/-- a copy of a row of values over a row of as many that lies at the beginning of a block -/
theorem run_copyV (w : World) (ty : TypeId) (g n dc : Nat) (ad : Addr) (sc : Nat) (cur : Array Value) (t : TypeId) (ys : List Val) (hg : w.heap[g]? = some (.cells cur t (0, 0))) (hn : ys.length = n) (hcur : cur.size = n * 3)
    (hsrc : ∀ j u, (cellsV ys)[j]? = some u → w.cell? (ad.add j) = some u) :
    (Builtin.copy_ #[26, 26] ty #[.slice (some ⟨g, 0, none⟩) n dc, .slice (some ad) n sc]).run Tryd.prog w = .ok (goInt n) (w.setRow g (cellsV ys).toArray) := by
  obtain ⟨i0, hi, hz0, hz1, hz2⟩ := info_parts infoV
  have hf := run_firstCells_some (P := Tryd.prog) w i0.size n ad n sc (cellsV ys) (by rw [cellsV_len, hn, hz1]) hsrc
  have hst := run_storeCells_at Tryd.prog g 0 t (cellsV ys) 0 cur w hg (by rw [cellsV_len, hn, hcur]; omega) (cellsV_one ys)
  have e : cur.toList.take 0 ++ cellsV ys ++ cur.toList.drop (0 + 0 + (cellsV ys).length) = cellsV ys := by
    rw [cellsV_len, hn, List.drop_eq_nil_of_le (by simp [hcur])]; simp
  simp only [Nat.add_zero] at hst e
  rw [e] at hst
  simp [Builtin.copy_, run_underlying Tryd.underlying26, Builtin.lenOf, sizeOf, typeInfo, hi, hf, hst]
end Go.Proofs.YtpboleifllcehaaDoor
namespace Go.Proofs.YtpboleifllcehaaDoor
open Go.RowKit Go.PlainAid Go.Sort
set_option linter.unusedVariables false

theorem bytes_inj {a b : ByteArray} (h : a.data.toList = b.data.toList) : a = b := ByteArray.ext (Array.toList_inj.1 h)
theorem eqvB_iff (k n k' n' : Int) (s s' : ByteArray) : eqvB k n s k' n' s' = true ↔ ((k, n, s) : Val) = (k', n', s') := by
  unfold eqvB
  rw [Bool.and_eq_true, Bool.and_eq_true, beq_iff_eq, beq_iff_eq, beq_iff_eq]
  constructor
  · rintro ⟨rfl, rfl, h⟩
    rw [ByteArray.toList_eq, ByteArray.toList_eq] at h
    rw [bytes_inj h]
  · intro h
    injection h with h1 h2
    injection h2 with h2 h3
    exact ⟨h1, h2, by rw [h3]⟩
/-- are two rows one? -/
def sameL (xs ys : List Val) : Bool := decide (xs.length = ys.length ∧ ∀ i, i < xs.length → nv xs i = nv ys i)
theorem sameL_self (xs : List Val) : sameL xs xs = true := decide_eq_true ⟨rfl, fun _ _ => rfl⟩
theorem sameL_f {xs ys : List Val} (h : ¬ (xs.length = ys.length ∧ ∀ i, i < xs.length → nv xs i = nv ys i)) : sameL xs ys = false := decide_eq_false h
theorem sameL_t {xs ys : List Val} (h : xs.length = ys.length ∧ ∀ i, i < xs.length → nv xs i = nv ys i) : sameL xs ys = true := decide_eq_true h
theorem at_block {w : World} {a : Option Addr} {n c : Nat} {xs : List Val} (h : VSl w (.slice a n c) xs) (hl : 0 < xs.length) : ∃ b o, a = some ⟨b, o, none⟩ := by
  obtain ⟨a', c', hv, _, _, h3⟩ := h
  injection hv with ha _ _
  rcases h3 with ⟨h3, _⟩ | ⟨b, o, h3, _⟩
  · rw [h3] at hl; cases hl
  · exact ⟨b, o, ha.trans h3⟩
theorem at_cells {w : World} {b o n c : Nat} {xs : List Val} (h : VSl w (.slice (some ⟨b, o, none⟩) n c) xs) {i : Nat} (hl : i < xs.length) : At w b (o + i * 3) (nv xs i) := by
  obtain ⟨a', c', hv, _, _, h3⟩ := h
  injection hv with ha _ _
  rcases h3 with ⟨h3, _⟩ | ⟨b', o', h3, _, hat⟩
  · rw [h3] at hl; cases hl
  · rw [h3] at ha
    injection ha with ha
    injection ha with h1 h2 _
    subst h1 h2
    exact hat i hl

set_option maxHeartbeats 2000000 in
theorem same_any (u v : Value) (xs ys : List Val) (w : World) (hu : VSl w u xs) (hv : VSl w v ys) (hn : xs.length ≤ 1000000) : Calls Tryd.prog 15 #[u, v] w fun e w' => e = .returned (.bool (sameL xs ys)) ∧ Below w.heap.size w w' := by
  have HU : Hid (VSl w u xs) := hu
  have HV : Hid (VSl w v ys) := hv
  obtain ⟨a, c, rfl, _, _, _⟩ := hu.form
  obtain ⟨b, d, rfl, _, _, _⟩ := hv.form
  clear hu hv
  have hg := eqgV
  have mixed : Tryd.prog.follows .mixedOrders = true := by kernel_rfl
  by_cases hl : xs.length = ys.length
  · have hl' : ((xs.length : Int) == (ys.length : Int)) = true := by simp [hl]
    have HL : Hid (xs.length = ys.length) := hl
    obtain ⟨n, hN⟩ : ∃ n, xs.length = n := ⟨_, rfl⟩
    rw [← hl] at HV ⊢
    rw [hN] at HU HV hn HL ⊢
    have HN : Hid (xs.length = n) := hN
    clear hl hl' hN
    go_enter Tryd.func15, Tryd.ntmps15
    go_wp2
    go_loopw [5] (fun i w' => ∃ k : Nat, k ≤ n ∧ i = .int .i64 (k : Int) ∧ Below w.heap.size w w' ∧ ∀ i, i < k → nv xs i = nv ys i) (fun i w' => n - (intOf i).toNat)
    case atStart => exact ⟨0, by omega, rfl, Below.refl _ _, fun i h => by omega⟩
    case round =>
      obtain ⟨k, hk, rfl, hb, hall⟩ := hrel
      have HA : Hid (∀ i, i < k → nv xs i = nv ys i) := hall
      clear hall
      by_cases hlt : k < n
      · have hlt' : (k : Int) < (n : Int) := by omega
        have HU2 := HU.out.later hb
        have HV2 := HV.out.later hb
        obtain ⟨p, o, rfl⟩ := at_block HU2 (by rw [HN.out]; omega)
        obtain ⟨q, r, rfl⟩ := at_block HV2 (by rw [← HL.out]; omega)
        obtain ⟨a0, a1, a2⟩ := at_cells HU2 (i := k) (by rw [HN.out]; omega)
        obtain ⟨b0, b1, b2⟩ := at_cells HV2 (i := k) (by rw [← HL.out]; omega)
        clear HU2 HV2
        obtain ⟨x1, x2, x3, hx⟩ : ∃ x1 x2 x3, nv xs k = (x1, x2, x3) := ⟨_, _, _, rfl⟩
        obtain ⟨y1, y2, y3, hy⟩ : ∃ y1 y2 y3, nv ys k = (y1, y2, y3) := ⟨_, _, _, rfl⟩
        have HE : Hid (nv xs k = nv ys k ↔ eqvB x1 x2 x3 y1 y2 y3 = true) := by show _ ↔ _; rw [eqvB_iff, hx, hy]
        rw [hx] at a0 a1 a2
        rw [hy] at b0 b1 b2
        dsimp only at a0 a1 a2 b0 b1 b2
        clear hx hy
        have hq := fun w => neV x1 x2 y1 y2 x3 y3 w
        generalize eqvB x1 x2 x3 y1 y2 y3 = eb at hq HE
        have a0' := fun d os => cell_regrown a0 d os
        have a1' := fun d os => cell_regrown a1 d os
        have a2' := fun d os => cell_regrown a2 d os
        have b0' := fun d os => cell_regrown b0 d os
        have b1' := fun d os => cell_regrown b1 d os
        have b2' := fun d os => cell_regrown b2 d os
        clear a0 a1 a2 b0 b1 b2
        go_wp2_with fail
        refine wp_region_quiet_below (by assumption) (by kernel_rfl) ?_
        repeat (quiet_step (fail))
        refine wpQuiet_nil ?_
        intro _ hw'
        obtain ⟨⟨dq, osq⟩, hw''⟩ := hw'
        subst hw''
        cases eb with
        | true =>
          have HK : Hid (nv xs k = nv ys k) := HE.out.2 rfl
          go_wp2
          go_roundw
          case rel =>
            refine ⟨k + 1, by omega, by go_num, below_next hb (below_regrown _ _ _), fun i hi => ?_⟩
            by_cases e : i = k
            · subst e; exact HK.out
            · exact HA.out i (by omega)
          case measure => simp [intOf]; omega
        | false =>
          have HK : Hid (¬ nv xs k = nv ys k) := fun h => by have := HE.out.1 h; cases this
          go_wp2
          go_ret
          exact ⟨ret_b (sameL_f (fun h => HK.out (h.2 k (by rw [HN.out]; omega)))).symm, below_next hb (below_regrown _ _ _)⟩
      · have e : k = n := by omega
        subst e
        go_wp2
        go_ret
        exact ⟨ret_b (sameL_t ⟨HN.out.trans HL.out, fun i hi => HA.out i (by rw [HN.out] at hi; exact hi)⟩).symm, hb⟩
  · rw [sameL_f (fun h => hl h.1)]
    have hl' : ((xs.length : Int) == (ys.length : Int)) = false := by simp; omega
    go_enter Tryd.func15, Tryd.ntmps15
    go_wp2
    go_ret
    exact ⟨rfl, Below.refl _ _⟩
end Go.Proofs.YtpboleifllcehaaDoor
