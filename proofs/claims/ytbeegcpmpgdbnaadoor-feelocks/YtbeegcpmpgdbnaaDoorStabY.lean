import Derived.Test.YtbeegcpmpgdbnaaDoorStabX
/-
  What slices.symMergeCmpFunc does at this program to two sorted parts of a row whose elements have one cell: it merges them, stably.
-/
namespace Go.Proofs.YtbeegcpmpgdbnaaDoor
open Go.RowKit Go.Shelf Go.Lib Go.Sort
variable {α : Type} [Inhabited α]

/-- What the merging is told once: the comparison, the row, the places. -/
structure Merging (enc : α → Value) (cf : α → α → Int) (pos : α → Nat) (g : Nat) (cb : Array Value) (d0 : Array α) (w0 : World) (blk off : Nat) : Prop where
  eg : ∀ args w, (callFunc g args).run Tryd.prog w = .ok (.enter g args) w
  cmp : CmpLays1 Tryd.prog g cb enc cf blk off d0.size w0
  row : Row1 enc w0 blk off d0
  swo : SWO (ltOf cf)
  inj : ∀ x y, pos x = pos y → x = y
  small : d0.size < 4611686018427387904
/-- What it comes to. -/
def Merges (enc : α → Value) (cf : α → α → Int) (pos : α → Nat) (g : Nat) (cb : Array Value) (d0 : Array α) (w0 : World) (blk off cap : Nat) (a m b : Nat) (d : Array α) (w : World) : Prop :=
  Calls Tryd.prog 60 #[.slice (some ⟨blk, off, none⟩) d0.size cap, .int .i64 a, .int .i64 m, .int .i64 b, .func (.func g) #[] cb] w fun e w' => e = .returned (.tuple #[]) ∧ ∃ d', SW enc w0 blk off d' w' ∧ From a b d d' ∧ Up (stT (ltOf cf) pos) a b d'
section
variable {enc : α → Value} {cf : α → α → Int} {pos : α → Nat} {g : Nat} {cb : Array Value} {d0 : Array α} {w0 : World} {blk off : Nat}
theorem Merging.less (M : Merging enc cf pos g cb d0 w0 blk off) {x y : α} (h : pos y < pos x) : (cf x y < 0 → stT (ltOf cf) pos x y = true) ∧ (¬ cf x y < 0 → stT (ltOf cf) pos y x = true) := by
  refine ⟨fun hc => ?_, fun hc => ?_⟩
  · rw [stT_late h]
    exact decide_eq_true hc
  · refine stT_total M.inj (fun e => ?_) ?_
    · rw [e] at h
      omega
    · rw [stT_late h]
      exact decide_eq_false hc

set_option maxHeartbeats 2000000 in
set_option maxRecDepth 100000 in
/-- One ahead of many. -/
theorem merge_first (M : Merging enc cf pos g cb d0 w0 blk off) (cap a m b : Nat) (d : Array α) (w : World) (hs : d.size = d0.size) (hm : m = a + 1) (hmb : m < b) (hb : b ≤ d0.size) (S : SW enc w0 blk off d w)
    (hR : Up (stT (ltOf cf) pos) m b d) (hF : Fore pos a m b d) : Merges enc cf pos g cb d0 w0 blk off cap a m b d w := by
  have mixed : Tryd.prog.follows .mixedOrders = true := by kernel_rfl
  have hsz := M.small
  have eg := M.eg
  have hcl0 := M.row.hO.cells
  simp only [Value.cells] at hcl0
  have hst := M.row.hO.store Tryd.prog
  have S0 : Aside (SW enc w0 blk off d w) := S
  have HM : Aside (m = a + 1) := hm
  have HF : Aside (Fore pos a m b d) := hF
  have HR : Aside (Up (stT (ltOf cf) pos) m b d) := hR
  have MM : Aside (Merging enc cf pos g cb d0 w0 blk off) := M
  have e0 : IntKind.i64.wrap ((m : Int) - (a : Int)) = 1 := by rw [IntKind.wrap_i64]; omega
  have ha : (a : Int) < (d0.size : Int) := by omega
  clear S hm hF hR M
  unfold Merges
  go_enter Tryd.func60, Tryd.ntmps60
  go_wp2
  go_loopg [10, 11] (b - m) (fun g0 vi vj wr => ∃ i j : Nat, vi = .int .i64 i ∧ vj = .int .i64 j ∧ m ≤ i ∧ i ≤ j ∧ j ≤ b ∧ j - i ≤ g0 ∧ Aside (SW enc w0 blk off d wr) ∧ Aside ((i = m ∨ stT (ltOf cf) pos d[i - 1]! d[a]! = true) ∧ (j = b ∨ stT (ltOf cf) pos d[a]! d[j]! = true)))
  case atStart => exact ⟨m, b, rfl, rfl, Nat.le_refl _, by omega, Nat.le_refl _, Nat.le_refl _, S0, (⟨Or.inl rfl, Or.inl rfl⟩ : (m = m ∨ _) ∧ (b = b ∨ _))⟩
  case round =>
    clear S0
    obtain ⟨i, j, rfl, rfl, hi, hij, hj, hg, S1, I⟩ := hrel
    by_cases hlt : i < j
    · have hltz : (i : Int) < (j : Int) := by omega
      obtain ⟨h, hh⟩ : ∃ q, q = (i + j) / 2 := ⟨_, rfl⟩
      have eh : ((i : Int) + (j : Int)) / 2 = (h : Int) := by omega
      have bh : (h : Int) < (d0.size : Int) := by omega
      have HH : Aside (i ≤ h ∧ h < j) := (by omega : i ≤ h ∧ h < j)
      obtain ⟨x, hx⟩ : ∃ v, v = d[h]! := ⟨_, rfl⟩
      obtain ⟨y, hy⟩ : ∃ v, v = d[a]! := ⟨_, rfl⟩
      have la := S1.out.cl MM.out.row hs h (by omega)
      have lb := S1.out.cl MM.out.row hs a (by omega)
      rw [← hx] at la
      rw [← hy] at lb
      have hc := S1.out.cmp MM.out.cmp hs x y
      have L := MM.out.less (HF.out a h (Nat.le_refl _) (by have := HM.out; omega) (by omega) (by omega))
      rw [← hx, ← hy] at L
      have X : Aside (x = d[h]! ∧ y = d[a]!) := ⟨hx, hy⟩
      have LL : Aside _ := L
      clear L hx hy hh
      by_cases hv : cf x y < 0
      · have hd : decide (cf x y < 0) = true := decide_eq_true hv
        go_wp2_with fail
        go_quiet_grown (first | (go_at_fn g; refine Calls.grown_of (hc _ _)))
        have S2 : Aside (SW enc w0 blk off d (grow (wr.drewN nq) osq)) := S1.out.grown nq osq
        clear la lb hc S1
        generalize grow (wr.drewN nq) osq = w2 at S2 ⊢
        clear nq osq
        go_wp2
        go_roundg (j - (h + 1))
        case measure => have := HH.out; omega
        case rel => exact ⟨h + 1, j, by go_num, rfl, by have := HH.out; omega, by have := HH.out; omega, hj, Nat.le_refl _, S2, (⟨Or.inr (by rw [Nat.add_sub_cancel, ← X.out.1, ← X.out.2]; exact LL.out.1 hv), I.out.2⟩ : (h + 1 = m ∨ _) ∧ (j = b ∨ _))⟩
      · have hd : decide (cf x y < 0) = false := decide_eq_false hv
        go_wp2_with fail
        go_quiet_grown (first | (go_at_fn g; refine Calls.grown_of (hc _ _)))
        have S2 : Aside (SW enc w0 blk off d (grow (wr.drewN nq) osq)) := S1.out.grown nq osq
        clear la lb hc S1
        generalize grow (wr.drewN nq) osq = w2 at S2 ⊢
        clear nq osq
        go_wp2
        go_roundg (h - i)
        case measure => have := HH.out; omega
        case rel => exact ⟨i, h, rfl, rfl, hi, HH.out.1, by have := HH.out; omega, Nat.le_refl _, S2, (⟨I.out.1, Or.inr (by rw [← X.out.1, ← X.out.2]; exact LL.out.2 hv)⟩ : (i = m ∨ _) ∧ (h = b ∨ _))⟩
    · have hltz : ¬ (i : Int) < (j : Int) := by omega
      obtain rfl : i = j := by omega
      obtain ⟨i1, hi1⟩ : ∃ q, q = i - 1 := ⟨_, rfl⟩
      have ei : IntKind.i64.wrap ((i : Int) - 1) = (i1 : Int) := by have := HM.out; rw [IntKind.wrap_i64]; omega
      have I1 : Aside (i1 = i - 1) := hi1
      have bi : i ≤ d0.size := by omega
      clear hi1
      go_wp2
      go_loopg [13] (i - a) (fun g0 vk wr => ∃ (t : Nat) (dk : Array α), vk = .int .i64 ((a + t : Nat) : Int) ∧ a + t ≤ i1 ∧ i - (a + t) ≤ g0 ∧ dk.size = d0.size ∧ Aside (SW enc w0 blk off dk wr) ∧ Hid (∀ k, dk[k]! = rotF a (a + 1) (a + 1 + t) (fun k => d[k]!) k))
      case atStart => exact ⟨0, d, rfl, by have := I1.out; have := HM.out; omega, by omega, hs, S1, hide (fun k => by rw [rot_none a (a + 1) (a + 1 + 0) _ (by omega) (by omega) (by omega)])⟩
      case round =>
        clear S1
        obtain ⟨t, dk, rfl, ht, hg2, hsk, S1, HD⟩ := hrel
        obtain ⟨k, hk⟩ : ∃ q, q = a + t := ⟨_, rfl⟩
        have K : Aside (k = a + t) := hk
        rw [← hk] at ht hg2 ⊢
        clear hk
        by_cases hlt2 : k < i1
        · have hltz2 : (k : Int) < (i1 : Int) := by omega
          obtain ⟨k1, hk1⟩ : ∃ q, q = k + 1 := ⟨_, rfl⟩
          have rk : IntKind.i64.wrap ((k : Int) + 1) = (k1 : Int) := by have := I1.out; rw [IntKind.wrap_i64]; omega
          have B : k < d0.size ∧ k1 < d0.size := by have := I1.out; omega
          have bk : (k : Int) < (d0.size : Int) := by omega
          have bk1 : (k1 : Int) < (d0.size : Int) := by omega
          obtain ⟨xv, hxv⟩ : ∃ v, v = dk[k]! := ⟨_, rfl⟩
          obtain ⟨yv, hyv⟩ : ∃ v, v = dk[k1]! := ⟨_, rfl⟩
          have S3 : Aside (SW enc w0 blk off (swp dk k k1) ((wr.setCell ⟨blk, off + k, none⟩ (enc yv)).setCell ⟨blk, off + k1, none⟩ (enc xv)).drew) := by rw [hxv, hyv]; exact S1.out.swapped MM.out.row _ _ (by omega) (by omega)
          have ca := S1.out.c1 MM.out.row (by omega) k (by omega)
          have cb := S1.out.c1 MM.out.row (by omega) k1 (by omega)
          have fa := S1.out.f1 MM.out.row (by omega) k (by omega)
          have fb := S1.out.f1 MM.out.row (by omega) k1 (by omega)
          obtain ⟨u, cc⟩ := S1.out.c2 MM.out.row (by omega) k k1 (by omega) (by omega) (enc yv)
          have HN : Hid (∀ z, (swp dk k k1)[z]! = rotF a (a + 1) (a + 1 + (t + 1)) (fun k => d[k]!) z) := hide (by
            rw [hk1, K.out]
            exact rise_step a t _ dk HD.out (by have := K.out; omega))
          have K1 : Aside (k1 = k + 1) := hk1
          rw [← hxv] at ca
          rw [← hyv] at cb
          clear S1 HD hxv hyv hk1 B
          go_wp2_with fail
          go_big_region
          clear ca cb cc fa fb
          generalize ((wr.setCell ⟨blk, off + k, none⟩ (enc yv)).setCell ⟨blk, off + k1, none⟩ (enc xv)).drew = w3 at S3 ⊢
          clear bk bk1
          go_wp2
          go_roundg (i - (a + (t + 1)))
          case measure => have := K.out; have := I1.out; omega
          case rel => exact ⟨t + 1, _, by rw [K1.out, K.out]; rfl, by have := K.out; omega, Nat.le_refl _, by rw [size_swp]; exact hsk, S3, HN⟩
        · have hltz2 : ¬ (k : Int) < (i1 : Int) := by omega
          have hend : a + 1 + t = i := by have := K.out; have := I1.out; have := HM.out; omega
          rw [hend] at HD
          have FU : Aside (From a b d dk ∧ Up (stT (ltOf cf) pos) a b dk) := by
            have hm := HM.out
            have U := HR.out
            have II := I.out
            rw [hm] at II U
            exact ⟨(rot_from (hsk.trans hs.symm) (by omega) (by omega) HD.out).mono (Nat.le_refl _) hj, merge_one (stT_swo pos MM.out.swo) (by omega) hj U II.1 II.2 HD.out⟩
          clear hend
          go_wp2
          try simp only [Exit.inBlock, Exit.then]
          refine bodyPost_ret (results_none rfl _ _ _) rfl ?_
          exact ⟨rfl, dk, S1.out, FU.out⟩
end

end Go.Proofs.YtbeegcpmpgdbnaaDoor

/-
  What slices.symMergeCmpFunc does at this program where one element stands behind a sorted part.
-/
namespace Go.Proofs.YtbeegcpmpgdbnaaDoor
open Go.RowKit Go.Shelf Go.Lib Go.Sort
variable {α : Type} [Inhabited α]
variable {enc : α → Value} {cf : α → α → Int} {pos : α → Nat} {g : Nat} {cb : Array Value} {d0 : Array α} {w0 : World} {blk off : Nat}

set_option maxHeartbeats 2000000 in
set_option maxRecDepth 100000 in
/-- One behind many. -/
theorem merge_behind (M : Merging enc cf pos g cb d0 w0 blk off) (cap a m b : Nat) (d : Array α) (w : World) (hs : d.size = d0.size) (hm : b = m + 1) (ham : a + 1 < m) (hb : b ≤ d0.size) (S : SW enc w0 blk off d w)
    (hL : Up (stT (ltOf cf) pos) a m d) (hF : Fore pos a m b d) : Merges enc cf pos g cb d0 w0 blk off cap a m b d w := by
  have mixed : Tryd.prog.follows .mixedOrders = true := by kernel_rfl
  have hsz := M.small
  have eg := M.eg
  have hcl0 := M.row.hO.cells
  simp only [Value.cells] at hcl0
  have hst := M.row.hO.store Tryd.prog
  have S0 : Aside (SW enc w0 blk off d w) := S
  have HM : Aside (b = m + 1) := hm
  have HF : Aside (Fore pos a m b d) := hF
  have HL : Aside (Up (stT (ltOf cf) pos) a m d) := hL
  have MM : Aside (Merging enc cf pos g cb d0 w0 blk off) := M
  obtain ⟨q0, hq0⟩ : ∃ q, q = m - a := ⟨_, rfl⟩
  have e0 : IntKind.i64.wrap ((m : Int) - (a : Int)) = (q0 : Int) := by rw [IntKind.wrap_i64]; omega
  have n0 : ((q0 : Int) == 1) = false := by rw [beq_eq_false_iff_ne]; omega
  have n0' : ¬ (q0 : Int) = 1 := by omega
  have e1 : IntKind.i64.wrap ((b : Int) - (m : Int)) = 1 := by rw [IntKind.wrap_i64]; omega
  have hma : (m : Int) < (d0.size : Int) := by omega
  clear S hm hF hL M hq0
  unfold Merges
  go_enter Tryd.func60, Tryd.ntmps60
  go_wp2
  clear e0 n0 n0' e1 
  go_loopg [14, 15] (m - a) (fun g0 vi vj wr => ∃ i j : Nat, vi = .int .i64 i ∧ vj = .int .i64 j ∧ a ≤ i ∧ i ≤ j ∧ j ≤ m ∧ j - i ≤ g0 ∧ Aside (SW enc w0 blk off d wr) ∧ Aside ((i = a ∨ stT (ltOf cf) pos d[i - 1]! d[m]! = true) ∧ (j = m ∨ stT (ltOf cf) pos d[m]! d[j]! = true)))
  case atStart => exact ⟨a, m, rfl, rfl, Nat.le_refl _, by omega, Nat.le_refl _, Nat.le_refl _, S0, (⟨Or.inl rfl, Or.inl rfl⟩ : (a = a ∨ _) ∧ (m = m ∨ _))⟩
  case round =>
    clear S0
    obtain ⟨i, j, rfl, rfl, hi, hij, hj, hg, S1, I⟩ := hrel
    by_cases hlt : i < j
    · have hltz : (i : Int) < (j : Int) := by omega
      obtain ⟨h, hh⟩ : ∃ q, q = (i + j) / 2 := ⟨_, rfl⟩
      have eh : ((i : Int) + (j : Int)) / 2 = (h : Int) := by omega
      have bh : (h : Int) < (d0.size : Int) := by omega
      have HH : Aside (i ≤ h ∧ h < j) := (by omega : i ≤ h ∧ h < j)
      obtain ⟨x, hx⟩ : ∃ v, v = d[m]! := ⟨_, rfl⟩
      obtain ⟨y, hy⟩ : ∃ v, v = d[h]! := ⟨_, rfl⟩
      have la := S1.out.cl MM.out.row hs m (by omega)
      have lb := S1.out.cl MM.out.row hs h (by omega)
      rw [← hx] at la
      rw [← hy] at lb
      have hc := S1.out.cmp MM.out.cmp hs x y
      have L := MM.out.less (HF.out h m (by omega) (by omega) (Nat.le_refl _) (by have := HM.out; omega))
      rw [← hx, ← hy] at L
      have X : Aside (x = d[m]! ∧ y = d[h]!) := ⟨hx, hy⟩
      have LL : Aside _ := L
      clear L hx hy hh
      by_cases hv : cf x y < 0
      · have hd : decide (cf x y < 0) = true := decide_eq_true hv
        go_wp2_with fail
        go_quiet_grown (first | (go_at_fn g; refine Calls.grown_of (hc _ _)))
        have S2 : Aside (SW enc w0 blk off d (grow (wr.drewN nq) osq)) := S1.out.grown nq osq
        clear la lb hc S1
        generalize grow (wr.drewN nq) osq = w2 at S2 ⊢
        clear nq osq
        go_wp2
        go_roundg (h - i)
        case measure => have := HH.out; omega
        case rel => exact ⟨i, h, rfl, rfl, hi, HH.out.1, by have := HH.out; omega, Nat.le_refl _, S2, (⟨I.out.1, Or.inr (by rw [← X.out.1, ← X.out.2]; exact LL.out.1 hv)⟩ : (i = a ∨ _) ∧ (h = m ∨ _))⟩
      · have hd : decide (cf x y < 0) = false := decide_eq_false hv
        go_wp2_with fail
        go_quiet_grown (first | (go_at_fn g; refine Calls.grown_of (hc _ _)))
        have S2 : Aside (SW enc w0 blk off d (grow (wr.drewN nq) osq)) := S1.out.grown nq osq
        clear la lb hc S1
        generalize grow (wr.drewN nq) osq = w2 at S2 ⊢
        clear nq osq
        go_wp2
        go_roundg (j - (h + 1))
        case measure => have := HH.out; omega
        case rel => exact ⟨h + 1, j, by go_num, rfl, by have := HH.out; omega, by have := HH.out; omega, hj, Nat.le_refl _, S2, (⟨Or.inr (by rw [Nat.add_sub_cancel, ← X.out.1, ← X.out.2]; exact LL.out.2 hv), I.out.2⟩ : (h + 1 = a ∨ _) ∧ (j = m ∨ _))⟩
    · have hltz : ¬ (i : Int) < (j : Int) := by omega
      obtain rfl : i = j := by omega
      go_wp2
      go_loopg [17] (m - i) (fun g0 vk wr => ∃ (k : Nat) (dk : Array α), vk = .int .i64 k ∧ i ≤ k ∧ k ≤ m ∧ k - i ≤ g0 ∧ dk.size = d0.size ∧ Aside (SW enc w0 blk off dk wr) ∧ Hid (∀ z, dk[z]! = rotF k m (m + 1) (fun k => d[k]!) z))
      case atStart => exact ⟨m, d, rfl, hj, Nat.le_refl _, Nat.le_refl _, hs, S1, hide (fun k => by rw [rot_none m m (m + 1) _ (by omega) (by omega) (by omega)])⟩
      case round =>
        clear S1
        obtain ⟨k, dk, rfl, hik, hkm, hg2, hsk, S1, HD⟩ := hrel
        by_cases hlt2 : i < k
        · obtain ⟨k0, hk0⟩ : ∃ q, q = k - 1 := ⟨_, rfl⟩
          have hltz2 : (i : Int) < (k : Int) := by omega
          have hltz3 : (k : Int) > (i : Int) := by omega
          have rk : IntKind.i64.wrap ((k : Int) - 1) = (k0 : Int) := by rw [IntKind.wrap_i64]; omega
          have bk : (k : Int) < (d0.size : Int) := by omega
          have bk0 : (k0 : Int) < (d0.size : Int) := by omega
          obtain ⟨xv, hxv⟩ : ∃ v, v = dk[k]! := ⟨_, rfl⟩
          obtain ⟨yv, hyv⟩ : ∃ v, v = dk[k0]! := ⟨_, rfl⟩
          have S3 : Aside (SW enc w0 blk off (swp dk k k0) ((wr.setCell ⟨blk, off + k, none⟩ (enc yv)).setCell ⟨blk, off + k0, none⟩ (enc xv)).drew) := by rw [hxv, hyv]; exact S1.out.swapped MM.out.row _ _ (by omega) (by omega)
          have ca := S1.out.c1 MM.out.row (by omega) k (by omega)
          have cb := S1.out.c1 MM.out.row (by omega) k0 (by omega)
          have fa := S1.out.f1 MM.out.row (by omega) k (by omega)
          have fb := S1.out.f1 MM.out.row (by omega) k0 (by omega)
          obtain ⟨u, cc⟩ := S1.out.c2 MM.out.row (by omega) k k0 (by omega) (by omega) (enc yv)
          have HN : Hid (∀ z, (swp dk k k0)[z]! = rotF k0 m (m + 1) (fun k => d[k]!) z) := hide (by
            obtain rfl : k = k0 + 1 := by omega
            exact fall_step k0 m _ dk hkm HD.out (by omega))
          have K0 : Aside (k0 = k - 1) := hk0
          rw [← hxv] at ca
          rw [← hyv] at cb
          clear S1 HD hxv hyv hk0
          go_wp2_with fail
          go_big_region
          clear ca cb cc fa fb
          generalize ((wr.setCell ⟨blk, off + k, none⟩ (enc yv)).setCell ⟨blk, off + k0, none⟩ (enc xv)).drew = w3 at S3 ⊢
          clear bk bk0
          go_wp2
          go_roundg (k0 - i)
          case measure => have := K0.out; omega
          case rel => exact ⟨k0, _, rfl, by have := K0.out; omega, by have := K0.out; omega, Nat.le_refl _, by rw [size_swp]; exact hsk, S3, HN⟩
        · have hltz2 : ¬ (i : Int) < (k : Int) := by omega
          have hltz3 : ¬ (k : Int) > (i : Int) := by omega
          obtain rfl : i = k := by omega
          have FU : Aside (From a b d dk ∧ Up (stT (ltOf cf) pos) a b dk) := by
            have hm := HM.out
            rw [hm]
            exact ⟨(rot_from (hsk.trans hs.symm) (by omega) (by omega) HD.out).mono hi (Nat.le_refl _), merge_last (stT_swo pos MM.out.swo) hi hj HL.out I.out.1 I.out.2 HD.out⟩
          go_wp2
          try simp only [Exit.inBlock, Exit.then]
          refine bodyPost_ret (results_none rfl _ _ _) rfl ?_
          exact ⟨rfl, dk, S1.out, FU.out⟩

end Go.Proofs.YtbeegcpmpgdbnaaDoor
