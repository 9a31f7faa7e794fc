/-
  What slices.symMergeCmpFunc does at this program to two sorted parts of a row: it merges them, stably, whatever their lengths.
-/
import Derived.Test.YtbeegcpmpgdbnaaDoorStabY
namespace Go.Proofs.YtbeegcpmpgdbnaaDoor
open Go.RowKit Go.Shelf Go.Lib Go.Sort
variable {α : Type} [Inhabited α]
variable {enc : α → Value} {cf : α → α → Int} {pos : α → Nat} {g : Nat} {cb : Array Value} {d0 : Array α} {w0 : World} {blk off : Nat}

set_option maxHeartbeats 8000000 in
set_option maxRecDepth 100000 in
/-- Many before many, where fewer are merged as they should be. -/
theorem merge_step (M : Merging enc cf pos g cb d0 w0 blk off) (cap a m b : Nat) (d : Array α) (w : World) (hs : d.size = d0.size) (ham : a + 1 < m) (hmb : m + 1 < b) (hb : b ≤ d0.size) (S : SW enc w0 blk off d w)
    (hL : Up (stT (ltOf cf) pos) a m d) (hR : Up (stT (ltOf cf) pos) m b d) (hF : Fore pos a m b d)
    (ih : ∀ (a' m' b' : Nat) (d' : Array α) (w' : World), b' - a' < b - a → a' < m' → m' < b' → b' ≤ d0.size → d'.size = d0.size → SW enc w0 blk off d' w' → Up (stT (ltOf cf) pos) a' m' d' → Up (stT (ltOf cf) pos) m' b' d' → Fore pos a' m' b' d' → Merges enc cf pos g cb d0 w0 blk off cap a' m' b' d' w') :
    Merges enc cf pos g cb d0 w0 blk off cap a m b d w := by
  have mixed : Tryd.prog.follows .mixedOrders = true := by kernel_rfl
  have hsz := M.small
  have eg := M.eg
  have hcl0 := M.row.hO.cells
  simp only [Value.cells] at hcl0
  have hst := M.row.hO.store Tryd.prog
  have S0 : Aside (SW enc w0 blk off d w) := S
  have HF : Aside (Fore pos a m b d) := hF
  have HL : Aside (Up (stT (ltOf cf) pos) a m d) := hL
  have HR : Aside (Up (stT (ltOf cf) pos) m b d) := hR
  have MM : Aside (Merging enc cf pos g cb d0 w0 blk off) := M
  have IH : Aside _ := ih
  obtain ⟨q0, hq0⟩ : ∃ q, q = m - a := ⟨_, rfl⟩
  obtain ⟨q1, hq1⟩ : ∃ q, q = b - m := ⟨_, rfl⟩
  have e0 : IntKind.i64.wrap ((m : Int) - (a : Int)) = (q0 : Int) := by rw [IntKind.wrap_i64]; omega
  have n0 : ((q0 : Int) == 1) = false := by rw [beq_eq_false_iff_ne]; omega
  have n0' : ¬ (q0 : Int) = 1 := by omega
  have e1 : IntKind.i64.wrap ((b : Int) - (m : Int)) = (q1 : Int) := by rw [IntKind.wrap_i64]; omega
  have n1 : ((q1 : Int) == 1) = false := by rw [beq_eq_false_iff_ne]; omega
  have n1' : ¬ (q1 : Int) = 1 := by omega
  obtain ⟨mid, hmid⟩ : ∃ q, q = (a + b) / 2 := ⟨_, rfl⟩
  have emid : ((a : Int) + (b : Int)) / 2 = (mid : Int) := by omega
  obtain ⟨n, hn⟩ : ∃ q, q = mid + m := ⟨_, rfl⟩
  have en : IntKind.i64.wrap ((mid : Int) + (m : Int)) = (n : Int) := by rw [IntKind.wrap_i64]; omega
  obtain ⟨p, hp⟩ : ∃ q, q = n - 1 := ⟨_, rfl⟩
  have ep : IntKind.i64.wrap ((n : Int) - 1) = (p : Int) := by rw [IntKind.wrap_i64]; omega
  obtain ⟨s0, r0, hc⟩ : ∃ s0 r0 : Nat, (mid < m ∧ s0 = mid + m - b ∧ r0 = mid) ∨ (m ≤ mid ∧ s0 = a ∧ r0 = m) := by
    by_cases c : mid < m
    · exact ⟨_, _, Or.inl ⟨c, rfl, rfl⟩⟩
    · exact ⟨_, _, Or.inr ⟨by omega, rfl, rfl⟩⟩
  have HC : Aside (((mid < m ∧ s0 = mid + m - b ∧ r0 = mid) ∨ (m ≤ mid ∧ s0 = a ∧ r0 = m)) ∧ mid = (a + b) / 2 ∧ n = mid + m ∧ p = n - 1 ∧ s0 ≤ r0 ∧ a + 1 < m ∧ m + 1 < b) := ⟨hc, hmid, hn, hp, by omega, ham, hmb⟩
  clear S hF hL hR M ih
  unfold Merges
  rcases hc with ⟨c, hs0, hr0⟩ | ⟨c, hs0, hr0⟩
  · have es : IntKind.i64.wrap ((n : Int) - (b : Int)) = (s0 : Int) := by rw [IntKind.wrap_i64]; omega
    have hgt : (m : Int) > (mid : Int) := by omega
    have hgt' : (mid : Int) < (m : Int) := by omega
    have HR0 : Aside (r0 = mid) := hr0
    clear hq0 hq1 hmid hn hp hs0 hr0 c
    go_enter Tryd.func60, Tryd.ntmps60
    go_wp2
    clear e0 e1 n0 n0' n1 n1' emid en ep es hgt hgt'
    go_loopg [20, 21] (r0 - s0) (fun g0 vs vr wr => ∃ s r : Nat, vs = .int .i64 s ∧ vr = .int .i64 r ∧ s0 ≤ s ∧ s ≤ r ∧ r ≤ r0 ∧ r - s ≤ g0 ∧ Aside (SW enc w0 blk off d wr) ∧ Aside ((s = s0 ∨ stT (ltOf cf) pos d[s - 1]! d[n - s]! = true) ∧ (r = r0 ∨ stT (ltOf cf) pos d[p - r]! d[r]! = true)))
    case atStart =>
      have hhc := HC.out
      exact ⟨s0, r0, rfl, by rw [HR0.out], Nat.le_refl _, hhc.2.2.2.2.1, Nat.le_refl _, Nat.le_refl _, S0, (⟨Or.inl rfl, Or.inl rfl⟩ : (s0 = s0 ∨ _) ∧ (r0 = r0 ∨ _))⟩
    case round =>
      clear S0
      obtain ⟨s, r, rfl, rfl, hs1, hsr, hr1, hg, S1, I⟩ := hrel
      by_cases hlt : s < r
      · have hltz : (s : Int) < (r : Int) := by omega
        obtain ⟨c, hcm⟩ : ∃ q, q = (s + r) / 2 := ⟨_, rfl⟩
        have ec : ((s : Int) + (r : Int)) / 2 = (c : Int) := by omega
        have bnd : r0 ≤ d0.size ∧ p < 4611686018427387904 * 2 := by have := HC.out; omega
        obtain ⟨pc, hpc⟩ : ∃ q, q = p - c := ⟨_, rfl⟩
        have HH : Aside (s ≤ c ∧ c < r ∧ a ≤ c ∧ c < m ∧ m ≤ pc ∧ pc < b ∧ pc = p - c ∧ n - (c + 1) = pc) := (by have := HC.out; omega : s ≤ c ∧ c < r ∧ a ≤ c ∧ c < m ∧ m ≤ pc ∧ pc < b ∧ pc = p - c ∧ n - (c + 1) = pc)
        have epc : IntKind.i64.wrap ((p : Int) - (c : Int)) = (pc : Int) := by have := HH.out; rw [IntKind.wrap_i64]; omega
        have bc : (c : Int) < (d0.size : Int) := by have := HH.out; omega
        have bpc : (pc : Int) < (d0.size : Int) := by have := HH.out; omega
        obtain ⟨x, hx⟩ : ∃ v, v = d[pc]! := ⟨_, rfl⟩
        obtain ⟨y, hy⟩ : ∃ v, v = d[c]! := ⟨_, rfl⟩
        have la := S1.out.cl MM.out.row hs pc (by omega)
        have lb := S1.out.cl MM.out.row hs c (by omega)
        rw [← hx] at la
        rw [← hy] at lb
        have hcc := S1.out.cmp MM.out.cmp hs x y
        have L := MM.out.less (HF.out c pc HH.out.2.2.1 HH.out.2.2.2.1 HH.out.2.2.2.2.1 HH.out.2.2.2.2.2.1)
        rw [← hx, ← hy] at L
        have X : Aside (x = d[pc]! ∧ y = d[c]!) := ⟨hx, hy⟩
        have LL : Aside _ := L
        clear L hx hy hcm hpc bnd
        by_cases hv : cf x y < 0
        · have hd : decide (cf x y < 0) = true := decide_eq_true hv
          go_wp2_with fail
          go_quiet_grown (first | (go_at_fn g; refine Calls.grown_of (hcc _ _)))
          have S2 : Aside (SW enc w0 blk off d (grow (wr.drewN nq) osq)) := S1.out.grown nq osq
          clear la lb hcc S1
          generalize grow (wr.drewN nq) osq = w2 at S2 ⊢
          clear nq osq
          go_wp2
          go_roundg (c - s)
          case measure => have := HH.out; omega
          case rel => exact ⟨s, c, rfl, rfl, hs1, HH.out.1, by have := HH.out; omega, Nat.le_refl _, S2, (⟨I.out.1, Or.inr (by rw [← HH.out.2.2.2.2.2.2.1, ← X.out.1, ← X.out.2]; exact LL.out.1 hv)⟩ : (s = s0 ∨ _) ∧ (c = r0 ∨ _))⟩
        · have hd : decide (cf x y < 0) = false := decide_eq_false hv
          go_wp2_with fail
          go_quiet_grown (first | (go_at_fn g; refine Calls.grown_of (hcc _ _)))
          have S2 : Aside (SW enc w0 blk off d (grow (wr.drewN nq) osq)) := S1.out.grown nq osq
          clear la lb hcc S1
          generalize grow (wr.drewN nq) osq = w2 at S2 ⊢
          clear nq osq
          go_wp2
          go_roundg (r - (c + 1))
          case measure => have := HH.out; omega
          case rel => exact ⟨c + 1, r, by go_num, rfl, by have := HH.out; omega, by have := HH.out; omega, hr1, Nat.le_refl _, S2, (⟨Or.inr (by rw [Nat.add_sub_cancel, HH.out.2.2.2.2.2.2.2, ← X.out.1, ← X.out.2]; exact LL.out.2 hv), I.out.2⟩ : (c + 1 = s0 ∨ _) ∧ (r = r0 ∨ _))⟩
      · have hltz : ¬ (s : Int) < (r : Int) := by omega
        obtain rfl : s = r := by omega
        obtain ⟨e, he⟩ : ∃ q, q = n - s := ⟨_, rfl⟩
        have GE : Aside (a ≤ s ∧ s ≤ m ∧ s ≤ mid ∧ m ≤ e ∧ mid ≤ e ∧ e ≤ b ∧ mid < b ∧ a < mid ∧ e = mid + m - s) := (by have := HC.out; omega : a ≤ s ∧ s ≤ m ∧ s ≤ mid ∧ m ≤ e ∧ mid ≤ e ∧ e ≤ b ∧ mid < b ∧ a < mid ∧ e = mid + m - s)
        have ee : IntKind.i64.wrap ((n : Int) - (s : Int)) = (e : Int) := by have := HC.out; have := GE.out; rw [IntKind.wrap_i64]; omega
        have PT : Aside (∀ d1 : Array α, (∀ k, d1[k]! = rotF s m e (fun k => d[k]!) k) → Parted (stT (ltOf cf) pos) pos a s mid e b d1) := fun d1 hd1 => by
          have ge := GE.out
          have hhc := HC.out
          have ii := I.out
          rw [ge.2.2.2.2.2.2.2.2] at hd1 ⊢
          rw [show n - s = mid + m - s by omega, show p - s = mid + m - 1 - s by omega] at ii
          exact parted (stT_swo pos MM.out.swo) (by omega) (by omega) hhc.2.1 hhc.1 hs1 hr1 HL.out HR.out HF.out ii.1 ii.2 hd1
        have FR : Aside (∀ d1 : Array α, d1.size = d0.size → (∀ k, d1[k]! = rotF s m e (fun k => d[k]!) k) → From a b d d1) := fun d1 h1 hd1 => by
          have ge := GE.out
          exact (rot_from (h1.trans hs.symm) (by omega) (by omega) hd1).mono (by omega) (by omega)
        have be : e ≤ d0.size := by have := GE.out; omega
        clear he I
        by_cases hr : s < m ∧ m < e
        · have hr1' : (s : Int) < (m : Int) := by omega
          have hr2 : (m : Int) < (e : Int) := by omega
          have C := rotate_any enc d0 d w0 wr blk off cap s m e (.func (.func g) #[] cb) MM.out.row hs.symm S1.out hr.1 hr.2 (by omega) (by omega)
          rw [hs] at C
          go_wp2_with fail
          refine C.mono ?_
          clear C
          rintro e' w2 ⟨rfl, d1, S2', H1, hd1⟩
          have S2 : Aside (SW enc w0 blk off d1 w2) := S2'
          have PX : Aside _ := PT.out d1 hd1
          have FX : Aside _ := FR.out d1 H1 hd1
          clear S2' hd1 S1 PT FR hr hr1' hr2 ee
          by_cases h1 : a < s ∧ s < mid
          · have h11 : (a : Int) < (s : Int) := by omega
            have h12 : (s : Int) < (mid : Int) := by omega
            have C := IH.out a s mid d1 w2 (by have := GE.out; omega) h1.1 h1.2 (by have := GE.out; omega) H1 S2.out PX.out.u1 PX.out.u2 PX.out.f1
            unfold Merges at C
            go_wp2_with fail
            refine C.mono ?_
            clear C
            rintro e' w3 ⟨rfl, d2, S3', F2, V2⟩
            have S3 : Aside (SW enc w0 blk off d2 w3) := S3'
            have H2 : d2.size = d0.size := F2.1.trans H1
            have U1 : Aside (From a mid d1 d2 ∧ Up (stT (ltOf cf) pos) a mid d2) := ⟨F2, V2⟩
            clear S3' F2 V2 S2 h1 h11 h12
            by_cases h2 : mid < e ∧ e < b
            · have h21 : (mid : Int) < (e : Int) := by omega
              have h22 : (e : Int) < (b : Int) := by omega
              have C := IH.out mid e b d2 w3 (by have := GE.out; omega) h2.1 h2.2 hb H2 S3.out (PX.out.u3.same (fun i h _ => U1.out.1.2.1 i (Or.inr h))) (PX.out.u4.same (fun i h _ => U1.out.1.2.1 i (Or.inr (by omega)))) (PX.out.f2.same (fun i h _ => U1.out.1.2.1 i (Or.inr h)))
              unfold Merges at C
              go_wp2_with fail
              refine C.mono ?_
              clear C
              rintro e' w4 ⟨rfl, d3, S4', F3, V3⟩
              have S4 : Aside (SW enc w0 blk off d3 w4) := S4'
              have FU : Aside (From a b d d3 ∧ Up (stT (ltOf cf) pos) a b d3) := by
                have ge := GE.out
                obtain ⟨f, u⟩ := merged (by omega) (by omega) PX.out.across U1.out.1 U1.out.2 F3 V3
                exact ⟨From.trans FX.out f, u⟩
              clear S4' F3 V3 S3
              go_wp2
              go_end0
              exact ⟨rfl, d3, S4.out, FU.out⟩
            · have FU : Aside (From a b d d2 ∧ Up (stT (ltOf cf) pos) a b d2) := by
                have ge := GE.out
                have V : Up (stT (ltOf cf) pos) mid b d2 := by
                  have u3 := PX.out.u3.same (fun i h _ => U1.out.1.2.1 i (Or.inr h))
                  have u4 := PX.out.u4.same (fun i (h : e ≤ i) _ => U1.out.1.2.1 i (Or.inr (by omega)))
                  by_cases c : mid < e
                  · have : e = b := by omega
                    rw [this] at u3
                    exact u3
                  · have : e = mid := by omega
                    rw [this] at u4
                    exact u4
                obtain ⟨f, u⟩ := merged (by omega) (by omega) PX.out.across U1.out.1 U1.out.2 (From.refl mid b d2) V
                exact ⟨From.trans FX.out f, u⟩
              by_cases h3 : mid < e
              · have h31 : (mid : Int) < (e : Int) := by omega
                have h32 : decide ((e : Int) < (b : Int)) = false := decide_eq_false (by omega)
                have h33 : ¬ (e : Int) < (b : Int) := by omega
                go_wp2
                all_goals
                  go_end0
                  exact ⟨rfl, d2, S3.out, FU.out⟩
              · have h31 : decide ((mid : Int) < (e : Int)) = false := decide_eq_false (by omega)
                have h32 : ¬ (mid : Int) < (e : Int) := by omega
                go_wp2
                all_goals
                  go_end0
                  exact ⟨rfl, d2, S3.out, FU.out⟩
          · have U1 : Aside (From a mid d1 d1 ∧ Up (stT (ltOf cf) pos) a mid d1) := by
              have ge := GE.out
              refine ⟨From.refl _ _ _, ?_⟩
              by_cases c : a < s
              · have : s = mid := by omega
                have u := PX.out.u1
                rw [this] at u
                exact u
              · have : s = a := by omega
                have u := PX.out.u2
                rw [this] at u
                exact u
            by_cases h0 : a < s
            · have h11 : (a : Int) < (s : Int) := by omega
              have h12 : decide ((s : Int) < (mid : Int)) = false := decide_eq_false (by omega)
              have h13 : ¬ (s : Int) < (mid : Int) := by omega
              by_cases h2 : mid < e ∧ e < b
              · have h21 : (mid : Int) < (e : Int) := by omega
                have h22 : (e : Int) < (b : Int) := by omega
                have C := IH.out mid e b d1 w2 (by have := GE.out; omega) h2.1 h2.2 hb H1 S2.out (PX.out.u3.same (fun i h _ => U1.out.1.2.1 i (Or.inr h))) (PX.out.u4.same (fun i h _ => U1.out.1.2.1 i (Or.inr (by omega)))) (PX.out.f2.same (fun i h _ => U1.out.1.2.1 i (Or.inr h)))
                unfold Merges at C
                go_wp2_with fail
                refine C.mono ?_
                clear C
                rintro e' w4 ⟨rfl, d3, S3', F3, V3⟩
                have S3 : Aside (SW enc w0 blk off d3 w4) := S3'
                have FU : Aside (From a b d d3 ∧ Up (stT (ltOf cf) pos) a b d3) := by
                  have ge := GE.out
                  obtain ⟨f, u⟩ := merged (by omega) (by omega) PX.out.across U1.out.1 U1.out.2 F3 V3
                  exact ⟨From.trans FX.out f, u⟩
                clear S3' F3 V3 S2
                go_wp2
                go_end0
                exact ⟨rfl, d3, S3.out, FU.out⟩
              · have FU : Aside (From a b d d1 ∧ Up (stT (ltOf cf) pos) a b d1) := by
                  have ge := GE.out
                  have V : Up (stT (ltOf cf) pos) mid b d1 := by
                    have u3 := PX.out.u3.same (fun i h _ => U1.out.1.2.1 i (Or.inr h))
                    have u4 := PX.out.u4.same (fun i (h : e ≤ i) _ => U1.out.1.2.1 i (Or.inr (by omega)))
                    by_cases c : mid < e
                    · have : e = b := by omega
                      rw [this] at u3
                      exact u3
                    · have : e = mid := by omega
                      rw [this] at u4
                      exact u4
                  obtain ⟨f, u⟩ := merged (by omega) (by omega) PX.out.across U1.out.1 U1.out.2 (From.refl mid b d1) V
                  exact ⟨From.trans FX.out f, u⟩
                by_cases h3 : mid < e
                · have h31 : (mid : Int) < (e : Int) := by omega
                  have h32 : decide ((e : Int) < (b : Int)) = false := decide_eq_false (by omega)
                  have h33 : ¬ (e : Int) < (b : Int) := by omega
                  go_wp2
                  all_goals
                    go_end0
                    exact ⟨rfl, d1, S2.out, FU.out⟩
                · have h31 : decide ((mid : Int) < (e : Int)) = false := decide_eq_false (by omega)
                  have h32 : ¬ (mid : Int) < (e : Int) := by omega
                  go_wp2
                  all_goals
                    go_end0
                    exact ⟨rfl, d1, S2.out, FU.out⟩
            · have h11 : decide ((a : Int) < (s : Int)) = false := decide_eq_false (by omega)
              have h12 : ¬ (a : Int) < (s : Int) := by omega
              by_cases h2 : mid < e ∧ e < b
              · have h21 : (mid : Int) < (e : Int) := by omega
                have h22 : (e : Int) < (b : Int) := by omega
                have C := IH.out mid e b d1 w2 (by have := GE.out; omega) h2.1 h2.2 hb H1 S2.out (PX.out.u3.same (fun i h _ => U1.out.1.2.1 i (Or.inr h))) (PX.out.u4.same (fun i h _ => U1.out.1.2.1 i (Or.inr (by omega)))) (PX.out.f2.same (fun i h _ => U1.out.1.2.1 i (Or.inr h)))
                unfold Merges at C
                go_wp2_with fail
                refine C.mono ?_
                clear C
                rintro e' w4 ⟨rfl, d3, S3', F3, V3⟩
                have S3 : Aside (SW enc w0 blk off d3 w4) := S3'
                have FU : Aside (From a b d d3 ∧ Up (stT (ltOf cf) pos) a b d3) := by
                  have ge := GE.out
                  obtain ⟨f, u⟩ := merged (by omega) (by omega) PX.out.across U1.out.1 U1.out.2 F3 V3
                  exact ⟨From.trans FX.out f, u⟩
                clear S3' F3 V3 S2
                go_wp2
                go_end0
                exact ⟨rfl, d3, S3.out, FU.out⟩
              · have FU : Aside (From a b d d1 ∧ Up (stT (ltOf cf) pos) a b d1) := by
                  have ge := GE.out
                  have V : Up (stT (ltOf cf) pos) mid b d1 := by
                    have u3 := PX.out.u3.same (fun i h _ => U1.out.1.2.1 i (Or.inr h))
                    have u4 := PX.out.u4.same (fun i (h : e ≤ i) _ => U1.out.1.2.1 i (Or.inr (by omega)))
                    by_cases c : mid < e
                    · have : e = b := by omega
                      rw [this] at u3
                      exact u3
                    · have : e = mid := by omega
                      rw [this] at u4
                      exact u4
                  obtain ⟨f, u⟩ := merged (by omega) (by omega) PX.out.across U1.out.1 U1.out.2 (From.refl mid b d1) V
                  exact ⟨From.trans FX.out f, u⟩
                by_cases h3 : mid < e
                · have h31 : (mid : Int) < (e : Int) := by omega
                  have h32 : decide ((e : Int) < (b : Int)) = false := decide_eq_false (by omega)
                  have h33 : ¬ (e : Int) < (b : Int) := by omega
                  go_wp2
                  all_goals
                    go_end0
                    exact ⟨rfl, d1, S2.out, FU.out⟩
                · have h31 : decide ((mid : Int) < (e : Int)) = false := decide_eq_false (by omega)
                  have h32 : ¬ (mid : Int) < (e : Int) := by omega
                  go_wp2
                  all_goals
                    go_end0
                    exact ⟨rfl, d1, S2.out, FU.out⟩
        · have PX : Aside (Parted (stT (ltOf cf) pos) pos a s mid e b d) := PT.out d (fun k => by rw [rot_none s m e _ (by have := GE.out; omega) (by have := GE.out; omega) (by have := GE.out; omega)])
          have FX : Aside (From a b d d) := From.refl _ _ _
          have H1 := hs
          have S2 := S1
          clear PT FR S1
          by_cases hr0' : s < m
          · have hr1' : (s : Int) < (m : Int) := by omega
            have hr2 : decide ((m : Int) < (e : Int)) = false := decide_eq_false (by omega)
            have hr3 : ¬ (m : Int) < (e : Int) := by omega
            by_cases h1 : a < s ∧ s < mid
            · have h11 : (a : Int) < (s : Int) := by omega
              have h12 : (s : Int) < (mid : Int) := by omega
              have C := IH.out a s mid d wr (by have := GE.out; omega) h1.1 h1.2 (by have := GE.out; omega) H1 S2.out PX.out.u1 PX.out.u2 PX.out.f1
              unfold Merges at C
              go_wp2_with fail
              refine C.mono ?_
              clear C
              rintro e' w3 ⟨rfl, d2, S3', F2, V2⟩
              have S3 : Aside (SW enc w0 blk off d2 w3) := S3'
              have H2 : d2.size = d0.size := F2.1.trans H1
              have U1 : Aside (From a mid d d2 ∧ Up (stT (ltOf cf) pos) a mid d2) := ⟨F2, V2⟩
              clear S3' F2 V2 S2 h1 h11 h12
              by_cases h2 : mid < e ∧ e < b
              · have h21 : (mid : Int) < (e : Int) := by omega
                have h22 : (e : Int) < (b : Int) := by omega
                have C := IH.out mid e b d2 w3 (by have := GE.out; omega) h2.1 h2.2 hb H2 S3.out (PX.out.u3.same (fun i h _ => U1.out.1.2.1 i (Or.inr h))) (PX.out.u4.same (fun i h _ => U1.out.1.2.1 i (Or.inr (by omega)))) (PX.out.f2.same (fun i h _ => U1.out.1.2.1 i (Or.inr h)))
                unfold Merges at C
                go_wp2_with fail
                refine C.mono ?_
                clear C
                rintro e' w4 ⟨rfl, d3, S4', F3, V3⟩
                have S4 : Aside (SW enc w0 blk off d3 w4) := S4'
                have FU : Aside (From a b d d3 ∧ Up (stT (ltOf cf) pos) a b d3) := by
                  have ge := GE.out
                  obtain ⟨f, u⟩ := merged (by omega) (by omega) PX.out.across U1.out.1 U1.out.2 F3 V3
                  exact ⟨From.trans FX.out f, u⟩
                clear S4' F3 V3 S3
                go_wp2
                go_end0
                exact ⟨rfl, d3, S4.out, FU.out⟩
              · have FU : Aside (From a b d d2 ∧ Up (stT (ltOf cf) pos) a b d2) := by
                  have ge := GE.out
                  have V : Up (stT (ltOf cf) pos) mid b d2 := by
                    have u3 := PX.out.u3.same (fun i h _ => U1.out.1.2.1 i (Or.inr h))
                    have u4 := PX.out.u4.same (fun i (h : e ≤ i) _ => U1.out.1.2.1 i (Or.inr (by omega)))
                    by_cases c : mid < e
                    · have : e = b := by omega
                      rw [this] at u3
                      exact u3
                    · have : e = mid := by omega
                      rw [this] at u4
                      exact u4
                  obtain ⟨f, u⟩ := merged (by omega) (by omega) PX.out.across U1.out.1 U1.out.2 (From.refl mid b d2) V
                  exact ⟨From.trans FX.out f, u⟩
                by_cases h3 : mid < e
                · have h31 : (mid : Int) < (e : Int) := by omega
                  have h32 : decide ((e : Int) < (b : Int)) = false := decide_eq_false (by omega)
                  have h33 : ¬ (e : Int) < (b : Int) := by omega
                  go_wp2
                  all_goals
                    go_end0
                    exact ⟨rfl, d2, S3.out, FU.out⟩
                · have h31 : decide ((mid : Int) < (e : Int)) = false := decide_eq_false (by omega)
                  have h32 : ¬ (mid : Int) < (e : Int) := by omega
                  go_wp2
                  all_goals
                    go_end0
                    exact ⟨rfl, d2, S3.out, FU.out⟩
            · have U1 : Aside (From a mid d d ∧ Up (stT (ltOf cf) pos) a mid d) := by
                have ge := GE.out
                refine ⟨From.refl _ _ _, ?_⟩
                by_cases c : a < s
                · have : s = mid := by omega
                  have u := PX.out.u1
                  rw [this] at u
                  exact u
                · have : s = a := by omega
                  have u := PX.out.u2
                  rw [this] at u
                  exact u
              by_cases h0 : a < s
              · have h11 : (a : Int) < (s : Int) := by omega
                have h12 : decide ((s : Int) < (mid : Int)) = false := decide_eq_false (by omega)
                have h13 : ¬ (s : Int) < (mid : Int) := by omega
                by_cases h2 : mid < e ∧ e < b
                · have h21 : (mid : Int) < (e : Int) := by omega
                  have h22 : (e : Int) < (b : Int) := by omega
                  have C := IH.out mid e b d wr (by have := GE.out; omega) h2.1 h2.2 hb H1 S2.out (PX.out.u3.same (fun i h _ => U1.out.1.2.1 i (Or.inr h))) (PX.out.u4.same (fun i h _ => U1.out.1.2.1 i (Or.inr (by omega)))) (PX.out.f2.same (fun i h _ => U1.out.1.2.1 i (Or.inr h)))
                  unfold Merges at C
                  go_wp2_with fail
                  refine C.mono ?_
                  clear C
                  rintro e' w4 ⟨rfl, d3, S3', F3, V3⟩
                  have S3 : Aside (SW enc w0 blk off d3 w4) := S3'
                  have FU : Aside (From a b d d3 ∧ Up (stT (ltOf cf) pos) a b d3) := by
                    have ge := GE.out
                    obtain ⟨f, u⟩ := merged (by omega) (by omega) PX.out.across U1.out.1 U1.out.2 F3 V3
                    exact ⟨From.trans FX.out f, u⟩
                  clear S3' F3 V3 S2
                  go_wp2
                  go_end0
                  exact ⟨rfl, d3, S3.out, FU.out⟩
                · have FU : Aside (From a b d d ∧ Up (stT (ltOf cf) pos) a b d) := by
                    have ge := GE.out
                    have V : Up (stT (ltOf cf) pos) mid b d := by
                      have u3 := PX.out.u3.same (fun i h _ => U1.out.1.2.1 i (Or.inr h))
                      have u4 := PX.out.u4.same (fun i (h : e ≤ i) _ => U1.out.1.2.1 i (Or.inr (by omega)))
                      by_cases c : mid < e
                      · have : e = b := by omega
                        rw [this] at u3
                        exact u3
                      · have : e = mid := by omega
                        rw [this] at u4
                        exact u4
                    obtain ⟨f, u⟩ := merged (by omega) (by omega) PX.out.across U1.out.1 U1.out.2 (From.refl mid b d) V
                    exact ⟨From.trans FX.out f, u⟩
                  by_cases h3 : mid < e
                  · have h31 : (mid : Int) < (e : Int) := by omega
                    have h32 : decide ((e : Int) < (b : Int)) = false := decide_eq_false (by omega)
                    have h33 : ¬ (e : Int) < (b : Int) := by omega
                    go_wp2
                    all_goals
                      go_end0
                      exact ⟨rfl, d, S2.out, FU.out⟩
                  · have h31 : decide ((mid : Int) < (e : Int)) = false := decide_eq_false (by omega)
                    have h32 : ¬ (mid : Int) < (e : Int) := by omega
                    go_wp2
                    all_goals
                      go_end0
                      exact ⟨rfl, d, S2.out, FU.out⟩
              · have h11 : decide ((a : Int) < (s : Int)) = false := decide_eq_false (by omega)
                have h12 : ¬ (a : Int) < (s : Int) := by omega
                by_cases h2 : mid < e ∧ e < b
                · have h21 : (mid : Int) < (e : Int) := by omega
                  have h22 : (e : Int) < (b : Int) := by omega
                  have C := IH.out mid e b d wr (by have := GE.out; omega) h2.1 h2.2 hb H1 S2.out (PX.out.u3.same (fun i h _ => U1.out.1.2.1 i (Or.inr h))) (PX.out.u4.same (fun i h _ => U1.out.1.2.1 i (Or.inr (by omega)))) (PX.out.f2.same (fun i h _ => U1.out.1.2.1 i (Or.inr h)))
                  unfold Merges at C
                  go_wp2_with fail
                  refine C.mono ?_
                  clear C
                  rintro e' w4 ⟨rfl, d3, S3', F3, V3⟩
                  have S3 : Aside (SW enc w0 blk off d3 w4) := S3'
                  have FU : Aside (From a b d d3 ∧ Up (stT (ltOf cf) pos) a b d3) := by
                    have ge := GE.out
                    obtain ⟨f, u⟩ := merged (by omega) (by omega) PX.out.across U1.out.1 U1.out.2 F3 V3
                    exact ⟨From.trans FX.out f, u⟩
                  clear S3' F3 V3 S2
                  go_wp2
                  go_end0
                  exact ⟨rfl, d3, S3.out, FU.out⟩
                · have FU : Aside (From a b d d ∧ Up (stT (ltOf cf) pos) a b d) := by
                    have ge := GE.out
                    have V : Up (stT (ltOf cf) pos) mid b d := by
                      have u3 := PX.out.u3.same (fun i h _ => U1.out.1.2.1 i (Or.inr h))
                      have u4 := PX.out.u4.same (fun i (h : e ≤ i) _ => U1.out.1.2.1 i (Or.inr (by omega)))
                      by_cases c : mid < e
                      · have : e = b := by omega
                        rw [this] at u3
                        exact u3
                      · have : e = mid := by omega
                        rw [this] at u4
                        exact u4
                    obtain ⟨f, u⟩ := merged (by omega) (by omega) PX.out.across U1.out.1 U1.out.2 (From.refl mid b d) V
                    exact ⟨From.trans FX.out f, u⟩
                  by_cases h3 : mid < e
                  · have h31 : (mid : Int) < (e : Int) := by omega
                    have h32 : decide ((e : Int) < (b : Int)) = false := decide_eq_false (by omega)
                    have h33 : ¬ (e : Int) < (b : Int) := by omega
                    go_wp2
                    all_goals
                      go_end0
                      exact ⟨rfl, d, S2.out, FU.out⟩
                  · have h31 : decide ((mid : Int) < (e : Int)) = false := decide_eq_false (by omega)
                    have h32 : ¬ (mid : Int) < (e : Int) := by omega
                    go_wp2
                    all_goals
                      go_end0
                      exact ⟨rfl, d, S2.out, FU.out⟩
          · have hr1' : decide ((s : Int) < (m : Int)) = false := decide_eq_false (by omega)
            have hr2 : ¬ (s : Int) < (m : Int) := by omega
            by_cases h1 : a < s ∧ s < mid
            · have h11 : (a : Int) < (s : Int) := by omega
              have h12 : (s : Int) < (mid : Int) := by omega
              have C := IH.out a s mid d wr (by have := GE.out; omega) h1.1 h1.2 (by have := GE.out; omega) H1 S2.out PX.out.u1 PX.out.u2 PX.out.f1
              unfold Merges at C
              go_wp2_with fail
              refine C.mono ?_
              clear C
              rintro e' w3 ⟨rfl, d2, S3', F2, V2⟩
              have S3 : Aside (SW enc w0 blk off d2 w3) := S3'
              have H2 : d2.size = d0.size := F2.1.trans H1
              have U1 : Aside (From a mid d d2 ∧ Up (stT (ltOf cf) pos) a mid d2) := ⟨F2, V2⟩
              clear S3' F2 V2 S2 h1 h11 h12
              by_cases h2 : mid < e ∧ e < b
              · have h21 : (mid : Int) < (e : Int) := by omega
                have h22 : (e : Int) < (b : Int) := by omega
                have C := IH.out mid e b d2 w3 (by have := GE.out; omega) h2.1 h2.2 hb H2 S3.out (PX.out.u3.same (fun i h _ => U1.out.1.2.1 i (Or.inr h))) (PX.out.u4.same (fun i h _ => U1.out.1.2.1 i (Or.inr (by omega)))) (PX.out.f2.same (fun i h _ => U1.out.1.2.1 i (Or.inr h)))
                unfold Merges at C
                go_wp2_with fail
                refine C.mono ?_
                clear C
                rintro e' w4 ⟨rfl, d3, S4', F3, V3⟩
                have S4 : Aside (SW enc w0 blk off d3 w4) := S4'
                have FU : Aside (From a b d d3 ∧ Up (stT (ltOf cf) pos) a b d3) := by
                  have ge := GE.out
                  obtain ⟨f, u⟩ := merged (by omega) (by omega) PX.out.across U1.out.1 U1.out.2 F3 V3
                  exact ⟨From.trans FX.out f, u⟩
                clear S4' F3 V3 S3
                go_wp2
                go_end0
                exact ⟨rfl, d3, S4.out, FU.out⟩
              · have FU : Aside (From a b d d2 ∧ Up (stT (ltOf cf) pos) a b d2) := by
                  have ge := GE.out
                  have V : Up (stT (ltOf cf) pos) mid b d2 := by
                    have u3 := PX.out.u3.same (fun i h _ => U1.out.1.2.1 i (Or.inr h))
                    have u4 := PX.out.u4.same (fun i (h : e ≤ i) _ => U1.out.1.2.1 i (Or.inr (by omega)))
                    by_cases c : mid < e
                    · have : e = b := by omega
                      rw [this] at u3
                      exact u3
                    · have : e = mid := by omega
                      rw [this] at u4
                      exact u4
                  obtain ⟨f, u⟩ := merged (by omega) (by omega) PX.out.across U1.out.1 U1.out.2 (From.refl mid b d2) V
                  exact ⟨From.trans FX.out f, u⟩
                by_cases h3 : mid < e
                · have h31 : (mid : Int) < (e : Int) := by omega
                  have h32 : decide ((e : Int) < (b : Int)) = false := decide_eq_false (by omega)
                  have h33 : ¬ (e : Int) < (b : Int) := by omega
                  go_wp2
                  all_goals
                    go_end0
                    exact ⟨rfl, d2, S3.out, FU.out⟩
                · have h31 : decide ((mid : Int) < (e : Int)) = false := decide_eq_false (by omega)
                  have h32 : ¬ (mid : Int) < (e : Int) := by omega
                  go_wp2
                  all_goals
                    go_end0
                    exact ⟨rfl, d2, S3.out, FU.out⟩
            · have U1 : Aside (From a mid d d ∧ Up (stT (ltOf cf) pos) a mid d) := by
                have ge := GE.out
                refine ⟨From.refl _ _ _, ?_⟩
                by_cases c : a < s
                · have : s = mid := by omega
                  have u := PX.out.u1
                  rw [this] at u
                  exact u
                · have : s = a := by omega
                  have u := PX.out.u2
                  rw [this] at u
                  exact u
              by_cases h0 : a < s
              · have h11 : (a : Int) < (s : Int) := by omega
                have h12 : decide ((s : Int) < (mid : Int)) = false := decide_eq_false (by omega)
                have h13 : ¬ (s : Int) < (mid : Int) := by omega
                by_cases h2 : mid < e ∧ e < b
                · have h21 : (mid : Int) < (e : Int) := by omega
                  have h22 : (e : Int) < (b : Int) := by omega
                  have C := IH.out mid e b d wr (by have := GE.out; omega) h2.1 h2.2 hb H1 S2.out (PX.out.u3.same (fun i h _ => U1.out.1.2.1 i (Or.inr h))) (PX.out.u4.same (fun i h _ => U1.out.1.2.1 i (Or.inr (by omega)))) (PX.out.f2.same (fun i h _ => U1.out.1.2.1 i (Or.inr h)))
                  unfold Merges at C
                  go_wp2_with fail
                  refine C.mono ?_
                  clear C
                  rintro e' w4 ⟨rfl, d3, S3', F3, V3⟩
                  have S3 : Aside (SW enc w0 blk off d3 w4) := S3'
                  have FU : Aside (From a b d d3 ∧ Up (stT (ltOf cf) pos) a b d3) := by
                    have ge := GE.out
                    obtain ⟨f, u⟩ := merged (by omega) (by omega) PX.out.across U1.out.1 U1.out.2 F3 V3
                    exact ⟨From.trans FX.out f, u⟩
                  clear S3' F3 V3 S2
                  go_wp2
                  go_end0
                  exact ⟨rfl, d3, S3.out, FU.out⟩
                · have FU : Aside (From a b d d ∧ Up (stT (ltOf cf) pos) a b d) := by
                    have ge := GE.out
                    have V : Up (stT (ltOf cf) pos) mid b d := by
                      have u3 := PX.out.u3.same (fun i h _ => U1.out.1.2.1 i (Or.inr h))
                      have u4 := PX.out.u4.same (fun i (h : e ≤ i) _ => U1.out.1.2.1 i (Or.inr (by omega)))
                      by_cases c : mid < e
                      · have : e = b := by omega
                        rw [this] at u3
                        exact u3
                      · have : e = mid := by omega
                        rw [this] at u4
                        exact u4
                    obtain ⟨f, u⟩ := merged (by omega) (by omega) PX.out.across U1.out.1 U1.out.2 (From.refl mid b d) V
                    exact ⟨From.trans FX.out f, u⟩
                  by_cases h3 : mid < e
                  · have h31 : (mid : Int) < (e : Int) := by omega
                    have h32 : decide ((e : Int) < (b : Int)) = false := decide_eq_false (by omega)
                    have h33 : ¬ (e : Int) < (b : Int) := by omega
                    go_wp2
                    all_goals
                      go_end0
                      exact ⟨rfl, d, S2.out, FU.out⟩
                  · have h31 : decide ((mid : Int) < (e : Int)) = false := decide_eq_false (by omega)
                    have h32 : ¬ (mid : Int) < (e : Int) := by omega
                    go_wp2
                    all_goals
                      go_end0
                      exact ⟨rfl, d, S2.out, FU.out⟩
              · have h11 : decide ((a : Int) < (s : Int)) = false := decide_eq_false (by omega)
                have h12 : ¬ (a : Int) < (s : Int) := by omega
                by_cases h2 : mid < e ∧ e < b
                · have h21 : (mid : Int) < (e : Int) := by omega
                  have h22 : (e : Int) < (b : Int) := by omega
                  have C := IH.out mid e b d wr (by have := GE.out; omega) h2.1 h2.2 hb H1 S2.out (PX.out.u3.same (fun i h _ => U1.out.1.2.1 i (Or.inr h))) (PX.out.u4.same (fun i h _ => U1.out.1.2.1 i (Or.inr (by omega)))) (PX.out.f2.same (fun i h _ => U1.out.1.2.1 i (Or.inr h)))
                  unfold Merges at C
                  go_wp2_with fail
                  refine C.mono ?_
                  clear C
                  rintro e' w4 ⟨rfl, d3, S3', F3, V3⟩
                  have S3 : Aside (SW enc w0 blk off d3 w4) := S3'
                  have FU : Aside (From a b d d3 ∧ Up (stT (ltOf cf) pos) a b d3) := by
                    have ge := GE.out
                    obtain ⟨f, u⟩ := merged (by omega) (by omega) PX.out.across U1.out.1 U1.out.2 F3 V3
                    exact ⟨From.trans FX.out f, u⟩
                  clear S3' F3 V3 S2
                  go_wp2
                  go_end0
                  exact ⟨rfl, d3, S3.out, FU.out⟩
                · have FU : Aside (From a b d d ∧ Up (stT (ltOf cf) pos) a b d) := by
                    have ge := GE.out
                    have V : Up (stT (ltOf cf) pos) mid b d := by
                      have u3 := PX.out.u3.same (fun i h _ => U1.out.1.2.1 i (Or.inr h))
                      have u4 := PX.out.u4.same (fun i (h : e ≤ i) _ => U1.out.1.2.1 i (Or.inr (by omega)))
                      by_cases c : mid < e
                      · have : e = b := by omega
                        rw [this] at u3
                        exact u3
                      · have : e = mid := by omega
                        rw [this] at u4
                        exact u4
                    obtain ⟨f, u⟩ := merged (by omega) (by omega) PX.out.across U1.out.1 U1.out.2 (From.refl mid b d) V
                    exact ⟨From.trans FX.out f, u⟩
                  by_cases h3 : mid < e
                  · have h31 : (mid : Int) < (e : Int) := by omega
                    have h32 : decide ((e : Int) < (b : Int)) = false := decide_eq_false (by omega)
                    have h33 : ¬ (e : Int) < (b : Int) := by omega
                    go_wp2
                    all_goals
                      go_end0
                      exact ⟨rfl, d, S2.out, FU.out⟩
                  · have h31 : decide ((mid : Int) < (e : Int)) = false := decide_eq_false (by omega)
                    have h32 : ¬ (mid : Int) < (e : Int) := by omega
                    go_wp2
                    all_goals
                      go_end0
                      exact ⟨rfl, d, S2.out, FU.out⟩
  · have es : True := trivial
    have hgt : ¬ (m : Int) > (mid : Int) := by omega
    have hgt' : ¬ (mid : Int) < (m : Int) := by omega
    have HS0 : Aside (s0 = a) := hs0
    have HR0 : Aside (r0 = m) := hr0
    clear hq0 hq1 hmid hn hp hs0 hr0 c
    go_enter Tryd.func60, Tryd.ntmps60
    go_wp2
    clear e0 e1 n0 n0' n1 n1' emid en ep es hgt hgt'
    go_loopg [20, 21] (r0 - s0) (fun g0 vs vr wr => ∃ s r : Nat, vs = .int .i64 s ∧ vr = .int .i64 r ∧ s0 ≤ s ∧ s ≤ r ∧ r ≤ r0 ∧ r - s ≤ g0 ∧ Aside (SW enc w0 blk off d wr) ∧ Aside ((s = s0 ∨ stT (ltOf cf) pos d[s - 1]! d[n - s]! = true) ∧ (r = r0 ∨ stT (ltOf cf) pos d[p - r]! d[r]! = true)))
    case atStart =>
      have hhc := HC.out
      exact ⟨s0, r0, by rw [HS0.out], by rw [HR0.out], Nat.le_refl _, hhc.2.2.2.2.1, Nat.le_refl _, Nat.le_refl _, S0, (⟨Or.inl rfl, Or.inl rfl⟩ : (s0 = s0 ∨ _) ∧ (r0 = r0 ∨ _))⟩
    case round =>
      clear S0
      obtain ⟨s, r, rfl, rfl, hs1, hsr, hr1, hg, S1, I⟩ := hrel
      by_cases hlt : s < r
      · have hltz : (s : Int) < (r : Int) := by omega
        obtain ⟨c, hcm⟩ : ∃ q, q = (s + r) / 2 := ⟨_, rfl⟩
        have ec : ((s : Int) + (r : Int)) / 2 = (c : Int) := by omega
        have bnd : r0 ≤ d0.size ∧ p < 4611686018427387904 * 2 := by have := HC.out; omega
        obtain ⟨pc, hpc⟩ : ∃ q, q = p - c := ⟨_, rfl⟩
        have HH : Aside (s ≤ c ∧ c < r ∧ a ≤ c ∧ c < m ∧ m ≤ pc ∧ pc < b ∧ pc = p - c ∧ n - (c + 1) = pc) := (by have := HC.out; omega : s ≤ c ∧ c < r ∧ a ≤ c ∧ c < m ∧ m ≤ pc ∧ pc < b ∧ pc = p - c ∧ n - (c + 1) = pc)
        have epc : IntKind.i64.wrap ((p : Int) - (c : Int)) = (pc : Int) := by have := HH.out; rw [IntKind.wrap_i64]; omega
        have bc : (c : Int) < (d0.size : Int) := by have := HH.out; omega
        have bpc : (pc : Int) < (d0.size : Int) := by have := HH.out; omega
        obtain ⟨x, hx⟩ : ∃ v, v = d[pc]! := ⟨_, rfl⟩
        obtain ⟨y, hy⟩ : ∃ v, v = d[c]! := ⟨_, rfl⟩
        have la := S1.out.cl MM.out.row hs pc (by omega)
        have lb := S1.out.cl MM.out.row hs c (by omega)
        rw [← hx] at la
        rw [← hy] at lb
        have hcc := S1.out.cmp MM.out.cmp hs x y
        have L := MM.out.less (HF.out c pc HH.out.2.2.1 HH.out.2.2.2.1 HH.out.2.2.2.2.1 HH.out.2.2.2.2.2.1)
        rw [← hx, ← hy] at L
        have X : Aside (x = d[pc]! ∧ y = d[c]!) := ⟨hx, hy⟩
        have LL : Aside _ := L
        clear L hx hy hcm hpc bnd
        by_cases hv : cf x y < 0
        · have hd : decide (cf x y < 0) = true := decide_eq_true hv
          go_wp2_with fail
          go_quiet_grown (first | (go_at_fn g; refine Calls.grown_of (hcc _ _)))
          have S2 : Aside (SW enc w0 blk off d (grow (wr.drewN nq) osq)) := S1.out.grown nq osq
          clear la lb hcc S1
          generalize grow (wr.drewN nq) osq = w2 at S2 ⊢
          clear nq osq
          go_wp2
          go_roundg (c - s)
          case measure => have := HH.out; omega
          case rel => exact ⟨s, c, rfl, rfl, hs1, HH.out.1, by have := HH.out; omega, Nat.le_refl _, S2, (⟨I.out.1, Or.inr (by rw [← HH.out.2.2.2.2.2.2.1, ← X.out.1, ← X.out.2]; exact LL.out.1 hv)⟩ : (s = s0 ∨ _) ∧ (c = r0 ∨ _))⟩
        · have hd : decide (cf x y < 0) = false := decide_eq_false hv
          go_wp2_with fail
          go_quiet_grown (first | (go_at_fn g; refine Calls.grown_of (hcc _ _)))
          have S2 : Aside (SW enc w0 blk off d (grow (wr.drewN nq) osq)) := S1.out.grown nq osq
          clear la lb hcc S1
          generalize grow (wr.drewN nq) osq = w2 at S2 ⊢
          clear nq osq
          go_wp2
          go_roundg (r - (c + 1))
          case measure => have := HH.out; omega
          case rel => exact ⟨c + 1, r, by go_num, rfl, by have := HH.out; omega, by have := HH.out; omega, hr1, Nat.le_refl _, S2, (⟨Or.inr (by rw [Nat.add_sub_cancel, HH.out.2.2.2.2.2.2.2, ← X.out.1, ← X.out.2]; exact LL.out.2 hv), I.out.2⟩ : (c + 1 = s0 ∨ _) ∧ (r = r0 ∨ _))⟩
      · have hltz : ¬ (s : Int) < (r : Int) := by omega
        obtain rfl : s = r := by omega
        obtain ⟨e, he⟩ : ∃ q, q = n - s := ⟨_, rfl⟩
        have GE : Aside (a ≤ s ∧ s ≤ m ∧ s ≤ mid ∧ m ≤ e ∧ mid ≤ e ∧ e ≤ b ∧ mid < b ∧ a < mid ∧ e = mid + m - s) := (by have := HC.out; omega : a ≤ s ∧ s ≤ m ∧ s ≤ mid ∧ m ≤ e ∧ mid ≤ e ∧ e ≤ b ∧ mid < b ∧ a < mid ∧ e = mid + m - s)
        have ee : IntKind.i64.wrap ((n : Int) - (s : Int)) = (e : Int) := by have := HC.out; have := GE.out; rw [IntKind.wrap_i64]; omega
        have PT : Aside (∀ d1 : Array α, (∀ k, d1[k]! = rotF s m e (fun k => d[k]!) k) → Parted (stT (ltOf cf) pos) pos a s mid e b d1) := fun d1 hd1 => by
          have ge := GE.out
          have hhc := HC.out
          have ii := I.out
          rw [ge.2.2.2.2.2.2.2.2] at hd1 ⊢
          rw [show n - s = mid + m - s by omega, show p - s = mid + m - 1 - s by omega] at ii
          exact parted (stT_swo pos MM.out.swo) (by omega) (by omega) hhc.2.1 hhc.1 hs1 hr1 HL.out HR.out HF.out ii.1 ii.2 hd1
        have FR : Aside (∀ d1 : Array α, d1.size = d0.size → (∀ k, d1[k]! = rotF s m e (fun k => d[k]!) k) → From a b d d1) := fun d1 h1 hd1 => by
          have ge := GE.out
          exact (rot_from (h1.trans hs.symm) (by omega) (by omega) hd1).mono (by omega) (by omega)
        have be : e ≤ d0.size := by have := GE.out; omega
        clear he I
        by_cases hr : s < m ∧ m < e
        · have hr1' : (s : Int) < (m : Int) := by omega
          have hr2 : (m : Int) < (e : Int) := by omega
          have C := rotate_any enc d0 d w0 wr blk off cap s m e (.func (.func g) #[] cb) MM.out.row hs.symm S1.out hr.1 hr.2 (by omega) (by omega)
          rw [hs] at C
          go_wp2_with fail
          refine C.mono ?_
          clear C
          rintro e' w2 ⟨rfl, d1, S2', H1, hd1⟩
          have S2 : Aside (SW enc w0 blk off d1 w2) := S2'
          have PX : Aside _ := PT.out d1 hd1
          have FX : Aside _ := FR.out d1 H1 hd1
          clear S2' hd1 S1 PT FR hr hr1' hr2 ee
          by_cases h1 : a < s ∧ s < mid
          · have h11 : (a : Int) < (s : Int) := by omega
            have h12 : (s : Int) < (mid : Int) := by omega
            have C := IH.out a s mid d1 w2 (by have := GE.out; omega) h1.1 h1.2 (by have := GE.out; omega) H1 S2.out PX.out.u1 PX.out.u2 PX.out.f1
            unfold Merges at C
            go_wp2_with fail
            refine C.mono ?_
            clear C
            rintro e' w3 ⟨rfl, d2, S3', F2, V2⟩
            have S3 : Aside (SW enc w0 blk off d2 w3) := S3'
            have H2 : d2.size = d0.size := F2.1.trans H1
            have U1 : Aside (From a mid d1 d2 ∧ Up (stT (ltOf cf) pos) a mid d2) := ⟨F2, V2⟩
            clear S3' F2 V2 S2 h1 h11 h12
            by_cases h2 : mid < e ∧ e < b
            · have h21 : (mid : Int) < (e : Int) := by omega
              have h22 : (e : Int) < (b : Int) := by omega
              have C := IH.out mid e b d2 w3 (by have := GE.out; omega) h2.1 h2.2 hb H2 S3.out (PX.out.u3.same (fun i h _ => U1.out.1.2.1 i (Or.inr h))) (PX.out.u4.same (fun i h _ => U1.out.1.2.1 i (Or.inr (by omega)))) (PX.out.f2.same (fun i h _ => U1.out.1.2.1 i (Or.inr h)))
              unfold Merges at C
              go_wp2_with fail
              refine C.mono ?_
              clear C
              rintro e' w4 ⟨rfl, d3, S4', F3, V3⟩
              have S4 : Aside (SW enc w0 blk off d3 w4) := S4'
              have FU : Aside (From a b d d3 ∧ Up (stT (ltOf cf) pos) a b d3) := by
                have ge := GE.out
                obtain ⟨f, u⟩ := merged (by omega) (by omega) PX.out.across U1.out.1 U1.out.2 F3 V3
                exact ⟨From.trans FX.out f, u⟩
              clear S4' F3 V3 S3
              go_wp2
              go_end0
              exact ⟨rfl, d3, S4.out, FU.out⟩
            · have FU : Aside (From a b d d2 ∧ Up (stT (ltOf cf) pos) a b d2) := by
                have ge := GE.out
                have V : Up (stT (ltOf cf) pos) mid b d2 := by
                  have u3 := PX.out.u3.same (fun i h _ => U1.out.1.2.1 i (Or.inr h))
                  have u4 := PX.out.u4.same (fun i (h : e ≤ i) _ => U1.out.1.2.1 i (Or.inr (by omega)))
                  by_cases c : mid < e
                  · have : e = b := by omega
                    rw [this] at u3
                    exact u3
                  · have : e = mid := by omega
                    rw [this] at u4
                    exact u4
                obtain ⟨f, u⟩ := merged (by omega) (by omega) PX.out.across U1.out.1 U1.out.2 (From.refl mid b d2) V
                exact ⟨From.trans FX.out f, u⟩
              by_cases h3 : mid < e
              · have h31 : (mid : Int) < (e : Int) := by omega
                have h32 : decide ((e : Int) < (b : Int)) = false := decide_eq_false (by omega)
                have h33 : ¬ (e : Int) < (b : Int) := by omega
                go_wp2
                all_goals
                  go_end0
                  exact ⟨rfl, d2, S3.out, FU.out⟩
              · have h31 : decide ((mid : Int) < (e : Int)) = false := decide_eq_false (by omega)
                have h32 : ¬ (mid : Int) < (e : Int) := by omega
                go_wp2
                all_goals
                  go_end0
                  exact ⟨rfl, d2, S3.out, FU.out⟩
          · have U1 : Aside (From a mid d1 d1 ∧ Up (stT (ltOf cf) pos) a mid d1) := by
              have ge := GE.out
              refine ⟨From.refl _ _ _, ?_⟩
              by_cases c : a < s
              · have : s = mid := by omega
                have u := PX.out.u1
                rw [this] at u
                exact u
              · have : s = a := by omega
                have u := PX.out.u2
                rw [this] at u
                exact u
            by_cases h0 : a < s
            · have h11 : (a : Int) < (s : Int) := by omega
              have h12 : decide ((s : Int) < (mid : Int)) = false := decide_eq_false (by omega)
              have h13 : ¬ (s : Int) < (mid : Int) := by omega
              by_cases h2 : mid < e ∧ e < b
              · have h21 : (mid : Int) < (e : Int) := by omega
                have h22 : (e : Int) < (b : Int) := by omega
                have C := IH.out mid e b d1 w2 (by have := GE.out; omega) h2.1 h2.2 hb H1 S2.out (PX.out.u3.same (fun i h _ => U1.out.1.2.1 i (Or.inr h))) (PX.out.u4.same (fun i h _ => U1.out.1.2.1 i (Or.inr (by omega)))) (PX.out.f2.same (fun i h _ => U1.out.1.2.1 i (Or.inr h)))
                unfold Merges at C
                go_wp2_with fail
                refine C.mono ?_
                clear C
                rintro e' w4 ⟨rfl, d3, S3', F3, V3⟩
                have S3 : Aside (SW enc w0 blk off d3 w4) := S3'
                have FU : Aside (From a b d d3 ∧ Up (stT (ltOf cf) pos) a b d3) := by
                  have ge := GE.out
                  obtain ⟨f, u⟩ := merged (by omega) (by omega) PX.out.across U1.out.1 U1.out.2 F3 V3
                  exact ⟨From.trans FX.out f, u⟩
                clear S3' F3 V3 S2
                go_wp2
                go_end0
                exact ⟨rfl, d3, S3.out, FU.out⟩
              · have FU : Aside (From a b d d1 ∧ Up (stT (ltOf cf) pos) a b d1) := by
                  have ge := GE.out
                  have V : Up (stT (ltOf cf) pos) mid b d1 := by
                    have u3 := PX.out.u3.same (fun i h _ => U1.out.1.2.1 i (Or.inr h))
                    have u4 := PX.out.u4.same (fun i (h : e ≤ i) _ => U1.out.1.2.1 i (Or.inr (by omega)))
                    by_cases c : mid < e
                    · have : e = b := by omega
                      rw [this] at u3
                      exact u3
                    · have : e = mid := by omega
                      rw [this] at u4
                      exact u4
                  obtain ⟨f, u⟩ := merged (by omega) (by omega) PX.out.across U1.out.1 U1.out.2 (From.refl mid b d1) V
                  exact ⟨From.trans FX.out f, u⟩
                by_cases h3 : mid < e
                · have h31 : (mid : Int) < (e : Int) := by omega
                  have h32 : decide ((e : Int) < (b : Int)) = false := decide_eq_false (by omega)
                  have h33 : ¬ (e : Int) < (b : Int) := by omega
                  go_wp2
                  all_goals
                    go_end0
                    exact ⟨rfl, d1, S2.out, FU.out⟩
                · have h31 : decide ((mid : Int) < (e : Int)) = false := decide_eq_false (by omega)
                  have h32 : ¬ (mid : Int) < (e : Int) := by omega
                  go_wp2
                  all_goals
                    go_end0
                    exact ⟨rfl, d1, S2.out, FU.out⟩
            · have h11 : decide ((a : Int) < (s : Int)) = false := decide_eq_false (by omega)
              have h12 : ¬ (a : Int) < (s : Int) := by omega
              by_cases h2 : mid < e ∧ e < b
              · have h21 : (mid : Int) < (e : Int) := by omega
                have h22 : (e : Int) < (b : Int) := by omega
                have C := IH.out mid e b d1 w2 (by have := GE.out; omega) h2.1 h2.2 hb H1 S2.out (PX.out.u3.same (fun i h _ => U1.out.1.2.1 i (Or.inr h))) (PX.out.u4.same (fun i h _ => U1.out.1.2.1 i (Or.inr (by omega)))) (PX.out.f2.same (fun i h _ => U1.out.1.2.1 i (Or.inr h)))
                unfold Merges at C
                go_wp2_with fail
                refine C.mono ?_
                clear C
                rintro e' w4 ⟨rfl, d3, S3', F3, V3⟩
                have S3 : Aside (SW enc w0 blk off d3 w4) := S3'
                have FU : Aside (From a b d d3 ∧ Up (stT (ltOf cf) pos) a b d3) := by
                  have ge := GE.out
                  obtain ⟨f, u⟩ := merged (by omega) (by omega) PX.out.across U1.out.1 U1.out.2 F3 V3
                  exact ⟨From.trans FX.out f, u⟩
                clear S3' F3 V3 S2
                go_wp2
                go_end0
                exact ⟨rfl, d3, S3.out, FU.out⟩
              · have FU : Aside (From a b d d1 ∧ Up (stT (ltOf cf) pos) a b d1) := by
                  have ge := GE.out
                  have V : Up (stT (ltOf cf) pos) mid b d1 := by
                    have u3 := PX.out.u3.same (fun i h _ => U1.out.1.2.1 i (Or.inr h))
                    have u4 := PX.out.u4.same (fun i (h : e ≤ i) _ => U1.out.1.2.1 i (Or.inr (by omega)))
                    by_cases c : mid < e
                    · have : e = b := by omega
                      rw [this] at u3
                      exact u3
                    · have : e = mid := by omega
                      rw [this] at u4
                      exact u4
                  obtain ⟨f, u⟩ := merged (by omega) (by omega) PX.out.across U1.out.1 U1.out.2 (From.refl mid b d1) V
                  exact ⟨From.trans FX.out f, u⟩
                by_cases h3 : mid < e
                · have h31 : (mid : Int) < (e : Int) := by omega
                  have h32 : decide ((e : Int) < (b : Int)) = false := decide_eq_false (by omega)
                  have h33 : ¬ (e : Int) < (b : Int) := by omega
                  go_wp2
                  all_goals
                    go_end0
                    exact ⟨rfl, d1, S2.out, FU.out⟩
                · have h31 : decide ((mid : Int) < (e : Int)) = false := decide_eq_false (by omega)
                  have h32 : ¬ (mid : Int) < (e : Int) := by omega
                  go_wp2
                  all_goals
                    go_end0
                    exact ⟨rfl, d1, S2.out, FU.out⟩
        · have PX : Aside (Parted (stT (ltOf cf) pos) pos a s mid e b d) := PT.out d (fun k => by rw [rot_none s m e _ (by have := GE.out; omega) (by have := GE.out; omega) (by have := GE.out; omega)])
          have FX : Aside (From a b d d) := From.refl _ _ _
          have H1 := hs
          have S2 := S1
          clear PT FR S1
          by_cases hr0' : s < m
          · have hr1' : (s : Int) < (m : Int) := by omega
            have hr2 : decide ((m : Int) < (e : Int)) = false := decide_eq_false (by omega)
            have hr3 : ¬ (m : Int) < (e : Int) := by omega
            by_cases h1 : a < s ∧ s < mid
            · have h11 : (a : Int) < (s : Int) := by omega
              have h12 : (s : Int) < (mid : Int) := by omega
              have C := IH.out a s mid d wr (by have := GE.out; omega) h1.1 h1.2 (by have := GE.out; omega) H1 S2.out PX.out.u1 PX.out.u2 PX.out.f1
              unfold Merges at C
              go_wp2_with fail
              refine C.mono ?_
              clear C
              rintro e' w3 ⟨rfl, d2, S3', F2, V2⟩
              have S3 : Aside (SW enc w0 blk off d2 w3) := S3'
              have H2 : d2.size = d0.size := F2.1.trans H1
              have U1 : Aside (From a mid d d2 ∧ Up (stT (ltOf cf) pos) a mid d2) := ⟨F2, V2⟩
              clear S3' F2 V2 S2 h1 h11 h12
              by_cases h2 : mid < e ∧ e < b
              · have h21 : (mid : Int) < (e : Int) := by omega
                have h22 : (e : Int) < (b : Int) := by omega
                have C := IH.out mid e b d2 w3 (by have := GE.out; omega) h2.1 h2.2 hb H2 S3.out (PX.out.u3.same (fun i h _ => U1.out.1.2.1 i (Or.inr h))) (PX.out.u4.same (fun i h _ => U1.out.1.2.1 i (Or.inr (by omega)))) (PX.out.f2.same (fun i h _ => U1.out.1.2.1 i (Or.inr h)))
                unfold Merges at C
                go_wp2_with fail
                refine C.mono ?_
                clear C
                rintro e' w4 ⟨rfl, d3, S4', F3, V3⟩
                have S4 : Aside (SW enc w0 blk off d3 w4) := S4'
                have FU : Aside (From a b d d3 ∧ Up (stT (ltOf cf) pos) a b d3) := by
                  have ge := GE.out
                  obtain ⟨f, u⟩ := merged (by omega) (by omega) PX.out.across U1.out.1 U1.out.2 F3 V3
                  exact ⟨From.trans FX.out f, u⟩
                clear S4' F3 V3 S3
                go_wp2
                go_end0
                exact ⟨rfl, d3, S4.out, FU.out⟩
              · have FU : Aside (From a b d d2 ∧ Up (stT (ltOf cf) pos) a b d2) := by
                  have ge := GE.out
                  have V : Up (stT (ltOf cf) pos) mid b d2 := by
                    have u3 := PX.out.u3.same (fun i h _ => U1.out.1.2.1 i (Or.inr h))
                    have u4 := PX.out.u4.same (fun i (h : e ≤ i) _ => U1.out.1.2.1 i (Or.inr (by omega)))
                    by_cases c : mid < e
                    · have : e = b := by omega
                      rw [this] at u3
                      exact u3
                    · have : e = mid := by omega
                      rw [this] at u4
                      exact u4
                  obtain ⟨f, u⟩ := merged (by omega) (by omega) PX.out.across U1.out.1 U1.out.2 (From.refl mid b d2) V
                  exact ⟨From.trans FX.out f, u⟩
                by_cases h3 : mid < e
                · have h31 : (mid : Int) < (e : Int) := by omega
                  have h32 : decide ((e : Int) < (b : Int)) = false := decide_eq_false (by omega)
                  have h33 : ¬ (e : Int) < (b : Int) := by omega
                  go_wp2
                  all_goals
                    go_end0
                    exact ⟨rfl, d2, S3.out, FU.out⟩
                · have h31 : decide ((mid : Int) < (e : Int)) = false := decide_eq_false (by omega)
                  have h32 : ¬ (mid : Int) < (e : Int) := by omega
                  go_wp2
                  all_goals
                    go_end0
                    exact ⟨rfl, d2, S3.out, FU.out⟩
            · have U1 : Aside (From a mid d d ∧ Up (stT (ltOf cf) pos) a mid d) := by
                have ge := GE.out
                refine ⟨From.refl _ _ _, ?_⟩
                by_cases c : a < s
                · have : s = mid := by omega
                  have u := PX.out.u1
                  rw [this] at u
                  exact u
                · have : s = a := by omega
                  have u := PX.out.u2
                  rw [this] at u
                  exact u
              by_cases h0 : a < s
              · have h11 : (a : Int) < (s : Int) := by omega
                have h12 : decide ((s : Int) < (mid : Int)) = false := decide_eq_false (by omega)
                have h13 : ¬ (s : Int) < (mid : Int) := by omega
                by_cases h2 : mid < e ∧ e < b
                · have h21 : (mid : Int) < (e : Int) := by omega
                  have h22 : (e : Int) < (b : Int) := by omega
                  have C := IH.out mid e b d wr (by have := GE.out; omega) h2.1 h2.2 hb H1 S2.out (PX.out.u3.same (fun i h _ => U1.out.1.2.1 i (Or.inr h))) (PX.out.u4.same (fun i h _ => U1.out.1.2.1 i (Or.inr (by omega)))) (PX.out.f2.same (fun i h _ => U1.out.1.2.1 i (Or.inr h)))
                  unfold Merges at C
                  go_wp2_with fail
                  refine C.mono ?_
                  clear C
                  rintro e' w4 ⟨rfl, d3, S3', F3, V3⟩
                  have S3 : Aside (SW enc w0 blk off d3 w4) := S3'
                  have FU : Aside (From a b d d3 ∧ Up (stT (ltOf cf) pos) a b d3) := by
                    have ge := GE.out
                    obtain ⟨f, u⟩ := merged (by omega) (by omega) PX.out.across U1.out.1 U1.out.2 F3 V3
                    exact ⟨From.trans FX.out f, u⟩
                  clear S3' F3 V3 S2
                  go_wp2
                  go_end0
                  exact ⟨rfl, d3, S3.out, FU.out⟩
                · have FU : Aside (From a b d d ∧ Up (stT (ltOf cf) pos) a b d) := by
                    have ge := GE.out
                    have V : Up (stT (ltOf cf) pos) mid b d := by
                      have u3 := PX.out.u3.same (fun i h _ => U1.out.1.2.1 i (Or.inr h))
                      have u4 := PX.out.u4.same (fun i (h : e ≤ i) _ => U1.out.1.2.1 i (Or.inr (by omega)))
                      by_cases c : mid < e
                      · have : e = b := by omega
                        rw [this] at u3
                        exact u3
                      · have : e = mid := by omega
                        rw [this] at u4
                        exact u4
                    obtain ⟨f, u⟩ := merged (by omega) (by omega) PX.out.across U1.out.1 U1.out.2 (From.refl mid b d) V
                    exact ⟨From.trans FX.out f, u⟩
                  by_cases h3 : mid < e
                  · have h31 : (mid : Int) < (e : Int) := by omega
                    have h32 : decide ((e : Int) < (b : Int)) = false := decide_eq_false (by omega)
                    have h33 : ¬ (e : Int) < (b : Int) := by omega
                    go_wp2
                    all_goals
                      go_end0
                      exact ⟨rfl, d, S2.out, FU.out⟩
                  · have h31 : decide ((mid : Int) < (e : Int)) = false := decide_eq_false (by omega)
                    have h32 : ¬ (mid : Int) < (e : Int) := by omega
                    go_wp2
                    all_goals
                      go_end0
                      exact ⟨rfl, d, S2.out, FU.out⟩
              · have h11 : decide ((a : Int) < (s : Int)) = false := decide_eq_false (by omega)
                have h12 : ¬ (a : Int) < (s : Int) := by omega
                by_cases h2 : mid < e ∧ e < b
                · have h21 : (mid : Int) < (e : Int) := by omega
                  have h22 : (e : Int) < (b : Int) := by omega
                  have C := IH.out mid e b d wr (by have := GE.out; omega) h2.1 h2.2 hb H1 S2.out (PX.out.u3.same (fun i h _ => U1.out.1.2.1 i (Or.inr h))) (PX.out.u4.same (fun i h _ => U1.out.1.2.1 i (Or.inr (by omega)))) (PX.out.f2.same (fun i h _ => U1.out.1.2.1 i (Or.inr h)))
                  unfold Merges at C
                  go_wp2_with fail
                  refine C.mono ?_
                  clear C
                  rintro e' w4 ⟨rfl, d3, S3', F3, V3⟩
                  have S3 : Aside (SW enc w0 blk off d3 w4) := S3'
                  have FU : Aside (From a b d d3 ∧ Up (stT (ltOf cf) pos) a b d3) := by
                    have ge := GE.out
                    obtain ⟨f, u⟩ := merged (by omega) (by omega) PX.out.across U1.out.1 U1.out.2 F3 V3
                    exact ⟨From.trans FX.out f, u⟩
                  clear S3' F3 V3 S2
                  go_wp2
                  go_end0
                  exact ⟨rfl, d3, S3.out, FU.out⟩
                · have FU : Aside (From a b d d ∧ Up (stT (ltOf cf) pos) a b d) := by
                    have ge := GE.out
                    have V : Up (stT (ltOf cf) pos) mid b d := by
                      have u3 := PX.out.u3.same (fun i h _ => U1.out.1.2.1 i (Or.inr h))
                      have u4 := PX.out.u4.same (fun i (h : e ≤ i) _ => U1.out.1.2.1 i (Or.inr (by omega)))
                      by_cases c : mid < e
                      · have : e = b := by omega
                        rw [this] at u3
                        exact u3
                      · have : e = mid := by omega
                        rw [this] at u4
                        exact u4
                    obtain ⟨f, u⟩ := merged (by omega) (by omega) PX.out.across U1.out.1 U1.out.2 (From.refl mid b d) V
                    exact ⟨From.trans FX.out f, u⟩
                  by_cases h3 : mid < e
                  · have h31 : (mid : Int) < (e : Int) := by omega
                    have h32 : decide ((e : Int) < (b : Int)) = false := decide_eq_false (by omega)
                    have h33 : ¬ (e : Int) < (b : Int) := by omega
                    go_wp2
                    all_goals
                      go_end0
                      exact ⟨rfl, d, S2.out, FU.out⟩
                  · have h31 : decide ((mid : Int) < (e : Int)) = false := decide_eq_false (by omega)
                    have h32 : ¬ (mid : Int) < (e : Int) := by omega
                    go_wp2
                    all_goals
                      go_end0
                      exact ⟨rfl, d, S2.out, FU.out⟩
          · have hr1' : decide ((s : Int) < (m : Int)) = false := decide_eq_false (by omega)
            have hr2 : ¬ (s : Int) < (m : Int) := by omega
            by_cases h1 : a < s ∧ s < mid
            · have h11 : (a : Int) < (s : Int) := by omega
              have h12 : (s : Int) < (mid : Int) := by omega
              have C := IH.out a s mid d wr (by have := GE.out; omega) h1.1 h1.2 (by have := GE.out; omega) H1 S2.out PX.out.u1 PX.out.u2 PX.out.f1
              unfold Merges at C
              go_wp2_with fail
              refine C.mono ?_
              clear C
              rintro e' w3 ⟨rfl, d2, S3', F2, V2⟩
              have S3 : Aside (SW enc w0 blk off d2 w3) := S3'
              have H2 : d2.size = d0.size := F2.1.trans H1
              have U1 : Aside (From a mid d d2 ∧ Up (stT (ltOf cf) pos) a mid d2) := ⟨F2, V2⟩
              clear S3' F2 V2 S2 h1 h11 h12
              by_cases h2 : mid < e ∧ e < b
              · have h21 : (mid : Int) < (e : Int) := by omega
                have h22 : (e : Int) < (b : Int) := by omega
                have C := IH.out mid e b d2 w3 (by have := GE.out; omega) h2.1 h2.2 hb H2 S3.out (PX.out.u3.same (fun i h _ => U1.out.1.2.1 i (Or.inr h))) (PX.out.u4.same (fun i h _ => U1.out.1.2.1 i (Or.inr (by omega)))) (PX.out.f2.same (fun i h _ => U1.out.1.2.1 i (Or.inr h)))
                unfold Merges at C
                go_wp2_with fail
                refine C.mono ?_
                clear C
                rintro e' w4 ⟨rfl, d3, S4', F3, V3⟩
                have S4 : Aside (SW enc w0 blk off d3 w4) := S4'
                have FU : Aside (From a b d d3 ∧ Up (stT (ltOf cf) pos) a b d3) := by
                  have ge := GE.out
                  obtain ⟨f, u⟩ := merged (by omega) (by omega) PX.out.across U1.out.1 U1.out.2 F3 V3
                  exact ⟨From.trans FX.out f, u⟩
                clear S4' F3 V3 S3
                go_wp2
                go_end0
                exact ⟨rfl, d3, S4.out, FU.out⟩
              · have FU : Aside (From a b d d2 ∧ Up (stT (ltOf cf) pos) a b d2) := by
                  have ge := GE.out
                  have V : Up (stT (ltOf cf) pos) mid b d2 := by
                    have u3 := PX.out.u3.same (fun i h _ => U1.out.1.2.1 i (Or.inr h))
                    have u4 := PX.out.u4.same (fun i (h : e ≤ i) _ => U1.out.1.2.1 i (Or.inr (by omega)))
                    by_cases c : mid < e
                    · have : e = b := by omega
                      rw [this] at u3
                      exact u3
                    · have : e = mid := by omega
                      rw [this] at u4
                      exact u4
                  obtain ⟨f, u⟩ := merged (by omega) (by omega) PX.out.across U1.out.1 U1.out.2 (From.refl mid b d2) V
                  exact ⟨From.trans FX.out f, u⟩
                by_cases h3 : mid < e
                · have h31 : (mid : Int) < (e : Int) := by omega
                  have h32 : decide ((e : Int) < (b : Int)) = false := decide_eq_false (by omega)
                  have h33 : ¬ (e : Int) < (b : Int) := by omega
                  go_wp2
                  all_goals
                    go_end0
                    exact ⟨rfl, d2, S3.out, FU.out⟩
                · have h31 : decide ((mid : Int) < (e : Int)) = false := decide_eq_false (by omega)
                  have h32 : ¬ (mid : Int) < (e : Int) := by omega
                  go_wp2
                  all_goals
                    go_end0
                    exact ⟨rfl, d2, S3.out, FU.out⟩
            · have U1 : Aside (From a mid d d ∧ Up (stT (ltOf cf) pos) a mid d) := by
                have ge := GE.out
                refine ⟨From.refl _ _ _, ?_⟩
                by_cases c : a < s
                · have : s = mid := by omega
                  have u := PX.out.u1
                  rw [this] at u
                  exact u
                · have : s = a := by omega
                  have u := PX.out.u2
                  rw [this] at u
                  exact u
              by_cases h0 : a < s
              · have h11 : (a : Int) < (s : Int) := by omega
                have h12 : decide ((s : Int) < (mid : Int)) = false := decide_eq_false (by omega)
                have h13 : ¬ (s : Int) < (mid : Int) := by omega
                by_cases h2 : mid < e ∧ e < b
                · have h21 : (mid : Int) < (e : Int) := by omega
                  have h22 : (e : Int) < (b : Int) := by omega
                  have C := IH.out mid e b d wr (by have := GE.out; omega) h2.1 h2.2 hb H1 S2.out (PX.out.u3.same (fun i h _ => U1.out.1.2.1 i (Or.inr h))) (PX.out.u4.same (fun i h _ => U1.out.1.2.1 i (Or.inr (by omega)))) (PX.out.f2.same (fun i h _ => U1.out.1.2.1 i (Or.inr h)))
                  unfold Merges at C
                  go_wp2_with fail
                  refine C.mono ?_
                  clear C
                  rintro e' w4 ⟨rfl, d3, S3', F3, V3⟩
                  have S3 : Aside (SW enc w0 blk off d3 w4) := S3'
                  have FU : Aside (From a b d d3 ∧ Up (stT (ltOf cf) pos) a b d3) := by
                    have ge := GE.out
                    obtain ⟨f, u⟩ := merged (by omega) (by omega) PX.out.across U1.out.1 U1.out.2 F3 V3
                    exact ⟨From.trans FX.out f, u⟩
                  clear S3' F3 V3 S2
                  go_wp2
                  go_end0
                  exact ⟨rfl, d3, S3.out, FU.out⟩
                · have FU : Aside (From a b d d ∧ Up (stT (ltOf cf) pos) a b d) := by
                    have ge := GE.out
                    have V : Up (stT (ltOf cf) pos) mid b d := by
                      have u3 := PX.out.u3.same (fun i h _ => U1.out.1.2.1 i (Or.inr h))
                      have u4 := PX.out.u4.same (fun i (h : e ≤ i) _ => U1.out.1.2.1 i (Or.inr (by omega)))
                      by_cases c : mid < e
                      · have : e = b := by omega
                        rw [this] at u3
                        exact u3
                      · have : e = mid := by omega
                        rw [this] at u4
                        exact u4
                    obtain ⟨f, u⟩ := merged (by omega) (by omega) PX.out.across U1.out.1 U1.out.2 (From.refl mid b d) V
                    exact ⟨From.trans FX.out f, u⟩
                  by_cases h3 : mid < e
                  · have h31 : (mid : Int) < (e : Int) := by omega
                    have h32 : decide ((e : Int) < (b : Int)) = false := decide_eq_false (by omega)
                    have h33 : ¬ (e : Int) < (b : Int) := by omega
                    go_wp2
                    all_goals
                      go_end0
                      exact ⟨rfl, d, S2.out, FU.out⟩
                  · have h31 : decide ((mid : Int) < (e : Int)) = false := decide_eq_false (by omega)
                    have h32 : ¬ (mid : Int) < (e : Int) := by omega
                    go_wp2
                    all_goals
                      go_end0
                      exact ⟨rfl, d, S2.out, FU.out⟩
              · have h11 : decide ((a : Int) < (s : Int)) = false := decide_eq_false (by omega)
                have h12 : ¬ (a : Int) < (s : Int) := by omega
                by_cases h2 : mid < e ∧ e < b
                · have h21 : (mid : Int) < (e : Int) := by omega
                  have h22 : (e : Int) < (b : Int) := by omega
                  have C := IH.out mid e b d wr (by have := GE.out; omega) h2.1 h2.2 hb H1 S2.out (PX.out.u3.same (fun i h _ => U1.out.1.2.1 i (Or.inr h))) (PX.out.u4.same (fun i h _ => U1.out.1.2.1 i (Or.inr (by omega)))) (PX.out.f2.same (fun i h _ => U1.out.1.2.1 i (Or.inr h)))
                  unfold Merges at C
                  go_wp2_with fail
                  refine C.mono ?_
                  clear C
                  rintro e' w4 ⟨rfl, d3, S3', F3, V3⟩
                  have S3 : Aside (SW enc w0 blk off d3 w4) := S3'
                  have FU : Aside (From a b d d3 ∧ Up (stT (ltOf cf) pos) a b d3) := by
                    have ge := GE.out
                    obtain ⟨f, u⟩ := merged (by omega) (by omega) PX.out.across U1.out.1 U1.out.2 F3 V3
                    exact ⟨From.trans FX.out f, u⟩
                  clear S3' F3 V3 S2
                  go_wp2
                  go_end0
                  exact ⟨rfl, d3, S3.out, FU.out⟩
                · have FU : Aside (From a b d d ∧ Up (stT (ltOf cf) pos) a b d) := by
                    have ge := GE.out
                    have V : Up (stT (ltOf cf) pos) mid b d := by
                      have u3 := PX.out.u3.same (fun i h _ => U1.out.1.2.1 i (Or.inr h))
                      have u4 := PX.out.u4.same (fun i (h : e ≤ i) _ => U1.out.1.2.1 i (Or.inr (by omega)))
                      by_cases c : mid < e
                      · have : e = b := by omega
                        rw [this] at u3
                        exact u3
                      · have : e = mid := by omega
                        rw [this] at u4
                        exact u4
                    obtain ⟨f, u⟩ := merged (by omega) (by omega) PX.out.across U1.out.1 U1.out.2 (From.refl mid b d) V
                    exact ⟨From.trans FX.out f, u⟩
                  by_cases h3 : mid < e
                  · have h31 : (mid : Int) < (e : Int) := by omega
                    have h32 : decide ((e : Int) < (b : Int)) = false := decide_eq_false (by omega)
                    have h33 : ¬ (e : Int) < (b : Int) := by omega
                    go_wp2
                    all_goals
                      go_end0
                      exact ⟨rfl, d, S2.out, FU.out⟩
                  · have h31 : decide ((mid : Int) < (e : Int)) = false := decide_eq_false (by omega)
                    have h32 : ¬ (mid : Int) < (e : Int) := by omega
                    go_wp2
                    all_goals
                      go_end0
                      exact ⟨rfl, d, S2.out, FU.out⟩

theorem merge_any (M : Merging enc cf pos g cb d0 w0 blk off) (cap : Nat) : ∀ (N a m b : Nat) (d : Array α) (w : World), b - a < N → a < m → m < b → b ≤ d0.size → d.size = d0.size → SW enc w0 blk off d w → Up (stT (ltOf cf) pos) a m d → Up (stT (ltOf cf) pos) m b d → Fore pos a m b d → Merges enc cf pos g cb d0 w0 blk off cap a m b d w
  | 0, _, _, _, _, _, h, _, _, _, _, _, _, _, _ => by omega
  | N + 1, a, m, b, d, w, hN, ham, hmb, hb, hs, S, hL, hR, hF => by
    by_cases c1 : m = a + 1
    · exact merge_first M cap a m b d w hs c1 hmb hb S hR hF
    · by_cases c2 : b = m + 1
      · exact merge_behind M cap a m b d w hs c2 (by omega) hb S hL hF
      · exact merge_step M cap a m b d w hs (by omega) (by omega) hb S hL hR hF (fun a' m' b' d' w' h1 h2 h3 h4 h5 h6 h7 h8 h9 => merge_any M cap N a' m' b' d' w' (by omega) h2 h3 h4 h5 h6 h7 h8 h9)

end Go.Proofs.YtbeegcpmpgdbnaaDoor
