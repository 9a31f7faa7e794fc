/-
  What the reader's take, count, number and hash answer at this program, whatever is left.
-/
import Derived.Test.YtjgainoplgojiabDoorTxForm
import Derived.Test.YtjgainoplgojiabDoorOctRead
import Derived.Test.YtjgainoplgojiabDoorOctGet
import Derived.Test.YtjgainoplgojiabDoorKit
import Derived.Test.YtjgainoplgojiabDoorKitA
import Derived.Deep.RegionWith
namespace Go.Proofs.YtjgainoplgojiabDoor
open Go.RowKit

/-- A reader in block p: what is left, and its error; the bytes lie below it. -/
def Rd (w : World) (p : Nat) (s : RdS) : Prop :=
  ∃ v, w.cell? ⟨p, 0, none⟩ = some v ∧ w.cell? ⟨p, 1, none⟩ = some (.int .i64 s.2) ∧ w.there p 0 2 ∧ Keeps (fun g => g < p) w (fun w => Bytes w v s.1) ∧ AllB s.1 ∧ s.1.length ≤ 900000
theorem Rd.lt {w : World} {p : Nat} {s : RdS} (h : Rd w p s) : p < w.heap.size := by
  obtain ⟨v, h1, -⟩ := h
  exact World.block_lt_of_cell? _ _ h1
theorem there_heap {w w' : World} {b o n : Nat} (h : w.there b o n) (e : w'.heap[b]? = w.heap[b]?) : w'.there b o n := fun j hj => by
  rw [World.cell?_of_block (w := w) (a := ⟨b, o + j, none⟩) e, World.frozen?_of_block (w := w) (a := ⟨b, o + j, none⟩) e]
  exact h j hj
theorem range_heap {w w' : World} {b o : Nat} {c : List Value} (h : w.rangeAt b o c) (e : w'.heap[b]? = w.heap[b]?) : w'.rangeAt b o c := fun j v hv => by
  rw [World.cell?_of_block (w := w) (a := ⟨b, o + j, none⟩) e]
  exact h j v hv
theorem Rd.move {w w1 : World} {p : Nat} {s : RdS} (h : Rd w p s) (hs : w.heap.size ≤ w1.heap.size) (hb : ∀ g, g ≤ p → w1.heap[g]? = w.heap[g]?) : Rd w1 p s := by
  obtain ⟨v, h1, h2, h3, h4, h5⟩ := h
  have e := hb p (Nat.le_refl _)
  exact ⟨v, (World.cell?_of_block (w := w) (a := ⟨p, 0, none⟩) e).trans h1, (World.cell?_of_block (w := w) (a := ⟨p, 1, none⟩) e).trans h2, there_heap h3 e, h4.step hs fun g _ hp => hb g (by omega), h5⟩
theorem Rd.on {w w1 : World} {p : Nat} {s : RdS} (h : Rd w p s) (hb : Below w.heap.size w w1) : Rd w1 p s := h.move hb.size fun g hg => hb.block g (by have := h.lt; omega)
theorem there_setC {w : World} {b o n : Nat} (h : w.there b o n) (a : Addr) (v : Value) : (w.setCell a v).there b o n := fun j hj => by
  obtain ⟨h1, h2⟩ := h j hj
  refine ⟨?_, by rw [World.frozen?_setCell]; exact h2⟩
  obtain ⟨u, hu⟩ := Option.isSome_iff_exists.1 h1
  by_cases e : a = ⟨b, o + j, none⟩
  · subst e
    rw [World.cell?_setCell_same _ _ _ hu]
    rfl
  · rw [World.cell?_setCell_other _ _ _ _ (by first | exact e | exact fun q => e q.symm), hu]
    rfl
theorem keeps_set {p : Nat} {w : World} {X : World → Prop} (h : Keeps (fun g => g < p) w X) (i : Nat) (v : Value) : Keeps (fun g => g < p) (w.setCell ⟨p, i, none⟩ v) X :=
  h.step (by rw [size_setCell]; exact Nat.le_refl _) fun g _ hp => Below.heap_setCell _ _ _ _ (by show g ≠ p; omega)
theorem Rd.set0 {w : World} {p : Nat} {s : RdS} (h : Rd w p s) {v1 : Value} {r : List Int} (hk : Keeps (fun g => g < p) w fun w => Bytes w v1 r) (hr : AllB r) (hl : r.length ≤ 900000) : Rd (w.setCell ⟨p, 0, none⟩ v1) p (r, s.2) := by
  obtain ⟨v, h1, h2, h3, h4, h5⟩ := h
  exact ⟨v1, World.cell?_setCell_same _ _ _ h1, by rw [World.cell?_setCell_other _ _ _ _ (by simp)]; exact h2, there_setC h3 _ _, keeps_set hk _ _, hr, hl⟩
theorem Rd.set1 {w : World} {p : Nat} {s : RdS} (h : Rd w p s) (e : Int) : Rd (w.setCell ⟨p, 1, none⟩ (.int .i64 e)) p (s.1, e) := by
  obtain ⟨v, h1, h2, h3, h4, h5⟩ := h
  exact ⟨v, by rw [World.cell?_setCell_other _ _ _ _ (by simp)]; exact h1, World.cell?_setCell_same _ _ _ h2, there_setC h3 _ _, keeps_set h4 _ _, h5⟩
theorem there_free0 {w : World} {p n : Nat} (h : w.there p 0 n) (i : Nat) (hi : i < n) : w.frozen? ⟨p, i, none⟩ = false := by
  have := (h i hi).2
  rwa [Nat.zero_add] at this
theorem set_besides (w : World) (p i : Nat) (v : Value) : Besides p p w (w.setCell ⟨p, i, none⟩ v) := (Besides.refl p p w).set _ (Or.inl rfl) v

/-- What take answers. -/
def TakeDone (w : World) (p : Nat) (s : RdS) (n : Nat) (e : Ending) (w' : World) : Prop :=
  ∃ v', e = .returned v' ∧ Rd w' p (takeS n s).2 ∧ Keeps (fun g => g < p) w' (fun w => Bytes w v' (takeS n s).1) ∧ Besides p p w w' ∧ w'.heap.size = w.heap.size
set_option maxRecDepth 100000 in
theorem rtake_any (w : World) (p : Nat) (s : RdS) (n : Nat) (h : Rd w p s) (_hn : n ≤ 1000) :
    Calls Tryd.prog 39 #[.pointer (some ⟨p, 0, none⟩), .int .i64 n] w (TakeDone w p s n) := by
  have HR := hide h
  obtain ⟨v, c0, c1, ht, hk, hb, hl⟩ := h
  have f0 := there_free0 ht 0 (by omega)
  have f1 := there_free0 ht 1 (by omega)
  have HK := hide hk
  obtain ⟨a, cap, rfl, hc1, hc2⟩ := hk.self.form
  obtain ⟨r, er⟩ := s
  simp only at *
  by_cases he : er = 0
  · subst he
    by_cases hlt : r.length < n
    · have et : takeS n (r, 0) = ([], (r, 4)) := by simp [takeS, hlt]
      have R : Hid (TakeDone w p (r, 0) n (.returned (.slice none 0 0)) (w.setCell ⟨p, 1, none⟩ (.int .i64 4))) := hide ⟨_, rfl, by rw [et]; exact HR.out.set1 4, by rw [et]; exact fun _ _ => Bytes.nil _, set_besides _ _ _ _, size_setCell _ _ _⟩
      have hlt' : (r.length : Int) < (n : Int) := by omega
      clear HR HK hk ht hb et hlt
      go_enter Tryd.func39, Tryd.ntmps39
      go_wp2
      go_ret
      exact R.out
    · have et : takeS n (r, 0) = (r.take n, (r.drop n, 0)) := by simp [takeS, hlt]
      obtain ⟨a1, hrun1, hh1⟩ := head_of a r.length cap n .i64 (by omega) hc1
      obtain ⟨a2, c2, hrun2, hh2⟩ := tail_of a r.length cap n .i64 (by omega)
      have R : Hid (TakeDone w p (r, 0) n (.returned (.slice a1 n cap)) (w.setCell ⟨p, 0, none⟩ (.slice a2 (r.length - n) c2))) := hide ⟨_, rfl, by
        rw [et]; exact HR.out.set0 (HK.out.map fun w h => hh2 w r h) (AllB.drop hb n) (by simp; omega), by
        rw [et]; exact keeps_set (HK.out.map fun w h => hh1 w r h) _ _, set_besides _ _ _ _, size_setCell _ _ _⟩
      have hlt' : ¬ (r.length : Int) < (n : Int) := by omega
      have H1 := hide hrun1
      have H2 := hide hrun2
      clear HR HK hk ht hb et hlt hrun1 hrun2 hh1 hh2
      go_enter Tryd.func39, Tryd.ntmps39
      go_wp2_with (first | (refine wp_upto rfl (.tmp 24) (.tmp 25) rfl _ _ _ rfl rfl H1.out ?_) | (refine wp_from rfl (.tmp 31) (.tmp 32) rfl _ _ _ rfl rfl H2.out ?_))
      go_ret
      exact R.out
  · have et : takeS n (r, er) = ([], (r, er)) := takeS_err (s := (r, er)) he
    have R : Hid (TakeDone w p (r, er) n (.returned (.slice none 0 0)) w) := hide ⟨_, rfl, by rw [et]; exact HR.out, by rw [et]; exact fun _ _ => Bytes.nil _, Besides.refl _ _ _, rfl⟩
    have he' : (er == 0) = false := by simpa using he
    clear HR HK hk ht hb et he
    go_enter Tryd.func39, Tryd.ntmps39
    go_wp2
    go_ret
    exact R.out

/-- What count answers. -/
def CountDone (w : World) (p : Nat) (s : RdS) (m : Nat) (e : Ending) (w' : World) : Prop :=
  e = .returned (.int .i64 ((countS m s).1 : Nat)) ∧ Rd w' p (countS m s).2 ∧ Besides p p w w' ∧ w'.heap.size = w.heap.size
set_option maxRecDepth 100000 in
theorem rcount_any (w : World) (p : Nat) (s : RdS) (m : Nat) (h : Rd w p s) (hm : m ≤ 64) :
    Calls Tryd.prog 30 #[.pointer (some ⟨p, 0, none⟩), .int .u64 m] w (CountDone w p s m) := by
  have HR := hide h
  obtain ⟨v, c0, c1, ht, hk, hb, hl⟩ := h
  have f0 := there_free0 ht 0 (by omega)
  have f1 := there_free0 ht 1 (by omega)
  have HK := hide hk
  obtain ⟨a, cap, rfl, hc1, hc2⟩ := hk.self.form
  have RD := hide (read_any s.1 _ w hk.self hb)
  obtain ⟨r, er⟩ := s
  simp only at *
  by_cases he : er = 0
  · subst he
    by_cases hre : readE r = 0
    · obtain ⟨k, hk1, hk2, hk3, hk4, -, hx0, hx1⟩ := read_ok r hb hre
      rw [hre, hk1] at RD
      by_cases hgt : (m : Int) < readX r
      · have et : countS m (r, 0) = (0, (r, 5)) := by simp [countS, hre, hgt]
        have R : Hid (CountDone w p (r, 0) m (.returned (.int .i64 0)) (w.setCell ⟨p, 1, none⟩ (.int .i64 5))) := hide ⟨by rw [et]; rfl, by rw [et]; exact HR.out.set1 5, set_besides _ _ _ _, size_setCell _ _ _⟩
        clear HR HK hk ht hb et hre hk1
        generalize readX r = X at *
        go_enter Tryd.func30, Tryd.ntmps30
        go_wp2_with fail
        refine RD.out.mono ?_
        rintro e w' ⟨rfl, hw⟩
        subst hw
        go_wp2
        go_ret
        exact R.out
      · obtain ⟨a2, c2, hrun2, hh2⟩ := tail_of a r.length cap k .i64 (by omega)
        have et : countS m (r, 0) = ((readX r).toNat, (r.drop k, 0)) := by simp [countS, hre, hgt, hk1]
        have R : Hid (CountDone w p (r, 0) m (.returned (.int .i64 (readX r))) (w.setCell ⟨p, 0, none⟩ (.slice a2 (r.length - k) c2))) := hide ⟨by
          rw [et]; show _ = Ending.returned (.int .i64 (((readX r).toNat : Nat) : Int)); rw [Int.toNat_of_nonneg hx0], by
          rw [et]; exact HR.out.set0 (HK.out.map fun w h => hh2 w r h) (AllB.drop hb k) (by simp; omega), set_besides _ _ _ _, size_setCell _ _ _⟩
        have H2 := hide hrun2
        have hxm : readX r ≤ 64 := by omega
        clear HR HK hk ht hb et hre hk1 hrun2 hh2 hx1
        generalize readX r = X at *
        have hcv : IntKind.i64.wrap X = X := by simp [IntKind.wrap, IntKind.bits, IntKind.signed]; omega
        go_enter Tryd.func30, Tryd.ntmps30
        go_wp2_with fail
        refine RD.out.mono ?_
        rintro e w' ⟨rfl, hw⟩
        subst hw
        go_wp2_with (refine wp_from rfl (.tmp 38) (.tmp 39) rfl _ _ _ rfl rfl H2.out ?_)
        go_ret
        exact R.out
    · have et : countS m (r, 0) = (0, (r, readE r)) := by simp [countS, hre]
      have R : Hid (CountDone w p (r, 0) m (.returned (.int .i64 0)) (w.setCell ⟨p, 1, none⟩ (.int .i64 (readE r)))) := hide ⟨by rw [et]; rfl, by rw [et]; exact HR.out.set1 (readE r), set_besides _ _ _ _, size_setCell _ _ _⟩
      have he' : (readE r == 0) = false := by simpa using hre
      clear HR HK hk ht hb et hre
      generalize readE r = E at *
      generalize readX r = X at *
      generalize readN r = N at *
      go_enter Tryd.func30, Tryd.ntmps30
      go_wp2_with fail
      refine RD.out.mono ?_
      rintro e w' ⟨rfl, hw⟩
      subst hw
      go_wp2
      go_ret
      exact R.out
  · have et : countS m (r, er) = (0, (r, er)) := countS_err (s := (r, er)) he
    have R : Hid (CountDone w p (r, er) m (.returned (.int .i64 0)) w) := hide ⟨by rw [et]; rfl, by rw [et]; exact HR.out, Besides.refl _ _ _, rfl⟩
    have he' : (er == 0) = false := by simpa using he
    clear HR HK hk ht hb et he RD
    go_enter Tryd.func30, Tryd.ntmps30
    go_wp2
    go_ret
    exact R.out

/-- What number answers. -/
def NumDone (w : World) (p : Nat) (s : RdS) (n : Nat) (e : Ending) (w' : World) : Prop :=
  e = .returned (.int .u64 (numS n s).1) ∧ Rd w' p (numS n s).2 ∧ Besides p p w w' ∧ w'.heap.size = w.heap.size
set_option maxRecDepth 100000 in
theorem rnum_any (w : World) (p : Nat) (s : RdS) (n : Nat) (h : Rd w p s) (hn : n = 4 ∨ n = 8) :
    Calls Tryd.prog 29 #[.pointer (some ⟨p, 0, none⟩), .int .i64 n] w (NumDone w p s n) := by
  have hb : AllB s.1 := by obtain ⟨v, -, -, -, -, hb, -⟩ := h; exact hb
  have T := hide (rtake_any w p s n h (by omega))
  have HX : Hid (getX (takeS n s).1 = (numS n s).1) := hide (by
    unfold getX numS
    rcases takeS_len n s with e | e
    · rw [e, if_pos (by rcases hn with rfl | rfl <;> rfl)]
    · rw [e]; rfl)
  have G := hide (fun v w (h : Bytes w v (takeS n s).1) => get_any (takeS n s).1 v w h (takeS_all hb).1)
  rw [HX.out] at G
  unfold TakeDone at T
  have HN : Hid ((takeS n s).2 = (numS n s).2) := hide rfl
  rw [HN.out] at T
  generalize getE (takeS n s).1 = ge at *
  generalize hX : (numS n s).1 = X at *
  generalize (takeS n s).1 = tl at *
  have HXX := hide hX
  clear hb h HX HN hX hn
  go_enter Tryd.func29, Tryd.ntmps29
  go_wp2_with fail
  refine T.out.mono ?_
  rintro e w1 ⟨v1, rfl, hr1, hk1, hbs1, hs1⟩
  have R : Hid (NumDone w p s n (.returned (.int .u64 X)) w1) := hide ⟨by rw [HXX.out], hr1, hbs1, hs1⟩
  have HK := hide hk1.self
  clear hr1 hk1 hbs1 hs1
  go_wp2_with fail
  refine (G.out _ _ HK.out).mono ?_
  rintro e w2 ⟨rfl, hw⟩
  subst hw
  go_wp2
  go_ret
  exact R.out

end Go.Proofs.YtjgainoplgojiabDoor
