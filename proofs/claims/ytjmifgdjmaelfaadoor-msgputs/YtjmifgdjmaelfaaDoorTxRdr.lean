import Derived.Test.YtjmifgdjmaelfaaDoorTxForm
import Derived.Test.YtjmifgdjmaelfaaDoorOctRead
import Derived.Test.YtjmifgdjmaelfaaDoorOctGet
import Derived.Test.YtjmifgdjmaelfaaDoorKit
import Derived.Test.YtjmifgdjmaelfaaDoorKitA
import Derived.Deep.RegionWith
import Derived.Test.YtjmifgdjmaelfaaDoorTxWr
import Derived.Great.BuildSlice
/-
  What the reader's take, count, number and hash answer at this program, whatever is left.
-/
namespace Go.Proofs.YtjmifgdjmaelfaaDoor
open Go.RowKit

/-- A reader in block p: what is left, and its error; the bytes lie below it. -/
def Rd (w : World) (p : Nat) (s : RdS) : Prop :=
  ∃ v, w.cell? ⟨p, 0, none⟩ = some v ∧ w.cell? ⟨p, 1, none⟩ = some (.int .i64 s.2) ∧ w.there p 0 2 ∧ Keeps (fun g => g < p) w (fun w => Bytes w v s.1) ∧ AllB s.1 ∧ s.1.length ≤ 900000
theorem Rd.lt {w : World} {p : Nat} {s : RdS} (h : Rd w p s) : p < w.heap.size := by
  obtain ⟨v, h1, -⟩ := h
  exact World.block_lt_of_cell? _ _ h1
theorem there_heap {w w' : World} {b o n : Nat} (h : w.there b o n) (e : w'.heap[b]? = w.heap[b]?) : w'.there b o n := fun j hj => by
  rw [World.cell?_of_block (w := w) (a := ⟨b, o + j, none⟩) e, World.frozen?_of_block (w := w) (a := ⟨b, o + j, none⟩) e]
  exact h j hj
theorem range_heap {w w' : World} {b o : Nat} {c : List Value} (h : w.rangeAt b o c) (e : w'.heap[b]? = w.heap[b]?) : w'.rangeAt b o c := fun j v hv => by
  rw [World.cell?_of_block (w := w) (a := ⟨b, o + j, none⟩) e]
  exact h j v hv
theorem Rd.move {w w1 : World} {p : Nat} {s : RdS} (h : Rd w p s) (hs : w.heap.size ≤ w1.heap.size) (hb : ∀ g, g ≤ p → w1.heap[g]? = w.heap[g]?) : Rd w1 p s := by
  obtain ⟨v, h1, h2, h3, h4, h5⟩ := h
  have e := hb p (Nat.le_refl _)
  exact ⟨v, (World.cell?_of_block (w := w) (a := ⟨p, 0, none⟩) e).trans h1, (World.cell?_of_block (w := w) (a := ⟨p, 1, none⟩) e).trans h2, there_heap h3 e, h4.step hs fun g _ hp => hb g (by omega), h5⟩
theorem Rd.on {w w1 : World} {p : Nat} {s : RdS} (h : Rd w p s) (hb : Below w.heap.size w w1) : Rd w1 p s := h.move hb.size fun g hg => hb.block g (by have := h.lt; omega)
theorem there_setC {w : World} {b o n : Nat} (h : w.there b o n) (a : Addr) (v : Value) : (w.setCell a v).there b o n := fun j hj => by
  obtain ⟨h1, h2⟩ := h j hj
  refine ⟨?_, by rw [World.frozen?_setCell]; exact h2⟩
  obtain ⟨u, hu⟩ := Option.isSome_iff_exists.1 h1
  by_cases e : a = ⟨b, o + j, none⟩
  · subst e
    rw [World.cell?_setCell_same _ _ _ hu]
    rfl
  · rw [World.cell?_setCell_other _ _ _ _ (by first | exact e | exact fun q => e q.symm), hu]
    rfl
theorem keeps_set {p : Nat} {w : World} {X : World → Prop} (h : Keeps (fun g => g < p) w X) (i : Nat) (v : Value) : Keeps (fun g => g < p) (w.setCell ⟨p, i, none⟩ v) X :=
  h.step (by rw [size_setCell]; exact Nat.le_refl _) fun g _ hp => Below.heap_setCell _ _ _ _ (by show g ≠ p; omega)
theorem Rd.set0 {w : World} {p : Nat} {s : RdS} (h : Rd w p s) {v1 : Value} {r : List Int} (hk : Keeps (fun g => g < p) w fun w => Bytes w v1 r) (hr : AllB r) (hl : r.length ≤ 900000) : Rd (w.setCell ⟨p, 0, none⟩ v1) p (r, s.2) := by
  obtain ⟨v, h1, h2, h3, h4, h5⟩ := h
  exact ⟨v1, World.cell?_setCell_same _ _ _ h1, by rw [World.cell?_setCell_other _ _ _ _ (by simp)]; exact h2, there_setC h3 _ _, keeps_set hk _ _, hr, hl⟩
theorem Rd.set1 {w : World} {p : Nat} {s : RdS} (h : Rd w p s) (e : Int) : Rd (w.setCell ⟨p, 1, none⟩ (.int .i64 e)) p (s.1, e) := by
  obtain ⟨v, h1, h2, h3, h4, h5⟩ := h
  exact ⟨v, by rw [World.cell?_setCell_other _ _ _ _ (by simp)]; exact h1, World.cell?_setCell_same _ _ _ h2, there_setC h3 _ _, keeps_set h4 _ _, h5⟩
theorem there_free0 {w : World} {p n : Nat} (h : w.there p 0 n) (i : Nat) (hi : i < n) : w.frozen? ⟨p, i, none⟩ = false := by
  have := (h i hi).2
  rwa [Nat.zero_add] at this
theorem set_besides (w : World) (p i : Nat) (v : Value) : Besides p p w (w.setCell ⟨p, i, none⟩ v) := (Besides.refl p p w).set _ (Or.inl rfl) v

/-- What take answers. -/
def TakeDone (w : World) (p : Nat) (s : RdS) (n : Nat) (e : Ending) (w' : World) : Prop :=
  ∃ v', e = .returned v' ∧ Rd w' p (takeS n s).2 ∧ Keeps (fun g => g < p) w' (fun w => Bytes w v' (takeS n s).1) ∧ Besides p p w w' ∧ w'.heap.size = w.heap.size
set_option maxRecDepth 100000 in
theorem rtake_any (w : World) (p : Nat) (s : RdS) (n : Nat) (h : Rd w p s) (_hn : n ≤ 1000) :
    Calls Tryd.prog 105 #[.pointer (some ⟨p, 0, none⟩), .int .i64 n] w (TakeDone w p s n) := by
  have HR := hide h
  obtain ⟨v, c0, c1, ht, hk, hb, hl⟩ := h
  have f0 := there_free0 ht 0 (by omega)
  have f1 := there_free0 ht 1 (by omega)
  have HK := hide hk
  obtain ⟨a, cap, rfl, hc1, hc2⟩ := hk.self.form
  obtain ⟨r, er⟩ := s
  simp only at *
  by_cases he : er = 0
  · subst he
    by_cases hlt : r.length < n
    · have et : takeS n (r, 0) = ([], (r, 4)) := by simp [takeS, hlt]
      have R : Hid (TakeDone w p (r, 0) n (.returned (.slice none 0 0)) (w.setCell ⟨p, 1, none⟩ (.int .i64 4))) := hide ⟨_, rfl, by rw [et]; exact HR.out.set1 4, by rw [et]; exact fun _ _ => Bytes.nil _, set_besides _ _ _ _, size_setCell _ _ _⟩
      have hlt' : (r.length : Int) < (n : Int) := by omega
      clear HR HK hk ht hb et hlt
      go_enter Tryd.func105, Tryd.ntmps105
      go_wp2
      go_ret
      exact R.out
    · have et : takeS n (r, 0) = (r.take n, (r.drop n, 0)) := by simp [takeS, hlt]
      obtain ⟨a1, hrun1, hh1⟩ := head_of a r.length cap n .i64 (by omega) hc1
      obtain ⟨a2, c2, hrun2, hh2⟩ := tail_of a r.length cap n .i64 (by omega)
      have R : Hid (TakeDone w p (r, 0) n (.returned (.slice a1 n cap)) (w.setCell ⟨p, 0, none⟩ (.slice a2 (r.length - n) c2))) := hide ⟨_, rfl, by
        rw [et]; exact HR.out.set0 (HK.out.map fun w h => hh2 w r h) (AllB.drop hb n) (by simp; omega), by
        rw [et]; exact keeps_set (HK.out.map fun w h => hh1 w r h) _ _, set_besides _ _ _ _, size_setCell _ _ _⟩
      have hlt' : ¬ (r.length : Int) < (n : Int) := by omega
      have H1 := hide hrun1
      have H2 := hide hrun2
      clear HR HK hk ht hb et hlt hrun1 hrun2 hh1 hh2
      go_enter Tryd.func105, Tryd.ntmps105
      go_wp2_with (first | (refine wp_upto rfl (.tmp 24) (.tmp 25) rfl _ _ _ rfl rfl H1.out ?_) | (refine wp_from rfl (.tmp 31) (.tmp 32) rfl _ _ _ rfl rfl H2.out ?_))
      go_ret
      exact R.out
  · have et : takeS n (r, er) = ([], (r, er)) := takeS_err (s := (r, er)) he
    have R : Hid (TakeDone w p (r, er) n (.returned (.slice none 0 0)) w) := hide ⟨_, rfl, by rw [et]; exact HR.out, by rw [et]; exact fun _ _ => Bytes.nil _, Besides.refl _ _ _, rfl⟩
    have he' : (er == 0) = false := by simpa using he
    clear HR HK hk ht hb et he
    go_enter Tryd.func105, Tryd.ntmps105
    go_wp2
    go_ret
    exact R.out

/-- What count answers. -/
def CountDone (w : World) (p : Nat) (s : RdS) (m : Nat) (e : Ending) (w' : World) : Prop :=
  e = .returned (.int .i64 ((countS m s).1 : Nat)) ∧ Rd w' p (countS m s).2 ∧ Besides p p w w' ∧ w'.heap.size = w.heap.size
set_option maxRecDepth 100000 in
theorem rcount_any (w : World) (p : Nat) (s : RdS) (m : Nat) (h : Rd w p s) (hm : m ≤ 64) :
    Calls Tryd.prog 88 #[.pointer (some ⟨p, 0, none⟩), .int .u64 m] w (CountDone w p s m) := by
  have HR := hide h
  obtain ⟨v, c0, c1, ht, hk, hb, hl⟩ := h
  have f0 := there_free0 ht 0 (by omega)
  have f1 := there_free0 ht 1 (by omega)
  have HK := hide hk
  obtain ⟨a, cap, rfl, hc1, hc2⟩ := hk.self.form
  have RD := hide (read_any s.1 _ w hk.self hb)
  obtain ⟨r, er⟩ := s
  simp only at *
  by_cases he : er = 0
  · subst he
    by_cases hre : readE r = 0
    · obtain ⟨k, hk1, hk2, hk3, hk4, -, hx0, hx1⟩ := read_ok r hb hre
      rw [hre, hk1] at RD
      by_cases hgt : (m : Int) < readX r
      · have et : countS m (r, 0) = (0, (r, 5)) := by simp [countS, hre, hgt]
        have R : Hid (CountDone w p (r, 0) m (.returned (.int .i64 0)) (w.setCell ⟨p, 1, none⟩ (.int .i64 5))) := hide ⟨by rw [et]; rfl, by rw [et]; exact HR.out.set1 5, set_besides _ _ _ _, size_setCell _ _ _⟩
        clear HR HK hk ht hb et hre hk1
        generalize readX r = X at *
        go_enter Tryd.func88, Tryd.ntmps88
        go_wp2_with fail
        refine RD.out.mono ?_
        rintro e w' ⟨rfl, hw⟩
        subst hw
        go_wp2
        go_ret
        exact R.out
      · obtain ⟨a2, c2, hrun2, hh2⟩ := tail_of a r.length cap k .i64 (by omega)
        have et : countS m (r, 0) = ((readX r).toNat, (r.drop k, 0)) := by simp [countS, hre, hgt, hk1]
        have R : Hid (CountDone w p (r, 0) m (.returned (.int .i64 (readX r))) (w.setCell ⟨p, 0, none⟩ (.slice a2 (r.length - k) c2))) := hide ⟨by
          rw [et]; show _ = Ending.returned (.int .i64 (((readX r).toNat : Nat) : Int)); rw [Int.toNat_of_nonneg hx0], by
          rw [et]; exact HR.out.set0 (HK.out.map fun w h => hh2 w r h) (AllB.drop hb k) (by simp; omega), set_besides _ _ _ _, size_setCell _ _ _⟩
        have H2 := hide hrun2
        have hxm : readX r ≤ 64 := by omega
        clear HR HK hk ht hb et hre hk1 hrun2 hh2 hx1
        generalize readX r = X at *
        have hcv : IntKind.i64.wrap X = X := by simp [IntKind.wrap, IntKind.bits, IntKind.signed]; omega
        go_enter Tryd.func88, Tryd.ntmps88
        go_wp2_with fail
        refine RD.out.mono ?_
        rintro e w' ⟨rfl, hw⟩
        subst hw
        go_wp2_with (refine wp_from rfl (.tmp 38) (.tmp 39) rfl _ _ _ rfl rfl H2.out ?_)
        go_ret
        exact R.out
    · have et : countS m (r, 0) = (0, (r, readE r)) := by simp [countS, hre]
      have R : Hid (CountDone w p (r, 0) m (.returned (.int .i64 0)) (w.setCell ⟨p, 1, none⟩ (.int .i64 (readE r)))) := hide ⟨by rw [et]; rfl, by rw [et]; exact HR.out.set1 (readE r), set_besides _ _ _ _, size_setCell _ _ _⟩
      have he' : (readE r == 0) = false := by simpa using hre
      clear HR HK hk ht hb et hre
      generalize readE r = E at *
      generalize readX r = X at *
      generalize readN r = N at *
      go_enter Tryd.func88, Tryd.ntmps88
      go_wp2_with fail
      refine RD.out.mono ?_
      rintro e w' ⟨rfl, hw⟩
      subst hw
      go_wp2
      go_ret
      exact R.out
  · have et : countS m (r, er) = (0, (r, er)) := countS_err (s := (r, er)) he
    have R : Hid (CountDone w p (r, er) m (.returned (.int .i64 0)) w) := hide ⟨by rw [et]; rfl, by rw [et]; exact HR.out, Besides.refl _ _ _, rfl⟩
    have he' : (er == 0) = false := by simpa using he
    clear HR HK hk ht hb et he RD
    go_enter Tryd.func88, Tryd.ntmps88
    go_wp2
    go_ret
    exact R.out

/-- What number answers. -/
def NumDone (w : World) (p : Nat) (s : RdS) (n : Nat) (e : Ending) (w' : World) : Prop :=
  e = .returned (.int .u64 (numS n s).1) ∧ Rd w' p (numS n s).2 ∧ Besides p p w w' ∧ w'.heap.size = w.heap.size
set_option maxRecDepth 100000 in
theorem rnum_any (w : World) (p : Nat) (s : RdS) (n : Nat) (h : Rd w p s) (hn : n = 4 ∨ n = 8) :
    Calls Tryd.prog 87 #[.pointer (some ⟨p, 0, none⟩), .int .i64 n] w (NumDone w p s n) := by
  have hb : AllB s.1 := by obtain ⟨v, -, -, -, -, hb, -⟩ := h; exact hb
  have T := hide (rtake_any w p s n h (by omega))
  have HX : Hid (getX (takeS n s).1 = (numS n s).1) := hide (by
    unfold getX numS
    rcases takeS_len n s with e | e
    · rw [e, if_pos (by rcases hn with rfl | rfl <;> rfl)]
    · rw [e]; rfl)
  have G := hide (fun v w (h : Bytes w v (takeS n s).1) => get_any (takeS n s).1 v w h (takeS_all hb).1)
  rw [HX.out] at G
  unfold TakeDone at T
  have HN : Hid ((takeS n s).2 = (numS n s).2) := hide rfl
  rw [HN.out] at T
  generalize getE (takeS n s).1 = ge at *
  generalize hX : (numS n s).1 = X at *
  generalize (takeS n s).1 = tl at *
  have HXX := hide hX
  clear hb h HX HN hX hn
  go_enter Tryd.func87, Tryd.ntmps87
  go_wp2_with fail
  refine T.out.mono ?_
  rintro e w1 ⟨v1, rfl, hr1, hk1, hbs1, hs1⟩
  have R : Hid (NumDone w p s n (.returned (.int .u64 X)) w1) := hide ⟨by rw [HXX.out], hr1, hbs1, hs1⟩
  have HK := hide hk1.self
  clear hr1 hk1 hbs1 hs1
  go_wp2_with fail
  refine (G.out _ _ HK.out).mono ?_
  rintro e w2 ⟨rfl, hw⟩
  subst hw
  go_wp2
  go_ret
  exact R.out

end Go.Proofs.YtjmifgdjmaelfaaDoor

/-
  What the reader's hash answers at this program, whatever is left.
-/
namespace Go.Proofs.YtjmifgdjmaelfaaDoor
open Go.RowKit

/-- A row that is a function's result. -/
theorem ret_row {P : Program} {fn : Func} {R : Ending → World → Prop} {a : Act} {w : World} (p : Tmp) (ty : TypeId) (hfn : fn.results = #[.cell p ty]) (b o : Nat) (hp : a.tmps.getD p undef = .pointer (some ⟨b, o, none⟩))
    (vs : List Value) (hA : w.rangeAt b o vs) (d : TypeDesc) (hu : P.underlying ty = some d) (hd : d.isRow = true) (hi : (P.info? ty).map (·.size) = some vs.length)
    (hdf : a.defers = []) (hR : R (.returned (.agg vs.toArray)) w) : bodyPost P fn R .ret a w := by
  refine bodyPost_ret (v := .agg vs.toArray) ?_ hdf hR
  have hp' : a.tmps[p]?.getD undef = .pointer (some ⟨b, o, none⟩) := by simpa using hp
  simp [results, hfn, hp', asAddr, run_loadVar_mid w b o ty vs d hA hu hd hi]
theorem vals_zeros : (vals .u8 (List.replicate 32 0)).toArray = #[.int .u8 0, .int .u8 0, .int .u8 0, .int .u8 0, .int .u8 0, .int .u8 0, .int .u8 0, .int .u8 0, .int .u8 0, .int .u8 0, .int .u8 0, .int .u8 0, .int .u8 0, .int .u8 0, .int .u8 0, .int .u8 0, .int .u8 0, .int .u8 0, .int .u8 0, .int .u8 0, .int .u8 0, .int .u8 0, .int .u8 0, .int .u8 0, .int .u8 0, .int .u8 0, .int .u8 0, .int .u8 0, .int .u8 0, .int .u8 0, .int .u8 0, .int .u8 0] := rfl
theorem there_sets {w : World} {b o n : Nat} (h : w.there b o n) (b' o' : Nat) (vs : List Value) : (w.setCells b' o' vs).there b o n := World.there_setCells h b' o' vs
theorem sets_besides {p : Nat} {w w' : World} (h : Besides p p w w') (b o : Nat) (vs : List Value) (hb : w.heap.size ≤ b) : Besides p p w (w'.setCells b o vs) :=
  ⟨(below_sets (B := 0) (Nat.zero_le b) vs o w' (Below.refl 0 w')).os.trans h.os, (below_sets (B := 0) (Nat.zero_le b) vs o w' (Below.refl 0 w')).tape.trans h.tape, (below_sets (B := 0) (Nat.zero_le b) vs o w' (Below.refl 0 w')).output.trans h.output, by rw [size_setCells]; exact h.size, fun k hk h1 h2 =>
    ((below_sets (B := b) (Nat.le_refl b) vs o w' (Below.refl b w')).block k (by omega)).trans (h.block k hk h1 h2)⟩

/-- 'copy', of bytes into cells that are there. -/
theorem run_copy_any (w : World) (ty : TypeId) (b off dLen dCap : Nat) (src : Value) (l : List Int) (hsrc : Bytes w src l) (hl : l.length ≤ dLen) (ht : w.there b off dLen) :
    (Builtin.copy_ #[29, 29] ty #[.slice (some ⟨b, off, none⟩) dLen dCap, src]).run Tryd.prog w = .ok (.int .i64 l.length) (w.setCells b off (vals .u8 l)) := by
  rcases Nat.eq_zero_or_pos l.length with h0 | h0
  · obtain rfl : l = [] := List.length_eq_zero_iff.1 h0
    obtain ⟨sa, cap, rfl, -⟩ := hsrc.empty
    exact run_copy_none (P := Tryd.prog) w 29 29 ty 5 _ _ _ _ _ _ Tryd.underlying29 (by kernel_rfl) (by simp)
  · obtain ⟨sb, soff, cap, rfl, h1, h2, hc⟩ := hsrc.lies h0
    have hrun := run_copy_cells (P := Tryd.prog) w 29 29 ty 5 b off dLen dCap ⟨sb, soff, none⟩ l.length cap (vals .u8 l) Tryd.underlying29 (by kernel_rfl) (by rw [vals_length]; exact (Nat.min_eq_left hl).symm)
      (fun j v hv => by
        have hj : j < l.length := by have := (List.getElem?_eq_some_iff.1 hv).1; rwa [vals_length] at this
        rw [Addr.add_mid, hc j (by omega), ← hv, vals_get .u8 l j hj])
      (fun j hj => by rw [vals_length] at hj; exact (ht j (by omega)).1) (fun j hj => by rw [vals_length] at hj; exact (ht j (by omega)).2)
      (vals_cell .u8 l)
    rw [vals_length] at hrun
    exact hrun
/-- What hash answers. -/
def HashDone (w : World) (p : Nat) (s : RdS) (e : Ending) (w' : World) : Prop :=
  e = .returned (.agg (vals .u8 (hashS s).1).toArray) ∧ Rd w' p (hashS s).2 ∧ Besides p p w w'
set_option maxRecDepth 100000 in
set_option maxHeartbeats 1000000 in
theorem rhash_any (w : World) (p : Nat) (s : RdS) (h : Rd w p s) :
    Calls Tryd.prog 106 #[.pointer (some ⟨p, 0, none⟩)] w (HashDone w p s) := by
  have hb : AllB s.1 := by obtain ⟨v, -, -, -, -, hb, -⟩ := h; exact hb
  have hplt := h.lt
  obtain ⟨W1, hW1⟩ : ∃ W1, W1 = w.alloc (.cells #[.int .u8 0, .int .u8 0, .int .u8 0, .int .u8 0, .int .u8 0, .int .u8 0, .int .u8 0, .int .u8 0, .int .u8 0, .int .u8 0, .int .u8 0, .int .u8 0, .int .u8 0, .int .u8 0, .int .u8 0, .int .u8 0, .int .u8 0, .int .u8 0, .int .u8 0, .int .u8 0, .int .u8 0, .int .u8 0, .int .u8 0, .int .u8 0, .int .u8 0, .int .u8 0, .int .u8 0, .int .u8 0, .int .u8 0, .int .u8 0, .int .u8 0, .int .u8 0] 36) := ⟨_, rfl⟩
  obtain ⟨W2, hW2⟩ : ∃ W2, W2 = W1.alloc (.cells #[.int .u8 0, .int .u8 0, .int .u8 0, .int .u8 0, .int .u8 0, .int .u8 0, .int .u8 0, .int .u8 0, .int .u8 0, .int .u8 0, .int .u8 0, .int .u8 0, .int .u8 0, .int .u8 0, .int .u8 0, .int .u8 0, .int .u8 0, .int .u8 0, .int .u8 0, .int .u8 0, .int .u8 0, .int .u8 0, .int .u8 0, .int .u8 0, .int .u8 0, .int .u8 0, .int .u8 0, .int .u8 0, .int .u8 0, .int .u8 0, .int .u8 0, .int .u8 0] 36) := ⟨_, rfl⟩
  have s1 : W1.heap.size = w.heap.size + 1 := by rw [hW1]; exact alloc_size _ _
  have b1 : Below w.heap.size w W1 := by rw [hW1]; exact (Below.refl _ _).alloc (Nat.le_refl _) _
  have b2 : Below W1.heap.size W1 W2 := by rw [hW2]; exact (Below.refl _ _).alloc (Nat.le_refl _) _
  have t1 : W1.there w.heap.size 0 32 := by rw [hW1]; exact there_new w _ _
  have A2 : Arr W2 W1.heap.size 0 .u8 (List.replicate 32 0) := by rw [hW2]; have := Arr.new W1 .u8 (List.replicate 32 0) 36; rw [vals_zeros] at this; exact this
  have t2 : W2.there w.heap.size 0 32 := there_on t1 b2
  have s2 : W2.heap.size = w.heap.size + 2 := by rw [hW2, alloc_size, s1]
  rw [s1] at A2
  have HHL : Hid ((hashS s).1.length = 32) := hide (hashS_all hb).2.1
  have hbs0 : Besides p p w W2 := .of_below (below_on b1 b2)
  have hne1 : w.heap.size + 1 ≠ p := by omega
  have hne0 : w.heap.size ≠ p := by omega
  have T : Hid (Calls Tryd.prog 105 #[.pointer (some ⟨p, 0, none⟩), .int .i64 32] W2.drew fun e w' => ∃ v', e = .returned v' ∧ Rd w' p (hashS s).2 ∧ Bytes w' v' (takeS 32 s).1 ∧ Besides p p w w' ∧ Arr w' (w.heap.size + 1) 0 .u8 (List.replicate 32 0) ∧ w'.there w.heap.size 0 32 ∧ w.heap.size + 2 ≤ w'.heap.size) := hide (by
    refine (rtake_any W2.drew p s 32 ((h.on (below_on b1 b2)).on (Below.refl _ _).drew) (by omega)).mono ?_
    rintro e w' ⟨v', rfl, hr, hk, hbs, hs⟩
    have hs2 : W2.drew.heap.size = w.heap.size + 2 := s2
    have e1 : w'.heap[w.heap.size + 1]? = W2.heap[w.heap.size + 1]? := hbs.block (w.heap.size + 1) (by omega) hne1 hne1
    have e0 : w'.heap[w.heap.size]? = W2.heap[w.heap.size]? := hbs.block w.heap.size (by omega) hne0 hne0
    exact ⟨v', rfl, hr, hk.self, hbs0.drew.trans hbs, ⟨range_heap A2.1 e1, there_heap A2.2 e1⟩, there_heap t2 e0, by omega⟩)
  have HP : Hid (pad32 (takeS 32 s).1 = (hashS s).1) := hide rfl
  have HTL : Hid ((takeS 32 s).1.length ≤ 32) := hide (takeS_all (n := 32) hb).2.2.2
  generalize (takeS 32 s).1 = tl at *
  have HPL := hide hplt
  have E1 := hide hW1
  have E2 := hide hW2
  clear hW1 hW2 t1 t2 A2 b1 b2 hb h hbs0 s2 hne0 hne1 s1 hplt
  go_enter Tryd.func106, Tryd.ntmps106
  go_upto_region 2 with fail
  rw [← E1.out, ← E2.out]
  clear E1 E2
  go_region_with (first
    | (go_at_call 105; (with_reducible refine T.out.mono ?_); rintro e w3 ⟨v3, rfl, hr3, hk3, hbs3, hA3, ht3, hs3⟩; have hcp := run_copy_any w3 3 (w.heap.size + 1) 0 32 32 v3 tl hk3 HTL.out hA3.2))
  all_goals
    have hov := hA3.over 0 tl (by have := HTL.out; simp; omega)
    have e0 : (List.replicate 32 (0 : Int)).take 0 ++ (tl ++ (List.replicate 32 (0 : Int)).drop (0 + tl.length)) = (hashS s).1 := by
      rw [← HP.out]
      unfold pad32
      rw [List.take_zero, List.nil_append, Nat.zero_add, List.drop_replicate]
    rw [e0] at hov
    have HA4 := hide hov
    have HT4 := hide (there_sets ht3 (w.heap.size + 1) 0 (vals .u8 tl))
    have HB4 := hide (sets_besides hbs3 (w.heap.size + 1) 0 (vals .u8 tl) (by omega))
    have HR4 : Hid (Rd (w3.setCells (w.heap.size + 1) 0 (vals .u8 tl)) p (hashS s).2) := hide (hr3.move (by rw [size_setCells]; exact Nat.le_refl _) fun g hg => (below_sets (B := w.heap.size + 1) (Nat.le_refl _) _ _ _ (Below.refl _ _)).block g (by have := HPL.out; omega))
    clear hov e0 hcp hk3 hbs3 hA3 ht3 hs3 hr3 T
    generalize w3.setCells (w.heap.size + 1) 0 (vals .u8 tl) = W4 at *
    go_wp2_with (first | (refine wp_load_arr rfl 36 (.tmp 3) rfl _ 0 rfl .u8 (hashS s).1 HA4.out _ Tryd.underlying36 rfl 32 info_hash HHL.out ?_) | (refine wp_store_arr rfl 36 (.tmp 2) (.tmp 8) rfl _ 0 .u8 (hashS s).1 rfl rfl 32 HT4.out info_hash HHL.out ?_))
    refine ret_arr 2 36 rfl w.heap.size 0 rfl .u8 (hashS s).1 (Arr.put (by rw [HHL.out]; exact HT4.out)) _ Tryd.underlying36 rfl 32 info_hash HHL.out rfl ⟨rfl, ?_, ?_⟩
    · exact HR4.out.move (by rw [size_setCells]; exact Nat.le_refl _) fun g hg => (below_sets (B := w.heap.size) (Nat.le_refl _) _ _ _ (Below.refl _ _)).block g (by have := HPL.out; omega)
    · exact sets_besides HB4.out _ _ _ (Nat.le_refl _)

end Go.Proofs.YtjmifgdjmaelfaaDoor

/-
  What the reader's in and out answer at this program, whatever is left.
-/
namespace Go.Proofs.YtjmifgdjmaelfaaDoor
open Go.RowKit

theorem range_sets_left {w : World} {b o : Nat} {c c' d : List Value} (h : w.rangeAt b o (c ++ d)) (hl : c'.length = c.length) (ht : w.there b o c'.length) : (w.setCells b o c').rangeAt b o (c' ++ d) := fun j v hv => by
  by_cases hj : j < c'.length
  · rw [List.getElem?_append_left hj] at hv
    exact World.rangeAt_setCells_same _ _ _ _ ht j v hv
  · rw [World.cell?_setCells_out _ _ _ _ _ (fun _ _ => Or.inr (by show o + c'.length ≤ o + j; omega))]
    refine h j v ?_
    rw [List.getElem?_append_right (by omega)] at hv ⊢
    rw [← hl]
    exact hv
theorem range_sets_right {w : World} {b o : Nat} {c d d' : List Value} (h : w.rangeAt b o (c ++ d)) (_hl : d'.length = d.length) (ht : w.there b (o + c.length) d'.length) : (w.setCells b (o + c.length) d').rangeAt b o (c ++ d') := fun j v hv => by
  by_cases hj : j < c.length
  · rw [World.cell?_setCells_out _ _ _ _ _ (fun _ _ => Or.inl (by show o + j < o + c.length; omega))]
    refine h j v ?_
    rw [List.getElem?_append_left hj] at hv ⊢
    exact hv
  · rw [List.getElem?_append_right (by omega)] at hv
    have := World.rangeAt_setCells_same w b (o + c.length) d' ht (j - c.length) v hv
    rwa [show o + c.length + (j - c.length) = o + j by omega] at this
theorem range_set {w : World} {b : Nat} {c : List Value} (h : w.rangeAt b 0 c) (i : Nat) (hi : i < c.length) (u : Value) : (w.setCell ⟨b, i, none⟩ u).rangeAt b 0 (c.set i u) := fun j v hv => by
  rw [Nat.zero_add]
  by_cases e : i = j
  · subst e
    have h0 := h i c[i] (List.getElem?_eq_getElem hi)
    rw [Nat.zero_add] at h0
    rw [World.cell?_setCell_same _ _ _ h0, ← hv]
    simp [hi]
  · rw [World.cell?_setCell_other _ _ _ _ (by simp)]
    have h0 := h j v (by rw [List.getElem?_set_ne e] at hv; exact hv)
    rwa [Nat.zero_add] at h0
/-- An input's cells in a block of the call's own. -/
def InBox (w : World) (q : Nat) (tx : List Int) (n : Int) (kv : Value) : Prop := w.rangeAt q 0 (vals .u8 tx ++ [.int .u32 n, kv]) ∧ w.there q 0 34 ∧ tx.length = 32
theorem InBox.heap {w w' : World} {q : Nat} {tx : List Int} {n : Int} {kv : Value} (h : InBox w q tx n kv) (e : w'.heap[q]? = w.heap[q]?) : InBox w' q tx n kv := ⟨range_heap h.1 e, there_heap h.2.1 e, h.2.2⟩
theorem InBox.tx {w : World} {q : Nat} {tx : List Int} {n : Int} {kv : Value} (h : InBox w q tx n kv) (t' : List Int) (hl : t'.length = 32) : InBox (w.setCells q 0 (vals .u8 t')) q t' n kv :=
  ⟨range_sets_left h.1 (by rw [vals_length, vals_length, hl, h.2.2]) (by rw [vals_length, hl]; exact there_part h.2.1 0 32 (by omega)), there_sets h.2.1 _ _ _, hl⟩
theorem InBox.n {w : World} {q : Nat} {tx : List Int} {n : Int} {kv : Value} (h : InBox w q tx n kv) (m : Int) : InBox (w.setCell ⟨q, 32, none⟩ (.int .u32 m)) q tx m kv := by
  have hv : (vals .u8 tx).length = 32 := by rw [vals_length]; exact h.2.2
  refine ⟨?_, there_setC h.2.1 _ _, h.2.2⟩
  have := range_set h.1 32 (by simp [hv]) (.int .u32 m)
  rw [List.set_append_right _ _ (by omega), hv] at this
  exact this
theorem InBox.key {w : World} {q : Nat} {tx : List Int} {n : Int} {kv : Value} (h : InBox w q tx n kv) (u : Value) : InBox (w.setCell ⟨q, 33, none⟩ u) q tx n u := by
  have hv : (vals .u8 tx).length = 32 := by rw [vals_length]; exact h.2.2
  refine ⟨?_, there_setC h.2.1 _ _, h.2.2⟩
  have := range_set h.1 33 (by simp [hv]) u
  rw [List.set_append_right _ _ (by omega), hv] at this
  exact this
theorem InBox.cells {w : World} {q : Nat} {tx : List Int} {n : Int} {kv : Value} (h : InBox w q tx n kv) : (∃ u, w.cell? ⟨q, 32, none⟩ = some u) ∧ w.cell? ⟨q, 33, none⟩ = some kv ∧ w.frozen? ⟨q, 32, none⟩ = false ∧ w.frozen? ⟨q, 33, none⟩ = false := by
  have := inC_key (x := (⟨tx, n, []⟩, kv)) h.1 h.2.2
  simp only [Nat.zero_add] at this
  exact ⟨⟨_, this.2⟩, this.1, there_free0 h.2.1 32 (by omega), there_free0 h.2.1 33 (by omega)⟩
theorem box_besides {p : Nat} {w w' : World} (h : Besides p p w w') (q i : Nat) (v : Value) (hb : w.heap.size ≤ q) : Besides p p w (w'.setCell ⟨q, i, none⟩ v) := sets_besides h q i [v] hb
theorem Rd.box {w : World} {p : Nat} {s : RdS} (h : Rd w p s) (q i : Nat) (v : Value) (hq : p < q) : Rd (w.setCell ⟨q, i, none⟩ v) p s :=
  h.move (by rw [size_setCell]; exact Nat.le_refl _) fun g hg => Below.heap_setCell _ _ _ _ (by show g ≠ q; omega)
theorem Rd.boxes {w : World} {p : Nat} {s : RdS} (h : Rd w p s) (q o : Nat) (vs : List Value) (hq : p < q) : Rd (w.setCells q o vs) p s :=
  h.move (by rw [size_setCells]; exact Nat.le_refl _) fun g hg => (below_sets (B := q) (Nat.le_refl _) vs o w (Below.refl _ _)).block g (by omega)
theorem there_beside {w w' : World} {p b o n : Nat} (h : w.there b o n) (hb : Besides p p w w') (hlt : b < w.heap.size) (hne : b ≠ p) : w'.there b o n := there_heap h (hb.block b hlt hne hne)

/-- What in answers. -/
def InDone (w : World) (p : Nat) (s : RdS) (e : Ending) (w' : World) : Prop :=
  ∃ kv, e = .returned (.agg (inC ((inS s).1, kv)).toArray) ∧ Rd w' p (inS s).2 ∧ Besides p p w w' ∧ Bytes w' kv (inS s).1.key ∧ ∀ k, kv.ownBlock = some k → w.heap.size ≤ k ∧ k < w'.heap.size
set_option maxRecDepth 100000 in
set_option maxHeartbeats 2000000 in
theorem rin_any (w : World) (p : Nat) (s : RdS) (h : Rd w p s) :
    Calls Tryd.prog 89 #[.pointer (some ⟨p, 0, none⟩)] w (InDone w p s) := by
  have hb : AllB s.1 := by obtain ⟨v, -, -, -, -, hb, -⟩ := h; exact hb
  have hplt := h.lt
  obtain ⟨W1, hW1⟩ : ∃ W1, W1 = w.alloc (.cells #[.int .u8 0, .int .u8 0, .int .u8 0, .int .u8 0, .int .u8 0, .int .u8 0, .int .u8 0, .int .u8 0, .int .u8 0, .int .u8 0, .int .u8 0, .int .u8 0, .int .u8 0, .int .u8 0, .int .u8 0, .int .u8 0, .int .u8 0, .int .u8 0, .int .u8 0, .int .u8 0, .int .u8 0, .int .u8 0, .int .u8 0, .int .u8 0, .int .u8 0, .int .u8 0, .int .u8 0, .int .u8 0, .int .u8 0, .int .u8 0, .int .u8 0, .int .u8 0, .int .u32 0, .slice none 0 0] 64) := ⟨_, rfl⟩
  obtain ⟨W2, hW2⟩ : ∃ W2, W2 = W1.alloc (.cells #[.int .u8 0, .int .u8 0, .int .u8 0, .int .u8 0, .int .u8 0, .int .u8 0, .int .u8 0, .int .u8 0, .int .u8 0, .int .u8 0, .int .u8 0, .int .u8 0, .int .u8 0, .int .u8 0, .int .u8 0, .int .u8 0, .int .u8 0, .int .u8 0, .int .u8 0, .int .u8 0, .int .u8 0, .int .u8 0, .int .u8 0, .int .u8 0, .int .u8 0, .int .u8 0, .int .u8 0, .int .u8 0, .int .u8 0, .int .u8 0, .int .u8 0, .int .u8 0, .int .u32 0, .slice none 0 0] 64) := ⟨_, rfl⟩
  have s1 : W1.heap.size = w.heap.size + 1 := by rw [hW1]; exact alloc_size _ _
  have b1 : Below w.heap.size w W1 := by rw [hW1]; exact (Below.refl _ _).alloc (Nat.le_refl _) _
  have b2 : Below W1.heap.size W1 W2 := by rw [hW2]; exact (Below.refl _ _).alloc (Nat.le_refl _) _
  have t1 : W1.there w.heap.size 0 34 := by rw [hW1]; exact in_there w
  have t2 : W2.there w.heap.size 0 34 := there_on t1 b2
  have x2 : InBox W2 (w.heap.size + 1) (List.replicate 32 0) 0 (.slice none 0 0) := by
    rw [← s1, hW2]
    exact ⟨range_new W1 (vals .u8 (List.replicate 32 0) ++ [.int .u32 0, .slice none 0 0]) 64, in_there W1, by simp⟩
  have s2 : W2.heap.size = w.heap.size + 2 := by rw [hW2, alloc_size, s1]
  have hbs2 : Besides p p w W2 := .of_below (below_on b1 b2)
  obtain ⟨g1, g2, g3, -⟩ := inS_all hb
  obtain ⟨a1, a2, a3, a4⟩ := hashS_all hb
  have n1 : 0 ≤ (numS 4 (hashS s).2).1 ∧ (numS 4 (hashS s).2).1 < 4294967296 := g1.2.2.1
  have HA := hide (rhash_any W2 p s (h.on (below_on b1 b2)))
  have HNU := hide (fun wx h => rnum_any wx p (hashS s).2 4 h (Or.inl rfl))
  have HCO := hide (fun wx h => rcount_any wx p (numS 4 (hashS s).2).2 64 h (Nat.le_refl _))
  have HTA := hide (fun wx h => rtake_any wx p (countS 64 (numS 4 (hashS s).2).2).2 (countS 64 (numS 4 (hashS s).2).2).1 h (by have := (countS_all (n := 64) (s := (numS 4 (hashS s).2).2) (takeS_all (n := 4) a3).2.1).2.1; omega))
  have HKL : Hid ((inS s).1.key.length ≤ 64) := hide g2
  have HEND : Hid ((inS s).1 = ⟨(hashS s).1, (numS 4 (hashS s).2).1, (takeS (countS 64 (numS 4 (hashS s).2).2).1 (countS 64 (numS 4 (hashS s).2).2).2).1⟩ ∧ (inS s).2 = (takeS (countS 64 (numS 4 (hashS s).2).2).1 (countS 64 (numS 4 (hashS s).2).2).2).2) := hide ⟨rfl, rfl⟩
  unfold HashDone at HA
  unfold NumDone at HNU
  unfold CountDone at HCO
  unfold TakeDone at HTA
  rw [show ((4 : Nat) : Int) = 4 from rfl] at HNU
  rw [show ((64 : Nat) : Int) = 64 from rfl] at HCO
  generalize hashS s = A at *
  generalize numS 4 A.2 = B at *
  generalize countS 64 B.2 = C at *
  generalize takeS C.1 C.2 = D at *
  obtain ⟨tx, sa⟩ := A
  obtain ⟨nn, sb⟩ := B
  obtain ⟨cc, sc⟩ := C
  obtain ⟨kk, sd⟩ := D
  simp only at *
  have HX2 := hide x2
  have HT2 := hide t2
  have HBS2 := hide hbs2
  have E1 := hide hW1
  have E2 := hide hW2
  have HPL := hide hplt
  have S2 := hide s2
  have HTL := hide a2
  have hwr : IntKind.u32.wrap nn = nn := by simp [IntKind.wrap, IntKind.bits, IntKind.signed]; omega
  clear hW1 hW2 t1 t2 x2 b1 b2 hb h hbs2 s1 s2 g1 g2 g3 a1 a2 a3 a4 hplt n1
  go_enter Tryd.func89, Tryd.ntmps89
  go_upto_region 2 with fail
  rw [← E1.out, ← E2.out]
  clear E1 E2
  generalize hg : w.heap.size = g at *
  have HG := hide hg
  clear hg
  -- the hash
  go_wp2_with fail
  refine HA.out.mono ?_
  rintro e w3 ⟨rfl, hr3, hbs3⟩
  have l2 := S2.out
  have lp := HPL.out
  have hx3 := HX2.out.heap (hbs3.block (g + 1) (by omega) (by omega) (by omega))
  have ht3 := there_beside HT2.out hbs3 (by omega) (by omega)
  have hs3 := hbs3.size
  have HX4 := hide (hx3.tx tx HTL.out)
  have HT4 := hide (there_sets ht3 (g + 1) 0 (vals .u8 tx))
  have HR4 := hide (hr3.boxes (g + 1) 0 (vals .u8 tx) (by omega))
  have HB4 : Hid (Besides p p w (w3.setCells (g + 1) 0 (vals .u8 tx))) := hide (sets_besides (HBS2.out.trans hbs3) _ _ _ (by rw [HG.out]; omega))
  have HS4 : Hid (g + 2 ≤ (w3.setCells (g + 1) 0 (vals .u8 tx)).heap.size) := hide (by rw [size_setCells]; omega)
  have HTH3 : Hid (w3.there (g + 1) 0 32) := hide (there_part hx3.2.1 0 32 (by omega))
  clear hr3 hbs3 hx3 ht3 hs3 l2 lp HA HX2 HT2 HBS2
  go_upto_region 3 with (refine wp_store_arr rfl 36 (.tmp 7) (.tmp 5) rfl (g + 1) 0 .u8 tx rfl rfl 32 HTH3.out info_hash HTL.out ?_)
  generalize w3.setCells (g + 1) 0 (vals .u8 tx) = W4 at *
  clear HTH3
  -- the number
  go_wp2_with fail
  refine (HNU.out _ HR4.out).mono ?_
  rintro e w5 ⟨rfl, hr5, hbs5, hs5⟩
  have lp := HPL.out
  have l4 := HS4.out
  have hx5 := HX4.out.heap (hbs5.block (g + 1) (by omega) (by omega) (by omega))
  have ht5 := there_beside HT4.out hbs5 (by omega) (by omega)
  obtain ⟨⟨u32, c32⟩, -, f32, -⟩ := hx5.cells
  have HX6 := hide (hx5.n nn)
  have HT6 := hide (there_setC ht5 ⟨g + 1, 32, none⟩ (.int .u32 nn))
  have HR6 := hide (hr5.box (g + 1) 32 (.int .u32 nn) (by omega))
  have HB6 : Hid (Besides p p w (w5.setCell ⟨g + 1, 32, none⟩ (.int .u32 nn))) := hide (box_besides (HB4.out.trans hbs5) _ _ _ (by rw [HG.out]; omega))
  have HS6 : Hid (g + 2 ≤ (w5.setCell ⟨g + 1, 32, none⟩ (.int .u32 nn)).heap.size) := hide (by rw [size_setCell]; omega)
  clear hr5 hbs5 hx5 ht5 hs5 lp l4 HNU HX4 HT4 HB4 HR4 HS4
  go_upto_region 4 with fail
  generalize w5.setCell ⟨g + 1, 32, none⟩ (.int .u32 nn) = W6 at *
  clear c32 f32
  -- the key
  go_wp2_with fail
  refine (HCO.out _ HR6.out).mono ?_
  rintro e w7 ⟨rfl, hr7, hbs7, hs7⟩
  have lp := HPL.out
  have l6 := HS6.out
  have HX7 := hide (HX6.out.heap (hbs7.block (g + 1) (by omega) (by omega) (by omega)))
  have HT7 := hide (there_beside HT6.out hbs7 (by omega) (by omega))
  have HR7 := hide hr7
  have HB7 := hide (HB6.out.trans hbs7)
  have HS7 : Hid (g + 2 ≤ w7.heap.size) := hide (by omega)
  clear hr7 hbs7 hs7 lp l6 HCO HX6 HT6 HB6 HR6 HS6
  go_wp2_with fail
  refine (HTA.out _ HR7.out).mono ?_
  rintro e w8 ⟨v8, rfl, hr8, hk8, hbs8, hs8⟩
  have lp := HPL.out
  have l7 := HS7.out
  have HX8 := hide (HX7.out.heap (hbs8.block (g + 1) (by omega) (by omega) (by omega)))
  have HT8 := hide (there_beside HT7.out hbs8 (by omega) (by omega))
  have HR8 := hide hr8
  have HB8 := hide (HB7.out.trans hbs8)
  have HS8 : Hid (g + 2 ≤ w8.heap.size) := hide (by omega)
  have hkl : kk.length ≤ 900000 := by
    have h1 := HKL.out
    rw [HEND.out.1] at h1
    simp only at h1
    omega
  have CL := hide (clone_any kk v8 w8 hk8.self hkl)
  clear hr8 hk8 hbs8 hs8 lp l7 hkl HTA HX7 HT7 HB7 HR7 HS7
  go_wp2_with fail
  refine CL.out.mono ?_
  rintro e w9 ⟨kv, rfl, hown9, hb9⟩
  have lp := HPL.out
  have l8 := HS8.out
  have hx9 := HX8.out.heap (hb9.block (g + 1) (by omega))
  have ht9 := there_on HT8.out hb9
  obtain ⟨-, c33, -, f33⟩ := hx9.cells
  have hone : kv.oneCell' = true := hown9.bytes.oneCell
  have HX10 := hide (hx9.key kv)
  have HT10 := hide (there_setC ht9 ⟨g + 1, 33, none⟩ kv)
  have HR10 := hide ((HR8.out.on hb9).box (g + 1) 33 kv (by omega))
  have HB10 : Hid (Besides p p w (w9.setCell ⟨g + 1, 33, none⟩ kv)) := hide (box_besides (HB8.out.on hb9) _ _ _ (by rw [HG.out]; omega))
  have HOB : Hid (∀ k, kv.ownBlock = some k → g + 2 ≤ k ∧ k < (w9.setCell ⟨g + 1, 33, none⟩ kv).heap.size) := hide (fun k hk => by
    have := World.ownsRow.lt hown9 k hk
    rw [size_setCell]
    omega)
  have HBY : Hid (Bytes (w9.setCell ⟨g + 1, 33, none⟩ kv) kv kk) := hide (hown9.bytes.keeps (P := fun k => k ≠ g + 1) (fun k hk => by have := (World.ownsRow.lt hown9 k hk).1; omega) _ fun k _ hk => Below.heap_setCell _ _ _ _ (by show k ≠ g + 1; exact hk))
  have HONE := hide hone
  obtain ⟨pa, pc, rfl, -, -⟩ := hown9.bytes.form
  clear hown9 hb9 hx9 ht9 lp l8 CL HX8 HT8 HB8 HR8 HS8 hone
  go_upto_region 5 with fail
  generalize w9.setCell ⟨g + 1, 33, none⟩ (.slice pa kk.length pc) = W10 at *
  clear c33 f33
  generalize hkv : Value.slice pa kk.length pc = kv at *
  have HKV := hide hkv
  clear hkv
  have HLEN : Hid ((inC (⟨tx, nn, kk⟩, kv)).length = 34) := hide (inC_length HTL.out)
  have HN : Hid ((Tryd.prog.info? 64).map (·.size) = some (inC (⟨tx, nn, kk⟩, kv)).length) := hide (by rw [HLEN.out]; exact info_in)
  have HTT : Hid (W10.there g 0 (inC (⟨tx, nn, kk⟩, kv)).length) := hide (by rw [HLEN.out]; exact HT10.out)
  go_wp2_with (first | (refine wpList_load_mid rfl 64 (.tmp 3) rfl (g + 1) 0 rfl (inC (⟨tx, nn, kk⟩, kv)) _ HX10.out.1 Tryd.underlying64 rfl HN.out ?_) | (refine wp_store_row rfl 64 (.tmp 2) (.tmp 19) rfl g 0 (inC (⟨tx, nn, kk⟩, kv)) rfl rfl HTT.out HN.out (inC_one HONE.out) ?_))
  refine ret_row 2 64 rfl g 0 rfl (inC (⟨tx, nn, kk⟩, kv)) (World.rangeAt_setCells_same _ _ _ _ HTT.out) _ Tryd.underlying64 rfl HN.out rfl ⟨kv, by rw [HEND.out.1], ?_, ?_, ?_, ?_⟩
  · rw [HEND.out.2]
    exact HR10.out.boxes g 0 _ (by have := HPL.out; omega)
  · exact sets_besides HB10.out g 0 _ (by rw [HG.out]; exact Nat.le_refl _)
  · rw [HEND.out.1]
    exact HBY.out.keeps (P := fun k => g < k) (fun k hk => by have := HOB.out k hk; omega) _ fun k hlt hk => by
      exact (Besides.sets (p := g) (q := g) (w := W10) (Or.inl rfl) (inC (⟨tx, nn, kk⟩, kv)) 0 W10 (Besides.refl _ _ _)).block k hlt (by omega) (by omega)
  · intro k hk
    rw [HG.out, size_setCells]
    have := HOB.out k hk
    omega

end Go.Proofs.YtjmifgdjmaelfaaDoor

/-
  What the reader's out answers at this program, whatever is left.
-/
namespace Go.Proofs.YtjmifgdjmaelfaaDoor
open Go.RowKit

/-- An output's cells in a block of the call's own. -/
def OutBox (w : World) (q : Nat) (x : Int) (lk : List Int) : Prop := w.rangeAt q 0 ([.int .u64 x] ++ vals .u8 lk) ∧ w.there q 0 33 ∧ lk.length = 32
theorem OutBox.heap {w w' : World} {q : Nat} {x : Int} {lk : List Int} (h : OutBox w q x lk) (e : w'.heap[q]? = w.heap[q]?) : OutBox w' q x lk := ⟨range_heap h.1 e, there_heap h.2.1 e, h.2.2⟩
theorem OutBox.lock {w : World} {q : Nat} {x : Int} {lk : List Int} (h : OutBox w q x lk) (t' : List Int) (hl : t'.length = 32) : OutBox (w.setCells q 1 (vals .u8 t')) q x t' := by
  have := range_sets_right (c := [Value.int .u64 x]) (d' := vals .u8 t') h.1 (by rw [vals_length, vals_length, hl, h.2.2]) (by rw [vals_length, hl]; exact there_part h.2.1 1 32 (by omega))
  exact ⟨this, there_sets h.2.1 _ _ _, hl⟩
theorem OutBox.val {w : World} {q : Nat} {x : Int} {lk : List Int} (h : OutBox w q x lk) (y : Int) : OutBox (w.setCell ⟨q, 0, none⟩ (.int .u64 y)) q y lk :=
  ⟨range_set h.1 0 (by simp) (.int .u64 y), there_setC h.2.1 _ _, h.2.2⟩
theorem OutBox.cells {w : World} {q : Nat} {x : Int} {lk : List Int} (h : OutBox w q x lk) : w.cell? ⟨q, 0, none⟩ = some (.int .u64 x) ∧ w.frozen? ⟨q, 0, none⟩ = false := by
  have := h.1 0 _ rfl
  simp only [Nat.zero_add] at this
  exact ⟨this, there_free0 h.2.1 0 (by omega)⟩
/-- What out answers. -/
def OutDone (w : World) (p : Nat) (s : RdS) (e : Ending) (w' : World) : Prop :=
  e = .returned (.agg (outC (outS s).1).toArray) ∧ Rd w' p (outS s).2 ∧ Besides p p w w'
set_option maxRecDepth 100000 in
set_option maxHeartbeats 2000000 in
theorem rout_any (w : World) (p : Nat) (s : RdS) (h : Rd w p s) :
    Calls Tryd.prog 90 #[.pointer (some ⟨p, 0, none⟩)] w (OutDone w p s) := by
  have hb : AllB s.1 := by obtain ⟨v, -, -, -, -, hb, -⟩ := h; exact hb
  have hplt := h.lt
  obtain ⟨W1, hW1⟩ : ∃ W1, W1 = w.alloc (.cells #[.int .u64 0, .int .u8 0, .int .u8 0, .int .u8 0, .int .u8 0, .int .u8 0, .int .u8 0, .int .u8 0, .int .u8 0, .int .u8 0, .int .u8 0, .int .u8 0, .int .u8 0, .int .u8 0, .int .u8 0, .int .u8 0, .int .u8 0, .int .u8 0, .int .u8 0, .int .u8 0, .int .u8 0, .int .u8 0, .int .u8 0, .int .u8 0, .int .u8 0, .int .u8 0, .int .u8 0, .int .u8 0, .int .u8 0, .int .u8 0, .int .u8 0, .int .u8 0, .int .u8 0] 66) := ⟨_, rfl⟩
  obtain ⟨W2, hW2⟩ : ∃ W2, W2 = W1.alloc (.cells #[.int .u64 0, .int .u8 0, .int .u8 0, .int .u8 0, .int .u8 0, .int .u8 0, .int .u8 0, .int .u8 0, .int .u8 0, .int .u8 0, .int .u8 0, .int .u8 0, .int .u8 0, .int .u8 0, .int .u8 0, .int .u8 0, .int .u8 0, .int .u8 0, .int .u8 0, .int .u8 0, .int .u8 0, .int .u8 0, .int .u8 0, .int .u8 0, .int .u8 0, .int .u8 0, .int .u8 0, .int .u8 0, .int .u8 0, .int .u8 0, .int .u8 0, .int .u8 0, .int .u8 0] 66) := ⟨_, rfl⟩
  have s1 : W1.heap.size = w.heap.size + 1 := by rw [hW1]; exact alloc_size _ _
  have b1 : Below w.heap.size w W1 := by rw [hW1]; exact (Below.refl _ _).alloc (Nat.le_refl _) _
  have b2 : Below W1.heap.size W1 W2 := by rw [hW2]; exact (Below.refl _ _).alloc (Nat.le_refl _) _
  have t1 : W1.there w.heap.size 0 33 := by rw [hW1]; exact out_there w
  have t2 : W2.there w.heap.size 0 33 := there_on t1 b2
  have x2 : OutBox W2 (w.heap.size + 1) 0 (List.replicate 32 0) := by
    rw [← s1, hW2]
    exact ⟨range_new W1 ([.int .u64 0] ++ vals .u8 (List.replicate 32 0)) 66, out_there W1, by simp⟩
  have s2 : W2.heap.size = w.heap.size + 2 := by rw [hW2, alloc_size, s1]
  have hbs2 : Besides p p w W2 := .of_below (below_on b1 b2)
  have k2 := (takeS_all (n := 8) hb).2.1
  have HNU := hide (rnum_any W2 p s 8 (h.on (below_on b1 b2)) (Or.inr rfl))
  have HA := hide (fun wx h => rhash_any wx p (numS 8 s).2 h)
  have HTL : Hid ((hashS (numS 8 s).2).1.length = 32) := hide (hashS_all (s := (numS 8 s).2) k2).2.1
  have HEND : Hid ((outS s).1 = ⟨(numS 8 s).1, (hashS (numS 8 s).2).1⟩ ∧ (outS s).2 = (hashS (numS 8 s).2).2) := hide ⟨rfl, rfl⟩
  unfold HashDone at HA
  unfold NumDone at HNU
  rw [show ((8 : Nat) : Int) = 8 from rfl] at HNU
  generalize numS 8 s = A at *
  generalize hashS A.2 = B at *
  obtain ⟨vv, sa⟩ := A
  obtain ⟨lk, sb⟩ := B
  simp only at *
  have HX2 := hide x2
  have HT2 := hide t2
  have HBS2 := hide hbs2
  have E1 := hide hW1
  have E2 := hide hW2
  have HPL := hide hplt
  have S2 := hide s2
  clear hW1 hW2 t1 t2 x2 b1 b2 hb h hbs2 s1 s2 k2 hplt
  go_enter Tryd.func90, Tryd.ntmps90
  go_upto_region 2 with fail
  rw [← E1.out, ← E2.out]
  clear E1 E2
  generalize hg : w.heap.size = g at *
  have HG := hide hg
  clear hg
  go_wp2_with fail
  refine HNU.out.mono ?_
  rintro e w3 ⟨rfl, hr3, hbs3, hs3⟩
  have l2 := S2.out
  have lp := HPL.out
  have hx3 := HX2.out.heap (hbs3.block (g + 1) (by omega) (by omega) (by omega))
  have ht3 := there_beside HT2.out hbs3 (by omega) (by omega)
  obtain ⟨c0, f0⟩ := hx3.cells
  have HX4 := hide (hx3.val vv)
  have HT4 := hide (there_setC ht3 ⟨g + 1, 0, none⟩ (.int .u64 vv))
  have HR4 := hide (hr3.box (g + 1) 0 (.int .u64 vv) (by omega))
  have HB4 : Hid (Besides p p w (w3.setCell ⟨g + 1, 0, none⟩ (.int .u64 vv))) := hide (box_besides (HBS2.out.trans hbs3) _ _ _ (by rw [HG.out]; omega))
  have HS4 : Hid (g + 2 ≤ (w3.setCell ⟨g + 1, 0, none⟩ (.int .u64 vv)).heap.size) := hide (by rw [size_setCell]; omega)
  clear hr3 hbs3 hx3 ht3 hs3 l2 lp HNU HX2 HT2 HBS2
  go_upto_region 3 with fail
  generalize w3.setCell ⟨g + 1, 0, none⟩ (.int .u64 vv) = W4 at *
  clear c0 f0
  go_wp2_with fail
  refine (HA.out _ HR4.out).mono ?_
  rintro e w5 ⟨rfl, hr5, hbs5⟩
  have lp := HPL.out
  have l4 := HS4.out
  have hs5 := hbs5.size
  have hx5 := HX4.out.heap (hbs5.block (g + 1) (by omega) (by omega) (by omega))
  have ht5 := there_beside HT4.out hbs5 (by omega) (by omega)
  have HX6 := hide (hx5.lock lk HTL.out)
  have HT6 := hide (there_sets ht5 (g + 1) 1 (vals .u8 lk))
  have HR6 := hide (hr5.boxes (g + 1) 1 (vals .u8 lk) (by omega))
  have HB6 : Hid (Besides p p w (w5.setCells (g + 1) 1 (vals .u8 lk))) := hide (sets_besides (HB4.out.trans hbs5) _ _ _ (by rw [HG.out]; omega))
  have HTH5 : Hid (w5.there (g + 1) 1 32) := hide (by have := there_part hx5.2.1 1 32 (by omega); simpa using this)
  clear hr5 hbs5 hx5 ht5 hs5 lp l4 HA HX4 HT4 HB4 HR4 HS4
  go_upto_region 4 with (refine wp_store_arr rfl 36 (.tmp 9) (.tmp 8) rfl (g + 1) 1 .u8 lk rfl rfl 32 HTH5.out info_hash HTL.out ?_)
  generalize w5.setCells (g + 1) 1 (vals .u8 lk) = W6 at *
  clear HTH5
  have HLEN : Hid ((outC ⟨vv, lk⟩).length = 33) := hide (outC_length HTL.out)
  have HN : Hid ((Tryd.prog.info? 66).map (·.size) = some (outC ⟨vv, lk⟩).length) := hide (by rw [HLEN.out]; exact info_out)
  have HTT : Hid (W6.there g 0 (outC ⟨vv, lk⟩).length) := hide (by rw [HLEN.out]; exact HT6.out)
  go_wp2_with (first | (refine wpList_load_mid rfl 66 (.tmp 3) rfl (g + 1) 0 rfl (outC ⟨vv, lk⟩) _ HX6.out.1 Tryd.underlying66 rfl HN.out ?_) | (refine wp_store_row rfl 66 (.tmp 2) (.tmp 10) rfl g 0 (outC ⟨vv, lk⟩) rfl rfl HTT.out HN.out (outC_one _) ?_))
  refine ret_row 2 66 rfl g 0 rfl (outC ⟨vv, lk⟩) (World.rangeAt_setCells_same _ _ _ _ HTT.out) _ Tryd.underlying66 rfl HN.out rfl ⟨by rw [HEND.out.1], ?_, ?_⟩
  · rw [HEND.out.2]
    exact HR6.out.boxes g 0 _ (by have := HPL.out; omega)
  · exact sets_besides HB6.out g 0 _ (by rw [HG.out]; exact Nat.le_refl _)

end Go.Proofs.YtjmifgdjmaelfaaDoor

/-
  What the reader's tx answers at this program, whatever is left.
-/
namespace Go.Proofs.YtjmifgdjmaelfaaDoor
open Go.RowKit

/-- A slice of one struct. -/
theorem run_one (w : World) (t ty : TypeId) (z : Value) (size bytes : Nat) (ht : Tryd.prog.underlying t = some (.slice ty))
    (hinfo : (Tryd.prog.info? ty).map (fun i => (i.zero, i.size, i.bytes)) = some (some z, size, bytes)) (hsz : 0 < size) (hsz2 : size ≤ 1000) (c : List Value) (hc : c.length = size) :
    (Instr.buildSlice t 1 #[(0, .agg c.toArray)]).run Tryd.prog w = .ok (.slice (some ⟨w.heap.size, 0, none⟩) 1 1) (w.alloc (.cells c.toArray ty)) := by
  obtain ⟨i0, hi, hz0, hz1, hz2⟩ := info_parts hinfo
  refine run_buildSlice w t ty 1 _ c.toArray i0 z ht hi hz0 (by rw [hz1]; omega) (by rw [hz1]; omega) ?_
  rw [hz1]
  have h := Go.Great.fill_whole hsz [Value.agg c.toArray] ((Array.range (1 * size)).map (z.cells[· % z.cells.size]!)) (by intro v hv; rw [List.mem_singleton.1 hv]; simpa [Value.cells] using hc) (by simp)
  simpa [Value.cells] using h
/-- 'append' of elements onto a row of the call's own, as a run. -/
theorem run_append_row (w : World) (t ty rt : TypeId) (z : Value) (size bytes : Nat) (ht : Tryd.prog.underlying t = some (.slice ty))
    (hinfo : (Tryd.prog.info? ty).map (fun i => (i.zero, i.size, i.bytes)) = some (some z, size, bytes)) (hzs : z.cells.size = size) (hsz : 0 < size) (hby : bytes ≤ 1000)
    (base : Nat) (v : Value) (C : List (List Value)) (hown : RowOwn w base ty size v C) (b : Nat) (c : List Value) (hc : w.rangeAt b 0 c) (hE : c.length = size ∧ ∀ y ∈ c, y.oneCell' = true)
    (hlen : C.length ≤ 10000) (hb : base ≤ w.heap.size) :
    ∃ v' w', (Builtin.append_ #[t, t] rt #[v, .slice (some ⟨b, 0, none⟩) 1 1]).run Tryd.prog w = .ok v' w' ∧ RowOwn w' base ty size v' (C ++ [c]) ∧ w.grownBy w' v.ownBlock ∧ (v'.ownBlock = v.ownBlock ∨ ∀ k, v'.ownBlock = some k → w.heap.size ≤ k) := by
  obtain ⟨i0, hi, hz0, hz1, hz2⟩ := info_parts hinfo
  have hbyt : (C.length + 1) * bytes ≤ 140737488355328 := by
    have := Nat.mul_le_mul (show C.length + 1 ≤ 10001 by omega) hby
    omega
  obtain ⟨v', w', h1, h2, h3, h4⟩ := run_append_where (P := Tryd.prog) w base t rt ty i0 z size bytes ht hi hz0 hz1 hz2 hzs hsz v C.length C.flatten hown.1 ⟨b, 0, none⟩ 1 1 c (by rw [hE.1]; omega) (fun j u hu => by rw [Addr.add_mid]; exact hc j u hu) hE.2 (by unfold maxLen; omega) hbyt hb
  refine ⟨v', w', h1, ⟨by simpa using h2, fun d hd => ?_⟩, h3, h4⟩
  rcases List.mem_append.1 hd with q | q
  · exact hown.2 d q
  · rw [List.mem_singleton.1 q]
    exact hE
/-- A transaction's cells in a block of the call's own. -/
def TxBox (w : World) (q : Nat) (ver : Int) (iv ov : Value) : Prop := w.cell? ⟨q, 0, none⟩ = some (.int .u32 ver) ∧ w.cell? ⟨q, 1, none⟩ = some iv ∧ w.cell? ⟨q, 2, none⟩ = some ov ∧ w.there q 0 3
theorem TxBox.heap {w w' : World} {q : Nat} {ver : Int} {iv ov : Value} (h : TxBox w q ver iv ov) (e : w'.heap[q]? = w.heap[q]?) : TxBox w' q ver iv ov := by
  obtain ⟨h0, h1, h2, h3⟩ := h
  have hc : ∀ i, w'.cell? ⟨q, i, none⟩ = w.cell? ⟨q, i, none⟩ := fun i => World.cell?_of_block (w := w) e
  exact ⟨(hc 0).trans h0, (hc 1).trans h1, (hc 2).trans h2, there_heap h3 e⟩
theorem TxBox.ver {w : World} {q : Nat} {ver : Int} {iv ov : Value} (h : TxBox w q ver iv ov) (z : Int) : TxBox (w.setCell ⟨q, 0, none⟩ (.int .u32 z)) q z iv ov := by
  obtain ⟨h0, h1, h2, h3⟩ := h
  exact ⟨World.cell?_setCell_same _ _ _ h0, by rw [World.cell?_setCell_other _ _ _ _ (by simp)]; exact h1, by rw [World.cell?_setCell_other _ _ _ _ (by simp)]; exact h2, there_setC h3 _ _⟩
theorem TxBox.ins {w : World} {q : Nat} {ver : Int} {iv ov : Value} (h : TxBox w q ver iv ov) (z : Value) : TxBox (w.setCell ⟨q, 1, none⟩ z) q ver z ov := by
  obtain ⟨h0, h1, h2, h3⟩ := h
  exact ⟨by rw [World.cell?_setCell_other _ _ _ _ (by simp)]; exact h0, World.cell?_setCell_same _ _ _ h1, by rw [World.cell?_setCell_other _ _ _ _ (by simp)]; exact h2, there_setC h3 _ _⟩
theorem TxBox.outs {w : World} {q : Nat} {ver : Int} {iv ov : Value} (h : TxBox w q ver iv ov) (z : Value) : TxBox (w.setCell ⟨q, 2, none⟩ z) q ver iv z := by
  obtain ⟨h0, h1, h2, h3⟩ := h
  exact ⟨by rw [World.cell?_setCell_other _ _ _ _ (by simp)]; exact h0, by rw [World.cell?_setCell_other _ _ _ _ (by simp)]; exact h1, World.cell?_setCell_same _ _ _ h2, there_setC h3 _ _⟩
/-- What holds while the inputs are read: the transaction's block is g + 1, its result's g, its rows lie behind. -/
structure Reads (w : World) (p g : Nat) (ver : Int) (L : List TIn) (s : RdS) (wr : World) : Prop where
  rd : Rd wr p s
  bes : Besides p p w wr
  size : g + 2 ≤ wr.heap.size
  res : wr.there g 0 3
  box : ∃ iv, TxBox wr (g + 1) ver iv (.slice none 0 0) ∧ InsOwn wr (g + 2) iv L
/-- While the outputs are: these lie behind B, the inputs below it. -/
structure ReadsO (w : World) (p g B : Nat) (ver : Int) (L : List TIn) (M : List TOut) (s : RdS) (wr : World) : Prop where
  rd : Rd wr p s
  bes : Besides p p w wr
  size : g + 2 ≤ B ∧ B ≤ wr.heap.size
  res : wr.there g 0 3
  box : ∃ iv ov, TxBox wr (g + 1) ver iv ov ∧ Keeps (fun k => g + 2 ≤ k ∧ k < B) wr (fun w => InsAt w iv L) ∧ RowOwn wr B 66 33 ov (M.map outC)
theorem InsOwn.keeps {w : World} {base : Nat} {v : Value} {L : List TIn} (h : InsOwn w base v L) : Keeps (fun k => base ≤ k ∧ k < w.heap.size) w fun w => InsAt w v L := by
  intro w' hw
  obtain ⟨D, h1, h2, h3⟩ := h
  exact ⟨D, h1, (h2.move (w1 := w') fun g hb hl => hw g hl ⟨hb, hl⟩).row, fun x hx => h3 x hx w' fun g hl hp => hw g hl ⟨hp.1, hl⟩⟩
theorem Reads.turn {w : World} {p g : Nat} {ver : Int} {L : List TIn} {s : RdS} {wr : World} (h : Reads w p g ver L s wr) : ReadsO w p g wr.heap.size ver L [] s wr := by
  obtain ⟨h1, h2, h3, h4, iv, h5, h6⟩ := h
  exact ⟨h1, h2, ⟨h3, Nat.le_refl _⟩, h4, iv, _, h5, h6.keeps, RowOwn.nil _ _ _ _⟩
/-- The round of the inputs, of the outputs. -/
def ReadIns (w : World) (p g : Nat) (ver : Int) (K : Nat) (s : RdS) (i : Value) (wr : World) : Prop := ∃ k : Nat, k ≤ K ∧ i = .int .i64 k ∧ Reads w p g ver (insS k s).1 (insS k s).2 wr
def ReadOuts (w : World) (p g B : Nat) (ver : Int) (L : List TIn) (K : Nat) (s : RdS) (i : Value) (wr : World) : Prop := ∃ k : Nat, k ≤ K ∧ i = .int .i64 k ∧ ReadsO w p g B ver L (outsS k s).1 (outsS k s).2 wr
theorem tx_there (w : World) : (w.alloc (.cells #[.int .u32 0, .slice none 0 0, .slice none 0 0] 26)).there w.heap.size 0 3 := there_new w _ _

set_option maxRecDepth 100000 in
set_option maxHeartbeats 2000000 in
theorem rins_round (w : World) (p g : Nat) (hw : w.heap.size = g) (hp : p < g) (ver : Int) (L : List TIn) (s : RdS) (wr : World) (h : Reads w p g ver L s wr) (hL : L.length ≤ 8) :
    ∃ iv, (∃ a n c, iv = Value.slice a n c) ∧ wr.cell? ⟨g + 1, 1, none⟩ = some iv ∧ Calls Tryd.prog 89 #[.pointer (some ⟨p, 0, none⟩)] wr.drew fun e w3 => ∃ kv,
      e = .returned (.agg (inC ((inS s).1, kv)).toArray) ∧ w3.cell? ⟨g + 1, 1, none⟩ = some iv ∧ w3.frozen? ⟨g + 1, 1, none⟩ = false ∧ (w3.alloc (.cells (inC ((inS s).1, kv)).toArray 64)).cell? ⟨g + 1, 1, none⟩ = some iv ∧
      ∃ v4 w4, (Builtin.append_ #[23, 23] 23 #[iv, .slice (some ⟨w3.heap.size, 0, none⟩) 1 1]).run Tryd.prog (w3.alloc (.cells (inC ((inS s).1, kv)).toArray 64)) = .ok v4 w4 ∧
        w4.cell? ⟨g + 1, 1, none⟩ = some iv ∧ w4.frozen? ⟨g + 1, 1, none⟩ = false ∧ (∃ a n c, v4 = Value.slice a n c) ∧ Reads w p g ver (L ++ [(inS s).1]) (inS s).2 (w4.setCell ⟨g + 1, 1, none⟩ v4) := by
  obtain ⟨hrd, hbes, hsz, hres, iv, hbox, hins⟩ := h
  refine ⟨iv, hins.at.form.elim fun a h => h.elim fun c h => ⟨a, _, c, h.1⟩, hbox.2.1, ?_⟩
  have hb : AllB s.1 := by obtain ⟨v, -, -, -, -, hb, -⟩ := hrd; exact hb
  have hio := inS_all hb
  refine (rin_any wr.drew p s (hrd.on (Below.refl _ _).drew)).mono ?_
  rintro e w3 ⟨kv, rfl, hr3, hbs3, hk3, hkb⟩
  have hs3 : wr.heap.size ≤ w3.heap.size := hbs3.size
  have hblk : ∀ k, k < wr.heap.size → k ≠ p → w3.heap[k]? = wr.heap[k]? := fun k hk hne => hbs3.block k hk hne hne
  have hbox3 := hbox.heap (hblk (g + 1) (by omega) (by omega))
  have hres3 := there_heap hres (hblk g (by omega) (by omega))
  have hins3 : InsOwn w3 (g + 2) iv L := hins.move hs3 fun k h1 h2 => hblk k h2 (by omega)
  refine ⟨kv, rfl, hbox3.2.1, there_free0 hbox3.2.2.2 1 (by omega), (((Below.refl _ _).alloc (Nat.le_refl _) _ : Below w3.heap.size w3 _).cell (World.block_lt_of_cell? _ _ hbox3.2.1)).trans hbox3.2.1, ?_⟩
  obtain ⟨D, hD, hrow, hkeys⟩ := hins3
  have hbel : Below w3.heap.size w3 (w3.alloc (.cells (inC ((inS s).1, kv)).toArray 64)) := (Below.refl _ _).alloc (Nat.le_refl _) _
  have hsz4 : (w3.alloc (.cells (inC ((inS s).1, kv)).toArray 64)).heap.size = w3.heap.size + 1 := alloc_size _ _
  have hnew := range_new w3 (inC ((inS s).1, kv)) 64
  have hDl : (D.map inC).length ≤ 10000 := by rw [List.length_map]; have := congrArg List.length hD; rw [List.length_map] at this; omega
  generalize w3.alloc (.cells (inC ((inS s).1, kv)).toArray 64) = W4 at *
  have hrow4 := hrow.move (w1 := W4) fun k _ h2 => hbel.block k h2
  obtain ⟨v4, w4, hrun, hrow5, hgr, hwh⟩ := run_append_row W4 23 64 23 _ 34 64 Tryd.underlying23 infoIn rfl (by omega) (by omega) (g + 2) iv (D.map inC) hrow4 w3.heap.size (inC ((inS s).1, kv)) hnew ⟨inC_length hio.1.1, inC_one hk3.oneCell⟩ hDl (by omega)
  have hlt := hrow.lt
  have hblk5 : ∀ k, k < w3.heap.size → iv.ownBlock ≠ some k → w4.heap[k]? = w3.heap[k]? := fun k hk hne => (hgr.block k (by omega) (fun e => hne e.symm)).trans (hbel.block k hk)
  have hne1 : iv.ownBlock ≠ some (g + 1) := fun e => by have := hlt _ e; omega
  have hne0 : iv.ownBlock ≠ some g := fun e => by have := hlt _ e; omega
  have hnep : ∀ k, k ≤ p → iv.ownBlock ≠ some k := fun k hk e => by have := hlt _ e; omega
  have hs5 : w3.heap.size + 1 ≤ w4.heap.size := by have := hgr.size; omega
  have hbox5 := hbox3.heap (hblk5 (g + 1) (by omega) hne1)
  refine ⟨v4, w4, hrun, hbox5.2.1, there_free0 hbox5.2.2.2 1 (by omega), hrow5.row.form.elim fun a h => h.elim fun c h => ⟨a, _, c, h.1⟩, ?_⟩
  have hsk : ∀ k, k ≠ g + 1 → (w4.setCell ⟨g + 1, 1, none⟩ v4).heap[k]? = w4.heap[k]? := fun k hk => Below.heap_setCell _ _ _ _ (by show k ≠ g + 1; exact hk)
  have hins5 : InsOwn w4 (g + 2) v4 (L ++ [(inS s).1]) := by
    rw [← hD]
    refine InsOwn.more (w := W4) (v := iv) (kv := kv) (fun x hx => (hkeys x hx).step hbel.size fun k hk _ => hbel.block k hk) hrow5 hgr hwh (hk3.below hbel) fun k e => ?_
    have h1 := hkb k e
    have h1' : wr.heap.size ≤ k := h1.1
    refine ⟨by omega, fun e' => ?_, by omega⟩
    have := hins.elim fun _ h => h.2.1.lt k e'
    omega
  refine ⟨?_, ?_, ?_, ?_, v4, hbox5.ins v4, ?_⟩
  · refine (hr3.move (w1 := w4) (by omega) fun k hk => hblk5 k (by have := hr3.lt; omega) (hnep k hk)).move (by rw [size_setCell]; exact Nat.le_refl _) fun k hk => hsk k (by omega)
  · have h3 : Besides p p w w3 := hbes.drew.trans hbs3
    refine box_besides ⟨hgr.os.trans (hbel.os.trans h3.os), hgr.tape.trans (hbel.tape.trans h3.tape), hgr.output.trans (hbel.output.trans h3.output), by omega, fun k hk h1 h2 => (hblk5 k (by omega) (fun e => by have := hlt _ e; omega)).trans (h3.block k hk h1 h2)⟩ _ _ _ (by omega)
  · rw [size_setCell]; omega
  · exact there_heap (there_heap hres3 (hblk5 g (by omega) hne0)) (hsk g (by omega))
  · exact hins5.move (by rw [size_setCell]; exact Nat.le_refl _) fun k h1 _ => hsk k (by omega)

set_option maxRecDepth 100000 in
set_option maxHeartbeats 2000000 in
theorem routs_round (w : World) (p g B : Nat) (hw : w.heap.size = g) (hp : p < g) (ver : Int) (L : List TIn) (M : List TOut) (s : RdS) (wr : World) (h : ReadsO w p g B ver L M s wr) (hM : M.length ≤ 8) :
    ∃ ov, (∃ a n c, ov = Value.slice a n c) ∧ wr.cell? ⟨g + 1, 2, none⟩ = some ov ∧ Calls Tryd.prog 90 #[.pointer (some ⟨p, 0, none⟩)] wr.drew fun e w3 =>
      e = .returned (.agg (outC (outS s).1).toArray) ∧ w3.cell? ⟨g + 1, 2, none⟩ = some ov ∧ w3.frozen? ⟨g + 1, 2, none⟩ = false ∧ (w3.alloc (.cells (outC (outS s).1).toArray 66)).cell? ⟨g + 1, 2, none⟩ = some ov ∧
      ∃ v4 w4, (Builtin.append_ #[24, 24] 24 #[ov, .slice (some ⟨w3.heap.size, 0, none⟩) 1 1]).run Tryd.prog (w3.alloc (.cells (outC (outS s).1).toArray 66)) = .ok v4 w4 ∧
        w4.cell? ⟨g + 1, 2, none⟩ = some ov ∧ w4.frozen? ⟨g + 1, 2, none⟩ = false ∧ (∃ a n c, v4 = Value.slice a n c) ∧ ReadsO w p g B ver L (M ++ [(outS s).1]) (outS s).2 (w4.setCell ⟨g + 1, 2, none⟩ v4) := by
  obtain ⟨hrd, hbes, ⟨hsz, hsB⟩, hres, iv, ov, hbox, hins, hrow0⟩ := h
  refine ⟨ov, hrow0.row.form.elim fun a h => h.elim fun c h => ⟨a, _, c, h.1⟩, hbox.2.2.1, ?_⟩
  have hb : AllB s.1 := by obtain ⟨v, -, -, -, -, hb, -⟩ := hrd; exact hb
  have hio := outS_all hb
  refine (rout_any wr.drew p s (hrd.on (Below.refl _ _).drew)).mono ?_
  rintro e w3 ⟨rfl, hr3, hbs3⟩
  have hs3 : wr.heap.size ≤ w3.heap.size := hbs3.size
  have hblk : ∀ k, k < wr.heap.size → k ≠ p → w3.heap[k]? = wr.heap[k]? := fun k hk hne => hbs3.block k hk hne hne
  have hbox3 := hbox.heap (hblk (g + 1) (by omega) (by omega))
  have hres3 := there_heap hres (hblk g (by omega) (by omega))
  have hrow := hrow0.move (w1 := w3) fun k h1 h2 => hblk k h2 (by omega)
  refine ⟨rfl, hbox3.2.2.1, there_free0 hbox3.2.2.2 2 (by omega), (((Below.refl _ _).alloc (Nat.le_refl _) _ : Below w3.heap.size w3 _).cell (World.block_lt_of_cell? _ _ hbox3.2.2.1)).trans hbox3.2.2.1, ?_⟩
  have hbel : Below w3.heap.size w3 (w3.alloc (.cells (outC (outS s).1).toArray 66)) := (Below.refl _ _).alloc (Nat.le_refl _) _
  have hsz4 : (w3.alloc (.cells (outC (outS s).1).toArray 66)).heap.size = w3.heap.size + 1 := alloc_size _ _
  have hnew := range_new w3 (outC (outS s).1) 66
  have hDl : (M.map outC).length ≤ 10000 := by rw [List.length_map]; omega
  generalize w3.alloc (.cells (outC (outS s).1).toArray 66) = W4 at *
  have hrow4 := hrow.move (w1 := W4) fun k _ h2 => hbel.block k h2
  obtain ⟨v4, w4, hrun, hrow5, hgr, hwh⟩ := run_append_row W4 24 66 24 _ 33 40 Tryd.underlying24 infoOut rfl (by omega) (by omega) B ov (M.map outC) hrow4 w3.heap.size (outC (outS s).1) hnew ⟨outC_length hio.1.2.1, outC_one _⟩ hDl (by omega)
  have hlt := hrow0.lt
  have hblk5 : ∀ k, k < w3.heap.size → ov.ownBlock ≠ some k → w4.heap[k]? = w3.heap[k]? := fun k hk hne => (hgr.block k (by omega) (fun e => hne e.symm)).trans (hbel.block k hk)
  have hne : ∀ k, k < B → ov.ownBlock ≠ some k := fun k hk e => by have := hlt _ e; omega
  have hs5 : w3.heap.size + 1 ≤ w4.heap.size := by have := hgr.size; omega
  have hbox5 := hbox3.heap (hblk5 (g + 1) (by omega) (hne _ (by omega)))
  refine ⟨v4, w4, hrun, hbox5.2.2.1, there_free0 hbox5.2.2.2 2 (by omega), hrow5.row.form.elim fun a h => h.elim fun c h => ⟨a, _, c, h.1⟩, ?_⟩
  have hsk : ∀ k, k ≠ g + 1 → (w4.setCell ⟨g + 1, 2, none⟩ v4).heap[k]? = w4.heap[k]? := fun k hk => Below.heap_setCell _ _ _ _ (by show k ≠ g + 1; exact hk)
  refine ⟨?_, ?_, ⟨hsz, ?_⟩, ?_, iv, v4, hbox5.outs v4, ?_, ?_⟩
  · refine (hr3.move (w1 := w4) (by omega) fun k hk => hblk5 k (by have := hr3.lt; omega) (hne k (by omega))).move (by rw [size_setCell]; exact Nat.le_refl _) fun k hk => hsk k (by omega)
  · have h3 : Besides p p w w3 := hbes.drew.trans hbs3
    refine box_besides ⟨hgr.os.trans (hbel.os.trans h3.os), hgr.tape.trans (hbel.tape.trans h3.tape), hgr.output.trans (hbel.output.trans h3.output), by omega, fun k hk h1 h2 => (hblk5 k (by omega) (hne k (by omega))).trans (h3.block k hk h1 h2)⟩ _ _ _ (by omega)
  · rw [size_setCell]; omega
  · exact there_heap (there_heap hres3 (hblk5 g (by omega) (hne _ (by omega)))) (hsk g (by omega))
  · exact hins.step (by rw [size_setCell]; omega) fun k hk hp => (hsk k (by omega)).trans ((hblk5 k (by omega) (hne k (by omega))).trans (hblk k hk (by omega)))
  · have := hrow5.move (w1 := w4.setCell ⟨g + 1, 2, none⟩ v4) fun k h1 _ => hsk k (by omega)
    simpa using this

end Go.Proofs.YtjmifgdjmaelfaaDoor
