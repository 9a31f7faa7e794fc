/-
  What (*pappusref06.Flow).Feed comes to at this program: the document's flow.
-/
import Derived.Test.YtnjbjgjhomfndaaDoorFlAlive
import Derived.Test.YtnjbjgjhomfndaaDoorRefGet05
namespace Go.Proofs.YtnjbjgjhomfndaaDoor
open Go.RowKit

/-- The document's flow in memory: its bytes and whether it is dead. -/
def RCells (w : World) (p : Nat) (rv : Value) (d : Bool) : Prop := w.cell? ⟨p, 0, none⟩ = some rv ∧ w.cell? ⟨p, 1, none⟩ = some (.bool d) ∧ w.frozen? ⟨p, 0, none⟩ = false ∧ w.frozen? ⟨p, 1, none⟩ = false
def RFl (w : World) (p : Nat) (r : List Int) (d : Bool) : Prop := ∃ rv, RCells w p rv d ∧ Keeps (fun g => g ≠ p) w fun w => Bytes w rv r
theorem RCells.lt {w : World} {p : Nat} {rv : Value} {d : Bool} (h : RCells w p rv d) : p < w.heap.size := World.block_lt_of_cell? _ _ h.1
theorem RCells.heap {w w' : World} {p : Nat} {rv : Value} {d : Bool} (h : RCells w p rv d) (e : w'.heap[p]? = w.heap[p]?) : RCells w' p rv d := by
  obtain ⟨h1, h2, h3, h4⟩ := h
  exact ⟨(World.cell?_of_block (w := w) (a := ⟨p, 0, none⟩) e).trans h1, (World.cell?_of_block (w := w) (a := ⟨p, 1, none⟩) e).trans h2, (World.frozen?_of_block (w := w) (a := ⟨p, 0, none⟩) e).trans h3, (World.frozen?_of_block (w := w) (a := ⟨p, 1, none⟩) e).trans h4⟩
theorem RCells.on {w w' : World} {p : Nat} {rv : Value} {d : Bool} (h : RCells w p rv d) (hb : Below w.heap.size w w') : RCells w' p rv d := h.heap (hb.block _ h.lt)
theorem RCells.rest {w : World} {p : Nat} {rv : Value} {d : Bool} (h : RCells w p rv d) (u : Value) : RCells (w.setCell ⟨p, 0, none⟩ u) p u d := by
  obtain ⟨h1, h2, h3, h4⟩ := h
  exact ⟨World.cell?_setCell_same _ _ _ h1, by rw [World.cell?_setCell_other _ _ _ _ (by simp)]; exact h2, by rw [World.frozen?_setCell]; exact h3, by rw [World.frozen?_setCell]; exact h4⟩
theorem RCells.kill {w : World} {p : Nat} {rv : Value} {d : Bool} (h : RCells w p rv d) (d' : Bool) : RCells (w.setCell ⟨p, 1, none⟩ (.bool d')) p rv d' := by
  obtain ⟨h1, h2, h3, h4⟩ := h
  exact ⟨by rw [World.cell?_setCell_other _ _ _ _ (by simp)]; exact h1, World.cell?_setCell_same _ _ _ h2, by rw [World.frozen?_setCell]; exact h3, by rw [World.frozen?_setCell]; exact h4⟩
/-- What it comes to. -/
def RFeedDone (w : World) (p : Nat) (L : List It) (s : List Int) (d' : Bool) (e : Ending) (w' : World) : Prop :=
  ∃ v' rv, e = .returned v' ∧ RCells w' p rv d' ∧ Keeps (fun g => w.heap.size ≤ g) w' (fun w => Bytes w rv s) ∧ Besides p p w w' ∧ Items w' w.heap.size (fun g => g < w.heap.size) v' L
/-- No bytes lie wherever. -/
theorem keeps_none {P : Nat → Prop} {w : World} {v : Value} (h : Bytes w v []) : Keeps P w fun w => Bytes w v [] := by
  intro w' _
  obtain ⟨a, cap, h1, h2, h3, h4, -⟩ := h
  exact ⟨a, cap, h1, h2, h3, h4, by simp⟩
/-- What holds at the head of a round. -/
def RFeeding (w : World) (p N : Nat) (L : List It) (s : List Int) (d' : Bool) (lv : Value) (wr : World) : Prop :=
  ∃ (r : List Int) (rv : Value) (d : Bool) (L0 L1 : List It), RCells wr p rv d ∧ Keeps (fun g => w.heap.size ≤ g ∧ lv.ownBlock ≠ some g) wr (fun w => Bytes w rv r) ∧ (∀ z ∈ r, Byte z) ∧ r.length ≤ N ∧
    Items wr w.heap.size (fun g => g < w.heap.size) lv L0 ∧ Besides p p w wr ∧ L = L0 ++ L1 ∧ ((d = false ∧ Runs r L1 s d') ∨ (d = true ∧ r = [] ∧ L1 = [] ∧ s = [] ∧ d' = true))
def restLen (p : Nat) (w : World) : Nat := match w.cell? ⟨p, 0, none⟩ with
  | some v => lenS v
  | none => 0
theorem restLen_is {p : Nat} {w : World} {a : Option Addr} {n cap : Nat} (h : w.cell? ⟨p, 0, none⟩ = some (.slice a n cap)) : restLen p w = n := by
  unfold restLen
  rw [h]
  rfl
theorem rfeed_end {w : World} {p : Nat} {L : List It} {s : List Int} {d' : Bool} {lv : Value} {wr : World} {r : List Int} {rv : Value} {d : Bool} {L0 L1 : List It} (hc : RCells wr p rv d) (hk : Keeps (fun g => w.heap.size ≤ g ∧ lv.ownBlock ≠ some g) wr (fun w => Bytes w rv r))
    (hI : Items wr w.heap.size (fun g => g < w.heap.size) lv L0) (hB : Besides p p w wr) (hL : L = L0 ++ L1) (hw : (d = false ∧ geE r = 4 ∧ Runs r L1 s d') ∨ (d = true ∧ r = [] ∧ L1 = [] ∧ s = [] ∧ d' = true)) : RFeedDone w p L s d' (.returned lv) wr := by
  have hk' : Keeps (fun g => w.heap.size ≤ g) wr (fun w => Bytes w rv r) := hk.weak fun _ _ h => h.1
  rcases hw with ⟨rfl, hg, hR⟩ | ⟨rfl, rfl, rfl, rfl, rfl⟩
  · obtain ⟨rfl, rfl, rfl⟩ := hR.one (.short hg)
    rw [List.append_nil] at hL
    subst hL
    exact ⟨lv, rv, rfl, hc, hk', hB, hI⟩
  · rw [List.append_nil] at hL
    subst hL
    exact ⟨lv, rv, rfl, hc, hk', hB, hI⟩

/-- 'append', of one item onto a row of items; where the row is then. -/
theorem wp_push_item {w : World} {ops : Array Oper} {rest : List Oper} {o : Oper} {a : Act} {Q : Exit → Act → World → Prop} (hgd : o.guard = none) (s x : Operand)
    (ho : o.op = .call { callee := .builtin .append, args := #[s, x], argTypes := #[32, 32] })
    (base : Nat) (av : Nat → Prop) (v : Value) (L : List It) (hs : a.eval s = v) (hI : Items w base av v L) (u : Value) (ad : Addr) (m c : Nat) (hx : a.eval x = u) (hu : u = .slice (some ad) m c) (y : It) (yv : Value) (hm : m = 1)
    (hcell : ∀ j z, (itC (y, yv))[j]? = some z → w.cell? (ad.add j) = some z) (h1 : yv.oneCell' = true) (hK : Keeps (fun g => ¬ av g ∧ v.ownBlock ≠ some g) w fun w => Bytes w yv y.b)
    (hsz : L.length ≤ 900000) (hb : base ≤ w.heap.size) (hav : ∀ k, w.heap.size ≤ k → ¬ av k)
    (h : ∀ v' w', Items w' base av v' (L ++ [y]) → w.grownBy w' v.ownBlock → (v'.ownBlock = v.ownBlock ∨ ∀ k, v'.ownBlock = some k → w.heap.size ≤ k) → (∀ k, v.ownBlock = some k → base ≤ k) → wpList Tryd.prog ops Q rest (a.put o.dst v') w') : wpList Tryd.prog ops Q (o :: rest) a w := by
  obtain ⟨i0, hi, hz0, hz1, hz2⟩ := info_parts infoI
  obtain ⟨D, rfl, hrow, hav1, hbod⟩ := hI
  subst hu hm
  rw [List.length_map] at hsz
  refine wp_append_where hgd s x 32 ho base 52 i0 _ 3 48 Tryd.underlying32 hi hz0 hz1 hz2 rfl (by decide) v D.length (rowC D) hs hrow ad 1 c (itC (y, yv)) hx rfl hcell (it_one h1) (by unfold maxLen; omega) (by omega) hb ?_
  intro v' w' hown hgrow hwhere
  refine h v' w' ⟨D ++ [(y, yv)], by simp, ?_, ?_, fun z hz => ?_⟩ hgrow hwhere (fun k hk => (World.ownsRow.lt hrow k hk).1)
  · rw [rowC_append, rowC_one, List.length_append]
    exact hown
  · intro k hk
    rcases hwhere with e | hw
    · exact hav1 k (by rw [← e]; exact hk)
    · exact hav k (hw k hk)
  · rcases List.mem_append.1 hz with hz | hz
    · exact ⟨(hbod z hz).1, keeps_grown (hbod z hz).2 hgrow hwhere (fun g _ hp => hp.2) (fun g _ hp hq => ⟨hp.1, hq⟩)⟩
    · simp only [List.mem_cons, List.not_mem_nil, or_false] at hz
      subst hz
      exact ⟨h1, keeps_grown hK hgrow hwhere (fun g _ hp => hp.2) (fun g _ hp hq => ⟨hp.1, hq⟩)⟩
/-- Behind a round. -/
theorem rfeed_next {w W W6 : World} {p : Nat} {L : List It} {s : List Int} {d' : Bool} {lv v6 : Value} {r : List Int} {rv : Value} {d : Bool} {L0 L1 : List It} {x : It} (hp : p < w.heap.size) (hC : RCells W p rv d) (hK : Keeps (fun g => w.heap.size ≤ g ∧ lv.ownBlock ≠ some g) W (fun w => Bytes w rv r)) (hbr : ∀ z ∈ r, Byte z) (hN : r.length ≤ 900000)
    (hB : Besides p p w W) (hL : L = L0 ++ x :: L1) (hw : (d = false ∧ Runs r L1 s d') ∨ (d = true ∧ r = [] ∧ L1 = [] ∧ s = [] ∧ d' = true)) (hI : Items W6 w.heap.size (fun g => g < w.heap.size) v6 (L0 ++ [x])) (hg : W.grownBy W6 lv.ownBlock)
    (hwh : v6.ownBlock = lv.ownBlock ∨ ∀ k, v6.ownBlock = some k → W.heap.size ≤ k) (hlv : ∀ k, lv.ownBlock = some k → w.heap.size ≤ k) : RFeeding w p 900000 L s d' v6 W6 := by
  refine ⟨r, rv, d, L0 ++ [x], L1, hC.heap (hg.block p hC.lt fun e => ?_), keeps_grown hK hg hwh (fun g _ hp => hp.2) (fun g _ hp hq => ⟨hp.1, hq⟩), hbr, hN, hI, hB.grown hg hlv, by rw [hL]; simp, hw⟩
  have := hlv p e.symm
  omega

set_option maxRecDepth 100000 in
set_option maxHeartbeats 1000000 in
theorem rfeed_any (w : World) (p : Nat) (r : List Int) (d : Bool) (bv : Value) (b : List Int) (L : List It) (s : List Int) (d' : Bool) (hf : RFl w p r d) (hr : ∀ z ∈ r, Byte z) (hb : ∀ z ∈ b, Byte z)
    (hB : Keeps (fun g => g ≠ p) w fun w => Bytes w bv b) (hR : FRuns d r b L s d') (hlen : r.length + b.length ≤ 900000) :
    Calls Tryd.prog 14 #[.pointer (some ⟨p, 0, none⟩), bv] w fun e w' => RFeedDone w p L s d' e w' := by
  obtain ⟨rv, hC, hK⟩ := hf
  have h0 := hC.1
  have h1 := hC.2.1
  have HC := hide hC
  obtain ⟨a, cap, rfl, hc1, hc2⟩ := hB.self.form
  obtain ⟨ra, rcap, rfl, hc3, hc4⟩ := hK.self.form
  rcases hR with ⟨rfl, hR⟩ | ⟨rfl, rfl, rfl, rfl, rfl⟩
  case inr =>
    have HD : Hid (RFeedDone w p [] [] true (.returned (.slice none 0 0)) w) := hide ⟨_, _, rfl, hC, keeps_none hK.self, Besides.refl _ _ _, Items.nil _ _ _⟩
    clear hC hK hB
    go_enter Tryd.func14, Tryd.ntmps14
    go_wp2
    go_ret
    exact HD.out
  have HLL : Hid (L.length ≤ 900000) := hide (by
    have := hR.count (fun z hz => by rcases List.mem_append.1 hz with h | h; exact hr z h; exact hb z h)
    rw [List.length_append] at this
    omega)
  have HPW : Hid (p < w.heap.size) := hide hC.lt
  have HVB := hide hB.self
  have HVR := hide hK.self
  have HRR := hide hR
  have HBY : Hid (∀ z ∈ r ++ b, Byte z) := hide (fun z hz => by rcases List.mem_append.1 hz with h | h; exact hr z h; exact hb z h)
  have HLEN := hide hlen
  have hab : Below w.heap.size w (w.alloc (.cells #[] 5)) := (Below.refl _ _).alloc (Nat.le_refl _) _
  have h0' := (hab.cell (p := ⟨p, 0, none⟩) hC.lt).trans h0
  have HAB := hide hab
  clear hC hK hB hR hr hb hab
  go_enter Tryd.func14, Tryd.ntmps14
  go_wp2_with (at_builtin; refine wp_append rfl (.tmp 15) (.tmp 19) rfl w.heap.size _ [] rfl (Own.made _ _ (Nat.le_refl _)) _ r rfl (HVR.out.alloc _) ?c1 ?c2 ?_)
  case c1 => have := HLEN.out; simp; omega
  case c2 => simp
  intro v1 w1 ho1 hb1
  have hB1 := HAB.out.trans hb1
  have HB1 := hide hB1
  have HO1 := hide ho1
  have HC1 := hide (HC.out.on hB1)
  clear ho1 hb1 hB1 HAB h0'
  go_wp2_with (at_builtin; refine wp_append rfl (.tmp 20) (.tmp 21) rfl w.heap.size _ r rfl HO1.out _ b rfl (HVB.out.below HB1.out) ?c1 HB1.out.size ?_)
  case c1 => have := HLEN.out; omega
  intro v2 w2 ho2 hb2
  have hrl : (r ++ b).length ≤ 900000 := by rw [List.length_append]; exact HLEN.out
  obtain ⟨rb, hrb⟩ : ∃ rb, rb = r ++ b := ⟨_, rfl⟩
  rw [← hrb] at ho2 hrl HRR HBY
  clear hrb
  have hB2 := HB1.out.trans hb2
  have hC2 := HC.out.on hB2
  have hf0 := hC2.2.2.1
  have hk0 := hC2.1
  have HC3 := hide (hC2.rest v2)
  obtain ⟨a2, cap2, rfl, -, -⟩ := ho2.bytes.form
  have HS : Hid (RFeeding w p 900000 L s d' (.slice none 0 0) (w2.setCell ⟨p, 0, none⟩ (.slice a2 rb.length cap2))) := hide ⟨rb, _, false, [], L, HC3.out, by
      refine Keeps.step (w := w2) (ho2.keeps fun k hk _ => ⟨hk, by simp [Value.ownBlock]⟩) (by rw [size_setCell]; exact Nat.le_refl _) (fun g _ hp => Below.heap_setCell _ _ _ _ (by show g ≠ p; have := HPW.out; have := hp.1; omega))
    , HBY.out, hrl, Items.nil _ _ _, (Besides.of_below (p := p) (q := p) hB2).set ⟨p, 0, none⟩ (Or.inl rfl) _, rfl, Or.inl ⟨rfl, HRR.out⟩⟩
  clear ho2 hb2 hB2 hC2 HO1 HB1 HC1 HC3 hrl h0 h1
  go_wp2_with fail
  go_loopw [5] (fun lv wr => RFeeding w p 900000 L s d' lv wr) (fun _ wr => restLen p wr)
  case atStart => exact HS.out
  case round =>
    clear HS hk0 hf0
    obtain ⟨r1, rv, d, L0, L1, hC, hK, hbr, hN, hI, hBs, hL, hw⟩ := hrel
    obtain ⟨ra1, rc1, rfl, hr1, hr2⟩ := hK.self.form
    obtain ⟨la, lc, rfl, -, -⟩ := hI.length
    rcases hw with ⟨rfl, hR⟩ | hdd
    case inr =>
      have HE := hide (rfeed_end hC hK hI hBs hL (Or.inr hdd))
      obtain ⟨rfl, -⟩ := hdd
      have k1 := hC.2.1
      clear hC hK hbr hN hI hBs hL
      go_wp2
      go_ret
      exact HE.out
    have k1 := hC.2.1
    have k0 := hC.1
    have GG := hide (rfget_any wr _ r1 hK.self hbr (by omega))
    have HM := hide (And.intro hC (And.intro hK (And.intro hbr (And.intro hI (And.intro hBs (And.intro hL hR))))))
    clear hC hK hbr hI hBs hL hR
    go_wp2_with fail
    refine GG.out.mono ?_
    rintro e w3 ⟨v3, rfl, ho3, hb3⟩
    obtain ⟨hC, hK, hbr, hI, hBs, hL, hR⟩ := HM.out
    have hC3 := hC.on hb3
    have hK3 := hK.below hb3
    have hI3 := hI.below hb3
    have hB3 := hBs.on hb3
    obtain ⟨va, vc, rfl, -, -⟩ := ho3.bytes.form
    by_cases h4 : geE r1 = 4
    · have HE := hide (rfeed_end hC3 hK3 hI3 hB3 hL (Or.inl ⟨rfl, h4, hR⟩))
      rw [h4]
      clear hC hK hbr hI hBs hL hR hC3 hK3 hI3 hB3 ho3 hb3 HM GG
      go_wp2
      go_ret
      exact HE.out
    · have hpw := HPW.out
      have hlv : ∀ k, (Value.slice la L0.length lc).ownBlock = some k → w.heap.size ≤ k ∧ k < wr.heap.size := fun k hk => by
        obtain ⟨D, -, hrow, -⟩ := hI
        exact World.ownsRow.lt hrow k hk
      by_cases h56 : geE r1 = 5 ∨ geE r1 = 6
      · obtain ⟨rfl, rfl, rfl⟩ := hR.one (.dies h56)
        obtain ⟨e1, -, -⟩ := get_none (b := r1) (by omega)
        have h24 : 0 < r1.length := by
          rcases ge_ways r1 with ⟨h', -⟩ | ⟨h', -⟩ | ⟨-, h', -⟩ | ⟨h', -⟩ <;> omega
        have f1 := hC3.2.2.2
        have g1 := hC3.2.1
        have hC4 := hC3.kill true
        have f0 := hC4.2.2.1
        have g0 := hC4.1
        have hC5 := hC4.rest (.slice none 0 0)
        have hs5 : ((w3.setCell ⟨p, 1, none⟩ (.bool true)).setCell ⟨p, 0, none⟩ (.slice none 0 0)).heap.size = w3.heap.size := by rw [size_setCell, size_setCell]
        have hB5 : Besides p p w ((w3.setCell ⟨p, 1, none⟩ (.bool true)).setCell ⟨p, 0, none⟩ (.slice none 0 0)) := (hB3.set ⟨p, 1, none⟩ (Or.inl rfl) _).set ⟨p, 0, none⟩ (Or.inl rfl) _
        have hI5 : Items ((w3.setCell ⟨p, 1, none⟩ (.bool true)).setCell ⟨p, 0, none⟩ (.slice none 0 0)) w.heap.size (fun g => g < w.heap.size) (.slice la L0.length lc) L0 := hI3.move (by omega) (fun g _ hg => by
          rw [Below.heap_setCell _ _ _ _ (by show g ≠ p; omega), Below.heap_setCell _ _ _ _ (by show g ≠ p; omega)]) (fun _ _ h => h)
        have hal : Below ((w3.setCell ⟨p, 1, none⟩ (.bool true)).setCell ⟨p, 0, none⟩ (.slice none 0 0)).heap.size ((w3.setCell ⟨p, 1, none⟩ (.bool true)).setCell ⟨p, 0, none⟩ (.slice none 0 0)) (((w3.setCell ⟨p, 1, none⟩ (.bool true)).setCell ⟨p, 0, none⟩ (.slice none 0 0)).alloc (.cells #[.string ⟨#[]⟩, .slice none 0 0, .int .i64 (geE r1)] 52)) := (Below.refl _ _).alloc (Nat.le_refl _) _
        have hcl : ∀ j z, (itC ((⟨[], [], geE r1⟩ : It), Value.slice none 0 0))[j]? = some z → (((w3.setCell ⟨p, 1, none⟩ (.bool true)).setCell ⟨p, 0, none⟩ (.slice none 0 0)).alloc (.cells #[.string ⟨#[]⟩, .slice none 0 0, .int .i64 (geE r1)] 52)).cell? ((⟨w3.heap.size, 0, none⟩ : Addr).add j) = some z := fun j y hj => by
          have := range_new ((w3.setCell ⟨p, 1, none⟩ (.bool true)).setCell ⟨p, 0, none⟩ (.slice none 0 0)) [.string ⟨#[]⟩, .slice none 0 0, .int .i64 (geE r1)] 52 j y hj
          rw [hs5] at this
          rw [Addr.add_mid]
          exact this
        have HX := hide (And.intro hcl (And.intro (hI5.below hal) (And.intro (hC5.on hal) (And.intro (hB5.on hal) (And.intro hL hlv)))))
        have HSZ : Hid (w.heap.size ≤ w3.heap.size) := hide hB3.size
        have HLB : Hid (L0.length ≤ 900000) := hide (by have := HLL.out; rw [hL] at this; simp at this; omega)
        have HMS : Hid (restLen p wr = r1.length ∧ 0 < r1.length) := hide ⟨restLen_is k0, h24⟩
        clear hC hK hbr hI hBs hL hR hC3 hK3 hI3 hB3 ho3 hb3 HM GG hC4 hC5 hB5 hI5 hal hcl h24 hlv
        have hbig : ∀ e : Int, e = 5 ∨ e = 6 → (e == 4) = false := fun e he => by rcases he with rfl | rfl <;> rfl
        have hne4 := hbig _ h56
        have hor : (geE r1 == 6) = true ∨ (geE r1 == 6) = false ∧ (geE r1 == 5) = true := by rcases h56 with h | h <;> rw [h] <;> simp
        clear hbig
        generalize geE r1 = E at *
        rcases hor with h6 | ⟨h6, h5⟩
        all_goals
          go_wp2_with (at_builtin; refine wp_push_item rfl (.tmp 69) (.tmp 72) rfl w.heap.size (fun g => g < w.heap.size) _ L0 rfl HX.out.2.1 _ ⟨w3.heap.size, 0, none⟩ 1 1 rfl rfl (⟨[], [], E⟩ : It) (.slice none 0 0) rfl HX.out.1 rfl (fun w' _ => Bytes.nil w') HLB.out ?c1 ?c2 ?_)
          case c1 => rw [alloc_size, hs5]; have := HSZ.out; omega
          case c2 => intro k hk; rw [alloc_size, hs5] at hk; have := HSZ.out; omega
          intro v6 w6 hI6 hg6 hw6 hl6
          obtain ⟨-, -, x3, x4, x5, x6⟩ := HX.out
          have R : Hid (RFeeding w p 900000 L [] true v6 w6) := hide (rfeed_next hpw x3 (fun w' _ => Bytes.nil w') (by simp) (by simp) x4 x5 (Or.inr ⟨rfl, rfl, rfl, rfl, rfl⟩) hI6 hg6 (hw6.imp id (fun h k hk => by rw [alloc_size, hs5]; exact h k hk)) hl6)
          have HM6 : Hid (restLen p w6 = 0) := hide (restLen_is (x3.heap (hg6.block p x3.lt (fun e => by have := hl6 p e.symm; omega))).1)
          clear HX hI6 hg6 hw6 hl6 x3 x4 x5 x6
          go_wp2
          go_roundw
          case rel => first | exact R.out | ((repeat apply Exists.intro); exact ⟨R.out, rfl⟩)
          case measure => have h1 := HM6.out; have h2 := HMS.out; omega
      · have hge : geE r1 = 0 ∨ geE r1 = 7 ∨ geE r1 = 8 := by
          rcases ge_ways r1 with ⟨h', -⟩ | ⟨h', -⟩ | ⟨h', -⟩ | ⟨h', -⟩
          · exact absurd h' h4
          · exact absurd h' h4
          · exact absurd h' h56
          · exact h'
        obtain ⟨hn1, hn2, -⟩ := geN_upto hbr hge
        obtain ⟨n, hn⟩ : ∃ n : Nat, geN r1 = n := ⟨(geN r1).toNat, by omega⟩
        have hnl : n ≤ r1.length := by omega
        obtain ⟨L2, hL2, hR2⟩ : ∃ L2, L1 = ⟨geC r1, geB r1, geE r1⟩ :: L2 ∧ Runs (r1.drop n) L2 s d' := by
          cases hR with
          | short h => exact absurd h h4
          | dies h => exact absurd h h56
          | next h hR2 => exact ⟨_, rfl, by rw [hn] at hR2; exact hR2⟩
        obtain ⟨ta, tc, hrun, htail⟩ := tail_of ra1 r1.length rc1 n .i64 hnl
        have HRUN := hide hrun
        have c0 := hC3.1
        have f0 := hC3.2.2.1
        have hC5 := hC3.rest (.slice ta (r1.length - n) tc)
        have hs5 : (w3.setCell ⟨p, 0, none⟩ (.slice ta (r1.length - n) tc)).heap.size = w3.heap.size := size_setCell _ _ _
        have hB5 : Besides p p w (w3.setCell ⟨p, 0, none⟩ (.slice ta (r1.length - n) tc)) := hB3.set ⟨p, 0, none⟩ (Or.inl rfl) _
        have hI5 : Items (w3.setCell ⟨p, 0, none⟩ (.slice ta (r1.length - n) tc)) w.heap.size (fun g => g < w.heap.size) (.slice la L0.length lc) L0 := hI3.move (by omega) (fun g _ hg => Below.heap_setCell _ _ _ _ (by show g ≠ p; omega)) (fun _ _ h => h)
        have hK5 : Keeps (fun g => w.heap.size ≤ g ∧ (Value.slice la L0.length lc).ownBlock ≠ some g) (w3.setCell ⟨p, 0, none⟩ (.slice ta (r1.length - n) tc)) (fun w => Bytes w (.slice ta (r1.length - n) tc) (r1.drop n)) :=
          (hK3.map fun w' h => htail w' _ h).step (by omega) (fun g _ hp => Below.heap_setCell _ _ _ _ (by show g ≠ p; have := hp.1; omega))
        have hbod : Keeps (fun g => ¬ g < w.heap.size ∧ (Value.slice la L0.length lc).ownBlock ≠ some g) (w3.setCell ⟨p, 0, none⟩ (.slice ta (r1.length - n) tc)) (fun w => Bytes w (.slice va (geB r1).length vc) (geB r1)) :=
          (ho3.keeps fun k hk _ => ⟨by have := hBs.size; omega, fun e => by have := hlv k e; omega⟩).step (by omega) (fun g _ hp => Below.heap_setCell _ _ _ _ (by show g ≠ p; omega))
        have hal : Below (w3.setCell ⟨p, 0, none⟩ (.slice ta (r1.length - n) tc)).heap.size (w3.setCell ⟨p, 0, none⟩ (.slice ta (r1.length - n) tc)) ((w3.setCell ⟨p, 0, none⟩ (.slice ta (r1.length - n) tc)).alloc (.cells #[.string (strOfNums (geC r1)), .slice va (geB r1).length vc, .int .i64 (geE r1)] 52)) := (Below.refl _ _).alloc (Nat.le_refl _) _
        have hcl : ∀ j z, (itC ((⟨geC r1, geB r1, geE r1⟩ : It), Value.slice va (geB r1).length vc))[j]? = some z → ((w3.setCell ⟨p, 0, none⟩ (.slice ta (r1.length - n) tc)).alloc (.cells #[.string (strOfNums (geC r1)), .slice va (geB r1).length vc, .int .i64 (geE r1)] 52)).cell? ((⟨w3.heap.size, 0, none⟩ : Addr).add j) = some z := fun j y hj => by
          have := range_new (w3.setCell ⟨p, 0, none⟩ (.slice ta (r1.length - n) tc)) [.string (strOfNums (geC r1)), .slice va (geB r1).length vc, .int .i64 (geE r1)] 52 j y hj
          rw [hs5] at this
          rw [Addr.add_mid]
          exact this
        have hbd : ∀ z ∈ r1.drop n, Byte z := fun z hz => hbr z (List.mem_of_mem_drop hz)
        have HX := hide (And.intro hcl (And.intro (hI5.below hal) (And.intro (hC5.on hal) (And.intro (hB5.on hal) (And.intro (hK5.below hal) (And.intro (hbod.below hal) (And.intro hR2 (And.intro hbd (show L = L0 ++ ⟨geC r1, geB r1, geE r1⟩ :: L2 by rw [hL, hL2]))))))))) 
        have HSZ : Hid (w.heap.size ≤ w3.heap.size) := hide hB3.size
        have HLB : Hid (L0.length ≤ 900000) := hide (by have := HLL.out; rw [hL] at this; simp at this; omega)
        have HMS : Hid (restLen p wr = r1.length ∧ 24 ≤ n ∧ n ≤ r1.length) := hide ⟨restLen_is k0, by omega, hnl⟩
        have hnI : (n : Int) ≤ (r1.length : Int) := by omega
        have hne4 : (geE r1 == 4) = false := beq_eq_false_iff_ne.2 h4
        have hne5 : (geE r1 == 5) = false := beq_eq_false_iff_ne.2 (by omega)
        have hne6 : (geE r1 == 6) = false := beq_eq_false_iff_ne.2 (by omega)
        rw [hn]
        clear hC hK hbr hI hBs hL hR hC3 hK3 hI3 hB3 ho3 hb3 HM GG hC5 hB5 hI5 hK5 hbod hal hcl hlv hge hn hn1 hn2 hL2 hR2 hrun htail h4 h56
        generalize geE r1 = E at *
        generalize geC r1 = C at *
        generalize geB r1 = B at *
        go_wp2_with (first
          | (refine wp_from rfl (.tmp 45) (.tmp 46) rfl _ _ _ rfl rfl HRUN.out ?_)
          | (at_builtin; refine wp_push_item rfl (.tmp 50) (.tmp 55) rfl w.heap.size (fun g => g < w.heap.size) _ L0 rfl HX.out.2.1 _ ⟨w3.heap.size, 0, none⟩ 1 1 rfl rfl (⟨C, B, E⟩ : It) (.slice va B.length vc) rfl HX.out.1 rfl HX.out.2.2.2.2.2.1 HLB.out ?c1 ?c2 ?_))
        case c1 => rw [alloc_size, hs5]; have := HSZ.out; omega
        case c2 => intro k hk; rw [alloc_size, hs5] at hk; have := HSZ.out; omega
        intro v6 w6 hI6 hg6 hw6 hl6
        obtain ⟨-, -, x3, x4, x5, -, x7, x8, x9⟩ := HX.out
        have R : Hid (RFeeding w p 900000 L s d' v6 w6) := hide (rfeed_next hpw x3 x5 x8 (by simp; omega) x4 x9 (Or.inl ⟨rfl, x7⟩) hI6 hg6 (hw6.imp id (fun h k hk => by rw [alloc_size, hs5]; exact h k hk)) hl6)
        have HM6 : Hid (restLen p w6 = r1.length - n) := hide (restLen_is (x3.heap (hg6.block p x3.lt (fun e => by have := hl6 p e.symm; omega))).1)
        clear HX hI6 hg6 hw6 hl6 x3 x4 x5 x7 x8 x9
        go_wp2
        go_roundw
        case rel => first | exact R.out | ((repeat apply Exists.intro); exact ⟨R.out, rfl⟩)
        case measure => have h1 := HM6.out; have h2 := HMS.out; omega

end Go.Proofs.YtnjbjgjhomfndaaDoor
