/-
  What the document's Put of a transaction answers at this program, whatever the transaction.
-/
import Derived.Test.YtbeegcpmpgdbnabDoorTxWr
import Derived.Test.YtbeegcpmpgdbnabDoorRowHeap
import Derived.Test.YtbeegcpmpgdbnabDoorRfV
import Derived.Test.YtbeegcpmpgdbnabDoorRefForm07
namespace Go.Proofs.YtbeegcpmpgdbnabDoor
open Go.RowKit

theorem Grew.ne {w w' : World} {v v' : Value} {g : Nat} (h : Grew w w' v v') (hne : v.ownBlock ≠ some g) (hg : g < w.heap.size) : v'.ownBlock ≠ some g := fun e => by
  rcases h.2 with q | q
  · exact hne (q.symm.trans e)
  · have := q g e
    omega
theorem rnum7_any (x : Int) (n : Nat) (w : World) (hn : n = 4 ∨ n = 8) (hx0 : 0 ≤ x) (hx : x < 256 ^ n) :
    Calls Tryd.prog 37 #[.int .u64 x, .int .i64 n] w fun e w' => ∃ v', e = .returned v' ∧ Own w' w.heap.size v' (put n x) ∧ Below w.heap.size w w' := by
  have hw : Word x := by
    rcases hn with rfl | rfl
    · simp at hx; exact ⟨hx0, by omega⟩
    · simp at hx; exact ⟨hx0, by omega⟩
  have P := hide (rput_any x n w hw)
  have e1 : putL x n = put n x := by
    unfold putL
    rw [if_pos ⟨by rcases hn with rfl | rfl <;> rfl, by rw [Int.toNat_natCast]; exact hx⟩, Int.toNat_natCast]
  rw [e1] at P
  generalize put n x = m at *
  generalize putE x n = pe at *
  generalize (n : Int) = N at *
  clear e1 hx hw hn
  go_enter Tryd.func37, Tryd.ntmps37
  go_wp2_with fail
  refine P.out.mono ?_
  rintro e w1 ⟨v1, rfl, hown1, hbel1⟩
  have R : Hid (Own w1 w.heap.size v1 m ∧ Below w.heap.size w w1) := hide ⟨hown1, hbel1⟩
  clear hown1 hbel1
  go_wp2
  go_ret
  exact ⟨_, rfl, R.out⟩

set_option maxRecDepth 100000 in
set_option maxHeartbeats 2000000 in
theorem rtput_form (t : Tr) (iv ov : Value) (w : World) (hi : InsAt w iv t.ins) (ho : OutsAt w ov t.outs) (hok : TrOk t) (hf : formB t = true) :
    Calls Tryd.prog 19 #[.agg #[.int .u32 t.ver, iv, ov]] w fun e w' => ∃ v', e = .returned (.tuple #[v', .int .i64 0]) ∧ Own w' w.heap.size v' (txB t) ∧ Below w.heap.size w w' := by
  obtain ⟨hv, hin, hout⟩ := hok
  obtain ⟨f1, f2, f3⟩ := (formB_iff t).1 hf
  have F := hide (fun wx h1 h2 => rform_any t iv ov wx h1 h2 (fun x hx => (hin x hx).1))
  rw [hf] at F
  have hbel : Below w.heap.size w (w.alloc (.cells #[.int .u32 t.ver, iv, ov] 36)) := (Below.refl _ _).alloc (Nat.le_refl _) _
  have HI := hide (hi.on hbel)
  have HO := hide (ho.on hbel)
  have HIN : Hid (∀ x ∈ t.ins, InOk x ∧ x.key.length ≤ 64 ∧ (inB x).length ≤ 109) := hide (fun x hx => ⟨hin x hx, f3 x hx, inB_len (hin x hx).1 (f3 x hx)⟩)
  have HOUT : Hid (∀ x ∈ t.outs, OutOk x ∧ (outB x).length ≤ 40) := hide (fun x hx => ⟨hout x hx, outB_len (hout x hx).2.1⟩)
  have hn := range_new w [.int .u32 t.ver, iv, ov] 36
  have n0 := hn 0 _ rfl
  have n1 := hn 1 _ rfl
  have n2 := hn 2 _ rfl
  simp only [Nat.add_zero, Nat.zero_add] at n0 n1 n2
  have HLOW : Hid (w.heap.size ≤ (w.alloc (.cells #[.int .u32 t.ver, iv, ov] 36)).heap.size) := hide hbel.size
  have HBW := hide hbel
  obtain ⟨a, cap, rfl, hc1, hc2⟩ := hi.form
  obtain ⟨a', cap', rfl, hd1, hd2⟩ := ho.form
  have AN := hide (fun wx => rnum7_any t.ver 4 wx (Or.inl rfl) hv.1 (by simpa using hv.2))
  clear hbel hi ho hin hout hn f3 hf
  obtain ⟨ver, ins, outs⟩ := t
  simp only at *
  have HT : Hid (∀ pre1 pre2, pre1 = put 4 ver ++ var (ins.length : Int) → pre2 = pre1 ++ ins.flatMap inB ++ var (outs.length : Int) → pre2 ++ outs.flatMap outB = txB ⟨ver, ins, outs⟩) := hide (by
    rintro _ _ rfl rfl
    simp [txB])
  have H4 : Hid ((put 4 ver).length = 4) := hide (put_length 4 ver)
  generalize hP4 : put 4 ver = p4 at *
  have HP4 := hide hP4
  clear hP4
  go_enter Tryd.func19, Tryd.ntmps19
  go_upto_region 1 with fail
  generalize w.alloc (.cells #[.int .u32 ver, .slice a ins.length cap, .slice a' outs.length cap'] 36) = W0 at *
  generalize hg0 : w.heap.size = g0 at *
  have HG0 := hide hg0
  clear hg0
  have on : Hid (∀ (wr : World), Below W0.heap.size W0 wr → wr.cell? ⟨g0, 0, none⟩ = some (.int .u32 ver) ∧ wr.cell? ⟨g0, 1, none⟩ = some (.slice a ins.length cap) ∧ wr.cell? ⟨g0, 2, none⟩ = some (.slice a' outs.length cap')) := hide (by
    intro wr hb
    exact ⟨(hb.cell (World.block_lt_of_cell? _ _ n0)).trans n0, (hb.cell (World.block_lt_of_cell? _ _ n1)).trans n1, (hb.cell (World.block_lt_of_cell? _ _ n2)).trans n2⟩)
  go_wp2_with fail
  refine (F.out _ HI.out HO.out).mono ?_
  rintro e w1 ⟨rfl, hb1⟩
  obtain ⟨m0, m1, m2⟩ := on.out w1 hb1
  have HB1 := hide hb1
  clear hb1 n0 n1 n2 F
  go_wp2_with fail
  refine (AN.out _).mono ?_
  rintro e w2 ⟨v2, rfl, hown2, hbn2⟩
  have hown2 := hown2.low HB1.out.size
  have hb2 := HB1.out.trans (hbn2.mono HB1.out.size)
  obtain ⟨k0, k1, k2⟩ := on.out w2 hb2
  have HB2 := hide hb2
  have HO2 := hide hown2
  have AC := hide (fun wx => rvar_any wx (ins.length : Int) ⟨by omega, by omega⟩)
  have hwi : IntKind.u64.wrap (ins.length : Int) = ins.length := by simp [IntKind.wrap, IntKind.bits, IntKind.signed]; omega
  have hwo : IntKind.u64.wrap (outs.length : Int) = outs.length := by simp [IntKind.wrap, IntKind.bits, IntKind.signed]; omega
  clear hown2 hbn2 hb2 m0 m1 m2 AN HB1
  go_wp2_with fail
  refine (AC.out _).mono ?_
  rintro e w3 ⟨v3, rfl, hown3, hbn3⟩
  have HO3 := hide (HO2.out.on hbn3)
  have HV3 := hide hown3.bytes
  have HB3 := hide (HB2.out.trans (hbn3.mono HB2.out.size))
  have HV9 : Hid ((var (ins.length : Int)).length ≤ 9) := hide (var9 _)
  clear hown3 hbn3 HO2 HB2 AC k0 k1 k2
  go_wp2_with (at_builtin; refine wp_append_by rfl _ _ rfl W0.heap.size _ p4 rfl HO3.out _ (var (ins.length : Int)) rfl HV3.out ?c1 ?c2 ?_)
  case c1 => have := H4.out; have := HV9.out; omega
  case c2 => exact HB3.out.size
  intro v3' w3' hown3 hg3
  have hb3 := HB3.out.trans (HO3.out.grew hg3 HB3.out.size)
  obtain ⟨q0, q1, q2⟩ := on.out w3' hb3
  have HPL : Hid ((p4 ++ var (ins.length : Int)).length ≤ 13) := hide (by have := H4.out; have := var9 (ins.length : Int); simp; omega)
  have HPE : Hid (p4 ++ var (ins.length : Int) = p4 ++ var (ins.length : Int)) := hide rfl
  generalize hpre : p4 ++ var (ins.length : Int) = pre at *
  have HPRE := hide hpre
  have HS : Hid (Putting W0 inB pre ins v3' (.int .i64 0) w3') := hide ⟨0, by omega, rfl, by simpa using hown3, hb3⟩
  clear hown3 hg3 hb3 HO3 HV3 HB3 hpre HPE
  go_wp2_with fail
  go_loopw [4, 26] (fun v i wr => Putting W0 inB pre ins v i wr) (fun _ i _ => ins.length - (intOf i).toNat)
  case atStart => exact HS.out
  case round =>
    clear HS q0 q1 q2
    obtain ⟨k, hk, rfl, hown, hB⟩ := hrel
    have HB := hide hB
    have HOWN := hide hown
    have HLEN : Hid ((pre ++ (ins.take k).flatMap inB).length ≤ 1000) := hide (by
      have := take_len k (fun x hx => (HIN.out x hx).2.2) f1
      have := HPL.out
      simp only [List.length_append]
      omega)
    by_cases hlt : k < ins.length
    · obtain ⟨x, hx⟩ : ∃ x, ins[k]? = some x := ⟨_, List.getElem?_eq_getElem hlt⟩
      obtain ⟨b, off, kv, rfl, hr, hbv⟩ := HI.out.get hx
      obtain ⟨hxo, hx64, -⟩ := HIN.out x (List.mem_of_getElem? hx)
      have hxl := hxo.1
      have HR := hide (range_on hr hB)
      have HN : Hid ((Tryd.prog.info? 49).map (·.size) = some (inC (x, kv)).length) := hide (by rw [inC_length hxl]; exact info_in)
      have H1 : Hid (∀ u ∈ inC (x, kv), u.oneCell' = true) := hide (inC_one hbv.oneCell)
      have HTH : Hid (∀ w : World, (w.alloc (.cells #[.int .u8 0, .int .u8 0, .int .u8 0, .int .u8 0, .int .u8 0, .int .u8 0, .int .u8 0, .int .u8 0, .int .u8 0, .int .u8 0, .int .u8 0, .int .u8 0, .int .u8 0, .int .u8 0, .int .u8 0, .int .u8 0, .int .u8 0, .int .u8 0, .int .u8 0, .int .u8 0, .int .u8 0, .int .u8 0, .int .u8 0, .int .u8 0, .int .u8 0, .int .u8 0, .int .u8 0, .int .u8 0, .int .u8 0, .int .u8 0, .int .u8 0, .int .u8 0, .int .u32 0, .slice none 0 0] 49)).there w.heap.size 0 (inC (x, kv)).length) := hide (fun w => by rw [inC_length hxl]; exact in_there w)
      have HKV := hide (hbv.old (P := fun g => g < W0.heap.size) hB (fun g hg => hg))
      have HXO := hide hxo
      have HX := hide hx
      have hk1 : (k : Int) < (ins.length : Int) := by omega
      clear hr hbv hx hxo hown hB
      go_upto_region 8 with (first | (refine wpList_load_mid rfl 49 (.tmp 28) rfl b (off + k * 34) rfl (inC (x, kv)) _ HR.out Tryd.underlying49 rfl HN.out ?_) | (refine wp_store_row rfl 49 (.tmp 6) (.tmp 29) rfl wr.heap.size 0 (inC (x, kv)) rfl rfl (HTH.out wr) HN.out H1.out ?_))
      have hW : ((wr.alloc (.cells #[.int .u8 0, .int .u8 0, .int .u8 0, .int .u8 0, .int .u8 0, .int .u8 0, .int .u8 0, .int .u8 0, .int .u8 0, .int .u8 0, .int .u8 0, .int .u8 0, .int .u8 0, .int .u8 0, .int .u8 0, .int .u8 0, .int .u8 0, .int .u8 0, .int .u8 0, .int .u8 0, .int .u8 0, .int .u8 0, .int .u8 0, .int .u8 0, .int .u8 0, .int .u8 0, .int .u8 0, .int .u8 0, .int .u8 0, .int .u8 0, .int .u8 0, .int .u8 0, .int .u32 0, .slice none 0 0] 49)).setCells wr.heap.size 0 (inC (x, kv))).rangeAt wr.heap.size 0 (inC (x, kv)) := World.rangeAt_setCells_same _ _ _ _ (HTH.out wr)
      have hB2 : Below wr.heap.size wr ((wr.alloc (.cells #[.int .u8 0, .int .u8 0, .int .u8 0, .int .u8 0, .int .u8 0, .int .u8 0, .int .u8 0, .int .u8 0, .int .u8 0, .int .u8 0, .int .u8 0, .int .u8 0, .int .u8 0, .int .u8 0, .int .u8 0, .int .u8 0, .int .u8 0, .int .u8 0, .int .u8 0, .int .u8 0, .int .u8 0, .int .u8 0, .int .u8 0, .int .u8 0, .int .u8 0, .int .u8 0, .int .u8 0, .int .u8 0, .int .u8 0, .int .u8 0, .int .u8 0, .int .u8 0, .int .u32 0, .slice none 0 0] 49)).setCells wr.heap.size 0 (inC (x, kv))) := below_sets (Nat.le_refl _) _ _ _ ((Below.refl _ _).alloc (Nat.le_refl _) _)
      have HRW0 := hide hW
      have hTH := World.there_setCells (HTH.out wr) wr.heap.size 0 (inC (x, kv))
      rw [inC_length hxl] at hTH
      have HA : Hid (Arr ((wr.alloc (.cells #[.int .u8 0, .int .u8 0, .int .u8 0, .int .u8 0, .int .u8 0, .int .u8 0, .int .u8 0, .int .u8 0, .int .u8 0, .int .u8 0, .int .u8 0, .int .u8 0, .int .u8 0, .int .u8 0, .int .u8 0, .int .u8 0, .int .u8 0, .int .u8 0, .int .u8 0, .int .u8 0, .int .u8 0, .int .u8 0, .int .u8 0, .int .u8 0, .int .u8 0, .int .u8 0, .int .u8 0, .int .u8 0, .int .u8 0, .int .u8 0, .int .u8 0, .int .u8 0, .int .u32 0, .slice none 0 0] 49)).setCells wr.heap.size 0 (inC (x, kv))) wr.heap.size 0 .u8 x.tx) := hide ⟨range_left HRW0.out, there_part hTH 0 _ (by omega)⟩
      have hck := inC_key HRW0.out hxl
      simp only [Nat.zero_add] at hck
      have hne : u4.ownBlock ≠ some wr.heap.size := fun e => by have := World.ownsRow.lt HOWN.out _ e; omega
      generalize (wr.alloc (.cells #[.int .u8 0, .int .u8 0, .int .u8 0, .int .u8 0, .int .u8 0, .int .u8 0, .int .u8 0, .int .u8 0, .int .u8 0, .int .u8 0, .int .u8 0, .int .u8 0, .int .u8 0, .int .u8 0, .int .u8 0, .int .u8 0, .int .u8 0, .int .u8 0, .int .u8 0, .int .u8 0, .int .u8 0, .int .u8 0, .int .u8 0, .int .u8 0, .int .u8 0, .int .u8 0, .int .u8 0, .int .u8 0, .int .u8 0, .int .u8 0, .int .u8 0, .int .u8 0, .int .u32 0, .slice none 0 0] 49)).setCells wr.heap.size 0 (inC (x, kv)) = W2 at *
      have HOW := hide (HOWN.out.on hB2)
      have HBW2 : Hid (Below W0.heap.size W0 W2) := hide (below_on' HB.out hB2 (Nat.le_refl _))
      have HK2 := hide (keeps_low HKV.out hB2 HB.out.size)
      have NU := hide (fun wx => rnum7_any x.n 4 wx (Or.inl rfl) HXO.out.2.2.1.1 (by simpa using HXO.out.2.2.1.2))
      have VA := hide (fun wx => rvar_any wx (x.key.length : Int) ⟨by omega, by omega⟩)
      have hwk : IntKind.u64.wrap (x.key.length : Int) = x.key.length := by simp [IntKind.wrap, IntKind.bits, IntKind.signed]; omega
      have hwn : IntKind.u64.wrap x.n = x.n := by have := HXO.out.2.2.1; simp [IntKind.wrap, IntKind.bits, IntKind.signed]; omega
      have HXL : Hid (x.tx.length = 32) := hide hxl
      obtain ⟨pa, pc, rfl, -, -⟩ := HK2.out.self.form
      have HP4 : Hid ((put 4 x.n).length = 4) := hide (put_length 4 _)
      have HV9 : Hid ((var (x.key.length : Int)).length ≤ 9) := hide (var9 _)
      have HK64 : Hid (x.key.length ≤ 64) := hide hx64
      clear hB2 HR H1 HTH HRW0 hTH HOWN HKV
      generalize wr.heap.size = g at *
      have HCK := hide hck
      have HNE := hide hne
      obtain ⟨hc1, hc2⟩ := hck
      clear hne
      go_wp2_with (at_builtin; refine wp_append_by rfl _ _ rfl W0.heap.size _ _ rfl HOW.out _ x.tx rfl (HA.out.asBytes 32 HXL.out (by omega)) ?c1 ?c2 ?_)
      case c1 => have := HXL.out; have := HLEN.out; omega
      case c2 => exact HBW2.out.size
      intro v1 w1 hown1 hg1
      have hd1 := hg1.cell hc1 HNE.out
      have hd2 := hg1.cell hc2 HNE.out
      have HN1 := hide (hg1.ne HNE.out (World.block_lt_of_cell? _ _ hc1))
      have hb1 := HOW.out.grew hg1 HBW2.out.size
      have HB1 := hide (HBW2.out.trans hb1)
      have HK1 := hide (keeps_low HK2.out hb1 (Nat.le_refl _))
      have HO1 := hide hown1
      clear hc1 hc2 hg1 hb1 hown1 HOW HBW2 HK2 HNE HCK HA
      go_wp2_with fail
      refine (NU.out _).mono ?_
      rintro e w2 ⟨vn, rfl, hownn, hbn⟩
      have hc1 := (hbn.cell (World.block_lt_of_cell? _ _ hd1)).trans hd1
      have HO2 := hide (HO1.out.on hbn)
      have HBY := hide hownn.bytes
      have HB2 := hide (HB1.out.trans (hbn.mono HB1.out.size))
      have HK2 := hide (keeps_low HK1.out (hbn.mono HB1.out.size) (Nat.le_refl _))
      clear hd1 hd2 hownn hbn HO1 HB1 HK1 NU
      go_wp2_with (at_builtin; refine wp_append_by rfl _ _ rfl W0.heap.size _ _ rfl HO2.out _ (put 4 x.n) rfl HBY.out ?c3 ?c4 ?_)
      case c3 => simp only [List.length_append]; have := HXL.out; have := HLEN.out; have := HP4.out; simp only [List.length_append] at *; omega
      case c4 => exact HB2.out.size
      intro v3 w3 hown3 hg3
      have hd1 := hg3.cell hc1 HN1.out
      have HN3 := hide (hg3.ne HN1.out (World.block_lt_of_cell? _ _ hc1))
      have hb3 := HO2.out.grew hg3 HB2.out.size
      have HB3 := hide (HB2.out.trans hb3)
      have HK3 := hide (keeps_low HK2.out hb3 (Nat.le_refl _))
      have HO3 := hide hown3
      clear hc1 hown3 hg3 hb3 HO2 HB2 HK2 HN1 HBY
      go_wp2_with fail
      refine (VA.out _).mono ?_
      rintro e w4 ⟨vv, rfl, hownv, hbv⟩
      have hc1 := (hbv.cell (World.block_lt_of_cell? _ _ hd1)).trans hd1
      have HO4 := hide (HO3.out.on hbv)
      have HBY := hide hownv.bytes
      have HB4 := hide (HB3.out.trans (hbv.mono HB3.out.size))
      have HK4 := hide (keeps_low HK3.out (hbv.mono HB3.out.size) (Nat.le_refl _))
      clear hd1 hownv hbv HO3 HB3 HK3 VA
      go_wp2_with (at_builtin; refine wp_append_by rfl _ _ rfl W0.heap.size _ _ rfl HO4.out _ (var (x.key.length : Int)) rfl HBY.out ?c5 ?c6 ?_)
      case c5 => have := HXL.out; have := HLEN.out; have := HP4.out; have := HV9.out; simp only [List.length_append] at *; omega
      case c6 => exact HB4.out.size
      intro v5 w5 hown5 hg5
      have hd1 := hg5.cell hc1 HN3.out
      have hb5 := HO4.out.grew hg5 HB4.out.size
      have HB5 := hide (HB4.out.trans hb5)
      have HK5 := hide (keeps_low HK4.out hb5 (Nat.le_refl _))
      have HO5 := hide hown5
      clear hc1 hown5 hg5 hb5 HO4 HB4 HK4 HN3 HBY
      go_wp2_with (at_builtin; refine wp_append_by rfl _ _ rfl W0.heap.size _ _ rfl HO5.out _ x.key rfl HK5.out.self ?c7 ?c8 ?_)
      case c7 => have := HXL.out; have := HLEN.out; have := HP4.out; have := HV9.out; have := HK64.out; simp only [List.length_append] at *; omega
      case c8 => exact HB5.out.size
      intro v6 w6 hown6 hg6
      have hb6 := HB5.out.trans (HO5.out.grew hg6 HB5.out.size)
      have R : Hid (Putting W0 inB pre ins v6 (.int .i64 ((k + 1 : Nat) : Int)) w6) := hide ⟨k + 1, by omega, rfl, by
        have h6 := hown6
        (try simp only [List.append_assoc] at h6)
        rw [take_flat HX.out]
        exact h6, hb6⟩
      clear hown6 hg6 hb6 hd1 HO5 HB5 HK5
      go_wp2
      go_roundw
      case rel => first | exact R.out | ((repeat apply Exists.intro); exact ⟨R.out, rfl⟩)
      case measure => simp [intOf]; omega
    · have hk2 : (ins.length : Int) ≤ (k : Int) := by omega
      have htk : ins.take k = ins := List.take_of_length_le (by omega)
      rw [htk] at HOWN HLEN
      obtain ⟨q0, q1, q2⟩ := on.out wr hB
      have AC := hide (fun wx => rvar_any wx (outs.length : Int) ⟨by omega, by omega⟩)
      have HLEN2 : Hid ((pre ++ ins.flatMap inB ++ var (outs.length : Int)).length ≤ 1100) := hide (by have := HLEN.out; have := var9 (outs.length : Int); simp only [List.length_append] at *; omega)
      have HT2 := hide (HT.out _ _ rfl rfl)
      have HV9 : Hid ((var (outs.length : Int)).length ≤ 9) := hide (var9 _)
      clear hown hB htk
      go_wp2_with fail
      refine (AC.out _).mono ?_
      rintro e w3 ⟨v3, rfl, hown3, hbn3⟩
      have HO3 := hide (HOWN.out.on hbn3)
      have HV3 := hide hown3.bytes
      have HB3 := hide (HB.out.trans (hbn3.mono HB.out.size))
      clear hown3 hbn3 AC q0 q1 q2
      go_wp2_with (at_builtin; refine wp_append_by rfl _ _ rfl W0.heap.size _ _ rfl HO3.out _ (var (outs.length : Int)) rfl HV3.out ?d1 ?d2 ?_)
      case d1 => have := HLEN.out; have := HV9.out; omega
      case d2 => exact HB3.out.size
      intro v3' w3' hown3 hg3
      obtain ⟨pre2, hpre2⟩ : ∃ p, p = pre ++ ins.flatMap inB ++ var (outs.length : Int) := ⟨_, rfl⟩
      rw [← List.append_assoc] at hown3
      rw [← hpre2] at hown3 HLEN2 HT2
      clear hpre2
      have hb3 := HB3.out.trans (HO3.out.grew hg3 HB3.out.size)
      obtain ⟨q3, q4, q5⟩ := on.out w3' hb3
      have HS : Hid (Putting W0 outB pre2 outs v3' (.int .i64 0) w3') := hide ⟨0, by omega, rfl, by simpa using hown3, hb3⟩
      clear hown3 hg3 hb3 HO3 HV3 HB3
      go_wp2_with fail
      go_loopw [4, 64] (fun v i wr => Putting W0 outB pre2 outs v i wr) (fun _ i _ => outs.length - (intOf i).toNat)
      case atStart => exact HS.out
      case round =>
        clear HS q3 q4 q5
        obtain ⟨k, hk, rfl, hown, hB⟩ := hrel
        have HB := hide hB
        have HOWN := hide hown
        have HLEN3 : Hid ((pre2 ++ (outs.take k).flatMap outB).length ≤ 2000) := hide (by
          have := take_len k (fun x hx => (HOUT.out x hx).2) f2
          have := HLEN2.out
          simp only [List.length_append]
          omega)
        by_cases hlt : k < outs.length
        · obtain ⟨x, hx⟩ : ∃ x, outs[k]? = some x := ⟨_, List.getElem?_eq_getElem hlt⟩
          obtain ⟨b, off, rfl, hr⟩ := HO.out.get hx
          obtain ⟨hxo, -⟩ := HOUT.out x (List.mem_of_getElem? hx)
          have hxl := hxo.2.1
          have HR := hide (range_on hr hB)
          have HN : Hid ((Tryd.prog.info? 51).map (·.size) = some (outC x).length) := hide (by rw [outC_length hxl]; exact info_out)
          have H1 : Hid (∀ u ∈ outC x, u.oneCell' = true) := hide (outC_one x)
          have HTH : Hid (∀ w : World, (w.alloc (.cells #[.int .u64 0, .int .u8 0, .int .u8 0, .int .u8 0, .int .u8 0, .int .u8 0, .int .u8 0, .int .u8 0, .int .u8 0, .int .u8 0, .int .u8 0, .int .u8 0, .int .u8 0, .int .u8 0, .int .u8 0, .int .u8 0, .int .u8 0, .int .u8 0, .int .u8 0, .int .u8 0, .int .u8 0, .int .u8 0, .int .u8 0, .int .u8 0, .int .u8 0, .int .u8 0, .int .u8 0, .int .u8 0, .int .u8 0, .int .u8 0, .int .u8 0, .int .u8 0, .int .u8 0] 51)).there w.heap.size 0 (outC x).length) := hide (fun w => by rw [outC_length hxl]; exact out_there w)
          have HXO := hide hxo
          have HX := hide hx
          have hk1 : (k : Int) < (outs.length : Int) := by omega
          clear hr hx hxo hown hB
          go_upto_region 17 with (first | (refine wpList_load_mid rfl 51 (.tmp 66) rfl b (off + k * 33) rfl (outC x) _ HR.out Tryd.underlying51 rfl HN.out ?_) | (refine wp_store_row rfl 51 (.tmp 8) (.tmp 67) rfl wr.heap.size 0 (outC x) rfl rfl (HTH.out wr) HN.out H1.out ?_))
          have hW : ((wr.alloc (.cells #[.int .u64 0, .int .u8 0, .int .u8 0, .int .u8 0, .int .u8 0, .int .u8 0, .int .u8 0, .int .u8 0, .int .u8 0, .int .u8 0, .int .u8 0, .int .u8 0, .int .u8 0, .int .u8 0, .int .u8 0, .int .u8 0, .int .u8 0, .int .u8 0, .int .u8 0, .int .u8 0, .int .u8 0, .int .u8 0, .int .u8 0, .int .u8 0, .int .u8 0, .int .u8 0, .int .u8 0, .int .u8 0, .int .u8 0, .int .u8 0, .int .u8 0, .int .u8 0, .int .u8 0] 51)).setCells wr.heap.size 0 (outC x)).rangeAt wr.heap.size 0 (outC x) := World.rangeAt_setCells_same _ _ _ _ (HTH.out wr)
          have hB2 : Below wr.heap.size wr ((wr.alloc (.cells #[.int .u64 0, .int .u8 0, .int .u8 0, .int .u8 0, .int .u8 0, .int .u8 0, .int .u8 0, .int .u8 0, .int .u8 0, .int .u8 0, .int .u8 0, .int .u8 0, .int .u8 0, .int .u8 0, .int .u8 0, .int .u8 0, .int .u8 0, .int .u8 0, .int .u8 0, .int .u8 0, .int .u8 0, .int .u8 0, .int .u8 0, .int .u8 0, .int .u8 0, .int .u8 0, .int .u8 0, .int .u8 0, .int .u8 0, .int .u8 0, .int .u8 0, .int .u8 0, .int .u8 0] 51)).setCells wr.heap.size 0 (outC x)) := below_sets (Nat.le_refl _) _ _ _ ((Below.refl _ _).alloc (Nat.le_refl _) _)
          have HRW0 := hide hW
          have hTH := World.there_setCells (HTH.out wr) wr.heap.size 0 (outC x)
          rw [outC_length hxl] at hTH
          have HA : Hid (Arr ((wr.alloc (.cells #[.int .u64 0, .int .u8 0, .int .u8 0, .int .u8 0, .int .u8 0, .int .u8 0, .int .u8 0, .int .u8 0, .int .u8 0, .int .u8 0, .int .u8 0, .int .u8 0, .int .u8 0, .int .u8 0, .int .u8 0, .int .u8 0, .int .u8 0, .int .u8 0, .int .u8 0, .int .u8 0, .int .u8 0, .int .u8 0, .int .u8 0, .int .u8 0, .int .u8 0, .int .u8 0, .int .u8 0, .int .u8 0, .int .u8 0, .int .u8 0, .int .u8 0, .int .u8 0, .int .u8 0] 51)).setCells wr.heap.size 0 (outC x)) wr.heap.size 1 .u8 x.lock) := hide ⟨by
            have h := range_right (c := [Value.int .u64 x.val]) (d := vals .u8 x.lock) HRW0.out
            simpa using h, by
            have h := there_part hTH 1 x.lock.length (by omega)
            simpa using h⟩
          have hck := HRW0.out 0 _ rfl
          simp only [Nat.zero_add] at hck
          have hne : u4.ownBlock ≠ some wr.heap.size := fun e => by have := World.ownsRow.lt HOWN.out _ e; omega
          generalize (wr.alloc (.cells #[.int .u64 0, .int .u8 0, .int .u8 0, .int .u8 0, .int .u8 0, .int .u8 0, .int .u8 0, .int .u8 0, .int .u8 0, .int .u8 0, .int .u8 0, .int .u8 0, .int .u8 0, .int .u8 0, .int .u8 0, .int .u8 0, .int .u8 0, .int .u8 0, .int .u8 0, .int .u8 0, .int .u8 0, .int .u8 0, .int .u8 0, .int .u8 0, .int .u8 0, .int .u8 0, .int .u8 0, .int .u8 0, .int .u8 0, .int .u8 0, .int .u8 0, .int .u8 0, .int .u8 0] 51)).setCells wr.heap.size 0 (outC x) = W2 at *
          have HOW := hide (HOWN.out.on hB2)
          have HBW2 : Hid (Below W0.heap.size W0 W2) := hide (below_on' HB.out hB2 (Nat.le_refl _))
          have NU := hide (fun wx => rnum7_any x.val 8 wx (Or.inr rfl) HXO.out.1.1 (by simpa using HXO.out.1.2))
          have HXL : Hid (x.lock.length = 32) := hide hxl
          have HP8 : Hid ((put 8 x.val).length = 8) := hide (put_length 8 _)
          have hx0 := HXO.out.1
          obtain ⟨hx0, hx1⟩ := hx0
          clear hB2 HR H1 HTH HRW0 hTH HOWN
          generalize wr.heap.size = g at *
          have HNE := hide hne
          clear hne
          go_wp2_with fail
          refine (NU.out _).mono ?_
          rintro e w2 ⟨vn, rfl, hownn, hbn⟩
          have hc1 := (hbn.cell (World.block_lt_of_cell? _ _ hck)).trans hck
          have HA2 := hide (HA.out.on hbn)
          have HO2 := hide (HOW.out.on hbn)
          have HBY := hide hownn.bytes
          have HB2 := hide (HBW2.out.trans (hbn.mono HBW2.out.size))
          clear hck hownn hbn HOW HBW2 HA NU
          go_wp2_with (at_builtin; refine wp_append_by rfl _ _ rfl W0.heap.size _ _ rfl HO2.out _ (put 8 x.val) rfl HBY.out ?d3 ?d4 ?_)
          case d3 => have := HLEN3.out; have := HP8.out; omega
          case d4 => exact HB2.out.size
          intro v3 w3 hown3 hg3
          have hA3 : Arr w3 g 1 .u8 x.lock := by
            have e := hg3.1.block g (World.block_lt_of_cell? _ _ hc1) (fun e => HNE.out e.symm)
            exact ⟨range_heap HA2.out.1 e, there_heap HA2.out.2 e⟩
          have hb3 := HO2.out.grew hg3 HB2.out.size
          have HB3 := hide (HB2.out.trans hb3)
          have HA3 := hide hA3
          have HO3 := hide hown3
          clear hc1 hown3 hg3 hb3 hA3 HO2 HB2 HA2 HBY
          go_wp2_with (at_builtin; refine wp_append_by rfl _ _ rfl W0.heap.size _ _ rfl HO3.out _ x.lock rfl (HA3.out.asBytes 32 HXL.out (by omega)) ?d5 ?d6 ?_)
          case d5 => have := HLEN3.out; have := HP8.out; have := HXL.out; simp only [List.length_append] at *; omega
          case d6 => exact HB3.out.size
          intro v4 w4 hown4 hg4
          have hb4 := HB3.out.trans (HO3.out.grew hg4 HB3.out.size)
          have R : Hid (Putting W0 outB pre2 outs v4 (.int .i64 ((k + 1 : Nat) : Int)) w4) := hide ⟨k + 1, by omega, rfl, by
            have h4 := hown4
            (try simp only [List.append_assoc] at h4)
            rw [take_flat HX.out]
            exact h4, hb4⟩
          clear hown4 hg4 hb4 HO3 HB3 HA3
          go_wp2
          go_roundw
          case rel => first | exact R.out | ((repeat apply Exists.intro); exact ⟨R.out, rfl⟩)
          case measure => simp [intOf]; omega
        · have hk2 : (outs.length : Int) ≤ (k : Int) := by omega
          have htk : outs.take k = outs := List.take_of_length_le (by omega)
          rw [htk, HT2.out] at HOWN
          have R : Hid (Own wr g0 u4 (txB ⟨ver, ins, outs⟩) ∧ Below g0 w wr) := hide ⟨HOWN.out.low HLOW.out, HBW.out.trans (HB.out.mono HLOW.out)⟩
          clear hown hB htk
          go_wp2
          go_ret2
          rw [HG0.out]
          exact ⟨_, rfl, R.out⟩

theorem rtput_long (t : Tr) (iv ov : Value) (w : World) (hi : InsAt w iv t.ins) (ho : OutsAt w ov t.outs) (hok : TrOk t) (hf : formB t = false) :
    Calls Tryd.prog 19 #[.agg #[.int .u32 t.ver, iv, ov]] w fun e w' => ∃ v', e = .returned (.tuple #[v', .int .i64 5]) ∧ Own w' w.heap.size v' [] ∧ Below w.heap.size w w' := by
  have hbel : Below w.heap.size w (w.alloc (.cells #[.int .u32 t.ver, iv, ov] 36)) := (Below.refl _ _).alloc (Nat.le_refl _) _
  have F := hide (rform_any t iv ov _ (hi.on hbel) (ho.on hbel) (fun x hx => (hok.2.1 x hx).1))
  rw [hf] at F
  have HB := hide hbel
  obtain ⟨a, cap, rfl, hc1, hc2⟩ := hi.form
  obtain ⟨a', cap', rfl, hd1, hd2⟩ := ho.form
  clear hi ho hok hf hbel
  obtain ⟨ver, ins, outs⟩ := t
  simp only at *
  go_enter Tryd.func19, Tryd.ntmps19
  go_wp2_with fail
  refine F.out.mono ?_
  rintro e w1 ⟨rfl, hb1⟩
  have R := hide (below_on HB.out hb1)
  clear hb1
  go_wp2
  go_ret2
  exact ⟨_, rfl, Own.nil _ _, R.out⟩
theorem rtput_any (t : Tr) (iv ov : Value) (w : World) (hi : InsAt w iv t.ins) (ho : OutsAt w ov t.outs) (hok : TrOk t) :
    Calls Tryd.prog 19 #[.agg #[.int .u32 t.ver, iv, ov]] w fun e w' => ∃ v', e = .returned (.tuple #[v', .int .i64 (ptE t)]) ∧ Own w' w.heap.size v' (ptL t) ∧ Below w.heap.size w w' := by
  unfold ptL ptE
  cases hf : formB t with
  | true =>
    rw [if_pos rfl, if_pos rfl]
    exact rtput_form t iv ov w hi ho hok hf
  | false =>
    rw [if_neg (by decide), if_neg (by decide)]
    exact rtput_long t iv ov w hi ho hok hf
end Go.Proofs.YtbeegcpmpgdbnabDoor
