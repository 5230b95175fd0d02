/- The law PileGoes (layer 5), walked: for every list of numbers, bound and kind it returns true, and only new memory is made. -/
import Derived.Test.YtggcolojpjddjaaFt
import Derived.Test.YtggcolojpjddjaaFl
import Derived.Deep.QuietTactic
import Derived.Sort.QuietIn
namespace Go.Proofs.Ytggcolojpjddjaa
open Go.RowKit
attribute [local go_sem] Oper.semAt_some

/-- What lies there ahead of the first loop: boxes, piles, lists. -/
structure Goes0 (w W : World) (N : Nat) (y : Int) (lp lc lx bp cb pb cbx : Nat) (gp gc : Option Nat) (wv : Value) (L : List Int) : Prop where
  hm : HdAt W w.heap.size (.int .u8 N)
  hk : HdAt W (w.heap.size + 1) (.int .i64 y)
  hr : HdAt W (w.heap.size + 2) (.bool false)
  hp : PileAt W lp bp gp L
  hc : PileAt W lc cb gc L
  hpb : HdAt W pb (.pointer (some ⟨bp, 0, none⟩))
  hcb : HdAt W cbx (.pointer (some ⟨cb, 0, none⟩))
  hf : ListIn W lx (cbx + 1) (.slice none 0 0) []
  hb : ListIn W lx (cbx + 2) (.slice none 0 0) []
  hs : ListIn W lx (cbx + 3) (.slice none 0 0) []
  hw : IntsAt W wv L
  hwr : ∀ k, wv.ownBlock = some k → pb < k ∧ k < lc
  below : Below w.heap.size w W
  ord : w.heap.size + 3 ≤ lp ∧ lp ≤ bp ∧ bp < pb ∧ pb < lc ∧ lc ≤ cb ∧ cb < cbx ∧ lx = cbx + 4 ∧ cbx + 4 ≤ W.heap.size
  rp : ∀ k, gp = some k → lp ≤ k ∧ k < pb
  rc : ∀ k, gc = some k → lc ≤ k ∧ k < cbx
theorem Goes0.later {w W W' : World} {N : Nat} {y : Int} {lp lc lx bp cb pb cbx : Nat} {gp gc : Option Nat} {wv : Value} {L : List Int} (h : Goes0 w W N y lp lc lx bp cb pb cbx gp gc wv L) (hb : Below W.heap.size W W') : Goes0 w W' N y lp lc lx bp cb pb cbx gp gc wv L :=
  ⟨h.hm.later hb, h.hk.later hb, h.hr.later hb, h.hp.later hb, h.hc.later hb, h.hpb.later hb, h.hcb.later hb, h.hf.later hb, h.hb.later hb, h.hs.later hb, h.hw.later hb, h.hwr, stepB h.below hb, by have h1 := h.ord; have h2 := hb.size; omega, h.rp, h.rc⟩
theorem Goes0.offH {w W : World} {N : Nat} {y : Int} {lp lc lx bp cb pb cbx : Nat} {gp gc : Option Nat} {wv : Value} {L : List Int} (h : Goes0 w W N y lp lc lx bp cb pb cbx gp gc wv L) {k : Nat} (hk : (k < lp ∨ pb ≤ k) ∧ k ≠ cbx + 1) : Off (fun k => k = bp ∨ k = cbx + 1) W k := by
  have h1 := h.ord
  exact off_pl h.hp h.hf (by omega) hk.2 (fun e => by have := h.rp k e; omega) (fun e => by cases e)
/-- What lies there behind the first loop. -/
structure Goes1 (w W : World) (N : Nat) (y : Int) (lc bp cb pb cbx : Nat) (gc : Option Nat) (wv vf : Value) (L F : List Int) : Prop where
  hm : HdAt W w.heap.size (.int .u8 N)
  hk : HdAt W (w.heap.size + 1) (.int .i64 y)
  hr : HdAt W (w.heap.size + 2) (.bool false)
  hc : PileAt W lc cb gc L
  hcb : HdAt W cbx (.pointer (some ⟨cb, 0, none⟩))
  hf : ListIn W (cbx + 4) (cbx + 1) vf F
  hb : ListIn W (cbx + 4) (cbx + 2) (.slice none 0 0) []
  hs : ListIn W (cbx + 4) (cbx + 3) (.slice none 0 0) []
  hw : IntsAt W wv L
  hwr : ∀ k, wv.ownBlock = some k → pb < k ∧ k < lc
  below : Below w.heap.size w W
  ord : w.heap.size + 3 ≤ pb ∧ pb < lc ∧ lc ≤ cb ∧ cb < cbx ∧ cbx + 4 ≤ W.heap.size
  rc : ∀ k, gc = some k → lc ≤ k ∧ k < cbx
theorem Goes0.next {w w5 W : World} {N : Nat} {y : Int} {lp lc lx bp cb pb cbx : Nat} {gp gc : Option Nat} {wv vf : Value} {L F : List Int} (h : Goes0 w w5 N y lp lc lx bp cb pb cbx gp gc wv L) (hk : KpP (fun _ => False) (fun k => k = bp ∨ k = cbx + 1) w5 W)
    (hf : ListIn W (cbx + 4) (cbx + 1) vf F) (hb : Below w.heap.size w W) : Goes1 w W N y lc bp cb pb cbx gc wv vf L F := by
  have o := h.ord
  have f : ∀ k, (k < lp ∨ pb ≤ k) ∧ k ≠ cbx + 1 → ¬(fun _ : Nat => False) k ∧ Off (fun k => k = bp ∨ k = cbx + 1) w5 k := fun k hk => ⟨fun e => e, h.offH hk⟩
  have hb' := h.hb
  have hs' := h.hs
  rw [o.2.2.2.2.2.2.1] at hb' hs'
  exact ⟨box_kept h.hm hk (fun e => e) (f _ (by omega)).2, box_kept h.hk hk (fun e => e) (f _ (by omega)).2, box_kept h.hr hk (fun e => e) (f _ (by omega)).2, h.hc.kept hk (f _ (by omega)) (fun k e => f k (by have := h.rc k e; omega)), box_kept h.hcb hk (fun e => e) (f _ (by omega)).2,
    hf, hb'.kept hk (f _ (by omega)) (fun k e => by cases e), hs'.kept hk (f _ (by omega)) (fun k e => by cases e), vals_kp h.hw hk (fun k e => f k (by have := h.hwr k e; omega)), h.hwr, hb, by have := hk.size; omega, h.rc⟩
theorem Goes1.later {w W W' : World} {N : Nat} {y : Int} {lc bp cb pb cbx : Nat} {gc : Option Nat} {wv vf : Value} {L F : List Int} (h : Goes1 w W N y lc bp cb pb cbx gc wv vf L F) (hb : Below W.heap.size W W') : Goes1 w W' N y lc bp cb pb cbx gc wv vf L F :=
  ⟨h.hm.later hb, h.hk.later hb, h.hr.later hb, h.hc.later hb, h.hcb.later hb, h.hf.later hb, h.hb.later hb, h.hs.later hb, h.hw.later hb, h.hwr, stepB h.below hb, by have h1 := h.ord; have h2 := hb.size; omega, h.rc⟩
theorem Goes1.offH {w W : World} {N : Nat} {y : Int} {lc bp cb pb cbx : Nat} {gc : Option Nat} {wv vf : Value} {L F : List Int} (h : Goes1 w W N y lc bp cb pb cbx gc wv vf L F) {k : Nat} (hk : (k < lc ∨ cbx ≤ k) ∧ k ≠ cbx + 2) : Off (fun k => k = cb ∨ k = cbx + 2) W k := by
  have h1 := h.ord
  exact off_pl h.hc h.hb (by omega) hk.2 (fun e => by have := h.rc k e; omega) (fun e => by cases e)
/-- What lies there behind the second one. -/
structure Goes2 (w W : World) (N : Nat) (y : Int) (lc cb pb cbx : Nat) (gc : Option Nat) (wv vf vb : Value) (L F : List Int) : Prop where
  hm : HdAt W w.heap.size (.int .u8 N)
  hk : HdAt W (w.heap.size + 1) (.int .i64 y)
  hr : HdAt W (w.heap.size + 2) (.bool false)
  hc : PileAt W lc cb gc []
  hcb : HdAt W cbx (.pointer (some ⟨cb, 0, none⟩))
  hf : ListIn W (cbx + 4) (cbx + 1) vf F
  hb : ListIn W (cbx + 4) (cbx + 2) vb L.reverse
  hs : ListIn W (cbx + 4) (cbx + 3) (.slice none 0 0) []
  hw : IntsAt W wv L
  hwr : ∀ k, wv.ownBlock = some k → pb < k ∧ k < lc
  below : Below w.heap.size w W
  ord : w.heap.size + 3 ≤ pb ∧ pb < lc ∧ lc ≤ cb ∧ cb < cbx ∧ cbx + 4 ≤ W.heap.size
  rc : ∀ k, gc = some k → lc ≤ k ∧ k < cbx
theorem Goes1.next {w w5 W : World} {N : Nat} {y : Int} {lc bp cb pb cbx : Nat} {gc : Option Nat} {wv vf vb : Value} {L F : List Int} (h : Goes1 w w5 N y lc bp cb pb cbx gc wv vf L F) (hk : KpP (fun _ => False) (fun k => k = cb ∨ k = cbx + 2) w5 W)
    (hc : PileAt W lc cb gc []) (hl : ListIn W (cbx + 4) (cbx + 2) vb L.reverse) (hb : Below w.heap.size w W) : Goes2 w W N y lc cb pb cbx gc wv vf vb L F := by
  have o := h.ord
  have f : ∀ k, (k < lc ∨ cbx ≤ k) ∧ k ≠ cbx + 2 → ¬(fun _ : Nat => False) k ∧ Off (fun k => k = cb ∨ k = cbx + 2) w5 k := fun k hk => ⟨fun e => e, h.offH hk⟩
  exact ⟨box_kept h.hm hk (fun e => e) (f _ (by omega)).2, box_kept h.hk hk (fun e => e) (f _ (by omega)).2, box_kept h.hr hk (fun e => e) (f _ (by omega)).2, hc, box_kept h.hcb hk (fun e => e) (f _ (by omega)).2,
    h.hf.kept hk (f _ (by omega)) (fun k e => f k (by have := (h.hf.row k e).1; omega)), hl, h.hs.kept hk (f _ (by omega)) (fun k e => by cases e), vals_kp h.hw hk (fun k e => f k (by have := h.hwr k e; omega)), h.hwr, hb, by have := hk.size; omega, h.rc⟩
theorem Goes2.later {w W W' : World} {N : Nat} {y : Int} {lc cb pb cbx : Nat} {gc : Option Nat} {wv vf vb : Value} {L F : List Int} (h : Goes2 w W N y lc cb pb cbx gc wv vf vb L F) (hb : Below W.heap.size W W') : Goes2 w W' N y lc cb pb cbx gc wv vf vb L F :=
  ⟨h.hm.later hb, h.hk.later hb, h.hr.later hb, h.hc.later hb, h.hcb.later hb, h.hf.later hb, h.hb.later hb, h.hs.later hb, h.hw.later hb, h.hwr, stepB h.below hb, by have h1 := h.ord; have h2 := hb.size; omega, h.rc⟩
/-- What lies there behind the third one. -/
structure Goes3 (w W : World) (N : Nat) (y : Int) (lc cb pb cbx : Nat) (gc : Option Nat) (wv vf vb vs : Value) (L F M : List Int) : Prop where
  hm : HdAt W w.heap.size (.int .u8 N)
  hk : HdAt W (w.heap.size + 1) (.int .i64 y)
  hr : HdAt W (w.heap.size + 2) (.bool false)
  hc : PileAt W lc cb gc []
  hcb : HdAt W cbx (.pointer (some ⟨cb, 0, none⟩))
  hf : ListIn W (cbx + 4) (cbx + 1) vf F
  hb : ListIn W (cbx + 4) (cbx + 2) vb L.reverse
  hs : ListIn W (cbx + 4) (cbx + 3) vs M
  hw : IntsAt W wv L
  below : Below w.heap.size w W
theorem Goes2.next {w w5 W : World} {N : Nat} {y : Int} {lc cb pb cbx : Nat} {gc : Option Nat} {wv vf vb vs : Value} {L F M : List Int} (h : Goes2 w w5 N y lc cb pb cbx gc wv vf vb L F) (hk : KpP (fun _ => False) (fun k => k = cbx + 3) w5 W)
    (hl : ListIn W (cbx + 4) (cbx + 3) vs M) (hb : Below w.heap.size w W) : Goes3 w W N y lc cb pb cbx gc wv vf vb vs L F M := by
  have o := h.ord
  have f : ∀ k, k ≠ cbx + 3 → ¬(fun _ : Nat => False) k ∧ Off (fun k => k = cbx + 3) w5 k := fun k hk => ⟨fun e => e, off_l h.hs hk (fun e => by cases e)⟩
  exact ⟨box_kept h.hm hk (fun e => e) (f _ (by omega)).2, box_kept h.hk hk (fun e => e) (f _ (by omega)).2, box_kept h.hr hk (fun e => e) (f _ (by omega)).2, h.hc.kept hk (f _ (by omega)) (fun k e => f k (by have := h.rc k e; omega)), box_kept h.hcb hk (fun e => e) (f _ (by omega)).2,
    h.hf.kept hk (f _ (by omega)) (fun k e => f k (by have := (h.hf.row k e).1; omega)), h.hb.kept hk (f _ (by omega)) (fun k e => f k (by have := (h.hb.row k e).1; omega)), hl, vals_kp h.hw hk (fun k e => f k (by have := h.hwr k e; omega)), hb⟩
theorem Goes3.later {w W W' : World} {N : Nat} {y : Int} {lc cb pb cbx : Nat} {gc : Option Nat} {wv vf vb vs : Value} {L F M : List Int} (h : Goes3 w W N y lc cb pb cbx gc wv vf vb vs L F M) (hb : Below W.heap.size W W') : Goes3 w W' N y lc cb pb cbx gc wv vf vb vs L F M :=
  ⟨h.hm.later hb, h.hk.later hb, h.hr.later hb, h.hc.later hb, h.hcb.later hb, h.hf.later hb, h.hb.later hb, h.hs.later hb, h.hw.later hb, stepB h.below hb⟩
set_option maxRecDepth 100000 in
set_option maxHeartbeats 16000000 in
theorem pileGoes_walk {v : Value} {l : List Int} {N : Nat} {y : Int} {w : World} (hv : IntsAt w v l) (hl : l.length ≤ 9223372036854775807) (hN : N < 256) :
    Calls Try.prog 4 #[v, .int .u8 N, .int .i64 y] w (RetV w (.bool true)) := by
  obtain ⟨ya, yc, rfl⟩ := hv.form
  have HV := Lib.hid hv
  have HNN := Lib.hid hN
  clear hv hN
  refine (callsIn_wide (n := 8)).1 ?_
  have hb1 := below_new w (.cells #[.int .u8 N] 5)
  have hb2 := below_new (w.alloc (.cells #[.int .u8 N] 5)) (.cells #[.int .i64 y] 3)
  have hb3 := below_new ((w.alloc (.cells #[.int .u8 N] 5)).alloc (.cells #[.int .i64 y] 3)) (.cells #[.bool false] 4)
  have hm := ((HdAt.new w (.int .u8 N) 5).later hb2).later hb3
  have hk := (HdAt.new (w.alloc (.cells #[.int .u8 N] 5)) (.int .i64 y) 3).later hb3
  have hr := HdAt.new ((w.alloc (.cells #[.int .u8 N] 5)).alloc (.cells #[.int .i64 y] 3)) (.bool false) 4
  have hbb := stepB (stepB hb1 hb2) hb3
  simp only [World.size_alloc] at hk hr
  refine callsIn_of_wp_marks Try.func4 rfl trivial ?_ rfl
  simp only [Try.ntmps4, List.size_toArray, List.length_cons, List.length_nil, Nat.reduceAdd, Nat.reduceSub, Array.replicate_succ, Array.replicate_zero, List.push_toArray, List.append_toArray, List.nil_append, List.cons_append]
  gi_wp2_with fail
  refine ⟨trivial, (callsIn_wide.2 (awake5_any _)).mono ?_⟩
  rintro e w1 ⟨rfl, hba⟩
  have HM := Lib.hid (hm.later hba)
  have HK := Lib.hid (hk.later hba)
  have HR := Lib.hid (hr.later hba)
  have HB := Lib.hid (stepB hbb hba)
  clear hm hk hr hbb hba hb1 hb2 hb3
  by_cases hg : 60 < l.length
  · have b1 : decide ((60 : Int) < l.length) = true := decide_eq_true (by omega)
    have c1 := HR.out.cell
    have f1 := HR.out.frozen
    have HR' := Lib.hid (HR.out.set (.bool true))
    have HB2 := Lib.hid (HB.out.setCell (p := ⟨w.heap.size + 2, 0, none⟩) (by show w.heap.size ≤ w.heap.size + 2; omega) (.bool true))
    clear HM HK
    gi_wp2
    exact ⟨_, results_box6 rfl rfl HR'.out, rfl, HB2.out⟩
  · have b1 : decide ((60 : Int) < l.length) = false := decide_eq_false (by omega)
    have HG := Lib.hid (show l.length ≤ 60 by omega)
    have HN := Lib.hid (new_any (HV.out.later HB.out) (by omega))
    clear hl
    gi_wp2_with fail
    refine ⟨trivial, (callsIn_wide.2 HN.out).mono ?_⟩
    rintro e w2 ⟨bp, gp, rfl, hp2, hb2⟩
    obtain ⟨L, hL⟩ : ∃ L, onceL l = L := ⟨_, rfl⟩
    have HLL := Lib.hid (show L.length ≤ 60 by rw [← hL]; have h := onceL_len l l.length; rw [List.take_length] at h; have := HG.out; omega)
    have HND := Lib.hid (show L.Nodup by rw [← hL]; exact once_nodup l)
    rw [hL] at hp2
    have hbx := below_new w2 (.cells #[.pointer (some ⟨bp, 0, none⟩)] 25)
    have hpb := HdAt.new w2 (.pointer (some ⟨bp, 0, none⟩)) 25
    have cpb := hpb.cell
    have HP2 := Lib.hid (hp2.later hbx)
    have HX2 := Lib.hid (And.intro hp2.lo (And.intro hp2.lt hp2.row))
    have HPB := Lib.hid hpb
    have HBX := Lib.hid (stepB hb2 hbx)
    have HL3 := Lib.hid (list_any HP2.out (by have := HLL.out; omega))
    clear hp2 hb2 hL hbx hpb HN
    gi_wp2_with fail
    refine ⟨trivial, (callsIn_wide.2 HL3.out).mono ?_⟩
    rintro e w3 ⟨wv, rfl, ho3, hb3⟩
    have hi3 := own_ints ho3
    have hrow3 := World.ownsRow.lt ho3
    rw [World.size_alloc] at hrow3
    obtain ⟨xa, xc, rfl⟩ := hi3.form
    have HCAP := Lib.hid (show L.length ≤ xc from own_cap ho3 _ _ _ rfl)
    have HI3 := Lib.hid hi3
    have HW3 := Lib.hid hrow3
    have HP3 := Lib.hid (HP2.out.later hb3)
    have HPB3 := Lib.hid (HPB.out.later hb3)
    have HB3 := Lib.hid (stepB HBX.out hb3)
    have cpb3 := HPB3.out.cell
    have HS3 := Lib.hid (show w2.heap.size + 1 ≤ w3.heap.size by simpa using hb3.size)
    have HC4 := Lib.hid (copy_any HP3.out (by have := HLL.out; omega))
    clear hi3 hrow3 ho3 hb3 cpb HPB HL3 HP2
    gi_wp2_with fail
    refine ⟨trivial, (callsIn_wide.2 HC4.out).mono ?_⟩
    rintro e w4 ⟨cb, gc, rfl, hc4, hb4⟩
    have HX4 := Lib.hid (And.intro hc4.lo (And.intro hc4.lt hc4.row))
    have ha1 := below_new w4 (.cells #[.pointer (some ⟨cb, 0, none⟩)] 25)
    have ha2 := below_new (w4.alloc (.cells #[.pointer (some ⟨cb, 0, none⟩)] 25)) (.cells #[.slice none 0 0] 22)
    have ha3 := below_new ((w4.alloc (.cells #[.pointer (some ⟨cb, 0, none⟩)] 25)).alloc (.cells #[.slice none 0 0] 22)) (.cells #[.slice none 0 0] 22)
    have ha4 := below_new (((w4.alloc (.cells #[.pointer (some ⟨cb, 0, none⟩)] 25)).alloc (.cells #[.slice none 0 0] 22)).alloc (.cells #[.slice none 0 0] 22)) (.cells #[.slice none 0 0] 22)
    have HA := Lib.hid (stepB (stepB (stepB ha1 ha2) ha3) ha4)
    have hcb := (((HdAt.new w4 (.pointer (some ⟨cb, 0, none⟩)) 25).later ha2).later ha3).later ha4
    have hf := ((list_new (w4.alloc (.cells #[.pointer (some ⟨cb, 0, none⟩)] 25)) (w4.heap.size + 4)).later ha3).later ha4
    have hbb := (list_new ((w4.alloc (.cells #[.pointer (some ⟨cb, 0, none⟩)] 25)).alloc (.cells #[.slice none 0 0] 22)) (w4.heap.size + 4)).later ha4
    have hs := list_new (((w4.alloc (.cells #[.pointer (some ⟨cb, 0, none⟩)] 25)).alloc (.cells #[.slice none 0 0] 22)).alloc (.cells #[.slice none 0 0] 22)) (w4.heap.size + 4)
    simp only [World.size_alloc] at hf hbb hs
    have hz : ((((w4.alloc (.cells #[.pointer (some ⟨cb, 0, none⟩)] 25)).alloc (.cells #[.slice none 0 0] 22)).alloc (.cells #[.slice none 0 0] 22)).alloc (.cells #[.slice none 0 0] 22)).heap.size = w4.heap.size + 4 := by simp
    have h4w := HPB3.out.later hb4
    have cpb4 := (h4w.later HA.out).cell
    have HGS : Hid (Goes0 w _ N y w1.heap.size w3.heap.size (w4.heap.size + 4) bp cb w2.heap.size w4.heap.size gp gc (.slice xa L.length xc) L) := Lib.hid
      { hm := (HM.out.later (stepB (stepB HB3.out hb4) HA.out)), hk := (HK.out.later (stepB (stepB HB3.out hb4) HA.out)), hr := (HR.out.later (stepB (stepB HB3.out hb4) HA.out)), hp := (HP3.out.later (stepB hb4 HA.out)), hc := hc4.later HA.out, hpb := h4w.later HA.out, hcb := hcb, hf := hf, hb := hbb, hs := hs,
        hw := HI3.out.later (stepB hb4 HA.out), hwr := fun k hk => by have := HW3.out k hk; omega, below := stepB (stepB HB.out HB3.out) (stepB hb4 HA.out),
        ord := by
          have h1 := HR.out.lt
          have h2 := HX2.out
          have h3 := HX4.out
          have h4 := HS3.out
          rw [hz]
          omega
        rp := fun k hk => by have := HX2.out.2.2 k hk; omega, rc := fun k hk => by have := HX4.out.2.2 k hk; omega }
    clear HM HK HR HB HP3 HX2 HBX HI3 HW3 HPB3 HB3 HS3 HC4 hc4 hb4 HX4 ha1 ha2 ha3 ha4 HA hcb hf hbb hs hz h4w cpb3
    gi_wp2_with fail
    obtain ⟨wA, hwA⟩ : ∃ wA, (((w4.alloc (.cells #[.pointer (some ⟨cb, 0, none⟩)] 25)).alloc (.cells #[.slice none 0 0] 22)).alloc (.cells #[.slice none 0 0] 22)).alloc (.cells #[.slice none 0 0] 22) = wA := ⟨_, rfl⟩
    rw [hwA] at HGS cpb4 ⊢
    obtain ⟨q, hq⟩ : ∃ q, w4.heap.size = q := ⟨_, rfl⟩
    obtain ⟨lc, hlc⟩ : ∃ q, w3.heap.size = q := ⟨_, rfl⟩
    obtain ⟨pb, hpb⟩ : ∃ q, w2.heap.size = q := ⟨_, rfl⟩
    obtain ⟨lp, hlp⟩ : ∃ q, w1.heap.size = q := ⟨_, rfl⟩
    simp only [hq, hlc, hpb, hlp] at HGS cpb4 ⊢
    clear hwA hq hlc hpb hlp
    refine ⟨trivial, (callsIn_wide.2 (all_any (some ⟨bp, 0, none⟩) wA)).mono ?_⟩
    rintro e w5 ⟨rfl, hf5, hb5⟩
    have HG5 := Lib.hid (HGS.out.later hb5)
    have HF5 := Lib.hid hf5
    have HS5 := Lib.hid hb5.size
    have HWA := Lib.hid (show q + 4 ≤ wA.heap.size from HGS.out.ord.2.2.2.2.2.2.2)
    clear hf5 hb5 cpb4 HGS
    gi_wp2_with fail
    have HO1 := Lib.hid (HG5.out.ord)
    have HSEQ := Lib.hid (all_seq 7 (by omega) (w := w5) (c := wA.heap.size) (fun _ => False) (fun k => k = bp ∨ k = q + 1) (fun _ e => e.elim) HF5.out HG5.out.hp (by have := HLL.out; omega) (heads_pl HG5.out.hp HG5.out.hf))
    have HI0 : Hid (GoesI bp (q + 1) lp (q + 4) L N w w5 [] w5) := Lib.hid ⟨gp, .slice none 0 0, by simpa [rotL] using HG5.out.hp, by have h := HG5.out.hf; rw [HO1.out.2.2.2.2.2.2.1] at h; simpa using h, fun r hr => ⟨(fun e => by cases e), by have := HG5.out.rp r hr; have := HO1.out; omega⟩, (fun e => by cases e), KpP.refl _ _ _, HG5.out.below, Nat.zero_le _, Nat.zero_le _⟩
    refine range_both (Code.exit 0) (I := GoesI bp (q + 1) lp (q + 4) L N w w5) (Ix := fun pre W => ∃ pre' x, pre = pre' ++ [x] ∧ pre'.length = N ∧ GoesI bp (q + 1) lp (q + 4) L N w w5 pre' W) (gf := 42) (lb := #[.pointer (some ⟨wA.heap.size, 0, none⟩)]) rfl (by omega) rfl trivial (fun _ _ => by kernel_rfl) HSEQ.out KpP.trans (fun W' o o' ho hc _ => KpP.put o' (.inr rfl) ho hc) (Below.refl _ _) (fun _ => rfl)
      (goesI_own HG5.out.below.size (Nat.le_refl _)) (fun s A B row hs hg hr => by obtain ⟨p', x, e, e2, hi⟩ := hs; exact ⟨p', x, e, e2, goesI_own HG5.out.below.size (Nat.le_refl _) _ _ _ _ hi hg hr⟩) (fun s A B row hs hg hr => hs) (fun s A B row hs hg hr => hs) HI0.out ?round ?brk ?hend
    case brk =>
      intro a W' h
      exact wpIn_exit h
    case round =>
      rintro pre ⟨x, x2⟩ Wa W K ⟨g1, v1, p0, l0, s1, s2, k0, b0, hN1, hl1⟩ hT hsz hK
      have HK := Lib.hid hK
      clear hK
      simp only [encA]
      simp
      gi_wp2
      refine HK.out _ ?_
      clear HK
      obtain ⟨hx2, ht, hd, hlt⟩ := zip_pre hT
      simp only at hx2 ht hd
      subst hx2
      have o1 := HO1.out
      have hn := HNN.out
      have ll := HLL.out
      have e0 : (L.take pre.length).length = pre.length := by simp; omega
      obtain ⟨xa1, xc1, hv1⟩ := (own_ints l0.own).form
      rw [e0] at hv1
      subst hv1
      have fM := HG5.out.offH (k := w.heap.size) (by omega)
      have fP := HG5.out.offH (k := pb) (by omega)
      have hmW := box_kept HG5.out.hm k0 (fun e => e) fM
      have hpW := box_kept HG5.out.hpb k0 (fun e => e) fP
      have c1 := l0.head.cell
      have c2 := hmW.cell
      have HPW := Lib.hid hpW
      have HK0 := Lib.hid k0
      have HB0 := Lib.hid b0
      have HP0 := Lib.hid p0
      have HL0 := Lib.hid l0
      have HS0 := Lib.hid (And.intro s1 s2)
      have HT := Lib.hid (And.intro ht (And.intro hd hlt))
      have HN1 := Lib.hid hN1
      clear fM fP hmW hpW k0 b0 p0 l0 s1 s2 ht hd hT o1
      by_cases hN2 : pre.length = N
      · have d1 : ((pre.length : Int) == (N : Int)) = true := by rw [hN2]; simp
        gi_wp2
        exact ⟨KeepsFrom.refl _ _, KpP.refl _ _ _, rfl, pre, _, rfl, hN2, g1, _, HP0.out, HL0.out, HS0.out.1, HS0.out.2, HK0.out, HB0.out, HN1.out, hl1⟩
      · have d1 : ((pre.length : Int) == (N : Int)) = false := beq_eq_false_iff_ne.2 (by omega)
        have d2 : ((pre.length : Int) != (pre.length : Int)) = false := by simp
        have how := HL0.out.own
        rw [e0] at how
        have HOW := Lib.hid how
        have hws : q + 4 ≤ W.heap.size := by have h1 := HK0.out.size; have h2 := HO1.out; omega
        have hpl : pre.length ≤ 60 := by omega
        clear how
        gi_wp2_with (gi_at_builtin; refine wpListIn_append_ints rfl _ _ rfl rfl (q + 4) _ pre.length (intsV (L.take pre.length)) rfl (HOW.out.alloc _) _ 1 1 [x] rfl rfl ((RowAt.new _ 3 (intsV [x])).vals 1) (by simp; omega) (by simp; omega) ?f)
        case f =>
          intro v' w6 hown hgrow hnew
          have hrow := HL0.out.row
          have hsep : ∀ b, (b = bp ∨ b = q + 1) → (Value.slice xa1 pre.length xc1).ownBlock ≠ some b := fun b hb e => by
            rcases hb with rfl | rfl
            · exact HS0.out.2 e
            · exact (hrow _ e).2.2 rfl
          obtain ⟨l7, k7, h6⟩ := ListIn.snoc (E := fun _ => False) (H := fun k => k = bp ∨ k = q + 1) HL0.out (.inr rfl) hgrow (by rw [e0]; exact hown) (by rw [World.size_alloc]; exact hnew) hsep
          have hq1 : bp ≠ q + 1 := by have := HO1.out; omega
          have p6 : PileAt w6 lp bp g1 (rotL L pre.length) := (HP0.out.later (below_new _ _)).grow hgrow HS0.out.2 (fun k hk => (HS0.out.1 k hk).1)
          have p7 := pile_other (j := 0) p6 v' (Ne.symm hq1) (fun e => (HS0.out.1 _ e).2 rfl)
          have hp7 := box_kept HPW.out k7 (fun e => e) (HK0.out.off (HG5.out.offH (k := pb) (by have := HO1.out; omega)) HG5.out.hpb.lt)
          have c6 := h6.cell
          have f6 := h6.frozen
          have hb7 : Below w.heap.size w (w6.setCell ⟨q + 1, 0, none⟩ v') := ((HB0.out.alloc HB0.out.size _).grown hgrow (Nat.le_trans HB0.out.size (by simp)) (fun k e => by have h1 := (hrow k e).1; have h2 := HO1.out; omega)).setCell (p := ⟨q + 1, 0, none⟩) (by have h2 := HO1.out; show w.heap.size ≤ q + 1; omega) v'
          obtain ⟨xa7, xc7, hv7⟩ := (own_ints (l := L.take pre.length ++ [x]) (n := pre.length + 1) (by simpa [intsV] using hown)).form
          have HRT := Lib.hid (rot_step HND.out HT.out.1 HT.out.2.1)
          rw [← HT.out.1] at l7
          have hgp : g1 ≠ some pb := fun e => by
            obtain ⟨u, hu, hne⟩ := (HK0.out.off (HG5.out.offH (k := pb) (by have := HO1.out; omega)) HG5.out.hpb.lt).2 bp (.inl rfl)
            obtain ⟨u2, hu2, he2⟩ := HP0.out.head
            rw [hu.one hu2, he2] at hne
            exact hne e
          have hnw : (∀ r, g1 = some r → v'.ownBlock ≠ some r ∧ r ≠ q + 1) ∧ v'.ownBlock ≠ some bp := by
            have hnew' : Newer W (Value.slice xa1 pre.length xc1).ownBlock v'.ownBlock := by
              rcases hnew with e | e
              · exact .inl e
              · exact .inr ⟨_, e, by omega⟩
            exact ⟨fun r hr => ⟨newer_ne1 hnew' (HP0.out.row r hr).2.1 (HS0.out.1 r hr).1, (HS0.out.1 r hr).2⟩, newer_ne1 hnew' HP0.out.lt HS0.out.2⟩
          have HD7 := Lib.hid (drop_any x p7 (by rw [rot_len L _ (by omega)]; omega))
          have HL7 := Lib.hid l7
          have HK7 := Lib.hid k7
          have HP7 := Lib.hid p7
          have HB7 := Lib.hid hb7
          have HNW := Lib.hid hnw
          have HGP := Lib.hid hgp
          have HHP7 := Lib.hid hp7
          have c7 := hp7.cell
          rw [show (L.take pre.length ++ [x]).length = pre.length + 1 by rw [List.length_append, e0]; rfl] at hv7
          subst hv7
          clear hown hgrow hnew hrow hsep l7 k7 h6 p6 p7 hp7 hb7 hgp hnw c1 c2
          gi_wp2_with fail
          refine ⟨trivial, ?_⟩
          refine CallsIn.mono (F := Fence.wide) (callsIn_wide.2 HD7.out) ?_
          rintro e w8 ⟨rfl, p8, c8⟩
          rw [HRT.out.2.1] at p8
          have hp8 := HHP7.out.of (c8.block pb HHP7.out.lt (by have := HO1.out; omega) HGP.out)
          have cp8 := hp8.cell
          have HU8 := Lib.hid (under_any x p8 (by simp; omega))
          have HP8 := Lib.hid p8
          have HC8 := Lib.hid c8
          clear p8 c8 hp8 c7 HD7
          dsimp only
          gi_wp2_with fail
          refine ⟨trivial, ?_⟩
          refine CallsIn.mono (F := Fence.wide) (callsIn_wide.2 HU8.out) ?_
          rintro e w9 ⟨g9, rfl, p9, c9, n9⟩
          rw [HRT.out.2.2.1] at p9
          have hfin := GoesI.step (A := w) (N := N) (x := (x, pre.length)) (by have := HO1.out; omega) HK0.out HB7.out HL7.out HK7.out HNW.out HP7.out HP8.out HC8.out p9 c9 n9 (by have := HN1.out; omega) HT.out.2.2 (by have := HO1.out; omega)
          have HFIN := Lib.hid hfin
          clear p9 c9 n9 hfin cp8
          dsimp only
          gi_wp2
          exact ⟨HFIN.out.1.from (fun k e => e.elim), HFIN.out.1.mono (fun k h => .inl h), HFIN.out.2⟩
    case hend =>
      rintro D W hD hor hK
      have hall : ∃ v1, ListIn W (q + 4) (q + 1) v1 (L.take (min N L.length)) ∧ KpP (fun _ => False) (fun k => k = bp ∨ k = q + 1) w5 W ∧ Below w.heap.size w W := by
        rcases hor with ⟨xs, rfl, g1, v1, p0, l0, s1, s2, k0, b0, hN1, hl1⟩ | ⟨pre, hS, pre', x, rfl, hN2, g1, v1, p0, l0, s1, s2, k0, b0, hN1, hl1⟩
        · rw [List.length_zipIdx] at hN1 l0
          exact ⟨v1, by rwa [Nat.min_eq_right hN1], k0, b0⟩
        · have h := hS.length_le
          rw [List.length_append, List.length_zipIdx] at h
          rw [hN2] at l0
          exact ⟨v1, by rwa [Nat.min_eq_left (by omega)], k0, b0⟩
      obtain ⟨vf, lf, kf, bf⟩ := hall
      obtain ⟨F, hF⟩ : ∃ F, L.take (min N L.length) = F := ⟨_, rfl⟩
      rw [hF] at lf
      have HF := Lib.hid hF
      have HG6 := Lib.hid (HG5.out.next kf lf bf)
      have HDM := Lib.hid (show MarksAt W [D] ∧ wA.heap.size ≤ D from ⟨fun D' hD' => by rw [List.mem_singleton.1 hD']; exact hK, by have := HS5.out; omega⟩)
      have ccb := HG6.out.hcb.cell
      clear hor hK hD lf kf bf hF HG5 HF5 HS5 HI0 HSEQ HO1
      gi_wp2_with fail
      refine ⟨trivial, ?_⟩
      refine CallsIn.mono (F := Fence.wide) (callsIn_wide.2 (back_any (some ⟨cb, 0, none⟩) W)) ?_
      rintro e w6 ⟨rfl, hf6, hb6⟩
      have HG7 := Lib.hid (HG6.out.later hb6)
      have HF6 := Lib.hid hf6
      have HM7 := Lib.hid (HDM.out.1.others (others_below hb6))
      have HS6 := Lib.hid hb6.size
      clear hf6 hb6 ccb HG6
      gi_wp2_with fail
      have HO2 := Lib.hid (HG7.out.ord)
      have HSEQ := Lib.hid (back_seq 7 (by omega) (w := w6) (c2 := W.heap.size) (fun _ => False) (fun k => k = cb ∨ k = q + 2) (fun _ e => e.elim) HF6.out HG7.out.hc (by have := HLL.out; omega) (heads_pl HG7.out.hc HG7.out.hb))
      have HI0 : Hid (BacksI cb (q + 2) lc (q + 4) gc L w w6 [] w6) := Lib.hid ⟨.slice none 0 0, by simpa using HG7.out.hc, HG7.out.hb, fun r hr => ⟨(fun e => by cases e), by have := HG7.out.rc r hr; omega⟩, (fun e => by cases e), KpP.refl _ _ _, HG7.out.below, Nat.zero_le _⟩
      refine range_world2 rfl (by omega) (I := BacksI cb (q + 2) lc (q + 4) gc L w w6) (Ix := fun _ _ _ => False) (gf := 43) (lb := #[.pointer (some ⟨W.heap.size, 0, none⟩)]) rfl trivial (fun _ _ => by kernel_rfl) HSEQ.out KpP.trans (fun W' o o' ho hc _ => KpP.put o' (.inr rfl) ho hc) (Below.refl _ _) (fun _ => rfl)
        (backsI_own HG7.out.below.size (Nat.le_refl _)) (fun c s A B row hs hg hr => hs) (fun s A B row hs hg hr => hs) (fun s A B row hs hg hr => hs) HI0.out ?round ?done ?stop
      case stop =>
        rintro D2 c pre W' hD hS hI hK
        exact hI.elim
      case round =>
        rintro pre x Wa W' K ⟨v1, p0, l0, s1, s2, k0, b0, hl1⟩ hT hsz hK
        have HK := Lib.hid hK
        clear hK
        simp only [encW]
        simp
        gi_wp2
        refine HK.out _ ?_
        clear HK
        have hlt : pre.length < L.length := by have h := hT.length_le; rw [List.length_append, List.length_reverse] at h; simp at h; omega
        have ll := HLL.out
        obtain ⟨xa1, xc1, rfl⟩ := (own_ints l0.own).form
        have hcW := box_kept HG7.out.hcb k0 (fun e => e) (HG7.out.offH (k := q) (by omega))
        have c1 := l0.head.cell
        have HCW := Lib.hid hcW
        have HK0 := Lib.hid k0
        have HB0 := Lib.hid b0
        have HP0 := Lib.hid p0
        have HL0 := Lib.hid l0
        have HS0 := Lib.hid (And.intro s1 s2)
        have HLT := Lib.hid hlt
        have hws : q + 4 ≤ W'.heap.size := by have h1 := HK0.out.size; have h2 := HO2.out; omega
        have hpl : pre.length ≤ 60 := by omega
        clear hcW k0 b0 p0 l0 s1 s2 hT
        gi_wp2_with (gi_at_builtin; refine wpListIn_append_ints rfl _ _ rfl rfl (q + 4) _ pre.length (intsV pre) rfl (HL0.out.own.alloc _) _ 1 1 [x] rfl rfl ((RowAt.new _ 3 (intsV [x])).vals 1) (by simp; omega) (by simp; omega) ?f)
        case f =>
          intro v' w7 hown hgrow hnew
          have hrow := HL0.out.row
          have hsep : ∀ b, (b = cb ∨ b = q + 2) → (Value.slice xa1 pre.length xc1).ownBlock ≠ some b := fun b hb e => by
            rcases hb with rfl | rfl
            · exact HS0.out.2 e
            · exact (hrow _ e).2.2 rfl
          obtain ⟨l7, k7, h6⟩ := ListIn.snoc (E := fun _ => False) (H := fun k => k = cb ∨ k = q + 2) HL0.out (.inr rfl) hgrow hown (by rw [World.size_alloc]; exact hnew) hsep
          have hq1 : cb ≠ q + 2 := by have := HO2.out; omega
          have p6 : PileAt w7 lc cb gc (L.drop pre.length) := (HP0.out.later (below_new _ _)).grow hgrow HS0.out.2 (fun k hk => (HS0.out.1 k hk).1)
          have p7 := pile_other (j := 0) p6 v' (Ne.symm hq1) (fun e => (HS0.out.1 _ e).2 rfl)
          have hp7 := box_kept HCW.out k7 (fun e => e) (HK0.out.off (HG7.out.offH (k := q) (by omega)) HG7.out.hcb.lt)
          have c6 := h6.cell
          have f6 := h6.frozen
          have hb7 : Below w.heap.size w (w7.setCell ⟨q + 2, 0, none⟩ v') := ((HB0.out.alloc HB0.out.size _).grown hgrow (Nat.le_trans HB0.out.size (by simp)) (fun k e => by have h1 := (hrow k e).1; have h2 := HO2.out; omega)).setCell (p := ⟨q + 2, 0, none⟩) (by have h2 := HO2.out; show w.heap.size ≤ q + 2; omega) v'
          obtain ⟨xa7, xc7, hv7⟩ := (own_ints (l := pre ++ [x]) (n := pre.length + 1) (by simpa [intsV] using hown)).form
          have hnw : (∀ r, gc = some r → v'.ownBlock ≠ some r ∧ r ≠ q + 2) ∧ v'.ownBlock ≠ some cb := by
            have hnew' : Newer W' (Value.slice xa1 pre.length xc1).ownBlock v'.ownBlock := by
              rcases hnew with e | e
              · exact .inl e
              · exact .inr ⟨_, e, by omega⟩
            exact ⟨fun r hr => ⟨newer_ne1 hnew' (HP0.out.row r hr).2.1 (HS0.out.1 r hr).1, (HS0.out.1 r hr).2⟩, newer_ne1 hnew' HP0.out.lt HS0.out.2⟩
          have hpo := pop_any p7 (by simp; omega)
          rw [List.tail_drop] at hpo
          have HD7 := Lib.hid hpo
          have HL7 := Lib.hid l7
          have HK7 := Lib.hid k7
          have HP7 := Lib.hid p7
          have HB7 := Lib.hid hb7
          have HNW := Lib.hid hnw
          have c7 := hp7.cell
          rw [show (pre ++ [x]).length = pre.length + 1 by rw [List.length_append]; rfl] at hv7
          subst hv7
          clear hown hgrow hnew hrow hsep l7 k7 h6 p6 p7 hp7 hb7 hnw c1 hpo
          gi_wp2_with fail
          refine ⟨trivial, ?_⟩
          refine CallsIn.mono (F := Fence.wide) (callsIn_wide.2 HD7.out) ?_
          rintro e w8 ⟨rfl, p8, c8⟩
          have hfin := BacksI.step (A := w) (by have := HO2.out; omega) HK0.out HB7.out HL7.out HK7.out HNW.out HP7.out p8 c8 HLT.out (Ne.symm hq1)
          have HFIN := Lib.hid hfin
          clear p8 c8 hfin c7 HD7
          dsimp only
          gi_wp2
          exact ⟨HFIN.out.1.from (fun k e => e.elim), HFIN.out.1.mono (fun k h => .inl h), HFIN.out.2⟩
      case done =>
        rintro D2 xs W' hD2 rfl ⟨vb, p0, l0, s1, s2, k0, b0, hl1⟩ hK2
        rw [List.length_reverse, List.drop_of_length_le (Nat.le_refl _)] at p0
        have HG8 := Lib.hid (HG7.out.next k0 p0 l0 b0)
        have HM8 : Hid (MarksAt W' [D2, D]) := Lib.hid (fun D' hD' => by
          rcases List.mem_cons.1 hD' with rfl | hD'
          · exact hK2
          · exact k0.rest D' _ (HM7.out D' hD') (fun e => e) (fun hc => by cases hc))
        have HD12 := Lib.hid (show q + 4 ≤ D ∧ D < D2 from by
          have h1 := HDM.out.2
          have h2 := HM7.out.lt (D := D) (by simp)
          have h3 := HO2.out
          have h4 := HWA.out
          exact ⟨by omega, by omega⟩)
        have HOS : Hid (onceL L = L) := Lib.hid (once_same HND.out)
        have hnew := new_any HG8.out.hw (by have := HLL.out; omega)
        rw [HOS.out] at hnew
        have HNW := Lib.hid hnew
        clear p0 l0 s1 s2 k0 b0 hK2 hD2 HG7 HF6 HM7 HS6 HI0 HSEQ HO2 HDM hnew
        gi_wp2_with fail
        refine ⟨trivial, ?_⟩
        refine CallsIn.mono (F := Fence.wide) (callsIn_wide.2 HNW.out) ?_
        rintro e w8 ⟨dp, gd, rfl, hp8, hb8⟩
        have HG9 := Lib.hid (HG8.out.later hb8)
        have HP8 := Lib.hid hp8
        have HM9 := Lib.hid (HM8.out.others (others_below hb8))
        clear hp8 hb8 HG8 HM8 HNW
        have hmf := @mk_func
        gi_wp2_with fail
        clear hmf
        refine ⟨trivial, ?_⟩
        refine CallsIn.mono (F := Fence.wide) (callsIn_wide.2 (where_any (some ⟨dp, 0, none⟩) 27 #[.pointer (some ⟨w.heap.size + 1, 0, none⟩)] w8)) ?_
        rintro e w9 ⟨rfl, hf9, hp9, hb9⟩
        have HGA := Lib.hid (HG9.out.later hb9)
        have HPA := Lib.hid (HP8.out.later hb9)
        have HMA := Lib.hid (HM9.out.others (others_below hb9))
        have HPB9 := Lib.hid hp9
        have HFB9 := Lib.hid hf9
        have HS9 := Lib.hid hb9.size
        have HO9 := Lib.hid HG9.out.ord
        clear hf9 hp9 hb9 HG9 HP8 HM9
        gi_wp2_with fail
        have HKB : Hid (Boxes (fun k => k = q + 3) [(w8.heap.size + 1, .func (.func 27) #[] #[.pointer (some ⟨w.heap.size + 1, 0, none⟩)]), (w.heap.size + 1, .int .i64 y)] w9) := Lib.hid (fun q' hq' => by
          have h1 := HO9.out
          simp only [List.mem_cons, List.not_mem_nil, or_false] at hq'
          rcases hq' with rfl | rfl
          · exact ⟨HFB9.out, off_l HGA.out.hs (by simp only; omega) (fun e => by cases e)⟩
          · exact ⟨HGA.out.hk, off_l HGA.out.hs (by simp only; omega) (fun e => by cases e)⟩)
        have HSEQ := Lib.hid (where_seq 7 (by omega) (w := w9) (c1 := w8.heap.size + 1) (f := kindB y) (fun _ => False) (fun k => k = q + 3) [(w8.heap.size + 1, .func (.func 27) #[] #[.pointer (some ⟨w.heap.size + 1, 0, none⟩)]), (w.heap.size + 1, .int .i64 y)] (fun _ e => e.elim) HPB9.out HKB.out (by simp) (fun _ _ e => e) HPA.out (by have := HLL.out; omega) (heads_l HGA.out.hs)
          (fun x w' hbx => so_goes x y (w.heap.size + 1) w' (hbx (w.heap.size + 1, .int .i64 y) (by simp)).1.cell))
        have HI0 : Hid (SomeI (q + 3) (q + 4) L w w9 [] w9) := Lib.hid ⟨.slice none 0 0, HGA.out.hs, KpP.refl _ _ _, HGA.out.below, Nat.zero_le _⟩
        refine range_world2 rfl (by omega) (I := SomeI (q + 3) (q + 4) L w w9) (Ix := fun _ _ _ => False) (gf := 45) (lb := #[.pointer (some ⟨w8.heap.size + 1, 0, none⟩), .pointer (some ⟨w8.heap.size, 0, none⟩)]) rfl trivial (fun _ _ => by kernel_rfl) HSEQ.out KpP.trans (fun W' o o' ho hc _ => KpP.put o' (.inr rfl) ho hc) (Below.refl _ _) (fun _ => rfl)
          (someI_own HGA.out.below.size (Nat.le_refl _)) (fun c s A B row hs hg hr => hs) (fun s A B row hs hg hr => hs) (fun s A B row hs hg hr => hs) HI0.out ?round ?done ?stop
        case stop =>
          rintro D3 c pre W3 hD hS hI hK
          exact hI.elim
        case round =>
          rintro pre x Wa W3 K ⟨v1, l0, k0, b0, hl1⟩ hT hsz hK
          have HK := Lib.hid hK
          clear hK
          simp only [encW]
          simp
          gi_wp2
          refine HK.out _ ?_
          clear HK
          have hlt : (pre ++ [x]).length ≤ L.length := Nat.le_trans hT.length_le (List.length_filter_le _ _)
          have hpl0 : pre.length ≤ 60 := Nat.le_trans hl1 HLL.out
          obtain ⟨xa1, xc1, rfl⟩ := (own_ints l0.own).form
          have c1 := l0.head.cell
          have HK0 := Lib.hid k0
          have HB0 := Lib.hid b0
          have HL0 := Lib.hid l0
          have HLT := Lib.hid hlt
          have hws : q + 4 ≤ W3.heap.size := by have h1 := HK0.out.size; have h2 := HGA.out.ord; omega
          clear k0 b0 l0 hT hlt
          gi_wp2_with (gi_at_builtin; refine wpListIn_append_ints rfl _ _ rfl rfl (q + 4) _ pre.length (intsV pre) rfl (HL0.out.own.alloc _) _ 1 1 [x] rfl rfl ((RowAt.new _ 3 (intsV [x])).vals 1) (by simp; omega) (by simp; omega) ?f)
          case f =>
            intro v' w7 hown hgrow hnew
            have hrow := HL0.out.row
            have hsep : ∀ b, b = q + 3 → (Value.slice xa1 pre.length xc1).ownBlock ≠ some b := fun b hb e => by subst hb; exact (hrow _ e).2.2 rfl
            obtain ⟨l7, k7, h6⟩ := ListIn.snoc (E := fun _ => False) (H := fun k => k = q + 3) HL0.out rfl hgrow hown (by rw [World.size_alloc]; exact hnew) hsep
            have c6 := h6.cell
            have f6 := h6.frozen
            have HB7 := Lib.hid (((HB0.out.alloc HB0.out.size _).grown hgrow (Nat.le_trans HB0.out.size (by simp)) (fun k e => by have h1 := (hrow k e).1; have h2 := HO9.out; omega)).setCell (p := ⟨q + 3, 0, none⟩) (by have h2 := HO9.out; show w.heap.size ≤ q + 3; omega) v')
            obtain ⟨xa7, xc7, hv7⟩ := (own_ints (l := pre ++ [x]) (n := pre.length + 1) (by simpa [intsV] using hown)).form
            have HL7 := Lib.hid l7
            have HK7 := Lib.hid k7
            rw [show (pre ++ [x]).length = pre.length + 1 by rw [List.length_append]; rfl] at hv7
            subst hv7
            clear hown hgrow hnew hrow hsep l7 k7 h6 c1
            gi_wp2
            exact ⟨HK7.out.from (fun k e => e.elim), HK7.out.mono (fun k h => .inl h), _, HL7.out, HK0.out.trans HK7.out, HB7.out, HLT.out⟩
        case done =>
          rintro D3 ys W3 hD3 rfl ⟨vs, l0, k0, b0, hl1⟩ hK3
          have HGB := Lib.hid (HGA.out.next k0 l0 b0)
          have HMB : Hid (MarksAt W3 [D3, D2, D]) := Lib.hid (fun D' hD' => by
            rcases List.mem_cons.1 hD' with rfl | hD'
            · exact hK3
            · exact k0.rest D' _ (HMA.out D' hD') (fun e => e) (fun hc => by cases hc))
          have HD23 := Lib.hid (show D2 < D3 from by have h2 := HMA.out.lt (D := D2) (by simp); omega)
          clear l0 k0 b0 hK3 hD3 HGA HPA HMA HPB9 HFB9 HS9 HKB HSEQ HI0
          have cm := HGB.out.hm.cell
          obtain ⟨xf, xfc, rfl⟩ := (own_ints HGB.out.hf.own).form
          obtain ⟨xb, xbc, hvb⟩ := (own_ints HGB.out.hb.own).form
          rw [List.length_reverse] at hvb
          subst hvb
          have e1 : ((L.length : Int) != (L.length : Int)) = false := by simp
          have e0 : ((0 : Int) != 0) = false := rfl
          have hfl : F.length ≤ 60 := by rw [← HF.out, List.length_take]; have := HLL.out; omega
          have cf := HGB.out.hf.head.cell
          have cbk := HGB.out.hb.head.cell
          have ccb := HGB.out.hcb.cell
          have hn := HNN.out
          have ll := HLL.out
          have hcap := HCAP.out
          obtain ⟨m, hm⟩ : ∃ m, min N L.length = m := ⟨_, rfl⟩
          have hmn : min (L.length : Int) (IntKind.i64.wrap (N : Int)) = (m : Int) := by rw [IntWalk.i64_in _ (by omega)]; omega
          have hmx : m ≤ xc := by omega
          have hmy : (m : Int) ≤ (xc : Int) := by omega
          have hm2 : m ≤ L.length := by omega
          have HFI := Lib.hid (own_ints HGB.out.hf.own)
          have HFT : Hid (IntsAt W3 (.slice xa m xc) F) := Lib.hid (by rw [← HF.out, hm]; exact ints_take HGB.out.hw hm2)
          have HLC := Lib.hid (len_any HGB.out.hc)
          have HB3 := Lib.hid (show KeepsOthers W3 W3 from KeepsOthers.refl _)
          clear hm
          have HQI := Lib.hid (fun k => (ints_same (HFI.out.later (below_drewN (Below.refl _ _) k)) (HFT.out.later (below_drewN (Below.refl _ _) k)) (by omega)).mono (quiet_drew (w := W3) (k := k)))
          have HQL := Lib.hid (fun k => (Calls.quiet_of_same ((len_zero (HGB.out.hc.later (below_drewN (Below.refl _ _) k))).mono fun _ _ h => h) : Calls Try.prog 19 #[.pointer (some ⟨cb, 0, none⟩)] (W3.drewN k) fun e w'' => e = .returned (.int .i64 0) ∧ ∃ m, w'' = W3.drewN m))
          have hff : ∀ f, Fence.wide.fn f := fun _ => trivial
          gi_wp2
          gi_quiet_th ((first | (with_reducible exact callsIn_wide.2 (HQI.out _)) | (with_reducible exact callsIn_wide.2 (HQL.out _))))
          clear HQI HQL hff hmn hmx hmy hm2 hcap cm cf cbk ccb e0 e1 hn HFT HB3 HLC
          obtain ⟨wd, hwd⟩ : ∃ wd, W3.drewN nq = wd := ⟨_, rfl⟩
          have hbd : Below W3.heap.size W3 wd := hwd ▸ below_drewN (Below.refl _ _) nq
          rw [hwd]
          have HGC := Lib.hid (HGB.out.later hbd)
          have HMC := Lib.hid (HMB.out.others (others_below hbd))
          have HDZ := Lib.hid (show D3 < wd.heap.size from HMC.out.lt (by simp))
          clear hbd hwd HGB HMB HFI
          obtain ⟨M, hM⟩ : ∃ M, L.filter (kindB y) = M := ⟨_, rfl⟩
          have HM := Lib.hid hM
          have HML := Lib.hid (show M.length ≤ 60 by rw [← hM]; exact Nat.le_trans (List.length_filter_le _ _) HLL.out)
          rw [hM] at HGC
          obtain ⟨xs', xsc, rfl⟩ := (own_ints HGC.out.hs.own).form
          clear hM
          have cb' := HGC.out.hb.head.cell
          have cs' := HGC.out.hs.head.cell
          have ck' := HGC.out.hk.cell
          gi_wp2
          gi_loopw [18, 101] (fun c i wr => ∃ k n : Nat, k ≤ L.length ∧ c = .int .i64 (n : Int) ∧ i = .int .i64 (k : Int) ∧ wr = wd ∧ Hid (n = ((L.take k).filter (kindB y)).length)) (fun _ i _ => L.length - (intOf i).toNat)
          case atStart => exact ⟨0, 0, Nat.zero_le _, rfl, rfl, rfl, Lib.hid (by simp)⟩
          case round =>
            obtain ⟨k, n, hk, rfl, rfl, rfl, HN⟩ := hrel
            by_cases hlt : k < L.length
            · obtain ⟨r, off, hxa, hr, c5⟩ := HGC.out.hw.at k hlt
              have hbi : IntsAt wr (.slice xb L.reverse.length xbc) L.reverse := by rw [List.length_reverse]; exact own_ints HGC.out.hb.own
              obtain ⟨r2, off2, hxb, hr2, c6⟩ := hbi.at (L.length - 1 - k) (by rw [List.length_reverse]; omega)
              rw [show L.reverse[L.length - 1 - k]'(by rw [List.length_reverse]; omega) = L[k] by rw [List.getElem_reverse]; congr 1; omega] at c6
              clear hbi
              have hfn := filter_next (kindB y) L k hlt
              have hfa := filter_at (kindB y) L k hlt
              obtain ⟨x, hx⟩ : ∃ x, L[k] = x := ⟨_, rfl⟩
              obtain ⟨q2, hq2⟩ : ∃ q, L.length - 1 - k = q := ⟨_, rfl⟩
              have hqi : (L.length : Int) - 1 - (k : Int) = (q2 : Int) := by omega
              have hql : q2 < L.length := by omega
              rw [hx] at c5 c6 hfn hfa
              rw [hq2] at c6
              rw [← HN.out, HM.out] at hfa
              rw [← HN.out] at hfn
              have d1 : decide ((k : Int) < (L.length : Int)) = true := decide_eq_true (by omega)
              have e2 : (x != x) = false := by simp
              have hn60 : n ≤ 60 := by rw [HN.out]; exact Nat.le_trans (List.length_filter_le _ _) (by rw [List.length_take]; omega)
              have HQI := Lib.hid hqi
              subst hxa
              obtain ⟨kb, hkb⟩ : ∃ kb, kindB y x = kb := ⟨_, rfl⟩
              have hkb' : (bits BinOp.and IntKind.i64 x 3 == bits BinOp.and IntKind.i64 y 3) = kb := hkb
              rw [hkb] at hfn hfa
              have HFN := Lib.hid hfn
              clear hfn hx hq2 hkb
              cases kb with
              | true =>
                obtain ⟨hn1, hn2⟩ := hfa rfl
                obtain ⟨r3, off3, hxs, hr3, c7⟩ := (own_ints HGC.out.hs.own).at n hn1
                rw [hn2] at c7
                have d2 : decide ((M.length : Int) ≤ (n : Int)) = false := decide_eq_false (by omega)
                have d3 : decide (M.length ≤ n) = false := decide_eq_false (by omega)
                clear hfa hn2
                subst hxb hxs
                gi_wp2
                go_roundw
                case rel => exact ⟨k + 1, n + 1, by omega, by go_num, by go_num, trivial, Lib.hid (by have := HFN.out; simpa using this.symm)⟩
                case measure => simp [intOf]; omega
              | false =>
                clear hfa
                subst hxb
                gi_wp2
                go_roundw
                case rel => exact ⟨k + 1, n, by omega, rfl, by go_num, trivial, Lib.hid (by have := HFN.out; simpa using this.symm)⟩
                case measure => simp [intOf]; omega
            · have hke : k = L.length := by omega
              subst hke
              have hnM : n = M.length := by rw [HN.out, List.take_length, HM.out]
              subst hnM
              have d1 : decide ((L.length : Int) < (L.length : Int)) = false := decide_eq_false (by omega)
              have d2 : decide (L.length < L.length) = false := decide_eq_false (by omega)
              clear HN cb' cs' ck'
              gi_wp2_with fail
              refine ⟨trivial, ?_⟩
              refine CallsIn.mono (F := Fence.wide) (callsIn_wide.2 (where_any_nil (some ⟨dp, 0, none⟩) wr)) ?_
              rintro e wa ⟨rfl, ha1, -, hba⟩
              have HGD := Lib.hid (HGC.out.later hba)
              have HMD := Lib.hid (HMC.out.others (others_below hba))
              have HFA := Lib.hid ha1
              have HSA := Lib.hid hba.size
              clear ha1 hba HGC HMC d1 d2
              dsimp only
              gi_wp2_with fail
              have HSEQ := Lib.hid (none_seq 7 (w := wa) (c1 := wr.heap.size + 1) (c2 := wr.heap.size) (fun _ _ _ => True) HFA.out)
              refine range_world2 rfl (by omega) (I := fun _ W => Below wa.heap.size wa W) (Ix := fun _ _ _ => False) (gf := 45) (lb := #[.pointer (some ⟨wr.heap.size + 1, 0, none⟩), .pointer (some ⟨wr.heap.size, 0, none⟩)]) rfl trivial (fun _ _ => by kernel_rfl) HSEQ.out (fun _ _ => trivial) (fun _ _ _ _ _ _ => trivial) (Below.refl _ _) (fun _ => rfl)
                (ownFrom_below (Nat.le_refl _) (Nat.le_refl _)) (fun c s A B row hs hg hr => hs) (fun s A B row hs hg hr => hs) (fun s A B row hs hg hr => hs) (Below.refl _ _) ?round ?done ?stop
              case stop =>
                rintro D4 c pre W4 hD hS hI hK
                exact hI.elim
              case round =>
                rintro pre x Wa W4 K hI hT hsz hK
                exact hT.elim
              case done =>
                rintro D4 zs W4 hD4 - hbW hK4
                have HGE := Lib.hid (HGD.out.later hbW)
                have HME : Hid (MarksAt W4 [D4, D3, D2, D]) := Lib.hid (fun D' hD' => by
                  rcases List.mem_cons.1 hD' with rfl | hD'
                  · exact hK4
                  · exact (HMD.out.others (others_below hbW)) D' hD')
                have HD34 := Lib.hid (show D3 < D4 from by have := HDZ.out; have := HSA.out; omega)
                clear hbW hK4 hD4 HGD HMD HFA HSA HSEQ
                gi_wp2_with fail
                refine ⟨trivial, ?_⟩
                refine CallsIn.mono (F := Fence.wide) (callsIn_wide.2 (all_any none W4)) ?_
                rintro e wb ⟨rfl, hb1, hbb⟩
                have HGF := Lib.hid (HGE.out.later hbb)
                have HMF := Lib.hid (HME.out.others (others_below hbb))
                have HFB := Lib.hid hb1
                have HD4 := Lib.hid (show D4 < wb.heap.size from HMF.out.lt (by simp))
                clear hb1 hbb HGE HME
                dsimp only
                gi_wp2_with fail
                have HSEQ := Lib.hid (nil_seq 7 (by omega) (w := wb) (c := W4.heap.size) (fun _ _ _ => True) HFB.out)
                refine range_world2 rfl (by omega) (I := fun _ W => Below wb.heap.size wb W) (Ix := fun _ _ _ => False) (gf := 42) (lb := #[.pointer (some ⟨W4.heap.size, 0, none⟩)]) rfl trivial (fun _ _ => by kernel_rfl) HSEQ.out (fun _ _ => trivial) (fun _ _ _ _ _ _ => trivial) (Below.refl _ _) (fun _ => rfl)
                  (ownFrom_below (Nat.le_refl _) (Nat.le_refl _)) (fun c s A B row hs hg hr => hs) (fun s A B row hs hg hr => hs) (fun s A B row hs hg hr => hs) (Below.refl _ _) ?round ?done ?stop
                case stop =>
                  rintro D5 c pre W5 hD hS hI hK
                  exact hI.elim
                case round =>
                  rintro pre x Wa W5 K hI hT hsz hK
                  exact hT.elim
                case done =>
                  rintro D5 zs W5 hD5 - hbW hK5
                  have HGG := Lib.hid (HGF.out.later hbW)
                  have HMG : Hid (MarksAt W5 [D5, D4, D3, D2, D]) := Lib.hid (fun D' hD' => by
                    rcases List.mem_cons.1 hD' with rfl | hD'
                    · exact hK5
                    · exact (HMF.out.others (others_below hbW)) D' hD')
                  have HD45 := Lib.hid (show D4 < D5 from by have := HD4.out; omega)
                  clear hbW hK5 hD5 HGF HMF HFB HSEQ HD4
                  have e1 : ((M.length : Int) == (M.length : Int)) = true := by simp
                  have e2 : ((0 : Int) == 0) = true := rfl
                  have e3 : ((-1 : Int) == -1) = true := rfl
                  have cs := HGG.out.hs.head.cell
                  gi_wp2_with fail
                  refine ⟨trivial, ?_⟩
                  refine CallsIn.mono (F := Fence.wide) (callsIn_wide.2 (pop_nil W5)) ?_
                  rintro e wq ⟨rfl, rfl⟩
                  dsimp only
                  gi_wp2_with fail
                  refine ⟨trivial, ?_⟩
                  refine CallsIn.mono (F := Fence.wide) (callsIn_wide.2 (len_nil _)) ?_
                  rintro e wq ⟨rfl, rfl⟩
                  dsimp only
                  have HB0 := Lib.hid (Below.refl wq.heap.size wq)
                  clear cs
                  gi_wp2_with fail
                  refine ⟨trivial, ?_⟩
                  refine CallsIn.mono (F := Fence.wide) (callsIn_wide.2 (place_nil 1 _)) ?_
                  rintro e wn0 ⟨rfl, hb⟩
                  have HB1 := Lib.hid (stepB HB0.out hb)
                  clear hb HB0
                  dsimp only
                  gi_wp2_with fail
                  refine ⟨trivial, ?_⟩
                  refine CallsIn.mono (F := Fence.wide) (callsIn_wide.2 (has_nil 1 _)) ?_
                  rintro e wn1 ⟨rfl, hb⟩
                  have HB2 := Lib.hid (stepB HB1.out hb)
                  clear hb HB1
                  dsimp only
                  gi_wp2_with fail
                  refine ⟨trivial, ?_⟩
                  refine CallsIn.mono (F := Fence.wide) (callsIn_wide.2 (push_nil 1 _)) ?_
                  rintro e wn2 ⟨rfl, hb⟩
                  have HB3 := Lib.hid (stepB HB2.out hb)
                  clear hb HB2
                  dsimp only
                  gi_wp2_with fail
                  refine ⟨trivial, ?_⟩
                  refine CallsIn.mono (F := Fence.wide) (callsIn_wide.2 (under_nil 1 _)) ?_
                  rintro e wn3 ⟨rfl, hb⟩
                  have HB4 := Lib.hid (stepB HB3.out hb)
                  clear hb HB3
                  dsimp only
                  gi_wp2_with fail
                  refine ⟨trivial, ?_⟩
                  refine CallsIn.mono (F := Fence.wide) (callsIn_wide.2 (drop_nil 1 _)) ?_
                  rintro e wn4 ⟨rfl, hb⟩
                  have HB5 := Lib.hid (stepB HB4.out hb)
                  clear hb HB4
                  dsimp only
                  gi_wp2_with fail
                  refine ⟨trivial, ?_⟩
                  refine CallsIn.mono (F := Fence.wide) (callsIn_wide.2 (copy_nil _)) ?_
                  rintro e wn5 ⟨rfl, hb⟩
                  have HB6 := Lib.hid (stepB HB5.out hb)
                  clear hb HB5
                  dsimp only
                  gi_wp2_with fail
                  refine ⟨trivial, ?_⟩
                  refine CallsIn.mono (F := Fence.wide) (callsIn_wide.2 (list_nil _)) ?_
                  rintro e wn6 ⟨rfl, hb⟩
                  have HB7 := Lib.hid (stepB HB6.out hb)
                  clear hb HB6
                  dsimp only
                  gi_wp2_with fail
                  refine ⟨trivial, ?_⟩
                  refine CallsIn.mono (F := Fence.wide) (callsIn_wide.2 (turn_from_nil dp 1 true _)) ?_
                  rintro e wn7 ⟨rfl, hb⟩
                  have HB8 := Lib.hid (stepB HB7.out hb)
                  clear hb HB7
                  dsimp only
                  have ck := ((HGG.out.hk.later HB8.out)).cell
                  gi_wp2_with fail
                  refine ⟨trivial, ?_⟩
                  refine CallsIn.mono (F := Fence.wide) (callsIn_wide.2 (turn_to_nil (some ⟨dp, 0, none⟩) y false _)) ?_
                  rintro e wl ⟨rfl, hb⟩
                  have HBL := Lib.hid (stepB HB8.out hb)
                  clear hb ck HB8
                  dsimp only
                  have HGL := Lib.hid (HGG.out.later HBL.out)
                  have HML := Lib.hid (HMG.out.others (others_below HBL.out))
                  have cr := HGL.out.hr.cell
                  have fr := HGL.out.hr.frozen
                  have HR := Lib.hid (HGL.out.hr.set (.bool true))
                  have HBR := Lib.hid (HGL.out.below.setCell (p := ⟨w.heap.size + 2, 0, none⟩) (by show w.heap.size ≤ w.heap.size + 2; omega) (.bool true))
                  have HMR := Lib.hid (HML.out.others (KeepsOthers.setCell wl ⟨w.heap.size + 2, 0, none⟩ (.bool true)))
                  gi_wp2
                  refine leaves_marks (B := w.heap.size) [D5, D4, D3, D2, D] _ (by have h1 := HD45.out; have h2 := HD34.out; have h3 := HD23.out; have h4 := HD12.out; simp; omega) (fun D' hD' => by have h1 := HD45.out; have h2 := HD34.out; have h3 := HD23.out; have h4 := HD12.out; have h5 := HO9.out; simp at hD'; omega) HMR.out (fun W' hb hc => ?_)
                  obtain ⟨tr, hr⟩ := HR.out
                  exact ⟨_, results_box6 rfl rfl ⟨tr, hc _ _ hr rfl⟩, rfl, HBR.out.trans hb⟩
end Go.Proofs.Ytggcolojpjddjaa
