/- The document's example of layer 4 (awake): it returns true. -/
import Derived.Test.YtokjghfpdolojaaEg
namespace Go.Proofs.Ytokjghfpdolojaa
open Go.RowKit

def bA : ByteArray := ⟨#[97]⟩
def bB : ByteArray := ⟨#[98]⟩
def bC : ByteArray := ⟨#[99]⟩
theorem ex_shuf : (shufL 2 [bA, bB, bC] [0, 0]).map (fun x => Value.string x) = [.string bB, .string bC, .string bA] := by
  have h1 : drawN 0 2 = 0 := by decide
  have h2 : drawN 0 3 = 0 := by decide
  simp [shufL, swapL, h1, h2]
theorem zero2_at {w : World} : IntsAt (w.alloc (.cells #[.int .i64 0, .int .i64 0] 3)) (.slice (some ⟨w.heap.size, 0, none⟩) 2 2) [0, 0] :=
  (RowAt.new w 3 (intsV [0, 0])).vals 2
theorem abc_at {w : World} : ValsAt (w.alloc (.cells #[.string ⟨#[97]⟩, .string ⟨#[98]⟩, .string ⟨#[99]⟩] 9)) (.slice (some ⟨w.heap.size, 0, none⟩) 3 3) (strsV [bA, bB, bC]) :=
  (RowAt.new w 9 (strsV [bA, bB, bC])).vals 3

set_option maxRecDepth 100000 in
set_option maxHeartbeats 8000000 in
theorem awake4_any (w : World) : Calls Try.prog 7 #[] w (RetB w true) := by
  go_enter Try.func7, Try.ntmps7
  go_wp2_with fail
  refine (new_any zero2_at (by decide)).mono ?_
  rintro e w1 ⟨c, rfl, hd, hc, hb⟩
  have HD := Lib.hid hd
  have HC := Lib.hid hc
  have HB := Lib.hid (stepB (below_new w _) hb)
  clear hd hc hb
  go_wp2_with fail
  refine (shuffle_str abc_at (by decide) (HD.out.later (below_new _ _)) (by decide) (by decide)).mono ?_
  rintro e w2 ⟨rfl, hr2, hd2, hg2⟩
  have hr2' : RowAt w2 (w1.heap.size + 1) 9 [.string bB, .string bC, .string bA] := by
    have h : RowAt w2 (w1.alloc (.cells #[.string ⟨#[97]⟩, .string ⟨#[98]⟩, .string ⟨#[99]⟩] 9)).heap.size _ ((shufL 2 [bA, bB, bC] [0, 0]).map _) := hr2
    rw [ex_shuf] at h
    simpa using h
  have c0 := hr2'.cell 0 (by simp)
  have c1 := hr2'.cell 1 (by simp)
  have c2 := hr2'.cell 2 (by simp)
  simp only [List.getElem_cons_zero, List.getElem_cons_succ] at c0 c1 c2
  unfold bB at c0
  unfold bC at c1
  unfold bA at c2
  have HD2 := Lib.hid hd2
  have HB2 := Lib.hid (grown_to (below_alloc2 HB.out (.cells #[.string ⟨#[97]⟩, .string ⟨#[98]⟩, .string ⟨#[99]⟩] 9)) hg2 (by have := HC.out; simp at this; omega))
  have hn : [bA, bB, bC].length = 3 := rfl
  rw [hn]
  clear hr2 hr2' hd2 hg2 hn
  go_wp2_with (go_at_call 12; refine (taken_any HD2.out).mono ?_; rintro e w' ⟨rfl, rfl⟩)
  go_ret
  exact ⟨rfl, HB2.out⟩
end Go.Proofs.Ytokjghfpdolojaa
