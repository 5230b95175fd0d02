/- A part of the walk of PilePlays: K5noC. -/
import Derived.Test.YtlnpbffkcoibpaaFm
namespace Go.Proofs.Ytlnpbffkcoibpaa
open Go.RowKit
set_option maxRecDepth 100000 in
set_option maxHeartbeats 80000000 in
theorem plays_K5noC : plays_cut.snd.snd.snd.snd.snd.snd.snd.snd.snd.snd.snd.fst := by
  intro l m w hl hm ya yc zc HU b1 l1 b2 m1 w1 w2 b g w3 b' g' i0 u10 u47 u48 u49 u50 u51 u52 u53 u54 u55 u56 u57 u58 n xa xc hk hnk wA HBA ca cb HT i1 i2 i3 wr u4 u12 u13 u14 u15 u16 u17 u18 u19 u20 u21 u22 u23 u24 u25 u26 u62 u63 u64 u65 u66 u67 u68 u69 u70 u71 u72 u73 u74 u75 u76 u77 u78 u79 u80 u81 u82 u83 u84 u85 u86 u87 u88 u89 u90 u91 u92 u93 u94 u95 u96 u97 u98 u99 u100 u101 u102 u103 u104 u105 u106 u107 u108 u109 u110 u111 u112 u113 u114 u115 u116 u117 u118 u119 u120 u121 u122 u123 u124 u125 u126 u127 u128 u129 u130 u131 u132 u133 u134 u135 u136 u137 u138 u139 u140 u141 u142 u143 u144 u145 u146 u147 u148 u149 u150 u151 u152 u153 u154 u155 u156 u157 u158 u159 u160 u161 u162 u163 u164 u165 u166 u167 u168 u169 u170 u171 u172 u173 u174 u175 u176 u177 u178 u179 u180 u181 u182 u183 u184 u185 u186 u187 u188 u189 u190 u191 u192 u193 u194 u195 u196 u197 u198 u199 u200 u201 u202 u203 u204 u205 u206 u207 u208 u209 u210 u211 u212 u213 u214 u215 u216 u217 u218 u219 u220 u221 u222 u223 u224 u225 u226 u227 u228 u229 u230 u231 u232 u233 u234 u235 u236 u237 u238 u239 u240 u241 u242 u243 u244 u245 u246 u247 u248 u249 u250 u251 u252 u253 u254 u255 u256 u257 u258 u259 u260 u261 u262 u263 u264 u265 u266 u267 u268 u269 u270 u271 u272 u273 u274 u275 u276 u277 u278 u279 u280 u281 u282 u283 k gp gq A B hk' HNB hlt3 r off HV i4 i5 i6 i7 i8 wo ob va i9 i10 i11 nq wd HTD HBD i12 i13 i14 i15 i16 vb cb0 xa' xc' ca0 HIA HFA x uu o1 o2 HED o0 h0 h1 h2 h3 h4 HINA HINB i17 hT
  have HPU := Lib.hid (turn_no x uu HTD.out.2.1 HTD.out.1 HTD.out.2.2.1.flip (by have := HNB.out.2.2.2; omega) (by have := HNB.out.2.2.1; omega) hT)
  clear hT
  go_wp2_with fail
  refine HPU.out.mono ?_
  rintro e w5 ⟨g5, rfl, hp5, hq5, hs5, hc5, hn5⟩
  have HT5 := Lib.hid (HTD.out.step hc5.flip hq5 hp5 hs5.flip hn5 (.inl rfl))
  have HE5 := Lib.hid (HED.out.step hc5.flip hn5 (.inl rfl))
  have HB5 := Lib.hid (HTD.out.below hc5.flip HBD.out (Nat.le_refl _))
  clear hp5 hq5 hs5 hc5 hn5
  dsimp only
  go_wp2
  go_meet
  exact ⟨g5, gq, A, B, HT5, Lib.hid ⟨HNB.out.1, HNB.out.2.1, by have := HNB.out.2.2.1; omega, by have := HNB.out.2.2.2; omega⟩, HB5, HE5⟩
end Go.Proofs.Ytlnpbffkcoibpaa
