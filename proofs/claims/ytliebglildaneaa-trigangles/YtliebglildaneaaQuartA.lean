/-
  Plain arithmetic: how the angle is bounded on its way, case A: each bound is reckoned ahead, and held step by step.
-/
import Derived.Test.YtliebglildaneaaTrigM
set_option linter.unusedVariables false
namespace Go.Proofs.Ytliebglildaneaa.Tm
def A0 (p0 n0 p q z : Int) : Prop := 1191649942 ≤ z ∨ (z = 0 ∧ 18446744073709551616 * p0 + 0 * n0 + 0 ≤ 18446744073709551616 * p ∧ 18446744073709551616 * p ≤ 18446744073709551616 * p0 + 0 * n0 + 0 ∧ 0 * p0 + 18446744073709551616 * n0 + 0 ≤ 18446744073709551616 * q ∧ 18446744073709551616 * q ≤ 0 * p0 + 18446744073709551616 * n0 + 0)
def A1 (p0 n0 p q z : Int) : Prop := 654779030 ≤ z ∨ (z = 536870912 ∧ 18446744073709551616 * p0 + 18446744073709551616 * n0 + 0 ≤ 18446744073709551616 * p ∧ 18446744073709551616 * p ≤ 18446744073709551616 * p0 + 18446744073709551616 * n0 + 0 ∧ (-18446744073709551616) * p0 + 18446744073709551616 * n0 + 0 ≤ 18446744073709551616 * q ∧ 18446744073709551616 * q ≤ (-18446744073709551616) * p0 + 18446744073709551616 * n0 + 0)
def A2 (p0 n0 p q z : Int) : Prop := 337845624 ≤ z ∨ (z = 219937506 ∧ 27670116110564327424 * p0 + 9223372036854775808 * n0 + 0 ≤ 18446744073709551616 * p ∧ 18446744073709551616 * p ≤ 27670116110564327424 * p0 + 9223372036854775808 * n0 + 9223372036854775808 ∧ (-9223372036854775808) * p0 + 27670116110564327424 * n0 + (-9223372036854775808) ≤ 18446744073709551616 * q ∧ 18446744073709551616 * q ≤ (-9223372036854775808) * p0 + 27670116110564327424 * n0 + 0)
def A3 (p0 n0 p q z : Int) : Prop := 170386717 ≤ z ∨ (z = 52478599 ∧ 29975959119778021376 * p0 + 2305843009213693952 * n0 + 0 ≤ 18446744073709551616 * p ∧ 18446744073709551616 * p ≤ 29975959119778021376 * p0 + 2305843009213693952 * n0 + 25364273101350633472 ∧ (-2305843009213693952) * p0 + 29975959119778021376 * n0 + (-23058430092136939520) ≤ 18446744073709551616 * q ∧ 18446744073709551616 * q ≤ (-2305843009213693952) * p0 + 29975959119778021376 * n0 + 2305843009213693952)
def A4 (p0 n0 p q z : Int) : Prop := 85381961 ≤ z ∨ (z = (-32526157) ∧ 30264189495929733120 * p0 + (-1441151880758558720) * n0 + (-288230376151711744) ≤ 18446744073709551616 * p ∧ 18446744073709551616 * p ≤ 30264189495929733120 * p0 + (-1441151880758558720) * n0 + 44387477927363608576 ∧ 1441151880758558720 * p0 + 30264189495929733120 * n0 + (-39199331156632797184) ≤ 18446744073709551616 * q ∧ 18446744073709551616 * q ≤ 1441151880758558720 * p0 + 30264189495929733120 * n0 + 5476377146882523136)
def A5 (p0 n0 p q z : Int) : Prop := 42714630 ≤ z ∨ (z = 10141174 ∧ 30354261488477143040 * p0 + 450359962737049600 * n0 + (-20032011142543966208) ≤ 18446744073709551616 * p ∧ 18446744073709551616 * p ≤ 30354261488477143040 * p0 + 450359962737049600 * n0 + 44729751499043766272 ∧ (-450359962737049600) * p0 + 30354261488477143040 * n0 + (-41973548527093022720) ≤ 18446744073709551616 * q ∧ 18446744073709551616 * q ≤ (-450359962737049600) * p0 + 30354261488477143040 * n0 + 22788214114494709760)
def A6 (p0 n0 p q z : Int) : Prop := 21360165 ≤ z ∨ (z = (-11213291) ∧ 30368335237312675840 * p0 + (-498210708777861120) * n0 + (-20744142833621925888) ≤ 18446744073709551616 * p ∧ 18446744073709551616 * p ≤ 30368335237312675840 * p0 + (-498210708777861120) * n0 + 63911708211921551360 ∧ 498210708777861120 * p0 + 30368335237312675840 * n0 + (-60469832196703649792) ≤ 18446744073709551616 * q ∧ 18446744073709551616 * q ≤ 498210708777861120 * p0 + 30368335237312675840 * n0 + 24186018848839827456)
def A7 (p0 n0 p q z : Int) : Prop := 10680327 ≤ z ∨ (z = (-533453) ∧ 30376119779637329920 * p0 + (-23705470694850560) * n0 + (-39847497659253260288) ≤ 18446744073709551616 * p ∧ 18446744073709551616 * p ≤ 30376119779637329920 * p0 + (-23705470694850560) * n0 + 64289614756434673664 ∧ 23705470694850560 * p0 + 30376119779637329920 * n0 + (-61468452637514924032) ≤ 18446744073709551616 * q ∧ 18446744073709551616 * q ≤ 23705470694850560 * p0 + 30376119779637329920 * n0 + 42668659778173009920)
def A8 (p0 n0 p q z : Int) : Prop := 5340082 ≤ z ∨ (z = 4806792 ∧ 30376304978627133440 * p0 + 213607965083566080 * n0 + (-58630348831117541376) ≤ 18446744073709551616 * p ∧ 18446744073709551616 * p ≤ 30376304978627133440 * p0 + 213607965083566080 * n0 + 64622963660951650304 ∧ (-213607965083566080) * p0 + 30376304978627133440 * n0 + (-61970715252799569920) ≤ 18446744073709551616 * q ∧ 18446744073709551616 * q ≤ (-213607965083566080) * p0 + 30376304978627133440 * n0 + 61282597239269621760)
def A9 (p0 n0 p q z : Int) : Prop := 2669919 ≤ z ∨ (z = 2136629 ∧ 30377139384740741120 * p0 + 94950523760803840 * n0 + (-58869733976583438336) ≤ 18446744073709551616 * p ∧ 18446744073709551616 * p ≤ 30377139384740741120 * p0 + 94950523760803840 * n0 + 83239723247079522304 ∧ (-94950523760803840) * p0 + 30377139384740741120 * n0 + (-80574426532592746496) ≤ 18446744073709551616 * q ∧ 18446744073709551616 * q ≤ (-94950523760803840) * p0 + 30377139384740741120 * n0 + 61535030691070214144)
def A10 (p0 n0 p q z : Int) : Prop := 1334832 ≤ z ∨ (z = 801542 ∧ 30377324834982461440 * p0 + 35620173399982080 * n0 + (-58989919583401934848) ≤ 18446744073709551616 * p ∧ 18446744073709551616 * p ≤ 30377324834982461440 * p0 + 35620173399982080 * n0 + 101807810450591580160 ∧ (-35620173399982080) * p0 + 30377324834982461440 * n0 + (-99100121758456348672) ≤ 18446744073709551616 * q ∧ 18446744073709551616 * q ≤ (-35620173399982080) * p0 + 30377324834982461440 * n0 + 61697608275537166336)
def A11 (p0 n0 p q z : Int) : Prop := 667288 ≤ z ∨ (z = 133998 ∧ 30377359620308047360 * p0 + 5954817115819520 * n0 + (-59050171153983514112) ≤ 18446744073709551616 * p ∧ 18446744073709551616 * p ≤ 30377359620308047360 * p0 + 5954817115819520 * n0 + 120333317588446392320 ∧ (-5954817115819520) * p0 + 30377359620308047360 * n0 + (-117586458776999584256) ≤ 18446744073709551616 * q ∧ 18446744073709551616 * q ≤ (-5954817115819520) * p0 + 30377359620308047360 * n0 + 61797029965430322176)
def A12 (p0 n0 p q z : Int) : Prop := 333516 ≤ z ∨ (z = (-199774) ∧ 30377362527933592193 * p0 + (-8877878011284019) * n0 + (-59080345485021321887) ≤ 18446744073709551616 * p ∧ 18446744073709551616 * p ≤ 30377362527933592194 * p0 + (-8877878011284018) * n0 + 138828469725975909773 ∧ 8877878011284018 * p0 + 30377362527933592193 * n0 + (-136053028742838175893) ≤ 18446744073709551616 * q ∧ 18446744073709551616 * q ≤ 8877878011284019 * p0 + 30377362527933592194 * n0 + 61855786468159055766)
def A13 (p0 n0 p q z : Int) : Prop := 166630 ≤ z ∨ (z = (-32888) ∧ 30377364695384278541 * p0 + (-1461529737862732) * n0 + (-77555802030573922484) ≤ 18446744073709551616 * p ∧ 18446744073709551616 * p ≤ 30377364695384278543 * p0 + (-1461529737862730) * n0 + 138843571236344112668 ∧ 1461529737862730 * p0 + 30377364695384278541 * n0 + (-136086922412204869231) ≤ 18446744073709551616 * q ∧ 18446744073709551616 * q ≤ 1461529737862732 * p0 + 30377364695384278543 * n0 + 80312450854713165920)
def A14 (p0 n0 p q z : Int) : Prop := 83187 ≤ z ∨ (z = 50555 ∧ 30377364873793670369 * p0 + 2246644663429294 * n0 + (-96016906477615809955) ≤ 18446744073709551616 * p ∧ 18446744073709551616 * p ≤ 30377364873793670372 * p0 + 2246644663429297 * n0 + 138853375002317588397 ∧ (-2246644663429297) * p0 + 30377364873793670369 * n0 + (-136103871090334305769) ≤ 18446744073709551616 * q ∧ 18446744073709551616 * q ≤ (-2246644663429294) * p0 + 30377364873793670372 * n0 + 98766410389599092582)
def A15 (p0 n0 p q z : Int) : Prop := 41465 ≤ z ∨ (z = 8833 ∧ 30377365010917978439 * p0 + 392557451894035 * n0 + (-96022934700906190759) ≤ 18446744073709551616 * p ∧ 18446744073709551616 * p ≤ 30377365010917978443 * p0 + 392557451894039 * n0 + 157307300297158525802 ∧ (-392557451894039) * p0 + 30377365010917978439 * n0 + (-154555349671026517680) ≤ 18446744073709551616 * q ∧ 18446744073709551616 * q ≤ (-392557451894035) * p0 + 30377365010917978443 * n0 + 98774885327038198881)
def A16 (p0 n0 p q z : Int) : Prop := 20604 ≤ z ∨ (z = (-12028) ∧ 30377365022897881145 * p0 + (-534486158058296) * n0 + (-96025949071185946564) ≤ 18446744073709551616 * p ∧ 18446744073709551616 * p ≤ 30377365022897881150 * p0 + (-534486158058291) * n0 + 175758198075872878351 ∧ 534486158058291 * p0 + 30377365022897881145 * n0 + (-173004461182194174663) ≤ 18446744073709551616 * q ∧ 18446744073709551616 * q ≤ 534486158058296 * p0 + 30377365022897881150 * n0 + 98779685964864650253)
def A17 (p0 n0 p q z : Int) : Prop := 10174 ≤ z ∨ (z = (-1598) ∧ 30377365031053492687 * p0 + (-70964352899332) * n0 + (-114475051508498838095) ≤ 18446744073709551616 * p ∧ 18446744073709551616 * p ≤ 30377365031053492693 * p0 + (-70964352899326) * n0 + 175759705334264676213 ∧ 70964352899326 * p0 + 30377365031053492687 * n0 + (-173007143039464619501) ≤ 18446744073709551616 * q ∧ 18446744073709551616 * q ≤ 70964352899332 * p0 + 30377365031053492693 * n0 + 117227613803298894808)
def A18 (p0 n0 p q z : Int) : Prop := 4959 ≤ z ∨ (z = 3617 ∧ 30377365031594907732 * p0 + 160796549742372 * n0 + (-132922974784471006861) ≤ 18446744073709551616 * p ∧ 18446744073709551616 * p ≤ 30377365031594907739 * p0 + 160796549742379 * n0 + 175760599709980338589 ∧ (-160796549742379) * p0 + 30377365031594907732 * n0 + (-173008483979599310852) ≤ 18446744073709551616 * q ∧ 18446744073709551616 * q ≤ (-160796549742372) * p0 + 30377365031594907739 * n0 + 135675090514852034600)
def A19 (p0 n0 p q z : Int) : Prop := 2351 ≤ z ∨ (z = 1009 ∧ 30377365032208297890 * p0 + 44916098419454 * n0 + (-132923492343867807292) ≤ 18446744073709551616 * p ∧ 18446744073709551616 * p ≤ 30377365032208297898 * p0 + 44916098419462 * n0 + 194207933389936479446 ∧ (-44916098419462) * p0 + 30377365032208297890 * n0 + (-191455664745473133867) ≤ 18446744073709551616 * q ∧ 18446744073709551616 * q ≤ (-44916098419454) * p0 + 30377365032208297898 * n0 + 135675760988331152873)
def A20 (p0 n0 p q z : Int) : Prop := 1047 ≤ z ∨ (z = (-295) ∧ 30377365032293968548 * p0 + (-13024127243175) * n0 + (-132923751124845034181) ≤ 18446744073709551616 * p ∧ 18446744073709551616 * p ≤ 30377365032293968557 * p0 + (-13024127243166) * n0 + 212655007451974338717 ∧ 13024127243166 * p0 + 30377365032293968548 * n0 + (-209902627166251987391) ≤ 18446744073709551616 * q ∧ 18446744073709551616 * q ≤ 13024127243175 * p0 + 30377365032293968557 * n0 + 135676131410567385510)
def A21 (p0 n0 p q z : Int) : Prop := 395 ≤ z ∨ (z = 357 ∧ 30377365032306389323 * p0 + 15945985588221 * n0 + (-151370677785113016033) ≤ 18446744073709551616 * p ∧ 18446744073709551616 * p ≤ 30377365032306389333 * p0 + 15945985588231 * n0 + 212655136842816214335 ∧ (-15945985588231) * p0 + 30377365032306389323 * n0 + (-209902829969870849519) ≤ 18446744073709551616 * q ∧ 18446744073709551616 * q ≤ (-15945985588221) * p0 + 30377365032306389333 * n0 + 154122984658058380852)
def A22 (p0 n0 p q z : Int) : Prop := 69 ≤ z ∨ (z = 31 ∧ 30377365032313992961 * p0 + 1460929172517 * n0 + (-151370751276679034166) ≤ 18446744073709551616 * p ∧ 18446744073709551616 * p ≤ 30377365032313992972 * p0 + 1460929172528 * n0 + 231101972209901685370 ∧ (-1460929172528) * p0 + 30377365032313992961 * n0 + (-228349637426651209262) ≤ 18446744073709551616 * q ∧ 18446744073709551616 * q ≤ (-1460929172517) * p0 + 30377365032313992972 * n0 + 154123086059929510278)
def A23 (p0 n0 p q z : Int) : Prop := (-94) ≤ z ∨ (z = (-132) ∧ 30377365032314341273 * p0 + (-5781599035337) * n0 + (-151370788022486219323) ≤ 18446744073709551616 * p ∧ 18446744073709551616 * p ≤ 30377365032314341285 * p0 + (-5781599035325) * n0 + 249548766328360819502 ∧ 5781599035325 * p0 + 30377365032314341273 * n0 + (-246796413191913686696) ≤ 18446744073709551616 * q ∧ 18446744073709551616 * q ≤ 5781599035337 * p0 + 30377365032314341285 * n0 + 154123141158933352132)
def A24 (p0 n0 p q z : Int) : Prop := (-175) ≤ z ∨ (z = (-51) ∧ 30377365032315030493 * p0 + (-2160334931411) * n0 + (-169817559317597595677) ≤ 18446744073709551616 * p ∧ 18446744073709551616 * p ≤ 30377365032315030506 * p0 + (-2160334931398) * n0 + 249548784701270980394 ∧ 2160334931398 * p0 + 30377365032315030493 * n0 + (-246796442940444828974) ≤ 18446744073709551616 * q ∧ 18446744073709551616 * q ≤ 2160334931411 * p0 + 30377365032315030506 * n0 + 172569901078423747099)
theorem A0_pos {p0 n0 p q z : Int} (h0 : 4096 ≤ p0) (h1 : 4096 ≤ n0) (h : A0 p0 n0 p q z) (hq : ¬ q < 0) : A1 p0 n0 (p + q / 1) (q - p / 1) (z + 536870912) := by
  unfold A0 at h
  unfold A1
  omega
theorem A0_neg {p0 n0 p q z : Int} (h0 : 4096 ≤ p0) (h1 : 4096 ≤ n0) (h : A0 p0 n0 p q z) (hq : q < 0) : A1 p0 n0 (p - q / 1) (q + p / 1) (z - 536870912) := by
  unfold A0 at h
  unfold A1
  omega
theorem A1_pos {p0 n0 p q z : Int} (h0 : 4096 ≤ p0) (h1 : 4096 ≤ n0) (h : A1 p0 n0 p q z) (hq : ¬ q < 0) : A2 p0 n0 (p + q / 2) (q - p / 2) (z + 316933406) := by
  unfold A1 at h
  unfold A2
  omega
theorem A1_neg {p0 n0 p q z : Int} (h0 : 4096 ≤ p0) (h1 : 4096 ≤ n0) (h : A1 p0 n0 p q z) (hq : q < 0) : A2 p0 n0 (p - q / 2) (q + p / 2) (z - 316933406) := by
  unfold A1 at h
  unfold A2
  omega
theorem A2_pos {p0 n0 p q z : Int} (h0 : 4096 ≤ p0) (h1 : 4096 ≤ n0) (h : A2 p0 n0 p q z) (hq : ¬ q < 0) : A3 p0 n0 (p + q / 4) (q - p / 4) (z + 167458907) := by
  unfold A2 at h
  unfold A3
  omega
theorem A2_neg {p0 n0 p q z : Int} (h0 : 4096 ≤ p0) (h1 : 4096 ≤ n0) (h : A2 p0 n0 p q z) (hq : q < 0) : A3 p0 n0 (p - q / 4) (q + p / 4) (z - 167458907) := by
  unfold A2 at h
  unfold A3
  omega
theorem A3_pos {p0 n0 p q z : Int} (h0 : 4096 ≤ p0) (h1 : 4096 ≤ n0) (h : A3 p0 n0 p q z) (hq : ¬ q < 0) : A4 p0 n0 (p + q / 8) (q - p / 8) (z + 85004756) := by
  unfold A3 at h
  unfold A4
  omega
theorem A3_neg {p0 n0 p q z : Int} (h0 : 4096 ≤ p0) (h1 : 4096 ≤ n0) (h : A3 p0 n0 p q z) (hq : q < 0) : A4 p0 n0 (p - q / 8) (q + p / 8) (z - 85004756) := by
  unfold A3 at h
  unfold A4
  omega
theorem A4_pos {p0 n0 p q z : Int} (h0 : 4096 ≤ p0) (h1 : 4096 ≤ n0) (h : A4 p0 n0 p q z) (hq : ¬ q < 0) : A5 p0 n0 (p + q / 16) (q - p / 16) (z + 42667331) := by
  unfold A4 at h
  unfold A5
  omega
theorem A4_neg {p0 n0 p q z : Int} (h0 : 4096 ≤ p0) (h1 : 4096 ≤ n0) (h : A4 p0 n0 p q z) (hq : q < 0) : A5 p0 n0 (p - q / 16) (q + p / 16) (z - 42667331) := by
  unfold A4 at h
  unfold A5
  omega
theorem A5_pos {p0 n0 p q z : Int} (h0 : 4096 ≤ p0) (h1 : 4096 ≤ n0) (h : A5 p0 n0 p q z) (hq : ¬ q < 0) : A6 p0 n0 (p + q / 32) (q - p / 32) (z + 21354465) := by
  unfold A5 at h
  unfold A6
  omega
theorem A5_neg {p0 n0 p q z : Int} (h0 : 4096 ≤ p0) (h1 : 4096 ≤ n0) (h : A5 p0 n0 p q z) (hq : q < 0) : A6 p0 n0 (p - q / 32) (q + p / 32) (z - 21354465) := by
  unfold A5 at h
  unfold A6
  omega
theorem A6_pos {p0 n0 p q z : Int} (h0 : 4096 ≤ p0) (h1 : 4096 ≤ n0) (h : A6 p0 n0 p q z) (hq : ¬ q < 0) : A7 p0 n0 (p + q / 64) (q - p / 64) (z + 10679838) := by
  unfold A6 at h
  unfold A7
  omega
theorem A6_neg {p0 n0 p q z : Int} (h0 : 4096 ≤ p0) (h1 : 4096 ≤ n0) (h : A6 p0 n0 p q z) (hq : q < 0) : A7 p0 n0 (p - q / 64) (q + p / 64) (z - 10679838) := by
  unfold A6 at h
  unfold A7
  omega
theorem A7_pos {p0 n0 p q z : Int} (h0 : 4096 ≤ p0) (h1 : 4096 ≤ n0) (h : A7 p0 n0 p q z) (hq : ¬ q < 0) : A8 p0 n0 (p + q / 128) (q - p / 128) (z + 5340245) := by
  unfold A7 at h
  unfold A8
  omega
theorem A7_neg {p0 n0 p q z : Int} (h0 : 4096 ≤ p0) (h1 : 4096 ≤ n0) (h : A7 p0 n0 p q z) (hq : q < 0) : A8 p0 n0 (p - q / 128) (q + p / 128) (z - 5340245) := by
  unfold A7 at h
  unfold A8
  omega
theorem A8_pos {p0 n0 p q z : Int} (h0 : 4096 ≤ p0) (h1 : 4096 ≤ n0) (h : A8 p0 n0 p q z) (hq : ¬ q < 0) : A9 p0 n0 (p + q / 256) (q - p / 256) (z + 2670163) := by
  unfold A8 at h
  unfold A9
  omega
theorem A8_neg {p0 n0 p q z : Int} (h0 : 4096 ≤ p0) (h1 : 4096 ≤ n0) (h : A8 p0 n0 p q z) (hq : q < 0) : A9 p0 n0 (p - q / 256) (q + p / 256) (z - 2670163) := by
  unfold A8 at h
  unfold A9
  omega
theorem A9_pos {p0 n0 p q z : Int} (h0 : 4096 ≤ p0) (h1 : 4096 ≤ n0) (h : A9 p0 n0 p q z) (hq : ¬ q < 0) : A10 p0 n0 (p + q / 512) (q - p / 512) (z + 1335087) := by
  unfold A9 at h
  unfold A10
  omega
theorem A9_neg {p0 n0 p q z : Int} (h0 : 4096 ≤ p0) (h1 : 4096 ≤ n0) (h : A9 p0 n0 p q z) (hq : q < 0) : A10 p0 n0 (p - q / 512) (q + p / 512) (z - 1335087) := by
  unfold A9 at h
  unfold A10
  omega
theorem A10_pos {p0 n0 p q z : Int} (h0 : 4096 ≤ p0) (h1 : 4096 ≤ n0) (h : A10 p0 n0 p q z) (hq : ¬ q < 0) : A11 p0 n0 (p + q / 1024) (q - p / 1024) (z + 667544) := by
  unfold A10 at h
  unfold A11
  omega
theorem A10_neg {p0 n0 p q z : Int} (h0 : 4096 ≤ p0) (h1 : 4096 ≤ n0) (h : A10 p0 n0 p q z) (hq : q < 0) : A11 p0 n0 (p - q / 1024) (q + p / 1024) (z - 667544) := by
  unfold A10 at h
  unfold A11
  omega
theorem A11_pos {p0 n0 p q z : Int} (h0 : 4096 ≤ p0) (h1 : 4096 ≤ n0) (h : A11 p0 n0 p q z) (hq : ¬ q < 0) : A12 p0 n0 (p + q / 2048) (q - p / 2048) (z + 333772) := by
  unfold A11 at h
  unfold A12
  omega
theorem A11_neg {p0 n0 p q z : Int} (h0 : 4096 ≤ p0) (h1 : 4096 ≤ n0) (h : A11 p0 n0 p q z) (hq : q < 0) : A12 p0 n0 (p - q / 2048) (q + p / 2048) (z - 333772) := by
  unfold A11 at h
  unfold A12
  omega
theorem A12_pos {p0 n0 p q z : Int} (h0 : 4096 ≤ p0) (h1 : 4096 ≤ n0) (h : A12 p0 n0 p q z) (hq : ¬ q < 0) : A13 p0 n0 (p + q / 4096) (q - p / 4096) (z + 166886) := by
  unfold A12 at h
  unfold A13
  omega
theorem A12_neg {p0 n0 p q z : Int} (h0 : 4096 ≤ p0) (h1 : 4096 ≤ n0) (h : A12 p0 n0 p q z) (hq : q < 0) : A13 p0 n0 (p - q / 4096) (q + p / 4096) (z - 166886) := by
  unfold A12 at h
  unfold A13
  omega
theorem A13_pos {p0 n0 p q z : Int} (h0 : 4096 ≤ p0) (h1 : 4096 ≤ n0) (h : A13 p0 n0 p q z) (hq : ¬ q < 0) : A14 p0 n0 (p + q / 8192) (q - p / 8192) (z + 83443) := by
  unfold A13 at h
  unfold A14
  omega
theorem A13_neg {p0 n0 p q z : Int} (h0 : 4096 ≤ p0) (h1 : 4096 ≤ n0) (h : A13 p0 n0 p q z) (hq : q < 0) : A14 p0 n0 (p - q / 8192) (q + p / 8192) (z - 83443) := by
  unfold A13 at h
  unfold A14
  omega
theorem A14_pos {p0 n0 p q z : Int} (h0 : 4096 ≤ p0) (h1 : 4096 ≤ n0) (h : A14 p0 n0 p q z) (hq : ¬ q < 0) : A15 p0 n0 (p + q / 16384) (q - p / 16384) (z + 41722) := by
  unfold A14 at h
  unfold A15
  omega
theorem A14_neg {p0 n0 p q z : Int} (h0 : 4096 ≤ p0) (h1 : 4096 ≤ n0) (h : A14 p0 n0 p q z) (hq : q < 0) : A15 p0 n0 (p - q / 16384) (q + p / 16384) (z - 41722) := by
  unfold A14 at h
  unfold A15
  omega
theorem A15_pos {p0 n0 p q z : Int} (h0 : 4096 ≤ p0) (h1 : 4096 ≤ n0) (h : A15 p0 n0 p q z) (hq : ¬ q < 0) : A16 p0 n0 (p + q / 32768) (q - p / 32768) (z + 20861) := by
  unfold A15 at h
  unfold A16
  omega
theorem A15_neg {p0 n0 p q z : Int} (h0 : 4096 ≤ p0) (h1 : 4096 ≤ n0) (h : A15 p0 n0 p q z) (hq : q < 0) : A16 p0 n0 (p - q / 32768) (q + p / 32768) (z - 20861) := by
  unfold A15 at h
  unfold A16
  omega
theorem A16_pos {p0 n0 p q z : Int} (h0 : 4096 ≤ p0) (h1 : 4096 ≤ n0) (h : A16 p0 n0 p q z) (hq : ¬ q < 0) : A17 p0 n0 (p + q / 65536) (q - p / 65536) (z + 10430) := by
  unfold A16 at h
  unfold A17
  omega
theorem A16_neg {p0 n0 p q z : Int} (h0 : 4096 ≤ p0) (h1 : 4096 ≤ n0) (h : A16 p0 n0 p q z) (hq : q < 0) : A17 p0 n0 (p - q / 65536) (q + p / 65536) (z - 10430) := by
  unfold A16 at h
  unfold A17
  omega
theorem A17_pos {p0 n0 p q z : Int} (h0 : 4096 ≤ p0) (h1 : 4096 ≤ n0) (h : A17 p0 n0 p q z) (hq : ¬ q < 0) : A18 p0 n0 (p + q / 131072) (q - p / 131072) (z + 5215) := by
  unfold A17 at h
  unfold A18
  omega
theorem A17_neg {p0 n0 p q z : Int} (h0 : 4096 ≤ p0) (h1 : 4096 ≤ n0) (h : A17 p0 n0 p q z) (hq : q < 0) : A18 p0 n0 (p - q / 131072) (q + p / 131072) (z - 5215) := by
  unfold A17 at h
  unfold A18
  omega
theorem A18_pos {p0 n0 p q z : Int} (h0 : 4096 ≤ p0) (h1 : 4096 ≤ n0) (h : A18 p0 n0 p q z) (hq : ¬ q < 0) : A19 p0 n0 (p + q / 262144) (q - p / 262144) (z + 2608) := by
  unfold A18 at h
  unfold A19
  omega
theorem A18_neg {p0 n0 p q z : Int} (h0 : 4096 ≤ p0) (h1 : 4096 ≤ n0) (h : A18 p0 n0 p q z) (hq : q < 0) : A19 p0 n0 (p - q / 262144) (q + p / 262144) (z - 2608) := by
  unfold A18 at h
  unfold A19
  omega
theorem A19_pos {p0 n0 p q z : Int} (h0 : 4096 ≤ p0) (h1 : 4096 ≤ n0) (h : A19 p0 n0 p q z) (hq : ¬ q < 0) : A20 p0 n0 (p + q / 524288) (q - p / 524288) (z + 1304) := by
  unfold A19 at h
  unfold A20
  omega
theorem A19_neg {p0 n0 p q z : Int} (h0 : 4096 ≤ p0) (h1 : 4096 ≤ n0) (h : A19 p0 n0 p q z) (hq : q < 0) : A20 p0 n0 (p - q / 524288) (q + p / 524288) (z - 1304) := by
  unfold A19 at h
  unfold A20
  omega
theorem A20_pos {p0 n0 p q z : Int} (h0 : 4096 ≤ p0) (h1 : 4096 ≤ n0) (h : A20 p0 n0 p q z) (hq : ¬ q < 0) : A21 p0 n0 (p + q / 1048576) (q - p / 1048576) (z + 652) := by
  unfold A20 at h
  unfold A21
  omega
theorem A20_neg {p0 n0 p q z : Int} (h0 : 4096 ≤ p0) (h1 : 4096 ≤ n0) (h : A20 p0 n0 p q z) (hq : q < 0) : A21 p0 n0 (p - q / 1048576) (q + p / 1048576) (z - 652) := by
  unfold A20 at h
  unfold A21
  omega
theorem A21_pos {p0 n0 p q z : Int} (h0 : 4096 ≤ p0) (h1 : 4096 ≤ n0) (h : A21 p0 n0 p q z) (hq : ¬ q < 0) : A22 p0 n0 (p + q / 2097152) (q - p / 2097152) (z + 326) := by
  unfold A21 at h
  unfold A22
  omega
theorem A21_neg {p0 n0 p q z : Int} (h0 : 4096 ≤ p0) (h1 : 4096 ≤ n0) (h : A21 p0 n0 p q z) (hq : q < 0) : A22 p0 n0 (p - q / 2097152) (q + p / 2097152) (z - 326) := by
  unfold A21 at h
  unfold A22
  omega
theorem A22_pos {p0 n0 p q z : Int} (h0 : 4096 ≤ p0) (h1 : 4096 ≤ n0) (h : A22 p0 n0 p q z) (hq : ¬ q < 0) : A23 p0 n0 (p + q / 4194304) (q - p / 4194304) (z + 163) := by
  unfold A22 at h
  unfold A23
  omega
theorem A22_neg {p0 n0 p q z : Int} (h0 : 4096 ≤ p0) (h1 : 4096 ≤ n0) (h : A22 p0 n0 p q z) (hq : q < 0) : A23 p0 n0 (p - q / 4194304) (q + p / 4194304) (z - 163) := by
  unfold A22 at h
  unfold A23
  omega
theorem A23_pos {p0 n0 p q z : Int} (h0 : 4096 ≤ p0) (h1 : 4096 ≤ n0) (h : A23 p0 n0 p q z) (hq : ¬ q < 0) : A24 p0 n0 (p + q / 8388608) (q - p / 8388608) (z + 81) := by
  unfold A23 at h
  unfold A24
  omega
theorem A23_neg {p0 n0 p q z : Int} (h0 : 4096 ≤ p0) (h1 : 4096 ≤ n0) (h : A23 p0 n0 p q z) (hq : q < 0) : A24 p0 n0 (p - q / 8388608) (q + p / 8388608) (z - 81) := by
  unfold A23 at h
  unfold A24
  omega
theorem A0_step {p0 n0 : Int} {s : Int × Int × Int} (h0 : 4096 ≤ p0) (h1 : 4096 ≤ n0) (h : A0 p0 n0 s.1 s.2.1 s.2.2) : A1 p0 n0 (stA 0 s).1 (stA 0 s).2.1 (stA 0 s).2.2 := by
  unfold stA
  split
  · exact A0_neg h0 h1 h ‹_›
  · exact A0_pos h0 h1 h ‹_›
theorem A1_step {p0 n0 : Int} {s : Int × Int × Int} (h0 : 4096 ≤ p0) (h1 : 4096 ≤ n0) (h : A1 p0 n0 s.1 s.2.1 s.2.2) : A2 p0 n0 (stA 1 s).1 (stA 1 s).2.1 (stA 1 s).2.2 := by
  unfold stA
  split
  · exact A1_neg h0 h1 h ‹_›
  · exact A1_pos h0 h1 h ‹_›
theorem A2_step {p0 n0 : Int} {s : Int × Int × Int} (h0 : 4096 ≤ p0) (h1 : 4096 ≤ n0) (h : A2 p0 n0 s.1 s.2.1 s.2.2) : A3 p0 n0 (stA 2 s).1 (stA 2 s).2.1 (stA 2 s).2.2 := by
  unfold stA
  split
  · exact A2_neg h0 h1 h ‹_›
  · exact A2_pos h0 h1 h ‹_›
theorem A3_step {p0 n0 : Int} {s : Int × Int × Int} (h0 : 4096 ≤ p0) (h1 : 4096 ≤ n0) (h : A3 p0 n0 s.1 s.2.1 s.2.2) : A4 p0 n0 (stA 3 s).1 (stA 3 s).2.1 (stA 3 s).2.2 := by
  unfold stA
  split
  · exact A3_neg h0 h1 h ‹_›
  · exact A3_pos h0 h1 h ‹_›
theorem A4_step {p0 n0 : Int} {s : Int × Int × Int} (h0 : 4096 ≤ p0) (h1 : 4096 ≤ n0) (h : A4 p0 n0 s.1 s.2.1 s.2.2) : A5 p0 n0 (stA 4 s).1 (stA 4 s).2.1 (stA 4 s).2.2 := by
  unfold stA
  split
  · exact A4_neg h0 h1 h ‹_›
  · exact A4_pos h0 h1 h ‹_›
theorem A5_step {p0 n0 : Int} {s : Int × Int × Int} (h0 : 4096 ≤ p0) (h1 : 4096 ≤ n0) (h : A5 p0 n0 s.1 s.2.1 s.2.2) : A6 p0 n0 (stA 5 s).1 (stA 5 s).2.1 (stA 5 s).2.2 := by
  unfold stA
  split
  · exact A5_neg h0 h1 h ‹_›
  · exact A5_pos h0 h1 h ‹_›
theorem A6_step {p0 n0 : Int} {s : Int × Int × Int} (h0 : 4096 ≤ p0) (h1 : 4096 ≤ n0) (h : A6 p0 n0 s.1 s.2.1 s.2.2) : A7 p0 n0 (stA 6 s).1 (stA 6 s).2.1 (stA 6 s).2.2 := by
  unfold stA
  split
  · exact A6_neg h0 h1 h ‹_›
  · exact A6_pos h0 h1 h ‹_›
theorem A7_step {p0 n0 : Int} {s : Int × Int × Int} (h0 : 4096 ≤ p0) (h1 : 4096 ≤ n0) (h : A7 p0 n0 s.1 s.2.1 s.2.2) : A8 p0 n0 (stA 7 s).1 (stA 7 s).2.1 (stA 7 s).2.2 := by
  unfold stA
  split
  · exact A7_neg h0 h1 h ‹_›
  · exact A7_pos h0 h1 h ‹_›
theorem A8_step {p0 n0 : Int} {s : Int × Int × Int} (h0 : 4096 ≤ p0) (h1 : 4096 ≤ n0) (h : A8 p0 n0 s.1 s.2.1 s.2.2) : A9 p0 n0 (stA 8 s).1 (stA 8 s).2.1 (stA 8 s).2.2 := by
  unfold stA
  split
  · exact A8_neg h0 h1 h ‹_›
  · exact A8_pos h0 h1 h ‹_›
theorem A9_step {p0 n0 : Int} {s : Int × Int × Int} (h0 : 4096 ≤ p0) (h1 : 4096 ≤ n0) (h : A9 p0 n0 s.1 s.2.1 s.2.2) : A10 p0 n0 (stA 9 s).1 (stA 9 s).2.1 (stA 9 s).2.2 := by
  unfold stA
  split
  · exact A9_neg h0 h1 h ‹_›
  · exact A9_pos h0 h1 h ‹_›
theorem A10_step {p0 n0 : Int} {s : Int × Int × Int} (h0 : 4096 ≤ p0) (h1 : 4096 ≤ n0) (h : A10 p0 n0 s.1 s.2.1 s.2.2) : A11 p0 n0 (stA 10 s).1 (stA 10 s).2.1 (stA 10 s).2.2 := by
  unfold stA
  split
  · exact A10_neg h0 h1 h ‹_›
  · exact A10_pos h0 h1 h ‹_›
theorem A11_step {p0 n0 : Int} {s : Int × Int × Int} (h0 : 4096 ≤ p0) (h1 : 4096 ≤ n0) (h : A11 p0 n0 s.1 s.2.1 s.2.2) : A12 p0 n0 (stA 11 s).1 (stA 11 s).2.1 (stA 11 s).2.2 := by
  unfold stA
  split
  · exact A11_neg h0 h1 h ‹_›
  · exact A11_pos h0 h1 h ‹_›
theorem A12_step {p0 n0 : Int} {s : Int × Int × Int} (h0 : 4096 ≤ p0) (h1 : 4096 ≤ n0) (h : A12 p0 n0 s.1 s.2.1 s.2.2) : A13 p0 n0 (stA 12 s).1 (stA 12 s).2.1 (stA 12 s).2.2 := by
  unfold stA
  split
  · exact A12_neg h0 h1 h ‹_›
  · exact A12_pos h0 h1 h ‹_›
theorem A13_step {p0 n0 : Int} {s : Int × Int × Int} (h0 : 4096 ≤ p0) (h1 : 4096 ≤ n0) (h : A13 p0 n0 s.1 s.2.1 s.2.2) : A14 p0 n0 (stA 13 s).1 (stA 13 s).2.1 (stA 13 s).2.2 := by
  unfold stA
  split
  · exact A13_neg h0 h1 h ‹_›
  · exact A13_pos h0 h1 h ‹_›
theorem A14_step {p0 n0 : Int} {s : Int × Int × Int} (h0 : 4096 ≤ p0) (h1 : 4096 ≤ n0) (h : A14 p0 n0 s.1 s.2.1 s.2.2) : A15 p0 n0 (stA 14 s).1 (stA 14 s).2.1 (stA 14 s).2.2 := by
  unfold stA
  split
  · exact A14_neg h0 h1 h ‹_›
  · exact A14_pos h0 h1 h ‹_›
theorem A15_step {p0 n0 : Int} {s : Int × Int × Int} (h0 : 4096 ≤ p0) (h1 : 4096 ≤ n0) (h : A15 p0 n0 s.1 s.2.1 s.2.2) : A16 p0 n0 (stA 15 s).1 (stA 15 s).2.1 (stA 15 s).2.2 := by
  unfold stA
  split
  · exact A15_neg h0 h1 h ‹_›
  · exact A15_pos h0 h1 h ‹_›
theorem A16_step {p0 n0 : Int} {s : Int × Int × Int} (h0 : 4096 ≤ p0) (h1 : 4096 ≤ n0) (h : A16 p0 n0 s.1 s.2.1 s.2.2) : A17 p0 n0 (stA 16 s).1 (stA 16 s).2.1 (stA 16 s).2.2 := by
  unfold stA
  split
  · exact A16_neg h0 h1 h ‹_›
  · exact A16_pos h0 h1 h ‹_›
theorem A17_step {p0 n0 : Int} {s : Int × Int × Int} (h0 : 4096 ≤ p0) (h1 : 4096 ≤ n0) (h : A17 p0 n0 s.1 s.2.1 s.2.2) : A18 p0 n0 (stA 17 s).1 (stA 17 s).2.1 (stA 17 s).2.2 := by
  unfold stA
  split
  · exact A17_neg h0 h1 h ‹_›
  · exact A17_pos h0 h1 h ‹_›
theorem A18_step {p0 n0 : Int} {s : Int × Int × Int} (h0 : 4096 ≤ p0) (h1 : 4096 ≤ n0) (h : A18 p0 n0 s.1 s.2.1 s.2.2) : A19 p0 n0 (stA 18 s).1 (stA 18 s).2.1 (stA 18 s).2.2 := by
  unfold stA
  split
  · exact A18_neg h0 h1 h ‹_›
  · exact A18_pos h0 h1 h ‹_›
theorem A19_step {p0 n0 : Int} {s : Int × Int × Int} (h0 : 4096 ≤ p0) (h1 : 4096 ≤ n0) (h : A19 p0 n0 s.1 s.2.1 s.2.2) : A20 p0 n0 (stA 19 s).1 (stA 19 s).2.1 (stA 19 s).2.2 := by
  unfold stA
  split
  · exact A19_neg h0 h1 h ‹_›
  · exact A19_pos h0 h1 h ‹_›
theorem A20_step {p0 n0 : Int} {s : Int × Int × Int} (h0 : 4096 ≤ p0) (h1 : 4096 ≤ n0) (h : A20 p0 n0 s.1 s.2.1 s.2.2) : A21 p0 n0 (stA 20 s).1 (stA 20 s).2.1 (stA 20 s).2.2 := by
  unfold stA
  split
  · exact A20_neg h0 h1 h ‹_›
  · exact A20_pos h0 h1 h ‹_›
theorem A21_step {p0 n0 : Int} {s : Int × Int × Int} (h0 : 4096 ≤ p0) (h1 : 4096 ≤ n0) (h : A21 p0 n0 s.1 s.2.1 s.2.2) : A22 p0 n0 (stA 21 s).1 (stA 21 s).2.1 (stA 21 s).2.2 := by
  unfold stA
  split
  · exact A21_neg h0 h1 h ‹_›
  · exact A21_pos h0 h1 h ‹_›
theorem A22_step {p0 n0 : Int} {s : Int × Int × Int} (h0 : 4096 ≤ p0) (h1 : 4096 ≤ n0) (h : A22 p0 n0 s.1 s.2.1 s.2.2) : A23 p0 n0 (stA 22 s).1 (stA 22 s).2.1 (stA 22 s).2.2 := by
  unfold stA
  split
  · exact A22_neg h0 h1 h ‹_›
  · exact A22_pos h0 h1 h ‹_›
theorem A23_step {p0 n0 : Int} {s : Int × Int × Int} (h0 : 4096 ≤ p0) (h1 : 4096 ≤ n0) (h : A23 p0 n0 s.1 s.2.1 s.2.2) : A24 p0 n0 (stA 23 s).1 (stA 23 s).2.1 (stA 23 s).2.2 := by
  unfold stA
  split
  · exact A23_neg h0 h1 h ‹_›
  · exact A23_pos h0 h1 h ‹_›
theorem A_all {p0 n0 : Int} {r : Nat → Int × Int × Int} (h0 : 4096 ≤ p0) (h1 : 4096 ≤ n0) (e : r 0 = (p0, n0, 0)) (hs : ∀ n, r (n + 1) = stA n (r n)) : A24 p0 n0 (r 24).1 (r 24).2.1 (r 24).2.2 := by
  have r0 : A0 p0 n0 (r 0).1 (r 0).2.1 (r 0).2.2 := by
    rw [e]
    show A0 p0 n0 p0 n0 0
    unfold A0
    omega
  have r1 : A1 p0 n0 (r 1).1 (r 1).2.1 (r 1).2.2 := by rw [show r 1 = stA 0 (r 0) from hs 0]; exact A0_step h0 h1 r0
  have r2 : A2 p0 n0 (r 2).1 (r 2).2.1 (r 2).2.2 := by rw [show r 2 = stA 1 (r 1) from hs 1]; exact A1_step h0 h1 r1
  have r3 : A3 p0 n0 (r 3).1 (r 3).2.1 (r 3).2.2 := by rw [show r 3 = stA 2 (r 2) from hs 2]; exact A2_step h0 h1 r2
  have r4 : A4 p0 n0 (r 4).1 (r 4).2.1 (r 4).2.2 := by rw [show r 4 = stA 3 (r 3) from hs 3]; exact A3_step h0 h1 r3
  have r5 : A5 p0 n0 (r 5).1 (r 5).2.1 (r 5).2.2 := by rw [show r 5 = stA 4 (r 4) from hs 4]; exact A4_step h0 h1 r4
  have r6 : A6 p0 n0 (r 6).1 (r 6).2.1 (r 6).2.2 := by rw [show r 6 = stA 5 (r 5) from hs 5]; exact A5_step h0 h1 r5
  have r7 : A7 p0 n0 (r 7).1 (r 7).2.1 (r 7).2.2 := by rw [show r 7 = stA 6 (r 6) from hs 6]; exact A6_step h0 h1 r6
  have r8 : A8 p0 n0 (r 8).1 (r 8).2.1 (r 8).2.2 := by rw [show r 8 = stA 7 (r 7) from hs 7]; exact A7_step h0 h1 r7
  have r9 : A9 p0 n0 (r 9).1 (r 9).2.1 (r 9).2.2 := by rw [show r 9 = stA 8 (r 8) from hs 8]; exact A8_step h0 h1 r8
  have r10 : A10 p0 n0 (r 10).1 (r 10).2.1 (r 10).2.2 := by rw [show r 10 = stA 9 (r 9) from hs 9]; exact A9_step h0 h1 r9
  have r11 : A11 p0 n0 (r 11).1 (r 11).2.1 (r 11).2.2 := by rw [show r 11 = stA 10 (r 10) from hs 10]; exact A10_step h0 h1 r10
  have r12 : A12 p0 n0 (r 12).1 (r 12).2.1 (r 12).2.2 := by rw [show r 12 = stA 11 (r 11) from hs 11]; exact A11_step h0 h1 r11
  have r13 : A13 p0 n0 (r 13).1 (r 13).2.1 (r 13).2.2 := by rw [show r 13 = stA 12 (r 12) from hs 12]; exact A12_step h0 h1 r12
  have r14 : A14 p0 n0 (r 14).1 (r 14).2.1 (r 14).2.2 := by rw [show r 14 = stA 13 (r 13) from hs 13]; exact A13_step h0 h1 r13
  have r15 : A15 p0 n0 (r 15).1 (r 15).2.1 (r 15).2.2 := by rw [show r 15 = stA 14 (r 14) from hs 14]; exact A14_step h0 h1 r14
  have r16 : A16 p0 n0 (r 16).1 (r 16).2.1 (r 16).2.2 := by rw [show r 16 = stA 15 (r 15) from hs 15]; exact A15_step h0 h1 r15
  have r17 : A17 p0 n0 (r 17).1 (r 17).2.1 (r 17).2.2 := by rw [show r 17 = stA 16 (r 16) from hs 16]; exact A16_step h0 h1 r16
  have r18 : A18 p0 n0 (r 18).1 (r 18).2.1 (r 18).2.2 := by rw [show r 18 = stA 17 (r 17) from hs 17]; exact A17_step h0 h1 r17
  have r19 : A19 p0 n0 (r 19).1 (r 19).2.1 (r 19).2.2 := by rw [show r 19 = stA 18 (r 18) from hs 18]; exact A18_step h0 h1 r18
  have r20 : A20 p0 n0 (r 20).1 (r 20).2.1 (r 20).2.2 := by rw [show r 20 = stA 19 (r 19) from hs 19]; exact A19_step h0 h1 r19
  have r21 : A21 p0 n0 (r 21).1 (r 21).2.1 (r 21).2.2 := by rw [show r 21 = stA 20 (r 20) from hs 20]; exact A20_step h0 h1 r20
  have r22 : A22 p0 n0 (r 22).1 (r 22).2.1 (r 22).2.2 := by rw [show r 22 = stA 21 (r 21) from hs 21]; exact A21_step h0 h1 r21
  have r23 : A23 p0 n0 (r 23).1 (r 23).2.1 (r 23).2.2 := by rw [show r 23 = stA 22 (r 22) from hs 22]; exact A22_step h0 h1 r22
  have r24 : A24 p0 n0 (r 24).1 (r 24).2.1 (r 24).2.2 := by rw [show r 24 = stA 23 (r 23) from hs 23]; exact A23_step h0 h1 r23
  exact r24
end Go.Proofs.Ytliebglildaneaa.Tm
