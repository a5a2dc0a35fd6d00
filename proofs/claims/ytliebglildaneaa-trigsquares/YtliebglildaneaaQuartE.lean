/-
  Plain arithmetic: how the angle is bounded on its way, case E: each bound is reckoned ahead, and held step by step.
-/
import Derived.Test.YtliebglildaneaaTrigM
set_option linter.unusedVariables false
namespace Go.Proofs.Ytliebglildaneaa.Tm
def E0 (p0 p q z : Int) : Prop := z = 0 ∧ 18446744073709551616 * p0 + 0 ≤ 18446744073709551616 * p ∧ 18446744073709551616 * p ≤ 18446744073709551616 * p0 + 0 ∧ 0 * p0 + 0 ≤ 18446744073709551616 * q ∧ 18446744073709551616 * q ≤ 0 * p0 + 0
def E1 (p0 p q z : Int) : Prop := z = 536870912 ∧ 18446744073709551616 * p0 + 0 ≤ 18446744073709551616 * p ∧ 18446744073709551616 * p ≤ 18446744073709551616 * p0 + 0 ∧ (-18446744073709551616) * p0 + 0 ≤ 18446744073709551616 * q ∧ 18446744073709551616 * q ≤ (-18446744073709551616) * p0 + 0
def E2 (p0 p q z : Int) : Prop := z = 219937506 ∧ 27670116110564327424 * p0 + 0 ≤ 18446744073709551616 * p ∧ 18446744073709551616 * p ≤ 27670116110564327424 * p0 + 9223372036854775808 ∧ (-9223372036854775808) * p0 + (-9223372036854775808) ≤ 18446744073709551616 * q ∧ 18446744073709551616 * q ≤ (-9223372036854775808) * p0 + 0
def E3 (p0 p q z : Int) : Prop := z = 52478599 ∧ 29975959119778021376 * p0 + 0 ≤ 18446744073709551616 * p ∧ 18446744073709551616 * p ≤ 29975959119778021376 * p0 + 25364273101350633472 ∧ (-2305843009213693952) * p0 + (-23058430092136939520) ≤ 18446744073709551616 * q ∧ 18446744073709551616 * q ≤ (-2305843009213693952) * p0 + 2305843009213693952
def E4 (p0 p q z : Int) : Prop := z = (-32526157) ∧ 30264189495929733120 * p0 + (-288230376151711744) ≤ 18446744073709551616 * p ∧ 18446744073709551616 * p ≤ 30264189495929733120 * p0 + 44387477927363608576 ∧ 1441151880758558720 * p0 + (-39199331156632797184) ≤ 18446744073709551616 * q ∧ 18446744073709551616 * q ≤ 1441151880758558720 * p0 + 5476377146882523136
def E5 (p0 p q z : Int) : Prop := z = 10141174 ∧ 30354261488477143040 * p0 + (-20032011142543966208) ≤ 18446744073709551616 * p ∧ 18446744073709551616 * p ≤ 30354261488477143040 * p0 + 44729751499043766272 ∧ (-450359962737049600) * p0 + (-41973548527093022720) ≤ 18446744073709551616 * q ∧ 18446744073709551616 * q ≤ (-450359962737049600) * p0 + 22788214114494709760
def E6 (p0 p q z : Int) : Prop := z = (-11213291) ∧ 30368335237312675840 * p0 + (-20744142833621925888) ≤ 18446744073709551616 * p ∧ 18446744073709551616 * p ≤ 30368335237312675840 * p0 + 63911708211921551360 ∧ 498210708777861120 * p0 + (-60469832196703649792) ≤ 18446744073709551616 * q ∧ 18446744073709551616 * q ≤ 498210708777861120 * p0 + 24186018848839827456
def E7 (p0 p q z : Int) : Prop := z = (-533453) ∧ 30376119779637329920 * p0 + (-39847497659253260288) ≤ 18446744073709551616 * p ∧ 18446744073709551616 * p ≤ 30376119779637329920 * p0 + 64289614756434673664 ∧ 23705470694850560 * p0 + (-61468452637514924032) ≤ 18446744073709551616 * q ∧ 18446744073709551616 * q ≤ 23705470694850560 * p0 + 42668659778173009920
def E8 (p0 p q z : Int) : Prop := z = 4806792 ∧ 30376304978627133440 * p0 + (-58630348831117541376) ≤ 18446744073709551616 * p ∧ 18446744073709551616 * p ≤ 30376304978627133440 * p0 + 64622963660951650304 ∧ (-213607965083566080) * p0 + (-61970715252799569920) ≤ 18446744073709551616 * q ∧ 18446744073709551616 * q ≤ (-213607965083566080) * p0 + 61282597239269621760
def E9 (p0 p q z : Int) : Prop := z = 2136629 ∧ 30377139384740741120 * p0 + (-58869733976583438336) ≤ 18446744073709551616 * p ∧ 18446744073709551616 * p ≤ 30377139384740741120 * p0 + 83239723247079522304 ∧ (-94950523760803840) * p0 + (-80574426532592746496) ≤ 18446744073709551616 * q ∧ 18446744073709551616 * q ≤ (-94950523760803840) * p0 + 61535030691070214144
def E10 (p0 p q z : Int) : Prop := z = 801542 ∧ 30377324834982461440 * p0 + (-58989919583401934848) ≤ 18446744073709551616 * p ∧ 18446744073709551616 * p ≤ 30377324834982461440 * p0 + 101807810450591580160 ∧ (-35620173399982080) * p0 + (-99100121758456348672) ≤ 18446744073709551616 * q ∧ 18446744073709551616 * q ≤ (-35620173399982080) * p0 + 61697608275537166336
def E11 (p0 p q z : Int) : Prop := z = 133998 ∧ 30377359620308047360 * p0 + (-59050171153983514112) ≤ 18446744073709551616 * p ∧ 18446744073709551616 * p ≤ 30377359620308047360 * p0 + 120333317588446392320 ∧ (-5954817115819520) * p0 + (-117586458776999584256) ≤ 18446744073709551616 * q ∧ 18446744073709551616 * q ≤ (-5954817115819520) * p0 + 61797029965430322176
def E12 (p0 p q z : Int) : Prop := z = (-199774) ∧ 30377362527933592193 * p0 + (-59080345485021321887) ≤ 18446744073709551616 * p ∧ 18446744073709551616 * p ≤ 30377362527933592194 * p0 + 138828469725975909773 ∧ 8877878011284018 * p0 + (-136053028742838175893) ≤ 18446744073709551616 * q ∧ 18446744073709551616 * q ≤ 8877878011284019 * p0 + 61855786468159055766
def E13 (p0 p q z : Int) : Prop := z = (-32888) ∧ 30377364695384278541 * p0 + (-77555802030573922484) ≤ 18446744073709551616 * p ∧ 18446744073709551616 * p ≤ 30377364695384278543 * p0 + 138843571236344112668 ∧ 1461529737862730 * p0 + (-136086922412204869231) ≤ 18446744073709551616 * q ∧ 18446744073709551616 * q ≤ 1461529737862732 * p0 + 80312450854713165920
def E14 (p0 p q z : Int) : Prop := z = 50555 ∧ 30377364873793670369 * p0 + (-96016906477615809955) ≤ 18446744073709551616 * p ∧ 18446744073709551616 * p ≤ 30377364873793670372 * p0 + 138853375002317588397 ∧ (-2246644663429297) * p0 + (-136103871090334305769) ≤ 18446744073709551616 * q ∧ 18446744073709551616 * q ≤ (-2246644663429294) * p0 + 98766410389599092582
def E15 (p0 p q z : Int) : Prop := z = 8833 ∧ 30377365010917978439 * p0 + (-96022934700906190759) ≤ 18446744073709551616 * p ∧ 18446744073709551616 * p ≤ 30377365010917978443 * p0 + 157307300297158525802 ∧ (-392557451894039) * p0 + (-154555349671026517680) ≤ 18446744073709551616 * q ∧ 18446744073709551616 * q ≤ (-392557451894035) * p0 + 98774885327038198881
def E16 (p0 p q z : Int) : Prop := z = (-12028) ∧ 30377365022897881145 * p0 + (-96025949071185946564) ≤ 18446744073709551616 * p ∧ 18446744073709551616 * p ≤ 30377365022897881150 * p0 + 175758198075872878351 ∧ 534486158058291 * p0 + (-173004461182194174663) ≤ 18446744073709551616 * q ∧ 18446744073709551616 * q ≤ 534486158058296 * p0 + 98779685964864650253
def E17 (p0 p q z : Int) : Prop := z = (-1598) ∧ 30377365031053492687 * p0 + (-114475051508498838095) ≤ 18446744073709551616 * p ∧ 18446744073709551616 * p ≤ 30377365031053492693 * p0 + 175759705334264676213 ∧ 70964352899326 * p0 + (-173007143039464619501) ≤ 18446744073709551616 * q ∧ 18446744073709551616 * q ≤ 70964352899332 * p0 + 117227613803298894808
def E18 (p0 p q z : Int) : Prop := z = 3617 ∧ 30377365031594907732 * p0 + (-132922974784471006861) ≤ 18446744073709551616 * p ∧ 18446744073709551616 * p ≤ 30377365031594907739 * p0 + 175760599709980338589 ∧ (-160796549742379) * p0 + (-173008483979599310852) ≤ 18446744073709551616 * q ∧ 18446744073709551616 * q ≤ (-160796549742372) * p0 + 135675090514852034600
def E19 (p0 p q z : Int) : Prop := z = 1009 ∧ 30377365032208297890 * p0 + (-132923492343867807292) ≤ 18446744073709551616 * p ∧ 18446744073709551616 * p ≤ 30377365032208297898 * p0 + 194207933389936479446 ∧ (-44916098419462) * p0 + (-191455664745473133867) ≤ 18446744073709551616 * q ∧ 18446744073709551616 * q ≤ (-44916098419454) * p0 + 135675760988331152873
def E20 (p0 p q z : Int) : Prop := z = (-295) ∧ 30377365032293968548 * p0 + (-132923751124845034181) ≤ 18446744073709551616 * p ∧ 18446744073709551616 * p ≤ 30377365032293968557 * p0 + 212655007451974338717 ∧ 13024127243166 * p0 + (-209902627166251987391) ≤ 18446744073709551616 * q ∧ 18446744073709551616 * q ≤ 13024127243175 * p0 + 135676131410567385510
def E21 (p0 p q z : Int) : Prop := z = 357 ∧ 30377365032306389323 * p0 + (-151370677785113016033) ≤ 18446744073709551616 * p ∧ 18446744073709551616 * p ≤ 30377365032306389333 * p0 + 212655136842816214335 ∧ (-15945985588231) * p0 + (-209902829969870849519) ≤ 18446744073709551616 * q ∧ 18446744073709551616 * q ≤ (-15945985588221) * p0 + 154122984658058380852
def E22 (p0 p q z : Int) : Prop := z = 31 ∧ 30377365032313992961 * p0 + (-151370751276679034166) ≤ 18446744073709551616 * p ∧ 18446744073709551616 * p ≤ 30377365032313992972 * p0 + 231101972209901685370 ∧ (-1460929172528) * p0 + (-228349637426651209262) ≤ 18446744073709551616 * q ∧ 18446744073709551616 * q ≤ (-1460929172517) * p0 + 154123086059929510278
def E23 (p0 p q z : Int) : Prop := z = (-132) ∧ 30377365032314341273 * p0 + (-151370788022486219323) ≤ 18446744073709551616 * p ∧ 18446744073709551616 * p ≤ 30377365032314341285 * p0 + 249548766328360819502 ∧ 5781599035325 * p0 + (-246796413191913686696) ≤ 18446744073709551616 * q ∧ 18446744073709551616 * q ≤ 5781599035337 * p0 + 154123141158933352132
def E24 (p0 p q z : Int) : Prop := z = (-51) ∧ 30377365032315030493 * p0 + (-169817559317597595677) ≤ 18446744073709551616 * p ∧ 18446744073709551616 * p ≤ 30377365032315030506 * p0 + 249548784701270980394 ∧ 2160334931398 * p0 + (-246796442940444828974) ≤ 18446744073709551616 * q ∧ 18446744073709551616 * q ≤ 2160334931411 * p0 + 172569901078423747099
theorem E0_pos {p0 p q z : Int} (h0 : 68719476736 ≤ p0) (h : E0 p0 p q z) (hq : ¬ q < 0) : E1 p0 (p + q / 1) (q - p / 1) (z + 536870912) := by
  unfold E0 at h
  unfold E1
  omega
theorem E0_neg {p0 p q z : Int} (h0 : 68719476736 ≤ p0) (h : E0 p0 p q z) (hq : q < 0) : E1 p0 (p - q / 1) (q + p / 1) (z - 536870912) := by
  unfold E0 at h
  unfold E1
  omega
theorem E1_pos {p0 p q z : Int} (h0 : 68719476736 ≤ p0) (h : E1 p0 p q z) (hq : ¬ q < 0) : E2 p0 (p + q / 2) (q - p / 2) (z + 316933406) := by
  unfold E1 at h
  unfold E2
  omega
theorem E1_neg {p0 p q z : Int} (h0 : 68719476736 ≤ p0) (h : E1 p0 p q z) (hq : q < 0) : E2 p0 (p - q / 2) (q + p / 2) (z - 316933406) := by
  unfold E1 at h
  unfold E2
  omega
theorem E2_pos {p0 p q z : Int} (h0 : 68719476736 ≤ p0) (h : E2 p0 p q z) (hq : ¬ q < 0) : E3 p0 (p + q / 4) (q - p / 4) (z + 167458907) := by
  unfold E2 at h
  unfold E3
  omega
theorem E2_neg {p0 p q z : Int} (h0 : 68719476736 ≤ p0) (h : E2 p0 p q z) (hq : q < 0) : E3 p0 (p - q / 4) (q + p / 4) (z - 167458907) := by
  unfold E2 at h
  unfold E3
  omega
theorem E3_pos {p0 p q z : Int} (h0 : 68719476736 ≤ p0) (h : E3 p0 p q z) (hq : ¬ q < 0) : E4 p0 (p + q / 8) (q - p / 8) (z + 85004756) := by
  unfold E3 at h
  unfold E4
  omega
theorem E3_neg {p0 p q z : Int} (h0 : 68719476736 ≤ p0) (h : E3 p0 p q z) (hq : q < 0) : E4 p0 (p - q / 8) (q + p / 8) (z - 85004756) := by
  unfold E3 at h
  unfold E4
  omega
theorem E4_pos {p0 p q z : Int} (h0 : 68719476736 ≤ p0) (h : E4 p0 p q z) (hq : ¬ q < 0) : E5 p0 (p + q / 16) (q - p / 16) (z + 42667331) := by
  unfold E4 at h
  unfold E5
  omega
theorem E4_neg {p0 p q z : Int} (h0 : 68719476736 ≤ p0) (h : E4 p0 p q z) (hq : q < 0) : E5 p0 (p - q / 16) (q + p / 16) (z - 42667331) := by
  unfold E4 at h
  unfold E5
  omega
theorem E5_pos {p0 p q z : Int} (h0 : 68719476736 ≤ p0) (h : E5 p0 p q z) (hq : ¬ q < 0) : E6 p0 (p + q / 32) (q - p / 32) (z + 21354465) := by
  unfold E5 at h
  unfold E6
  omega
theorem E5_neg {p0 p q z : Int} (h0 : 68719476736 ≤ p0) (h : E5 p0 p q z) (hq : q < 0) : E6 p0 (p - q / 32) (q + p / 32) (z - 21354465) := by
  unfold E5 at h
  unfold E6
  omega
theorem E6_pos {p0 p q z : Int} (h0 : 68719476736 ≤ p0) (h : E6 p0 p q z) (hq : ¬ q < 0) : E7 p0 (p + q / 64) (q - p / 64) (z + 10679838) := by
  unfold E6 at h
  unfold E7
  omega
theorem E6_neg {p0 p q z : Int} (h0 : 68719476736 ≤ p0) (h : E6 p0 p q z) (hq : q < 0) : E7 p0 (p - q / 64) (q + p / 64) (z - 10679838) := by
  unfold E6 at h
  unfold E7
  omega
theorem E7_pos {p0 p q z : Int} (h0 : 68719476736 ≤ p0) (h : E7 p0 p q z) (hq : ¬ q < 0) : E8 p0 (p + q / 128) (q - p / 128) (z + 5340245) := by
  unfold E7 at h
  unfold E8
  omega
theorem E7_neg {p0 p q z : Int} (h0 : 68719476736 ≤ p0) (h : E7 p0 p q z) (hq : q < 0) : E8 p0 (p - q / 128) (q + p / 128) (z - 5340245) := by
  unfold E7 at h
  unfold E8
  omega
theorem E8_pos {p0 p q z : Int} (h0 : 68719476736 ≤ p0) (h : E8 p0 p q z) (hq : ¬ q < 0) : E9 p0 (p + q / 256) (q - p / 256) (z + 2670163) := by
  unfold E8 at h
  unfold E9
  omega
theorem E8_neg {p0 p q z : Int} (h0 : 68719476736 ≤ p0) (h : E8 p0 p q z) (hq : q < 0) : E9 p0 (p - q / 256) (q + p / 256) (z - 2670163) := by
  unfold E8 at h
  unfold E9
  omega
theorem E9_pos {p0 p q z : Int} (h0 : 68719476736 ≤ p0) (h : E9 p0 p q z) (hq : ¬ q < 0) : E10 p0 (p + q / 512) (q - p / 512) (z + 1335087) := by
  unfold E9 at h
  unfold E10
  omega
theorem E9_neg {p0 p q z : Int} (h0 : 68719476736 ≤ p0) (h : E9 p0 p q z) (hq : q < 0) : E10 p0 (p - q / 512) (q + p / 512) (z - 1335087) := by
  unfold E9 at h
  unfold E10
  omega
theorem E10_pos {p0 p q z : Int} (h0 : 68719476736 ≤ p0) (h : E10 p0 p q z) (hq : ¬ q < 0) : E11 p0 (p + q / 1024) (q - p / 1024) (z + 667544) := by
  unfold E10 at h
  unfold E11
  omega
theorem E10_neg {p0 p q z : Int} (h0 : 68719476736 ≤ p0) (h : E10 p0 p q z) (hq : q < 0) : E11 p0 (p - q / 1024) (q + p / 1024) (z - 667544) := by
  unfold E10 at h
  unfold E11
  omega
theorem E11_pos {p0 p q z : Int} (h0 : 68719476736 ≤ p0) (h : E11 p0 p q z) (hq : ¬ q < 0) : E12 p0 (p + q / 2048) (q - p / 2048) (z + 333772) := by
  unfold E11 at h
  unfold E12
  omega
theorem E11_neg {p0 p q z : Int} (h0 : 68719476736 ≤ p0) (h : E11 p0 p q z) (hq : q < 0) : E12 p0 (p - q / 2048) (q + p / 2048) (z - 333772) := by
  unfold E11 at h
  unfold E12
  omega
theorem E12_pos {p0 p q z : Int} (h0 : 68719476736 ≤ p0) (h : E12 p0 p q z) (hq : ¬ q < 0) : E13 p0 (p + q / 4096) (q - p / 4096) (z + 166886) := by
  unfold E12 at h
  unfold E13
  omega
theorem E12_neg {p0 p q z : Int} (h0 : 68719476736 ≤ p0) (h : E12 p0 p q z) (hq : q < 0) : E13 p0 (p - q / 4096) (q + p / 4096) (z - 166886) := by
  unfold E12 at h
  unfold E13
  omega
theorem E13_pos {p0 p q z : Int} (h0 : 68719476736 ≤ p0) (h : E13 p0 p q z) (hq : ¬ q < 0) : E14 p0 (p + q / 8192) (q - p / 8192) (z + 83443) := by
  unfold E13 at h
  unfold E14
  omega
theorem E13_neg {p0 p q z : Int} (h0 : 68719476736 ≤ p0) (h : E13 p0 p q z) (hq : q < 0) : E14 p0 (p - q / 8192) (q + p / 8192) (z - 83443) := by
  unfold E13 at h
  unfold E14
  omega
theorem E14_pos {p0 p q z : Int} (h0 : 68719476736 ≤ p0) (h : E14 p0 p q z) (hq : ¬ q < 0) : E15 p0 (p + q / 16384) (q - p / 16384) (z + 41722) := by
  unfold E14 at h
  unfold E15
  omega
theorem E14_neg {p0 p q z : Int} (h0 : 68719476736 ≤ p0) (h : E14 p0 p q z) (hq : q < 0) : E15 p0 (p - q / 16384) (q + p / 16384) (z - 41722) := by
  unfold E14 at h
  unfold E15
  omega
theorem E15_pos {p0 p q z : Int} (h0 : 68719476736 ≤ p0) (h : E15 p0 p q z) (hq : ¬ q < 0) : E16 p0 (p + q / 32768) (q - p / 32768) (z + 20861) := by
  unfold E15 at h
  unfold E16
  omega
theorem E15_neg {p0 p q z : Int} (h0 : 68719476736 ≤ p0) (h : E15 p0 p q z) (hq : q < 0) : E16 p0 (p - q / 32768) (q + p / 32768) (z - 20861) := by
  unfold E15 at h
  unfold E16
  omega
theorem E16_pos {p0 p q z : Int} (h0 : 68719476736 ≤ p0) (h : E16 p0 p q z) (hq : ¬ q < 0) : E17 p0 (p + q / 65536) (q - p / 65536) (z + 10430) := by
  unfold E16 at h
  unfold E17
  omega
theorem E16_neg {p0 p q z : Int} (h0 : 68719476736 ≤ p0) (h : E16 p0 p q z) (hq : q < 0) : E17 p0 (p - q / 65536) (q + p / 65536) (z - 10430) := by
  unfold E16 at h
  unfold E17
  omega
theorem E17_pos {p0 p q z : Int} (h0 : 68719476736 ≤ p0) (h : E17 p0 p q z) (hq : ¬ q < 0) : E18 p0 (p + q / 131072) (q - p / 131072) (z + 5215) := by
  unfold E17 at h
  unfold E18
  omega
theorem E17_neg {p0 p q z : Int} (h0 : 68719476736 ≤ p0) (h : E17 p0 p q z) (hq : q < 0) : E18 p0 (p - q / 131072) (q + p / 131072) (z - 5215) := by
  unfold E17 at h
  unfold E18
  omega
theorem E18_pos {p0 p q z : Int} (h0 : 68719476736 ≤ p0) (h : E18 p0 p q z) (hq : ¬ q < 0) : E19 p0 (p + q / 262144) (q - p / 262144) (z + 2608) := by
  unfold E18 at h
  unfold E19
  omega
theorem E18_neg {p0 p q z : Int} (h0 : 68719476736 ≤ p0) (h : E18 p0 p q z) (hq : q < 0) : E19 p0 (p - q / 262144) (q + p / 262144) (z - 2608) := by
  unfold E18 at h
  unfold E19
  omega
theorem E19_pos {p0 p q z : Int} (h0 : 68719476736 ≤ p0) (h : E19 p0 p q z) (hq : ¬ q < 0) : E20 p0 (p + q / 524288) (q - p / 524288) (z + 1304) := by
  unfold E19 at h
  unfold E20
  omega
theorem E19_neg {p0 p q z : Int} (h0 : 68719476736 ≤ p0) (h : E19 p0 p q z) (hq : q < 0) : E20 p0 (p - q / 524288) (q + p / 524288) (z - 1304) := by
  unfold E19 at h
  unfold E20
  omega
theorem E20_pos {p0 p q z : Int} (h0 : 68719476736 ≤ p0) (h : E20 p0 p q z) (hq : ¬ q < 0) : E21 p0 (p + q / 1048576) (q - p / 1048576) (z + 652) := by
  unfold E20 at h
  unfold E21
  omega
theorem E20_neg {p0 p q z : Int} (h0 : 68719476736 ≤ p0) (h : E20 p0 p q z) (hq : q < 0) : E21 p0 (p - q / 1048576) (q + p / 1048576) (z - 652) := by
  unfold E20 at h
  unfold E21
  omega
theorem E21_pos {p0 p q z : Int} (h0 : 68719476736 ≤ p0) (h : E21 p0 p q z) (hq : ¬ q < 0) : E22 p0 (p + q / 2097152) (q - p / 2097152) (z + 326) := by
  unfold E21 at h
  unfold E22
  omega
theorem E21_neg {p0 p q z : Int} (h0 : 68719476736 ≤ p0) (h : E21 p0 p q z) (hq : q < 0) : E22 p0 (p - q / 2097152) (q + p / 2097152) (z - 326) := by
  unfold E21 at h
  unfold E22
  omega
theorem E22_pos {p0 p q z : Int} (h0 : 68719476736 ≤ p0) (h : E22 p0 p q z) (hq : ¬ q < 0) : E23 p0 (p + q / 4194304) (q - p / 4194304) (z + 163) := by
  unfold E22 at h
  unfold E23
  omega
theorem E22_neg {p0 p q z : Int} (h0 : 68719476736 ≤ p0) (h : E22 p0 p q z) (hq : q < 0) : E23 p0 (p - q / 4194304) (q + p / 4194304) (z - 163) := by
  unfold E22 at h
  unfold E23
  omega
theorem E23_pos {p0 p q z : Int} (h0 : 68719476736 ≤ p0) (h : E23 p0 p q z) (hq : ¬ q < 0) : E24 p0 (p + q / 8388608) (q - p / 8388608) (z + 81) := by
  unfold E23 at h
  unfold E24
  omega
theorem E23_neg {p0 p q z : Int} (h0 : 68719476736 ≤ p0) (h : E23 p0 p q z) (hq : q < 0) : E24 p0 (p - q / 8388608) (q + p / 8388608) (z - 81) := by
  unfold E23 at h
  unfold E24
  omega
theorem E0_step {p0 : Int} {s : Int × Int × Int} (h0 : 68719476736 ≤ p0) (h : E0 p0 s.1 s.2.1 s.2.2) : E1 p0 (stA 0 s).1 (stA 0 s).2.1 (stA 0 s).2.2 := by
  unfold stA
  split
  · exact E0_neg h0 h ‹_›
  · exact E0_pos h0 h ‹_›
theorem E1_step {p0 : Int} {s : Int × Int × Int} (h0 : 68719476736 ≤ p0) (h : E1 p0 s.1 s.2.1 s.2.2) : E2 p0 (stA 1 s).1 (stA 1 s).2.1 (stA 1 s).2.2 := by
  unfold stA
  split
  · exact E1_neg h0 h ‹_›
  · exact E1_pos h0 h ‹_›
theorem E2_step {p0 : Int} {s : Int × Int × Int} (h0 : 68719476736 ≤ p0) (h : E2 p0 s.1 s.2.1 s.2.2) : E3 p0 (stA 2 s).1 (stA 2 s).2.1 (stA 2 s).2.2 := by
  unfold stA
  split
  · exact E2_neg h0 h ‹_›
  · exact E2_pos h0 h ‹_›
theorem E3_step {p0 : Int} {s : Int × Int × Int} (h0 : 68719476736 ≤ p0) (h : E3 p0 s.1 s.2.1 s.2.2) : E4 p0 (stA 3 s).1 (stA 3 s).2.1 (stA 3 s).2.2 := by
  unfold stA
  split
  · exact E3_neg h0 h ‹_›
  · exact E3_pos h0 h ‹_›
theorem E4_step {p0 : Int} {s : Int × Int × Int} (h0 : 68719476736 ≤ p0) (h : E4 p0 s.1 s.2.1 s.2.2) : E5 p0 (stA 4 s).1 (stA 4 s).2.1 (stA 4 s).2.2 := by
  unfold stA
  split
  · exact E4_neg h0 h ‹_›
  · exact E4_pos h0 h ‹_›
theorem E5_step {p0 : Int} {s : Int × Int × Int} (h0 : 68719476736 ≤ p0) (h : E5 p0 s.1 s.2.1 s.2.2) : E6 p0 (stA 5 s).1 (stA 5 s).2.1 (stA 5 s).2.2 := by
  unfold stA
  split
  · exact E5_neg h0 h ‹_›
  · exact E5_pos h0 h ‹_›
theorem E6_step {p0 : Int} {s : Int × Int × Int} (h0 : 68719476736 ≤ p0) (h : E6 p0 s.1 s.2.1 s.2.2) : E7 p0 (stA 6 s).1 (stA 6 s).2.1 (stA 6 s).2.2 := by
  unfold stA
  split
  · exact E6_neg h0 h ‹_›
  · exact E6_pos h0 h ‹_›
theorem E7_step {p0 : Int} {s : Int × Int × Int} (h0 : 68719476736 ≤ p0) (h : E7 p0 s.1 s.2.1 s.2.2) : E8 p0 (stA 7 s).1 (stA 7 s).2.1 (stA 7 s).2.2 := by
  unfold stA
  split
  · exact E7_neg h0 h ‹_›
  · exact E7_pos h0 h ‹_›
theorem E8_step {p0 : Int} {s : Int × Int × Int} (h0 : 68719476736 ≤ p0) (h : E8 p0 s.1 s.2.1 s.2.2) : E9 p0 (stA 8 s).1 (stA 8 s).2.1 (stA 8 s).2.2 := by
  unfold stA
  split
  · exact E8_neg h0 h ‹_›
  · exact E8_pos h0 h ‹_›
theorem E9_step {p0 : Int} {s : Int × Int × Int} (h0 : 68719476736 ≤ p0) (h : E9 p0 s.1 s.2.1 s.2.2) : E10 p0 (stA 9 s).1 (stA 9 s).2.1 (stA 9 s).2.2 := by
  unfold stA
  split
  · exact E9_neg h0 h ‹_›
  · exact E9_pos h0 h ‹_›
theorem E10_step {p0 : Int} {s : Int × Int × Int} (h0 : 68719476736 ≤ p0) (h : E10 p0 s.1 s.2.1 s.2.2) : E11 p0 (stA 10 s).1 (stA 10 s).2.1 (stA 10 s).2.2 := by
  unfold stA
  split
  · exact E10_neg h0 h ‹_›
  · exact E10_pos h0 h ‹_›
theorem E11_step {p0 : Int} {s : Int × Int × Int} (h0 : 68719476736 ≤ p0) (h : E11 p0 s.1 s.2.1 s.2.2) : E12 p0 (stA 11 s).1 (stA 11 s).2.1 (stA 11 s).2.2 := by
  unfold stA
  split
  · exact E11_neg h0 h ‹_›
  · exact E11_pos h0 h ‹_›
theorem E12_step {p0 : Int} {s : Int × Int × Int} (h0 : 68719476736 ≤ p0) (h : E12 p0 s.1 s.2.1 s.2.2) : E13 p0 (stA 12 s).1 (stA 12 s).2.1 (stA 12 s).2.2 := by
  unfold stA
  split
  · exact E12_neg h0 h ‹_›
  · exact E12_pos h0 h ‹_›
theorem E13_step {p0 : Int} {s : Int × Int × Int} (h0 : 68719476736 ≤ p0) (h : E13 p0 s.1 s.2.1 s.2.2) : E14 p0 (stA 13 s).1 (stA 13 s).2.1 (stA 13 s).2.2 := by
  unfold stA
  split
  · exact E13_neg h0 h ‹_›
  · exact E13_pos h0 h ‹_›
theorem E14_step {p0 : Int} {s : Int × Int × Int} (h0 : 68719476736 ≤ p0) (h : E14 p0 s.1 s.2.1 s.2.2) : E15 p0 (stA 14 s).1 (stA 14 s).2.1 (stA 14 s).2.2 := by
  unfold stA
  split
  · exact E14_neg h0 h ‹_›
  · exact E14_pos h0 h ‹_›
theorem E15_step {p0 : Int} {s : Int × Int × Int} (h0 : 68719476736 ≤ p0) (h : E15 p0 s.1 s.2.1 s.2.2) : E16 p0 (stA 15 s).1 (stA 15 s).2.1 (stA 15 s).2.2 := by
  unfold stA
  split
  · exact E15_neg h0 h ‹_›
  · exact E15_pos h0 h ‹_›
theorem E16_step {p0 : Int} {s : Int × Int × Int} (h0 : 68719476736 ≤ p0) (h : E16 p0 s.1 s.2.1 s.2.2) : E17 p0 (stA 16 s).1 (stA 16 s).2.1 (stA 16 s).2.2 := by
  unfold stA
  split
  · exact E16_neg h0 h ‹_›
  · exact E16_pos h0 h ‹_›
theorem E17_step {p0 : Int} {s : Int × Int × Int} (h0 : 68719476736 ≤ p0) (h : E17 p0 s.1 s.2.1 s.2.2) : E18 p0 (stA 17 s).1 (stA 17 s).2.1 (stA 17 s).2.2 := by
  unfold stA
  split
  · exact E17_neg h0 h ‹_›
  · exact E17_pos h0 h ‹_›
theorem E18_step {p0 : Int} {s : Int × Int × Int} (h0 : 68719476736 ≤ p0) (h : E18 p0 s.1 s.2.1 s.2.2) : E19 p0 (stA 18 s).1 (stA 18 s).2.1 (stA 18 s).2.2 := by
  unfold stA
  split
  · exact E18_neg h0 h ‹_›
  · exact E18_pos h0 h ‹_›
theorem E19_step {p0 : Int} {s : Int × Int × Int} (h0 : 68719476736 ≤ p0) (h : E19 p0 s.1 s.2.1 s.2.2) : E20 p0 (stA 19 s).1 (stA 19 s).2.1 (stA 19 s).2.2 := by
  unfold stA
  split
  · exact E19_neg h0 h ‹_›
  · exact E19_pos h0 h ‹_›
theorem E20_step {p0 : Int} {s : Int × Int × Int} (h0 : 68719476736 ≤ p0) (h : E20 p0 s.1 s.2.1 s.2.2) : E21 p0 (stA 20 s).1 (stA 20 s).2.1 (stA 20 s).2.2 := by
  unfold stA
  split
  · exact E20_neg h0 h ‹_›
  · exact E20_pos h0 h ‹_›
theorem E21_step {p0 : Int} {s : Int × Int × Int} (h0 : 68719476736 ≤ p0) (h : E21 p0 s.1 s.2.1 s.2.2) : E22 p0 (stA 21 s).1 (stA 21 s).2.1 (stA 21 s).2.2 := by
  unfold stA
  split
  · exact E21_neg h0 h ‹_›
  · exact E21_pos h0 h ‹_›
theorem E22_step {p0 : Int} {s : Int × Int × Int} (h0 : 68719476736 ≤ p0) (h : E22 p0 s.1 s.2.1 s.2.2) : E23 p0 (stA 22 s).1 (stA 22 s).2.1 (stA 22 s).2.2 := by
  unfold stA
  split
  · exact E22_neg h0 h ‹_›
  · exact E22_pos h0 h ‹_›
theorem E23_step {p0 : Int} {s : Int × Int × Int} (h0 : 68719476736 ≤ p0) (h : E23 p0 s.1 s.2.1 s.2.2) : E24 p0 (stA 23 s).1 (stA 23 s).2.1 (stA 23 s).2.2 := by
  unfold stA
  split
  · exact E23_neg h0 h ‹_›
  · exact E23_pos h0 h ‹_›
theorem E_all {p0 : Int} {r : Nat → Int × Int × Int} (h0 : 68719476736 ≤ p0) (e : r 0 = (p0, 0, 0)) (hs : ∀ n, r (n + 1) = stA n (r n)) : E24 p0 (r 24).1 (r 24).2.1 (r 24).2.2 := by
  have r0 : E0 p0 (r 0).1 (r 0).2.1 (r 0).2.2 := by
    rw [e]
    show E0 p0 p0 0 0
    unfold E0
    omega
  have r1 : E1 p0 (r 1).1 (r 1).2.1 (r 1).2.2 := by rw [show r 1 = stA 0 (r 0) from hs 0]; exact E0_step h0 r0
  have r2 : E2 p0 (r 2).1 (r 2).2.1 (r 2).2.2 := by rw [show r 2 = stA 1 (r 1) from hs 1]; exact E1_step h0 r1
  have r3 : E3 p0 (r 3).1 (r 3).2.1 (r 3).2.2 := by rw [show r 3 = stA 2 (r 2) from hs 2]; exact E2_step h0 r2
  have r4 : E4 p0 (r 4).1 (r 4).2.1 (r 4).2.2 := by rw [show r 4 = stA 3 (r 3) from hs 3]; exact E3_step h0 r3
  have r5 : E5 p0 (r 5).1 (r 5).2.1 (r 5).2.2 := by rw [show r 5 = stA 4 (r 4) from hs 4]; exact E4_step h0 r4
  have r6 : E6 p0 (r 6).1 (r 6).2.1 (r 6).2.2 := by rw [show r 6 = stA 5 (r 5) from hs 5]; exact E5_step h0 r5
  have r7 : E7 p0 (r 7).1 (r 7).2.1 (r 7).2.2 := by rw [show r 7 = stA 6 (r 6) from hs 6]; exact E6_step h0 r6
  have r8 : E8 p0 (r 8).1 (r 8).2.1 (r 8).2.2 := by rw [show r 8 = stA 7 (r 7) from hs 7]; exact E7_step h0 r7
  have r9 : E9 p0 (r 9).1 (r 9).2.1 (r 9).2.2 := by rw [show r 9 = stA 8 (r 8) from hs 8]; exact E8_step h0 r8
  have r10 : E10 p0 (r 10).1 (r 10).2.1 (r 10).2.2 := by rw [show r 10 = stA 9 (r 9) from hs 9]; exact E9_step h0 r9
  have r11 : E11 p0 (r 11).1 (r 11).2.1 (r 11).2.2 := by rw [show r 11 = stA 10 (r 10) from hs 10]; exact E10_step h0 r10
  have r12 : E12 p0 (r 12).1 (r 12).2.1 (r 12).2.2 := by rw [show r 12 = stA 11 (r 11) from hs 11]; exact E11_step h0 r11
  have r13 : E13 p0 (r 13).1 (r 13).2.1 (r 13).2.2 := by rw [show r 13 = stA 12 (r 12) from hs 12]; exact E12_step h0 r12
  have r14 : E14 p0 (r 14).1 (r 14).2.1 (r 14).2.2 := by rw [show r 14 = stA 13 (r 13) from hs 13]; exact E13_step h0 r13
  have r15 : E15 p0 (r 15).1 (r 15).2.1 (r 15).2.2 := by rw [show r 15 = stA 14 (r 14) from hs 14]; exact E14_step h0 r14
  have r16 : E16 p0 (r 16).1 (r 16).2.1 (r 16).2.2 := by rw [show r 16 = stA 15 (r 15) from hs 15]; exact E15_step h0 r15
  have r17 : E17 p0 (r 17).1 (r 17).2.1 (r 17).2.2 := by rw [show r 17 = stA 16 (r 16) from hs 16]; exact E16_step h0 r16
  have r18 : E18 p0 (r 18).1 (r 18).2.1 (r 18).2.2 := by rw [show r 18 = stA 17 (r 17) from hs 17]; exact E17_step h0 r17
  have r19 : E19 p0 (r 19).1 (r 19).2.1 (r 19).2.2 := by rw [show r 19 = stA 18 (r 18) from hs 18]; exact E18_step h0 r18
  have r20 : E20 p0 (r 20).1 (r 20).2.1 (r 20).2.2 := by rw [show r 20 = stA 19 (r 19) from hs 19]; exact E19_step h0 r19
  have r21 : E21 p0 (r 21).1 (r 21).2.1 (r 21).2.2 := by rw [show r 21 = stA 20 (r 20) from hs 20]; exact E20_step h0 r20
  have r22 : E22 p0 (r 22).1 (r 22).2.1 (r 22).2.2 := by rw [show r 22 = stA 21 (r 21) from hs 21]; exact E21_step h0 r21
  have r23 : E23 p0 (r 23).1 (r 23).2.1 (r 23).2.2 := by rw [show r 23 = stA 22 (r 22) from hs 22]; exact E22_step h0 r22
  have r24 : E24 p0 (r 24).1 (r 24).2.1 (r 24).2.2 := by rw [show r 24 = stA 23 (r 23) from hs 23]; exact E23_step h0 r23
  exact r24
end Go.Proofs.Ytliebglildaneaa.Tm
