/-
  Plain arithmetic: how the angle is bounded on its way, case B: each bound is reckoned ahead, and held step by step.
-/
import Derived.Test.YtliebglildaneaaTrigM
set_option linter.unusedVariables false
namespace Go.Proofs.Ytliebglildaneaa.Tm
def B0 (p0 n0 p q z : Int) : Prop := z ≤ (-117908118) ∨ (z = 0 ∧ 18446744073709551616 * p0 + 0 * n0 + 0 ≤ 18446744073709551616 * p ∧ 18446744073709551616 * p ≤ 18446744073709551616 * p0 + 0 * n0 + 0 ∧ 0 * p0 + 18446744073709551616 * n0 + 0 ≤ 18446744073709551616 * q ∧ 18446744073709551616 * q ≤ 0 * p0 + 18446744073709551616 * n0 + 0)
def B1 (p0 n0 p q z : Int) : Prop := z ≤ 418962794 ∨ (z = 536870912 ∧ 18446744073709551616 * p0 + 18446744073709551616 * n0 + 0 ≤ 18446744073709551616 * p ∧ 18446744073709551616 * p ≤ 18446744073709551616 * p0 + 18446744073709551616 * n0 + 0 ∧ (-18446744073709551616) * p0 + 18446744073709551616 * n0 + 0 ≤ 18446744073709551616 * q ∧ 18446744073709551616 * q ≤ (-18446744073709551616) * p0 + 18446744073709551616 * n0 + 0)
def B2 (p0 n0 p q z : Int) : Prop := z ≤ 735896200 ∨ (z = 853804318 ∧ 9223372036854775808 * p0 + 27670116110564327424 * n0 + (-9223372036854775808) ≤ 18446744073709551616 * p ∧ 18446744073709551616 * p ≤ 9223372036854775808 * p0 + 27670116110564327424 * n0 + 0 ∧ (-27670116110564327424) * p0 + 9223372036854775808 * n0 + 0 ≤ 18446744073709551616 * q ∧ 18446744073709551616 * q ≤ (-27670116110564327424) * p0 + 9223372036854775808 * n0 + 9223372036854775808)
def B3 (p0 n0 p q z : Int) : Prop := z ≤ 903355107 ∨ (z = 1021263225 ∧ 2305843009213693952 * p0 + 29975959119778021376 * n0 + (-23058430092136939520) ≤ 18446744073709551616 * p ∧ 18446744073709551616 * p ≤ 2305843009213693952 * p0 + 29975959119778021376 * n0 + 2305843009213693952 ∧ (-29975959119778021376) * p0 + 2305843009213693952 * n0 + 0 ≤ 18446744073709551616 * q ∧ 18446744073709551616 * q ≤ (-29975959119778021376) * p0 + 2305843009213693952 * n0 + 25364273101350633472)
def B4 (p0 n0 p q z : Int) : Prop := z ≤ 988359863 ∨ (z = 1106267981 ∧ (-1441151880758558720) * p0 + 30264189495929733120 * n0 + (-39199331156632797184) ≤ 18446744073709551616 * p ∧ 18446744073709551616 * p ≤ (-1441151880758558720) * p0 + 30264189495929733120 * n0 + 5476377146882523136 ∧ (-30264189495929733120) * p0 + (-1441151880758558720) * n0 + (-288230376151711744) ≤ 18446744073709551616 * q ∧ 18446744073709551616 * q ≤ (-30264189495929733120) * p0 + (-1441151880758558720) * n0 + 44387477927363608576)
def B5 (p0 n0 p q z : Int) : Prop := z ≤ 1031027194 ∨ (z = 1063600650 ∧ 450359962737049600 * p0 + 30354261488477143040 * n0 + (-41973548527093022720) ≤ 18446744073709551616 * p ∧ 18446744073709551616 * p ≤ 450359962737049600 * p0 + 30354261488477143040 * n0 + 22788214114494709760 ∧ (-30354261488477143040) * p0 + 450359962737049600 * n0 + (-20032011142543966208) ≤ 18446744073709551616 * q ∧ 18446744073709551616 * q ≤ (-30354261488477143040) * p0 + 450359962737049600 * n0 + 44729751499043766272)
def B6 (p0 n0 p q z : Int) : Prop := z ≤ 1052381659 ∨ (z = 1084955115 ∧ (-498210708777861120) * p0 + 30368335237312675840 * n0 + (-60469832196703649792) ≤ 18446744073709551616 * p ∧ 18446744073709551616 * p ≤ (-498210708777861120) * p0 + 30368335237312675840 * n0 + 24186018848839827456 ∧ (-30368335237312675840) * p0 + (-498210708777861120) * n0 + (-20744142833621925888) ≤ 18446744073709551616 * q ∧ 18446744073709551616 * q ≤ (-30368335237312675840) * p0 + (-498210708777861120) * n0 + 63911708211921551360)
def B7 (p0 n0 p q z : Int) : Prop := z ≤ 1063061497 ∨ (z = 1074275277 ∧ (-23705470694850560) * p0 + 30376119779637329920 * n0 + (-61468452637514924032) ≤ 18446744073709551616 * p ∧ 18446744073709551616 * p ≤ (-23705470694850560) * p0 + 30376119779637329920 * n0 + 42668659778173009920 ∧ (-30376119779637329920) * p0 + (-23705470694850560) * n0 + (-39847497659253260288) ≤ 18446744073709551616 * q ∧ 18446744073709551616 * q ≤ (-30376119779637329920) * p0 + (-23705470694850560) * n0 + 64289614756434673664)
def B8 (p0 n0 p q z : Int) : Prop := z ≤ 1068401742 ∨ (z = 1068935032 ∧ 213607965083566080 * p0 + 30376304978627133440 * n0 + (-61970715252799569920) ≤ 18446744073709551616 * p ∧ 18446744073709551616 * p ≤ 213607965083566080 * p0 + 30376304978627133440 * n0 + 61282597239269621760 ∧ (-30376304978627133440) * p0 + 213607965083566080 * n0 + (-58630348831117541376) ≤ 18446744073709551616 * q ∧ 18446744073709551616 * q ≤ (-30376304978627133440) * p0 + 213607965083566080 * n0 + 64622963660951650304)
def B9 (p0 n0 p q z : Int) : Prop := z ≤ 1071071905 ∨ (z = 1071605195 ∧ 94950523760803840 * p0 + 30377139384740741120 * n0 + (-80574426532592746496) ≤ 18446744073709551616 * p ∧ 18446744073709551616 * p ≤ 94950523760803840 * p0 + 30377139384740741120 * n0 + 61535030691070214144 ∧ (-30377139384740741120) * p0 + 94950523760803840 * n0 + (-58869733976583438336) ≤ 18446744073709551616 * q ∧ 18446744073709551616 * q ≤ (-30377139384740741120) * p0 + 94950523760803840 * n0 + 83239723247079522304)
def B10 (p0 n0 p q z : Int) : Prop := z ≤ 1072406992 ∨ (z = 1072940282 ∧ 35620173399982080 * p0 + 30377324834982461440 * n0 + (-99100121758456348672) ≤ 18446744073709551616 * p ∧ 18446744073709551616 * p ≤ 35620173399982080 * p0 + 30377324834982461440 * n0 + 61697608275537166336 ∧ (-30377324834982461440) * p0 + 35620173399982080 * n0 + (-58989919583401934848) ≤ 18446744073709551616 * q ∧ 18446744073709551616 * q ≤ (-30377324834982461440) * p0 + 35620173399982080 * n0 + 101807810450591580160)
def B11 (p0 n0 p q z : Int) : Prop := z ≤ 1073074536 ∨ (z = 1073607826 ∧ 5954817115819520 * p0 + 30377359620308047360 * n0 + (-117586458776999584256) ≤ 18446744073709551616 * p ∧ 18446744073709551616 * p ≤ 5954817115819520 * p0 + 30377359620308047360 * n0 + 61797029965430322176 ∧ (-30377359620308047360) * p0 + 5954817115819520 * n0 + (-59050171153983514112) ≤ 18446744073709551616 * q ∧ 18446744073709551616 * q ≤ (-30377359620308047360) * p0 + 5954817115819520 * n0 + 120333317588446392320)
def B12 (p0 n0 p q z : Int) : Prop := z ≤ 1073408308 ∨ (z = 1073941598 ∧ (-8877878011284019) * p0 + 30377362527933592193 * n0 + (-136053028742838175893) ≤ 18446744073709551616 * p ∧ 18446744073709551616 * p ≤ (-8877878011284018) * p0 + 30377362527933592194 * n0 + 61855786468159055766 ∧ (-30377362527933592194) * p0 + (-8877878011284019) * n0 + (-59080345485021321887) ≤ 18446744073709551616 * q ∧ 18446744073709551616 * q ≤ (-30377362527933592193) * p0 + (-8877878011284018) * n0 + 138828469725975909773)
def B13 (p0 n0 p q z : Int) : Prop := z ≤ 1073575194 ∨ (z = 1073774712 ∧ (-1461529737862732) * p0 + 30377364695384278541 * n0 + (-136086922412204869231) ≤ 18446744073709551616 * p ∧ 18446744073709551616 * p ≤ (-1461529737862730) * p0 + 30377364695384278543 * n0 + 80312450854713165920 ∧ (-30377364695384278543) * p0 + (-1461529737862732) * n0 + (-77555802030573922484) ≤ 18446744073709551616 * q ∧ 18446744073709551616 * q ≤ (-30377364695384278541) * p0 + (-1461529737862730) * n0 + 138843571236344112668)
def B14 (p0 n0 p q z : Int) : Prop := z ≤ 1073658637 ∨ (z = 1073691269 ∧ 2246644663429294 * p0 + 30377364873793670369 * n0 + (-136103871090334305769) ≤ 18446744073709551616 * p ∧ 18446744073709551616 * p ≤ 2246644663429297 * p0 + 30377364873793670372 * n0 + 98766410389599092582 ∧ (-30377364873793670372) * p0 + 2246644663429294 * n0 + (-96016906477615809955) ≤ 18446744073709551616 * q ∧ 18446744073709551616 * q ≤ (-30377364873793670369) * p0 + 2246644663429297 * n0 + 138853375002317588397)
def B15 (p0 n0 p q z : Int) : Prop := z ≤ 1073700359 ∨ (z = 1073732991 ∧ 392557451894035 * p0 + 30377365010917978439 * n0 + (-154555349671026517680) ≤ 18446744073709551616 * p ∧ 18446744073709551616 * p ≤ 392557451894039 * p0 + 30377365010917978443 * n0 + 98774885327038198881 ∧ (-30377365010917978443) * p0 + 392557451894035 * n0 + (-96022934700906190759) ≤ 18446744073709551616 * q ∧ 18446744073709551616 * q ≤ (-30377365010917978439) * p0 + 392557451894039 * n0 + 157307300297158525802)
def B16 (p0 n0 p q z : Int) : Prop := z ≤ 1073721220 ∨ (z = 1073753852 ∧ (-534486158058296) * p0 + 30377365022897881145 * n0 + (-173004461182194174663) ≤ 18446744073709551616 * p ∧ 18446744073709551616 * p ≤ (-534486158058291) * p0 + 30377365022897881150 * n0 + 98779685964864650253 ∧ (-30377365022897881150) * p0 + (-534486158058296) * n0 + (-96025949071185946564) ≤ 18446744073709551616 * q ∧ 18446744073709551616 * q ≤ (-30377365022897881145) * p0 + (-534486158058291) * n0 + 175758198075872878351)
def B17 (p0 n0 p q z : Int) : Prop := z ≤ 1073731650 ∨ (z = 1073743422 ∧ (-70964352899332) * p0 + 30377365031053492687 * n0 + (-173007143039464619501) ≤ 18446744073709551616 * p ∧ 18446744073709551616 * p ≤ (-70964352899326) * p0 + 30377365031053492693 * n0 + 117227613803298894808 ∧ (-30377365031053492693) * p0 + (-70964352899332) * n0 + (-114475051508498838095) ≤ 18446744073709551616 * q ∧ 18446744073709551616 * q ≤ (-30377365031053492687) * p0 + (-70964352899326) * n0 + 175759705334264676213)
def B18 (p0 n0 p q z : Int) : Prop := z ≤ 1073736865 ∨ (z = 1073738207 ∧ 160796549742372 * p0 + 30377365031594907732 * n0 + (-173008483979599310852) ≤ 18446744073709551616 * p ∧ 18446744073709551616 * p ≤ 160796549742379 * p0 + 30377365031594907739 * n0 + 135675090514852034600 ∧ (-30377365031594907739) * p0 + 160796549742372 * n0 + (-132922974784471006861) ≤ 18446744073709551616 * q ∧ 18446744073709551616 * q ≤ (-30377365031594907732) * p0 + 160796549742379 * n0 + 175760599709980338589)
def B19 (p0 n0 p q z : Int) : Prop := z ≤ 1073739473 ∨ (z = 1073740815 ∧ 44916098419454 * p0 + 30377365032208297890 * n0 + (-191455664745473133867) ≤ 18446744073709551616 * p ∧ 18446744073709551616 * p ≤ 44916098419462 * p0 + 30377365032208297898 * n0 + 135675760988331152873 ∧ (-30377365032208297898) * p0 + 44916098419454 * n0 + (-132923492343867807292) ≤ 18446744073709551616 * q ∧ 18446744073709551616 * q ≤ (-30377365032208297890) * p0 + 44916098419462 * n0 + 194207933389936479446)
def B20 (p0 n0 p q z : Int) : Prop := z ≤ 1073740777 ∨ (z = 1073742119 ∧ (-13024127243175) * p0 + 30377365032293968548 * n0 + (-209902627166251987391) ≤ 18446744073709551616 * p ∧ 18446744073709551616 * p ≤ (-13024127243166) * p0 + 30377365032293968557 * n0 + 135676131410567385510 ∧ (-30377365032293968557) * p0 + (-13024127243175) * n0 + (-132923751124845034181) ≤ 18446744073709551616 * q ∧ 18446744073709551616 * q ≤ (-30377365032293968548) * p0 + (-13024127243166) * n0 + 212655007451974338717)
def B21 (p0 n0 p q z : Int) : Prop := z ≤ 1073741429 ∨ (z = 1073741467 ∧ 15945985588221 * p0 + 30377365032306389323 * n0 + (-209902829969870849519) ≤ 18446744073709551616 * p ∧ 18446744073709551616 * p ≤ 15945985588231 * p0 + 30377365032306389333 * n0 + 154122984658058380852 ∧ (-30377365032306389333) * p0 + 15945985588221 * n0 + (-151370677785113016033) ≤ 18446744073709551616 * q ∧ 18446744073709551616 * q ≤ (-30377365032306389323) * p0 + 15945985588231 * n0 + 212655136842816214335)
def B22 (p0 n0 p q z : Int) : Prop := z ≤ 1073741755 ∨ (z = 1073741793 ∧ 1460929172517 * p0 + 30377365032313992961 * n0 + (-228349637426651209262) ≤ 18446744073709551616 * p ∧ 18446744073709551616 * p ≤ 1460929172528 * p0 + 30377365032313992972 * n0 + 154123086059929510278 ∧ (-30377365032313992972) * p0 + 1460929172517 * n0 + (-151370751276679034166) ≤ 18446744073709551616 * q ∧ 18446744073709551616 * q ≤ (-30377365032313992961) * p0 + 1460929172528 * n0 + 231101972209901685370)
def B23 (p0 n0 p q z : Int) : Prop := z ≤ 1073741918 ∨ (z = 1073741956 ∧ (-5781599035337) * p0 + 30377365032314341273 * n0 + (-246796413191913686696) ≤ 18446744073709551616 * p ∧ 18446744073709551616 * p ≤ (-5781599035325) * p0 + 30377365032314341285 * n0 + 154123141158933352132 ∧ (-30377365032314341285) * p0 + (-5781599035337) * n0 + (-151370788022486219323) ≤ 18446744073709551616 * q ∧ 18446744073709551616 * q ≤ (-30377365032314341273) * p0 + (-5781599035325) * n0 + 249548766328360819502)
def B24 (p0 n0 p q z : Int) : Prop := z ≤ 1073741999 ∨ (z = 1073741875 ∧ (-2160334931411) * p0 + 30377365032315030493 * n0 + (-246796442940444828974) ≤ 18446744073709551616 * p ∧ 18446744073709551616 * p ≤ (-2160334931398) * p0 + 30377365032315030506 * n0 + 172569901078423747099 ∧ (-30377365032315030506) * p0 + (-2160334931411) * n0 + (-169817559317597595677) ≤ 18446744073709551616 * q ∧ 18446744073709551616 * q ≤ (-30377365032315030493) * p0 + (-2160334931398) * n0 + 249548784701270980394)
theorem B0_pos {p0 n0 p q z : Int} (h0 : 4096 ≤ p0) (h1 : 4096 ≤ n0) (h : B0 p0 n0 p q z) (hq : ¬ q < 0) : B1 p0 n0 (p + q / 1) (q - p / 1) (z + 536870912) := by
  unfold B0 at h
  unfold B1
  omega
theorem B0_neg {p0 n0 p q z : Int} (h0 : 4096 ≤ p0) (h1 : 4096 ≤ n0) (h : B0 p0 n0 p q z) (hq : q < 0) : B1 p0 n0 (p - q / 1) (q + p / 1) (z - 536870912) := by
  unfold B0 at h
  unfold B1
  omega
theorem B1_pos {p0 n0 p q z : Int} (h0 : 4096 ≤ p0) (h1 : 4096 ≤ n0) (h : B1 p0 n0 p q z) (hq : ¬ q < 0) : B2 p0 n0 (p + q / 2) (q - p / 2) (z + 316933406) := by
  unfold B1 at h
  unfold B2
  omega
theorem B1_neg {p0 n0 p q z : Int} (h0 : 4096 ≤ p0) (h1 : 4096 ≤ n0) (h : B1 p0 n0 p q z) (hq : q < 0) : B2 p0 n0 (p - q / 2) (q + p / 2) (z - 316933406) := by
  unfold B1 at h
  unfold B2
  omega
theorem B2_pos {p0 n0 p q z : Int} (h0 : 4096 ≤ p0) (h1 : 4096 ≤ n0) (h : B2 p0 n0 p q z) (hq : ¬ q < 0) : B3 p0 n0 (p + q / 4) (q - p / 4) (z + 167458907) := by
  unfold B2 at h
  unfold B3
  omega
theorem B2_neg {p0 n0 p q z : Int} (h0 : 4096 ≤ p0) (h1 : 4096 ≤ n0) (h : B2 p0 n0 p q z) (hq : q < 0) : B3 p0 n0 (p - q / 4) (q + p / 4) (z - 167458907) := by
  unfold B2 at h
  unfold B3
  omega
theorem B3_pos {p0 n0 p q z : Int} (h0 : 4096 ≤ p0) (h1 : 4096 ≤ n0) (h : B3 p0 n0 p q z) (hq : ¬ q < 0) : B4 p0 n0 (p + q / 8) (q - p / 8) (z + 85004756) := by
  unfold B3 at h
  unfold B4
  omega
theorem B3_neg {p0 n0 p q z : Int} (h0 : 4096 ≤ p0) (h1 : 4096 ≤ n0) (h : B3 p0 n0 p q z) (hq : q < 0) : B4 p0 n0 (p - q / 8) (q + p / 8) (z - 85004756) := by
  unfold B3 at h
  unfold B4
  omega
theorem B4_pos {p0 n0 p q z : Int} (h0 : 4096 ≤ p0) (h1 : 4096 ≤ n0) (h : B4 p0 n0 p q z) (hq : ¬ q < 0) : B5 p0 n0 (p + q / 16) (q - p / 16) (z + 42667331) := by
  unfold B4 at h
  unfold B5
  omega
theorem B4_neg {p0 n0 p q z : Int} (h0 : 4096 ≤ p0) (h1 : 4096 ≤ n0) (h : B4 p0 n0 p q z) (hq : q < 0) : B5 p0 n0 (p - q / 16) (q + p / 16) (z - 42667331) := by
  unfold B4 at h
  unfold B5
  omega
theorem B5_pos {p0 n0 p q z : Int} (h0 : 4096 ≤ p0) (h1 : 4096 ≤ n0) (h : B5 p0 n0 p q z) (hq : ¬ q < 0) : B6 p0 n0 (p + q / 32) (q - p / 32) (z + 21354465) := by
  unfold B5 at h
  unfold B6
  omega
theorem B5_neg {p0 n0 p q z : Int} (h0 : 4096 ≤ p0) (h1 : 4096 ≤ n0) (h : B5 p0 n0 p q z) (hq : q < 0) : B6 p0 n0 (p - q / 32) (q + p / 32) (z - 21354465) := by
  unfold B5 at h
  unfold B6
  omega
theorem B6_pos {p0 n0 p q z : Int} (h0 : 4096 ≤ p0) (h1 : 4096 ≤ n0) (h : B6 p0 n0 p q z) (hq : ¬ q < 0) : B7 p0 n0 (p + q / 64) (q - p / 64) (z + 10679838) := by
  unfold B6 at h
  unfold B7
  omega
theorem B6_neg {p0 n0 p q z : Int} (h0 : 4096 ≤ p0) (h1 : 4096 ≤ n0) (h : B6 p0 n0 p q z) (hq : q < 0) : B7 p0 n0 (p - q / 64) (q + p / 64) (z - 10679838) := by
  unfold B6 at h
  unfold B7
  omega
theorem B7_pos {p0 n0 p q z : Int} (h0 : 4096 ≤ p0) (h1 : 4096 ≤ n0) (h : B7 p0 n0 p q z) (hq : ¬ q < 0) : B8 p0 n0 (p + q / 128) (q - p / 128) (z + 5340245) := by
  unfold B7 at h
  unfold B8
  omega
theorem B7_neg {p0 n0 p q z : Int} (h0 : 4096 ≤ p0) (h1 : 4096 ≤ n0) (h : B7 p0 n0 p q z) (hq : q < 0) : B8 p0 n0 (p - q / 128) (q + p / 128) (z - 5340245) := by
  unfold B7 at h
  unfold B8
  omega
theorem B8_pos {p0 n0 p q z : Int} (h0 : 4096 ≤ p0) (h1 : 4096 ≤ n0) (h : B8 p0 n0 p q z) (hq : ¬ q < 0) : B9 p0 n0 (p + q / 256) (q - p / 256) (z + 2670163) := by
  unfold B8 at h
  unfold B9
  omega
theorem B8_neg {p0 n0 p q z : Int} (h0 : 4096 ≤ p0) (h1 : 4096 ≤ n0) (h : B8 p0 n0 p q z) (hq : q < 0) : B9 p0 n0 (p - q / 256) (q + p / 256) (z - 2670163) := by
  unfold B8 at h
  unfold B9
  omega
theorem B9_pos {p0 n0 p q z : Int} (h0 : 4096 ≤ p0) (h1 : 4096 ≤ n0) (h : B9 p0 n0 p q z) (hq : ¬ q < 0) : B10 p0 n0 (p + q / 512) (q - p / 512) (z + 1335087) := by
  unfold B9 at h
  unfold B10
  omega
theorem B9_neg {p0 n0 p q z : Int} (h0 : 4096 ≤ p0) (h1 : 4096 ≤ n0) (h : B9 p0 n0 p q z) (hq : q < 0) : B10 p0 n0 (p - q / 512) (q + p / 512) (z - 1335087) := by
  unfold B9 at h
  unfold B10
  omega
theorem B10_pos {p0 n0 p q z : Int} (h0 : 4096 ≤ p0) (h1 : 4096 ≤ n0) (h : B10 p0 n0 p q z) (hq : ¬ q < 0) : B11 p0 n0 (p + q / 1024) (q - p / 1024) (z + 667544) := by
  unfold B10 at h
  unfold B11
  omega
theorem B10_neg {p0 n0 p q z : Int} (h0 : 4096 ≤ p0) (h1 : 4096 ≤ n0) (h : B10 p0 n0 p q z) (hq : q < 0) : B11 p0 n0 (p - q / 1024) (q + p / 1024) (z - 667544) := by
  unfold B10 at h
  unfold B11
  omega
theorem B11_pos {p0 n0 p q z : Int} (h0 : 4096 ≤ p0) (h1 : 4096 ≤ n0) (h : B11 p0 n0 p q z) (hq : ¬ q < 0) : B12 p0 n0 (p + q / 2048) (q - p / 2048) (z + 333772) := by
  unfold B11 at h
  unfold B12
  omega
theorem B11_neg {p0 n0 p q z : Int} (h0 : 4096 ≤ p0) (h1 : 4096 ≤ n0) (h : B11 p0 n0 p q z) (hq : q < 0) : B12 p0 n0 (p - q / 2048) (q + p / 2048) (z - 333772) := by
  unfold B11 at h
  unfold B12
  omega
theorem B12_pos {p0 n0 p q z : Int} (h0 : 4096 ≤ p0) (h1 : 4096 ≤ n0) (h : B12 p0 n0 p q z) (hq : ¬ q < 0) : B13 p0 n0 (p + q / 4096) (q - p / 4096) (z + 166886) := by
  unfold B12 at h
  unfold B13
  omega
theorem B12_neg {p0 n0 p q z : Int} (h0 : 4096 ≤ p0) (h1 : 4096 ≤ n0) (h : B12 p0 n0 p q z) (hq : q < 0) : B13 p0 n0 (p - q / 4096) (q + p / 4096) (z - 166886) := by
  unfold B12 at h
  unfold B13
  omega
theorem B13_pos {p0 n0 p q z : Int} (h0 : 4096 ≤ p0) (h1 : 4096 ≤ n0) (h : B13 p0 n0 p q z) (hq : ¬ q < 0) : B14 p0 n0 (p + q / 8192) (q - p / 8192) (z + 83443) := by
  unfold B13 at h
  unfold B14
  omega
theorem B13_neg {p0 n0 p q z : Int} (h0 : 4096 ≤ p0) (h1 : 4096 ≤ n0) (h : B13 p0 n0 p q z) (hq : q < 0) : B14 p0 n0 (p - q / 8192) (q + p / 8192) (z - 83443) := by
  unfold B13 at h
  unfold B14
  omega
theorem B14_pos {p0 n0 p q z : Int} (h0 : 4096 ≤ p0) (h1 : 4096 ≤ n0) (h : B14 p0 n0 p q z) (hq : ¬ q < 0) : B15 p0 n0 (p + q / 16384) (q - p / 16384) (z + 41722) := by
  unfold B14 at h
  unfold B15
  omega
theorem B14_neg {p0 n0 p q z : Int} (h0 : 4096 ≤ p0) (h1 : 4096 ≤ n0) (h : B14 p0 n0 p q z) (hq : q < 0) : B15 p0 n0 (p - q / 16384) (q + p / 16384) (z - 41722) := by
  unfold B14 at h
  unfold B15
  omega
theorem B15_pos {p0 n0 p q z : Int} (h0 : 4096 ≤ p0) (h1 : 4096 ≤ n0) (h : B15 p0 n0 p q z) (hq : ¬ q < 0) : B16 p0 n0 (p + q / 32768) (q - p / 32768) (z + 20861) := by
  unfold B15 at h
  unfold B16
  omega
theorem B15_neg {p0 n0 p q z : Int} (h0 : 4096 ≤ p0) (h1 : 4096 ≤ n0) (h : B15 p0 n0 p q z) (hq : q < 0) : B16 p0 n0 (p - q / 32768) (q + p / 32768) (z - 20861) := by
  unfold B15 at h
  unfold B16
  omega
theorem B16_pos {p0 n0 p q z : Int} (h0 : 4096 ≤ p0) (h1 : 4096 ≤ n0) (h : B16 p0 n0 p q z) (hq : ¬ q < 0) : B17 p0 n0 (p + q / 65536) (q - p / 65536) (z + 10430) := by
  unfold B16 at h
  unfold B17
  omega
theorem B16_neg {p0 n0 p q z : Int} (h0 : 4096 ≤ p0) (h1 : 4096 ≤ n0) (h : B16 p0 n0 p q z) (hq : q < 0) : B17 p0 n0 (p - q / 65536) (q + p / 65536) (z - 10430) := by
  unfold B16 at h
  unfold B17
  omega
theorem B17_pos {p0 n0 p q z : Int} (h0 : 4096 ≤ p0) (h1 : 4096 ≤ n0) (h : B17 p0 n0 p q z) (hq : ¬ q < 0) : B18 p0 n0 (p + q / 131072) (q - p / 131072) (z + 5215) := by
  unfold B17 at h
  unfold B18
  omega
theorem B17_neg {p0 n0 p q z : Int} (h0 : 4096 ≤ p0) (h1 : 4096 ≤ n0) (h : B17 p0 n0 p q z) (hq : q < 0) : B18 p0 n0 (p - q / 131072) (q + p / 131072) (z - 5215) := by
  unfold B17 at h
  unfold B18
  omega
theorem B18_pos {p0 n0 p q z : Int} (h0 : 4096 ≤ p0) (h1 : 4096 ≤ n0) (h : B18 p0 n0 p q z) (hq : ¬ q < 0) : B19 p0 n0 (p + q / 262144) (q - p / 262144) (z + 2608) := by
  unfold B18 at h
  unfold B19
  omega
theorem B18_neg {p0 n0 p q z : Int} (h0 : 4096 ≤ p0) (h1 : 4096 ≤ n0) (h : B18 p0 n0 p q z) (hq : q < 0) : B19 p0 n0 (p - q / 262144) (q + p / 262144) (z - 2608) := by
  unfold B18 at h
  unfold B19
  omega
theorem B19_pos {p0 n0 p q z : Int} (h0 : 4096 ≤ p0) (h1 : 4096 ≤ n0) (h : B19 p0 n0 p q z) (hq : ¬ q < 0) : B20 p0 n0 (p + q / 524288) (q - p / 524288) (z + 1304) := by
  unfold B19 at h
  unfold B20
  omega
theorem B19_neg {p0 n0 p q z : Int} (h0 : 4096 ≤ p0) (h1 : 4096 ≤ n0) (h : B19 p0 n0 p q z) (hq : q < 0) : B20 p0 n0 (p - q / 524288) (q + p / 524288) (z - 1304) := by
  unfold B19 at h
  unfold B20
  omega
theorem B20_pos {p0 n0 p q z : Int} (h0 : 4096 ≤ p0) (h1 : 4096 ≤ n0) (h : B20 p0 n0 p q z) (hq : ¬ q < 0) : B21 p0 n0 (p + q / 1048576) (q - p / 1048576) (z + 652) := by
  unfold B20 at h
  unfold B21
  omega
theorem B20_neg {p0 n0 p q z : Int} (h0 : 4096 ≤ p0) (h1 : 4096 ≤ n0) (h : B20 p0 n0 p q z) (hq : q < 0) : B21 p0 n0 (p - q / 1048576) (q + p / 1048576) (z - 652) := by
  unfold B20 at h
  unfold B21
  omega
theorem B21_pos {p0 n0 p q z : Int} (h0 : 4096 ≤ p0) (h1 : 4096 ≤ n0) (h : B21 p0 n0 p q z) (hq : ¬ q < 0) : B22 p0 n0 (p + q / 2097152) (q - p / 2097152) (z + 326) := by
  unfold B21 at h
  unfold B22
  omega
theorem B21_neg {p0 n0 p q z : Int} (h0 : 4096 ≤ p0) (h1 : 4096 ≤ n0) (h : B21 p0 n0 p q z) (hq : q < 0) : B22 p0 n0 (p - q / 2097152) (q + p / 2097152) (z - 326) := by
  unfold B21 at h
  unfold B22
  omega
theorem B22_pos {p0 n0 p q z : Int} (h0 : 4096 ≤ p0) (h1 : 4096 ≤ n0) (h : B22 p0 n0 p q z) (hq : ¬ q < 0) : B23 p0 n0 (p + q / 4194304) (q - p / 4194304) (z + 163) := by
  unfold B22 at h
  unfold B23
  omega
theorem B22_neg {p0 n0 p q z : Int} (h0 : 4096 ≤ p0) (h1 : 4096 ≤ n0) (h : B22 p0 n0 p q z) (hq : q < 0) : B23 p0 n0 (p - q / 4194304) (q + p / 4194304) (z - 163) := by
  unfold B22 at h
  unfold B23
  omega
theorem B23_pos {p0 n0 p q z : Int} (h0 : 4096 ≤ p0) (h1 : 4096 ≤ n0) (h : B23 p0 n0 p q z) (hq : ¬ q < 0) : B24 p0 n0 (p + q / 8388608) (q - p / 8388608) (z + 81) := by
  unfold B23 at h
  unfold B24
  omega
theorem B23_neg {p0 n0 p q z : Int} (h0 : 4096 ≤ p0) (h1 : 4096 ≤ n0) (h : B23 p0 n0 p q z) (hq : q < 0) : B24 p0 n0 (p - q / 8388608) (q + p / 8388608) (z - 81) := by
  unfold B23 at h
  unfold B24
  omega
theorem B0_step {p0 n0 : Int} {s : Int × Int × Int} (h0 : 4096 ≤ p0) (h1 : 4096 ≤ n0) (h : B0 p0 n0 s.1 s.2.1 s.2.2) : B1 p0 n0 (stA 0 s).1 (stA 0 s).2.1 (stA 0 s).2.2 := by
  unfold stA
  split
  · exact B0_neg h0 h1 h ‹_›
  · exact B0_pos h0 h1 h ‹_›
theorem B1_step {p0 n0 : Int} {s : Int × Int × Int} (h0 : 4096 ≤ p0) (h1 : 4096 ≤ n0) (h : B1 p0 n0 s.1 s.2.1 s.2.2) : B2 p0 n0 (stA 1 s).1 (stA 1 s).2.1 (stA 1 s).2.2 := by
  unfold stA
  split
  · exact B1_neg h0 h1 h ‹_›
  · exact B1_pos h0 h1 h ‹_›
theorem B2_step {p0 n0 : Int} {s : Int × Int × Int} (h0 : 4096 ≤ p0) (h1 : 4096 ≤ n0) (h : B2 p0 n0 s.1 s.2.1 s.2.2) : B3 p0 n0 (stA 2 s).1 (stA 2 s).2.1 (stA 2 s).2.2 := by
  unfold stA
  split
  · exact B2_neg h0 h1 h ‹_›
  · exact B2_pos h0 h1 h ‹_›
theorem B3_step {p0 n0 : Int} {s : Int × Int × Int} (h0 : 4096 ≤ p0) (h1 : 4096 ≤ n0) (h : B3 p0 n0 s.1 s.2.1 s.2.2) : B4 p0 n0 (stA 3 s).1 (stA 3 s).2.1 (stA 3 s).2.2 := by
  unfold stA
  split
  · exact B3_neg h0 h1 h ‹_›
  · exact B3_pos h0 h1 h ‹_›
theorem B4_step {p0 n0 : Int} {s : Int × Int × Int} (h0 : 4096 ≤ p0) (h1 : 4096 ≤ n0) (h : B4 p0 n0 s.1 s.2.1 s.2.2) : B5 p0 n0 (stA 4 s).1 (stA 4 s).2.1 (stA 4 s).2.2 := by
  unfold stA
  split
  · exact B4_neg h0 h1 h ‹_›
  · exact B4_pos h0 h1 h ‹_›
theorem B5_step {p0 n0 : Int} {s : Int × Int × Int} (h0 : 4096 ≤ p0) (h1 : 4096 ≤ n0) (h : B5 p0 n0 s.1 s.2.1 s.2.2) : B6 p0 n0 (stA 5 s).1 (stA 5 s).2.1 (stA 5 s).2.2 := by
  unfold stA
  split
  · exact B5_neg h0 h1 h ‹_›
  · exact B5_pos h0 h1 h ‹_›
theorem B6_step {p0 n0 : Int} {s : Int × Int × Int} (h0 : 4096 ≤ p0) (h1 : 4096 ≤ n0) (h : B6 p0 n0 s.1 s.2.1 s.2.2) : B7 p0 n0 (stA 6 s).1 (stA 6 s).2.1 (stA 6 s).2.2 := by
  unfold stA
  split
  · exact B6_neg h0 h1 h ‹_›
  · exact B6_pos h0 h1 h ‹_›
theorem B7_step {p0 n0 : Int} {s : Int × Int × Int} (h0 : 4096 ≤ p0) (h1 : 4096 ≤ n0) (h : B7 p0 n0 s.1 s.2.1 s.2.2) : B8 p0 n0 (stA 7 s).1 (stA 7 s).2.1 (stA 7 s).2.2 := by
  unfold stA
  split
  · exact B7_neg h0 h1 h ‹_›
  · exact B7_pos h0 h1 h ‹_›
theorem B8_step {p0 n0 : Int} {s : Int × Int × Int} (h0 : 4096 ≤ p0) (h1 : 4096 ≤ n0) (h : B8 p0 n0 s.1 s.2.1 s.2.2) : B9 p0 n0 (stA 8 s).1 (stA 8 s).2.1 (stA 8 s).2.2 := by
  unfold stA
  split
  · exact B8_neg h0 h1 h ‹_›
  · exact B8_pos h0 h1 h ‹_›
theorem B9_step {p0 n0 : Int} {s : Int × Int × Int} (h0 : 4096 ≤ p0) (h1 : 4096 ≤ n0) (h : B9 p0 n0 s.1 s.2.1 s.2.2) : B10 p0 n0 (stA 9 s).1 (stA 9 s).2.1 (stA 9 s).2.2 := by
  unfold stA
  split
  · exact B9_neg h0 h1 h ‹_›
  · exact B9_pos h0 h1 h ‹_›
theorem B10_step {p0 n0 : Int} {s : Int × Int × Int} (h0 : 4096 ≤ p0) (h1 : 4096 ≤ n0) (h : B10 p0 n0 s.1 s.2.1 s.2.2) : B11 p0 n0 (stA 10 s).1 (stA 10 s).2.1 (stA 10 s).2.2 := by
  unfold stA
  split
  · exact B10_neg h0 h1 h ‹_›
  · exact B10_pos h0 h1 h ‹_›
theorem B11_step {p0 n0 : Int} {s : Int × Int × Int} (h0 : 4096 ≤ p0) (h1 : 4096 ≤ n0) (h : B11 p0 n0 s.1 s.2.1 s.2.2) : B12 p0 n0 (stA 11 s).1 (stA 11 s).2.1 (stA 11 s).2.2 := by
  unfold stA
  split
  · exact B11_neg h0 h1 h ‹_›
  · exact B11_pos h0 h1 h ‹_›
theorem B12_step {p0 n0 : Int} {s : Int × Int × Int} (h0 : 4096 ≤ p0) (h1 : 4096 ≤ n0) (h : B12 p0 n0 s.1 s.2.1 s.2.2) : B13 p0 n0 (stA 12 s).1 (stA 12 s).2.1 (stA 12 s).2.2 := by
  unfold stA
  split
  · exact B12_neg h0 h1 h ‹_›
  · exact B12_pos h0 h1 h ‹_›
theorem B13_step {p0 n0 : Int} {s : Int × Int × Int} (h0 : 4096 ≤ p0) (h1 : 4096 ≤ n0) (h : B13 p0 n0 s.1 s.2.1 s.2.2) : B14 p0 n0 (stA 13 s).1 (stA 13 s).2.1 (stA 13 s).2.2 := by
  unfold stA
  split
  · exact B13_neg h0 h1 h ‹_›
  · exact B13_pos h0 h1 h ‹_›
theorem B14_step {p0 n0 : Int} {s : Int × Int × Int} (h0 : 4096 ≤ p0) (h1 : 4096 ≤ n0) (h : B14 p0 n0 s.1 s.2.1 s.2.2) : B15 p0 n0 (stA 14 s).1 (stA 14 s).2.1 (stA 14 s).2.2 := by
  unfold stA
  split
  · exact B14_neg h0 h1 h ‹_›
  · exact B14_pos h0 h1 h ‹_›
theorem B15_step {p0 n0 : Int} {s : Int × Int × Int} (h0 : 4096 ≤ p0) (h1 : 4096 ≤ n0) (h : B15 p0 n0 s.1 s.2.1 s.2.2) : B16 p0 n0 (stA 15 s).1 (stA 15 s).2.1 (stA 15 s).2.2 := by
  unfold stA
  split
  · exact B15_neg h0 h1 h ‹_›
  · exact B15_pos h0 h1 h ‹_›
theorem B16_step {p0 n0 : Int} {s : Int × Int × Int} (h0 : 4096 ≤ p0) (h1 : 4096 ≤ n0) (h : B16 p0 n0 s.1 s.2.1 s.2.2) : B17 p0 n0 (stA 16 s).1 (stA 16 s).2.1 (stA 16 s).2.2 := by
  unfold stA
  split
  · exact B16_neg h0 h1 h ‹_›
  · exact B16_pos h0 h1 h ‹_›
theorem B17_step {p0 n0 : Int} {s : Int × Int × Int} (h0 : 4096 ≤ p0) (h1 : 4096 ≤ n0) (h : B17 p0 n0 s.1 s.2.1 s.2.2) : B18 p0 n0 (stA 17 s).1 (stA 17 s).2.1 (stA 17 s).2.2 := by
  unfold stA
  split
  · exact B17_neg h0 h1 h ‹_›
  · exact B17_pos h0 h1 h ‹_›
theorem B18_step {p0 n0 : Int} {s : Int × Int × Int} (h0 : 4096 ≤ p0) (h1 : 4096 ≤ n0) (h : B18 p0 n0 s.1 s.2.1 s.2.2) : B19 p0 n0 (stA 18 s).1 (stA 18 s).2.1 (stA 18 s).2.2 := by
  unfold stA
  split
  · exact B18_neg h0 h1 h ‹_›
  · exact B18_pos h0 h1 h ‹_›
theorem B19_step {p0 n0 : Int} {s : Int × Int × Int} (h0 : 4096 ≤ p0) (h1 : 4096 ≤ n0) (h : B19 p0 n0 s.1 s.2.1 s.2.2) : B20 p0 n0 (stA 19 s).1 (stA 19 s).2.1 (stA 19 s).2.2 := by
  unfold stA
  split
  · exact B19_neg h0 h1 h ‹_›
  · exact B19_pos h0 h1 h ‹_›
theorem B20_step {p0 n0 : Int} {s : Int × Int × Int} (h0 : 4096 ≤ p0) (h1 : 4096 ≤ n0) (h : B20 p0 n0 s.1 s.2.1 s.2.2) : B21 p0 n0 (stA 20 s).1 (stA 20 s).2.1 (stA 20 s).2.2 := by
  unfold stA
  split
  · exact B20_neg h0 h1 h ‹_›
  · exact B20_pos h0 h1 h ‹_›
theorem B21_step {p0 n0 : Int} {s : Int × Int × Int} (h0 : 4096 ≤ p0) (h1 : 4096 ≤ n0) (h : B21 p0 n0 s.1 s.2.1 s.2.2) : B22 p0 n0 (stA 21 s).1 (stA 21 s).2.1 (stA 21 s).2.2 := by
  unfold stA
  split
  · exact B21_neg h0 h1 h ‹_›
  · exact B21_pos h0 h1 h ‹_›
theorem B22_step {p0 n0 : Int} {s : Int × Int × Int} (h0 : 4096 ≤ p0) (h1 : 4096 ≤ n0) (h : B22 p0 n0 s.1 s.2.1 s.2.2) : B23 p0 n0 (stA 22 s).1 (stA 22 s).2.1 (stA 22 s).2.2 := by
  unfold stA
  split
  · exact B22_neg h0 h1 h ‹_›
  · exact B22_pos h0 h1 h ‹_›
theorem B23_step {p0 n0 : Int} {s : Int × Int × Int} (h0 : 4096 ≤ p0) (h1 : 4096 ≤ n0) (h : B23 p0 n0 s.1 s.2.1 s.2.2) : B24 p0 n0 (stA 23 s).1 (stA 23 s).2.1 (stA 23 s).2.2 := by
  unfold stA
  split
  · exact B23_neg h0 h1 h ‹_›
  · exact B23_pos h0 h1 h ‹_›
theorem B_all {p0 n0 : Int} {r : Nat → Int × Int × Int} (h0 : 4096 ≤ p0) (h1 : 4096 ≤ n0) (e : r 0 = (p0, n0, 0)) (hs : ∀ n, r (n + 1) = stA n (r n)) : B24 p0 n0 (r 24).1 (r 24).2.1 (r 24).2.2 := by
  have r0 : B0 p0 n0 (r 0).1 (r 0).2.1 (r 0).2.2 := by
    rw [e]
    show B0 p0 n0 p0 n0 0
    unfold B0
    omega
  have r1 : B1 p0 n0 (r 1).1 (r 1).2.1 (r 1).2.2 := by rw [show r 1 = stA 0 (r 0) from hs 0]; exact B0_step h0 h1 r0
  have r2 : B2 p0 n0 (r 2).1 (r 2).2.1 (r 2).2.2 := by rw [show r 2 = stA 1 (r 1) from hs 1]; exact B1_step h0 h1 r1
  have r3 : B3 p0 n0 (r 3).1 (r 3).2.1 (r 3).2.2 := by rw [show r 3 = stA 2 (r 2) from hs 2]; exact B2_step h0 h1 r2
  have r4 : B4 p0 n0 (r 4).1 (r 4).2.1 (r 4).2.2 := by rw [show r 4 = stA 3 (r 3) from hs 3]; exact B3_step h0 h1 r3
  have r5 : B5 p0 n0 (r 5).1 (r 5).2.1 (r 5).2.2 := by rw [show r 5 = stA 4 (r 4) from hs 4]; exact B4_step h0 h1 r4
  have r6 : B6 p0 n0 (r 6).1 (r 6).2.1 (r 6).2.2 := by rw [show r 6 = stA 5 (r 5) from hs 5]; exact B5_step h0 h1 r5
  have r7 : B7 p0 n0 (r 7).1 (r 7).2.1 (r 7).2.2 := by rw [show r 7 = stA 6 (r 6) from hs 6]; exact B6_step h0 h1 r6
  have r8 : B8 p0 n0 (r 8).1 (r 8).2.1 (r 8).2.2 := by rw [show r 8 = stA 7 (r 7) from hs 7]; exact B7_step h0 h1 r7
  have r9 : B9 p0 n0 (r 9).1 (r 9).2.1 (r 9).2.2 := by rw [show r 9 = stA 8 (r 8) from hs 8]; exact B8_step h0 h1 r8
  have r10 : B10 p0 n0 (r 10).1 (r 10).2.1 (r 10).2.2 := by rw [show r 10 = stA 9 (r 9) from hs 9]; exact B9_step h0 h1 r9
  have r11 : B11 p0 n0 (r 11).1 (r 11).2.1 (r 11).2.2 := by rw [show r 11 = stA 10 (r 10) from hs 10]; exact B10_step h0 h1 r10
  have r12 : B12 p0 n0 (r 12).1 (r 12).2.1 (r 12).2.2 := by rw [show r 12 = stA 11 (r 11) from hs 11]; exact B11_step h0 h1 r11
  have r13 : B13 p0 n0 (r 13).1 (r 13).2.1 (r 13).2.2 := by rw [show r 13 = stA 12 (r 12) from hs 12]; exact B12_step h0 h1 r12
  have r14 : B14 p0 n0 (r 14).1 (r 14).2.1 (r 14).2.2 := by rw [show r 14 = stA 13 (r 13) from hs 13]; exact B13_step h0 h1 r13
  have r15 : B15 p0 n0 (r 15).1 (r 15).2.1 (r 15).2.2 := by rw [show r 15 = stA 14 (r 14) from hs 14]; exact B14_step h0 h1 r14
  have r16 : B16 p0 n0 (r 16).1 (r 16).2.1 (r 16).2.2 := by rw [show r 16 = stA 15 (r 15) from hs 15]; exact B15_step h0 h1 r15
  have r17 : B17 p0 n0 (r 17).1 (r 17).2.1 (r 17).2.2 := by rw [show r 17 = stA 16 (r 16) from hs 16]; exact B16_step h0 h1 r16
  have r18 : B18 p0 n0 (r 18).1 (r 18).2.1 (r 18).2.2 := by rw [show r 18 = stA 17 (r 17) from hs 17]; exact B17_step h0 h1 r17
  have r19 : B19 p0 n0 (r 19).1 (r 19).2.1 (r 19).2.2 := by rw [show r 19 = stA 18 (r 18) from hs 18]; exact B18_step h0 h1 r18
  have r20 : B20 p0 n0 (r 20).1 (r 20).2.1 (r 20).2.2 := by rw [show r 20 = stA 19 (r 19) from hs 19]; exact B19_step h0 h1 r19
  have r21 : B21 p0 n0 (r 21).1 (r 21).2.1 (r 21).2.2 := by rw [show r 21 = stA 20 (r 20) from hs 20]; exact B20_step h0 h1 r20
  have r22 : B22 p0 n0 (r 22).1 (r 22).2.1 (r 22).2.2 := by rw [show r 22 = stA 21 (r 21) from hs 21]; exact B21_step h0 h1 r21
  have r23 : B23 p0 n0 (r 23).1 (r 23).2.1 (r 23).2.2 := by rw [show r 23 = stA 22 (r 22) from hs 22]; exact B22_step h0 h1 r22
  have r24 : B24 p0 n0 (r 24).1 (r 24).2.1 (r 24).2.2 := by rw [show r 24 = stA 23 (r 23) from hs 23]; exact B23_step h0 h1 r23
  exact r24
end Go.Proofs.Ytliebglildaneaa.Tm
