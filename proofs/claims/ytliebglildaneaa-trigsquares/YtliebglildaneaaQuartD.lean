/-
  Plain arithmetic: how the angle is bounded on its way, case D: each bound is reckoned ahead, and held step by step.
-/
import Derived.Test.YtliebglildaneaaTrigM
set_option linter.unusedVariables false
namespace Go.Proofs.Ytliebglildaneaa.Tm
def D0 (p0 n0 p q z : Int) : Prop := 117908118 ≤ z ∨ (z = 0 ∧ 18446744073709551616 * p0 + 0 * n0 + 0 ≤ 18446744073709551616 * p ∧ 18446744073709551616 * p ≤ 18446744073709551616 * p0 + 0 * n0 + 0 ∧ 0 * p0 + (-18446744073709551616) * n0 + 0 ≤ 18446744073709551616 * q ∧ 18446744073709551616 * q ≤ 0 * p0 + (-18446744073709551616) * n0 + 0)
def D1 (p0 n0 p q z : Int) : Prop := (-418962794) ≤ z ∨ (z = (-536870912) ∧ 18446744073709551616 * p0 + 18446744073709551616 * n0 + 0 ≤ 18446744073709551616 * p ∧ 18446744073709551616 * p ≤ 18446744073709551616 * p0 + 18446744073709551616 * n0 + 0 ∧ 18446744073709551616 * p0 + (-18446744073709551616) * n0 + 0 ≤ 18446744073709551616 * q ∧ 18446744073709551616 * q ≤ 18446744073709551616 * p0 + (-18446744073709551616) * n0 + 0)
def D2 (p0 n0 p q z : Int) : Prop := (-735896200) ≤ z ∨ (z = (-853804318) ∧ 9223372036854775808 * p0 + 27670116110564327424 * n0 + 0 ≤ 18446744073709551616 * p ∧ 18446744073709551616 * p ≤ 9223372036854775808 * p0 + 27670116110564327424 * n0 + 9223372036854775808 ∧ 27670116110564327424 * p0 + (-9223372036854775808) * n0 + (-9223372036854775808) ≤ 18446744073709551616 * q ∧ 18446744073709551616 * q ≤ 27670116110564327424 * p0 + (-9223372036854775808) * n0 + 0)
def D3 (p0 n0 p q z : Int) : Prop := (-903355107) ≤ z ∨ (z = (-1021263225) ∧ 2305843009213693952 * p0 + 29975959119778021376 * n0 + 0 ≤ 18446744073709551616 * p ∧ 18446744073709551616 * p ≤ 2305843009213693952 * p0 + 29975959119778021376 * n0 + 25364273101350633472 ∧ 29975959119778021376 * p0 + (-2305843009213693952) * n0 + (-23058430092136939520) ≤ 18446744073709551616 * q ∧ 18446744073709551616 * q ≤ 29975959119778021376 * p0 + (-2305843009213693952) * n0 + 2305843009213693952)
def D4 (p0 n0 p q z : Int) : Prop := (-988359863) ≤ z ∨ (z = (-1106267981) ∧ (-1441151880758558720) * p0 + 30264189495929733120 * n0 + (-288230376151711744) ≤ 18446744073709551616 * p ∧ 18446744073709551616 * p ≤ (-1441151880758558720) * p0 + 30264189495929733120 * n0 + 44387477927363608576 ∧ 30264189495929733120 * p0 + 1441151880758558720 * n0 + (-39199331156632797184) ≤ 18446744073709551616 * q ∧ 18446744073709551616 * q ≤ 30264189495929733120 * p0 + 1441151880758558720 * n0 + 5476377146882523136)
def D5 (p0 n0 p q z : Int) : Prop := (-1031027194) ≤ z ∨ (z = (-1063600650) ∧ 450359962737049600 * p0 + 30354261488477143040 * n0 + (-20032011142543966208) ≤ 18446744073709551616 * p ∧ 18446744073709551616 * p ≤ 450359962737049600 * p0 + 30354261488477143040 * n0 + 44729751499043766272 ∧ 30354261488477143040 * p0 + (-450359962737049600) * n0 + (-41973548527093022720) ≤ 18446744073709551616 * q ∧ 18446744073709551616 * q ≤ 30354261488477143040 * p0 + (-450359962737049600) * n0 + 22788214114494709760)
def D6 (p0 n0 p q z : Int) : Prop := (-1052381659) ≤ z ∨ (z = (-1084955115) ∧ (-498210708777861120) * p0 + 30368335237312675840 * n0 + (-20744142833621925888) ≤ 18446744073709551616 * p ∧ 18446744073709551616 * p ≤ (-498210708777861120) * p0 + 30368335237312675840 * n0 + 63911708211921551360 ∧ 30368335237312675840 * p0 + 498210708777861120 * n0 + (-60469832196703649792) ≤ 18446744073709551616 * q ∧ 18446744073709551616 * q ≤ 30368335237312675840 * p0 + 498210708777861120 * n0 + 24186018848839827456)
def D7 (p0 n0 p q z : Int) : Prop := (-1063061497) ≤ z ∨ (z = (-1074275277) ∧ (-23705470694850560) * p0 + 30376119779637329920 * n0 + (-39847497659253260288) ≤ 18446744073709551616 * p ∧ 18446744073709551616 * p ≤ (-23705470694850560) * p0 + 30376119779637329920 * n0 + 64289614756434673664 ∧ 30376119779637329920 * p0 + 23705470694850560 * n0 + (-61468452637514924032) ≤ 18446744073709551616 * q ∧ 18446744073709551616 * q ≤ 30376119779637329920 * p0 + 23705470694850560 * n0 + 42668659778173009920)
def D8 (p0 n0 p q z : Int) : Prop := (-1068401742) ≤ z ∨ (z = (-1068935032) ∧ 213607965083566080 * p0 + 30376304978627133440 * n0 + (-58630348831117541376) ≤ 18446744073709551616 * p ∧ 18446744073709551616 * p ≤ 213607965083566080 * p0 + 30376304978627133440 * n0 + 64622963660951650304 ∧ 30376304978627133440 * p0 + (-213607965083566080) * n0 + (-61970715252799569920) ≤ 18446744073709551616 * q ∧ 18446744073709551616 * q ≤ 30376304978627133440 * p0 + (-213607965083566080) * n0 + 61282597239269621760)
def D9 (p0 n0 p q z : Int) : Prop := (-1071071905) ≤ z ∨ (z = (-1071605195) ∧ 94950523760803840 * p0 + 30377139384740741120 * n0 + (-58869733976583438336) ≤ 18446744073709551616 * p ∧ 18446744073709551616 * p ≤ 94950523760803840 * p0 + 30377139384740741120 * n0 + 83239723247079522304 ∧ 30377139384740741120 * p0 + (-94950523760803840) * n0 + (-80574426532592746496) ≤ 18446744073709551616 * q ∧ 18446744073709551616 * q ≤ 30377139384740741120 * p0 + (-94950523760803840) * n0 + 61535030691070214144)
def D10 (p0 n0 p q z : Int) : Prop := (-1072406992) ≤ z ∨ (z = (-1072940282) ∧ 35620173399982080 * p0 + 30377324834982461440 * n0 + (-58989919583401934848) ≤ 18446744073709551616 * p ∧ 18446744073709551616 * p ≤ 35620173399982080 * p0 + 30377324834982461440 * n0 + 101807810450591580160 ∧ 30377324834982461440 * p0 + (-35620173399982080) * n0 + (-99100121758456348672) ≤ 18446744073709551616 * q ∧ 18446744073709551616 * q ≤ 30377324834982461440 * p0 + (-35620173399982080) * n0 + 61697608275537166336)
def D11 (p0 n0 p q z : Int) : Prop := (-1073074536) ≤ z ∨ (z = (-1073607826) ∧ 5954817115819520 * p0 + 30377359620308047360 * n0 + (-59050171153983514112) ≤ 18446744073709551616 * p ∧ 18446744073709551616 * p ≤ 5954817115819520 * p0 + 30377359620308047360 * n0 + 120333317588446392320 ∧ 30377359620308047360 * p0 + (-5954817115819520) * n0 + (-117586458776999584256) ≤ 18446744073709551616 * q ∧ 18446744073709551616 * q ≤ 30377359620308047360 * p0 + (-5954817115819520) * n0 + 61797029965430322176)
def D12 (p0 n0 p q z : Int) : Prop := (-1073408308) ≤ z ∨ (z = (-1073941598) ∧ (-8877878011284019) * p0 + 30377362527933592193 * n0 + (-59080345485021321887) ≤ 18446744073709551616 * p ∧ 18446744073709551616 * p ≤ (-8877878011284018) * p0 + 30377362527933592194 * n0 + 138828469725975909773 ∧ 30377362527933592193 * p0 + 8877878011284018 * n0 + (-136053028742838175893) ≤ 18446744073709551616 * q ∧ 18446744073709551616 * q ≤ 30377362527933592194 * p0 + 8877878011284019 * n0 + 61855786468159055766)
def D13 (p0 n0 p q z : Int) : Prop := (-1073575194) ≤ z ∨ (z = (-1073774712) ∧ (-1461529737862732) * p0 + 30377364695384278541 * n0 + (-77555802030573922484) ≤ 18446744073709551616 * p ∧ 18446744073709551616 * p ≤ (-1461529737862730) * p0 + 30377364695384278543 * n0 + 138843571236344112668 ∧ 30377364695384278541 * p0 + 1461529737862730 * n0 + (-136086922412204869231) ≤ 18446744073709551616 * q ∧ 18446744073709551616 * q ≤ 30377364695384278543 * p0 + 1461529737862732 * n0 + 80312450854713165920)
def D14 (p0 n0 p q z : Int) : Prop := (-1073658637) ≤ z ∨ (z = (-1073691269) ∧ 2246644663429294 * p0 + 30377364873793670369 * n0 + (-96016906477615809955) ≤ 18446744073709551616 * p ∧ 18446744073709551616 * p ≤ 2246644663429297 * p0 + 30377364873793670372 * n0 + 138853375002317588397 ∧ 30377364873793670369 * p0 + (-2246644663429297) * n0 + (-136103871090334305769) ≤ 18446744073709551616 * q ∧ 18446744073709551616 * q ≤ 30377364873793670372 * p0 + (-2246644663429294) * n0 + 98766410389599092582)
def D15 (p0 n0 p q z : Int) : Prop := (-1073700359) ≤ z ∨ (z = (-1073732991) ∧ 392557451894035 * p0 + 30377365010917978439 * n0 + (-96022934700906190759) ≤ 18446744073709551616 * p ∧ 18446744073709551616 * p ≤ 392557451894039 * p0 + 30377365010917978443 * n0 + 157307300297158525802 ∧ 30377365010917978439 * p0 + (-392557451894039) * n0 + (-154555349671026517680) ≤ 18446744073709551616 * q ∧ 18446744073709551616 * q ≤ 30377365010917978443 * p0 + (-392557451894035) * n0 + 98774885327038198881)
def D16 (p0 n0 p q z : Int) : Prop := (-1073721220) ≤ z ∨ (z = (-1073753852) ∧ (-534486158058296) * p0 + 30377365022897881145 * n0 + (-96025949071185946564) ≤ 18446744073709551616 * p ∧ 18446744073709551616 * p ≤ (-534486158058291) * p0 + 30377365022897881150 * n0 + 175758198075872878351 ∧ 30377365022897881145 * p0 + 534486158058291 * n0 + (-173004461182194174663) ≤ 18446744073709551616 * q ∧ 18446744073709551616 * q ≤ 30377365022897881150 * p0 + 534486158058296 * n0 + 98779685964864650253)
def D17 (p0 n0 p q z : Int) : Prop := (-1073731650) ≤ z ∨ (z = (-1073743422) ∧ (-70964352899332) * p0 + 30377365031053492687 * n0 + (-114475051508498838095) ≤ 18446744073709551616 * p ∧ 18446744073709551616 * p ≤ (-70964352899326) * p0 + 30377365031053492693 * n0 + 175759705334264676213 ∧ 30377365031053492687 * p0 + 70964352899326 * n0 + (-173007143039464619501) ≤ 18446744073709551616 * q ∧ 18446744073709551616 * q ≤ 30377365031053492693 * p0 + 70964352899332 * n0 + 117227613803298894808)
def D18 (p0 n0 p q z : Int) : Prop := (-1073736865) ≤ z ∨ (z = (-1073738207) ∧ 160796549742372 * p0 + 30377365031594907732 * n0 + (-132922974784471006861) ≤ 18446744073709551616 * p ∧ 18446744073709551616 * p ≤ 160796549742379 * p0 + 30377365031594907739 * n0 + 175760599709980338589 ∧ 30377365031594907732 * p0 + (-160796549742379) * n0 + (-173008483979599310852) ≤ 18446744073709551616 * q ∧ 18446744073709551616 * q ≤ 30377365031594907739 * p0 + (-160796549742372) * n0 + 135675090514852034600)
def D19 (p0 n0 p q z : Int) : Prop := (-1073739473) ≤ z ∨ (z = (-1073740815) ∧ 44916098419454 * p0 + 30377365032208297890 * n0 + (-132923492343867807292) ≤ 18446744073709551616 * p ∧ 18446744073709551616 * p ≤ 44916098419462 * p0 + 30377365032208297898 * n0 + 194207933389936479446 ∧ 30377365032208297890 * p0 + (-44916098419462) * n0 + (-191455664745473133867) ≤ 18446744073709551616 * q ∧ 18446744073709551616 * q ≤ 30377365032208297898 * p0 + (-44916098419454) * n0 + 135675760988331152873)
def D20 (p0 n0 p q z : Int) : Prop := (-1073740777) ≤ z ∨ (z = (-1073742119) ∧ (-13024127243175) * p0 + 30377365032293968548 * n0 + (-132923751124845034181) ≤ 18446744073709551616 * p ∧ 18446744073709551616 * p ≤ (-13024127243166) * p0 + 30377365032293968557 * n0 + 212655007451974338717 ∧ 30377365032293968548 * p0 + 13024127243166 * n0 + (-209902627166251987391) ≤ 18446744073709551616 * q ∧ 18446744073709551616 * q ≤ 30377365032293968557 * p0 + 13024127243175 * n0 + 135676131410567385510)
def D21 (p0 n0 p q z : Int) : Prop := (-1073741429) ≤ z ∨ (z = (-1073741467) ∧ 15945985588221 * p0 + 30377365032306389323 * n0 + (-151370677785113016033) ≤ 18446744073709551616 * p ∧ 18446744073709551616 * p ≤ 15945985588231 * p0 + 30377365032306389333 * n0 + 212655136842816214335 ∧ 30377365032306389323 * p0 + (-15945985588231) * n0 + (-209902829969870849519) ≤ 18446744073709551616 * q ∧ 18446744073709551616 * q ≤ 30377365032306389333 * p0 + (-15945985588221) * n0 + 154122984658058380852)
def D22 (p0 n0 p q z : Int) : Prop := (-1073741755) ≤ z ∨ (z = (-1073741793) ∧ 1460929172517 * p0 + 30377365032313992961 * n0 + (-151370751276679034166) ≤ 18446744073709551616 * p ∧ 18446744073709551616 * p ≤ 1460929172528 * p0 + 30377365032313992972 * n0 + 231101972209901685370 ∧ 30377365032313992961 * p0 + (-1460929172528) * n0 + (-228349637426651209262) ≤ 18446744073709551616 * q ∧ 18446744073709551616 * q ≤ 30377365032313992972 * p0 + (-1460929172517) * n0 + 154123086059929510278)
def D23 (p0 n0 p q z : Int) : Prop := (-1073741918) ≤ z ∨ (z = (-1073741956) ∧ (-5781599035337) * p0 + 30377365032314341273 * n0 + (-151370788022486219323) ≤ 18446744073709551616 * p ∧ 18446744073709551616 * p ≤ (-5781599035325) * p0 + 30377365032314341285 * n0 + 249548766328360819502 ∧ 30377365032314341273 * p0 + 5781599035325 * n0 + (-246796413191913686696) ≤ 18446744073709551616 * q ∧ 18446744073709551616 * q ≤ 30377365032314341285 * p0 + 5781599035337 * n0 + 154123141158933352132)
def D24 (p0 n0 p q z : Int) : Prop := (-1073741999) ≤ z ∨ (z = (-1073741875) ∧ (-2160334931411) * p0 + 30377365032315030493 * n0 + (-169817559317597595677) ≤ 18446744073709551616 * p ∧ 18446744073709551616 * p ≤ (-2160334931398) * p0 + 30377365032315030506 * n0 + 249548784701270980394 ∧ 30377365032315030493 * p0 + 2160334931398 * n0 + (-246796442940444828974) ≤ 18446744073709551616 * q ∧ 18446744073709551616 * q ≤ 30377365032315030506 * p0 + 2160334931411 * n0 + 172569901078423747099)
theorem D0_pos {p0 n0 p q z : Int} (h0 : 4096 ≤ p0) (h1 : 4096 ≤ n0) (h : D0 p0 n0 p q z) (hq : ¬ q < 0) : D1 p0 n0 (p + q / 1) (q - p / 1) (z + 536870912) := by
  unfold D0 at h
  unfold D1
  omega
theorem D0_neg {p0 n0 p q z : Int} (h0 : 4096 ≤ p0) (h1 : 4096 ≤ n0) (h : D0 p0 n0 p q z) (hq : q < 0) : D1 p0 n0 (p - q / 1) (q + p / 1) (z - 536870912) := by
  unfold D0 at h
  unfold D1
  omega
theorem D1_pos {p0 n0 p q z : Int} (h0 : 4096 ≤ p0) (h1 : 4096 ≤ n0) (h : D1 p0 n0 p q z) (hq : ¬ q < 0) : D2 p0 n0 (p + q / 2) (q - p / 2) (z + 316933406) := by
  unfold D1 at h
  unfold D2
  omega
theorem D1_neg {p0 n0 p q z : Int} (h0 : 4096 ≤ p0) (h1 : 4096 ≤ n0) (h : D1 p0 n0 p q z) (hq : q < 0) : D2 p0 n0 (p - q / 2) (q + p / 2) (z - 316933406) := by
  unfold D1 at h
  unfold D2
  omega
theorem D2_pos {p0 n0 p q z : Int} (h0 : 4096 ≤ p0) (h1 : 4096 ≤ n0) (h : D2 p0 n0 p q z) (hq : ¬ q < 0) : D3 p0 n0 (p + q / 4) (q - p / 4) (z + 167458907) := by
  unfold D2 at h
  unfold D3
  omega
theorem D2_neg {p0 n0 p q z : Int} (h0 : 4096 ≤ p0) (h1 : 4096 ≤ n0) (h : D2 p0 n0 p q z) (hq : q < 0) : D3 p0 n0 (p - q / 4) (q + p / 4) (z - 167458907) := by
  unfold D2 at h
  unfold D3
  omega
theorem D3_pos {p0 n0 p q z : Int} (h0 : 4096 ≤ p0) (h1 : 4096 ≤ n0) (h : D3 p0 n0 p q z) (hq : ¬ q < 0) : D4 p0 n0 (p + q / 8) (q - p / 8) (z + 85004756) := by
  unfold D3 at h
  unfold D4
  omega
theorem D3_neg {p0 n0 p q z : Int} (h0 : 4096 ≤ p0) (h1 : 4096 ≤ n0) (h : D3 p0 n0 p q z) (hq : q < 0) : D4 p0 n0 (p - q / 8) (q + p / 8) (z - 85004756) := by
  unfold D3 at h
  unfold D4
  omega
theorem D4_pos {p0 n0 p q z : Int} (h0 : 4096 ≤ p0) (h1 : 4096 ≤ n0) (h : D4 p0 n0 p q z) (hq : ¬ q < 0) : D5 p0 n0 (p + q / 16) (q - p / 16) (z + 42667331) := by
  unfold D4 at h
  unfold D5
  omega
theorem D4_neg {p0 n0 p q z : Int} (h0 : 4096 ≤ p0) (h1 : 4096 ≤ n0) (h : D4 p0 n0 p q z) (hq : q < 0) : D5 p0 n0 (p - q / 16) (q + p / 16) (z - 42667331) := by
  unfold D4 at h
  unfold D5
  omega
theorem D5_pos {p0 n0 p q z : Int} (h0 : 4096 ≤ p0) (h1 : 4096 ≤ n0) (h : D5 p0 n0 p q z) (hq : ¬ q < 0) : D6 p0 n0 (p + q / 32) (q - p / 32) (z + 21354465) := by
  unfold D5 at h
  unfold D6
  omega
theorem D5_neg {p0 n0 p q z : Int} (h0 : 4096 ≤ p0) (h1 : 4096 ≤ n0) (h : D5 p0 n0 p q z) (hq : q < 0) : D6 p0 n0 (p - q / 32) (q + p / 32) (z - 21354465) := by
  unfold D5 at h
  unfold D6
  omega
theorem D6_pos {p0 n0 p q z : Int} (h0 : 4096 ≤ p0) (h1 : 4096 ≤ n0) (h : D6 p0 n0 p q z) (hq : ¬ q < 0) : D7 p0 n0 (p + q / 64) (q - p / 64) (z + 10679838) := by
  unfold D6 at h
  unfold D7
  omega
theorem D6_neg {p0 n0 p q z : Int} (h0 : 4096 ≤ p0) (h1 : 4096 ≤ n0) (h : D6 p0 n0 p q z) (hq : q < 0) : D7 p0 n0 (p - q / 64) (q + p / 64) (z - 10679838) := by
  unfold D6 at h
  unfold D7
  omega
theorem D7_pos {p0 n0 p q z : Int} (h0 : 4096 ≤ p0) (h1 : 4096 ≤ n0) (h : D7 p0 n0 p q z) (hq : ¬ q < 0) : D8 p0 n0 (p + q / 128) (q - p / 128) (z + 5340245) := by
  unfold D7 at h
  unfold D8
  omega
theorem D7_neg {p0 n0 p q z : Int} (h0 : 4096 ≤ p0) (h1 : 4096 ≤ n0) (h : D7 p0 n0 p q z) (hq : q < 0) : D8 p0 n0 (p - q / 128) (q + p / 128) (z - 5340245) := by
  unfold D7 at h
  unfold D8
  omega
theorem D8_pos {p0 n0 p q z : Int} (h0 : 4096 ≤ p0) (h1 : 4096 ≤ n0) (h : D8 p0 n0 p q z) (hq : ¬ q < 0) : D9 p0 n0 (p + q / 256) (q - p / 256) (z + 2670163) := by
  unfold D8 at h
  unfold D9
  omega
theorem D8_neg {p0 n0 p q z : Int} (h0 : 4096 ≤ p0) (h1 : 4096 ≤ n0) (h : D8 p0 n0 p q z) (hq : q < 0) : D9 p0 n0 (p - q / 256) (q + p / 256) (z - 2670163) := by
  unfold D8 at h
  unfold D9
  omega
theorem D9_pos {p0 n0 p q z : Int} (h0 : 4096 ≤ p0) (h1 : 4096 ≤ n0) (h : D9 p0 n0 p q z) (hq : ¬ q < 0) : D10 p0 n0 (p + q / 512) (q - p / 512) (z + 1335087) := by
  unfold D9 at h
  unfold D10
  omega
theorem D9_neg {p0 n0 p q z : Int} (h0 : 4096 ≤ p0) (h1 : 4096 ≤ n0) (h : D9 p0 n0 p q z) (hq : q < 0) : D10 p0 n0 (p - q / 512) (q + p / 512) (z - 1335087) := by
  unfold D9 at h
  unfold D10
  omega
theorem D10_pos {p0 n0 p q z : Int} (h0 : 4096 ≤ p0) (h1 : 4096 ≤ n0) (h : D10 p0 n0 p q z) (hq : ¬ q < 0) : D11 p0 n0 (p + q / 1024) (q - p / 1024) (z + 667544) := by
  unfold D10 at h
  unfold D11
  omega
theorem D10_neg {p0 n0 p q z : Int} (h0 : 4096 ≤ p0) (h1 : 4096 ≤ n0) (h : D10 p0 n0 p q z) (hq : q < 0) : D11 p0 n0 (p - q / 1024) (q + p / 1024) (z - 667544) := by
  unfold D10 at h
  unfold D11
  omega
theorem D11_pos {p0 n0 p q z : Int} (h0 : 4096 ≤ p0) (h1 : 4096 ≤ n0) (h : D11 p0 n0 p q z) (hq : ¬ q < 0) : D12 p0 n0 (p + q / 2048) (q - p / 2048) (z + 333772) := by
  unfold D11 at h
  unfold D12
  omega
theorem D11_neg {p0 n0 p q z : Int} (h0 : 4096 ≤ p0) (h1 : 4096 ≤ n0) (h : D11 p0 n0 p q z) (hq : q < 0) : D12 p0 n0 (p - q / 2048) (q + p / 2048) (z - 333772) := by
  unfold D11 at h
  unfold D12
  omega
theorem D12_pos {p0 n0 p q z : Int} (h0 : 4096 ≤ p0) (h1 : 4096 ≤ n0) (h : D12 p0 n0 p q z) (hq : ¬ q < 0) : D13 p0 n0 (p + q / 4096) (q - p / 4096) (z + 166886) := by
  unfold D12 at h
  unfold D13
  omega
theorem D12_neg {p0 n0 p q z : Int} (h0 : 4096 ≤ p0) (h1 : 4096 ≤ n0) (h : D12 p0 n0 p q z) (hq : q < 0) : D13 p0 n0 (p - q / 4096) (q + p / 4096) (z - 166886) := by
  unfold D12 at h
  unfold D13
  omega
theorem D13_pos {p0 n0 p q z : Int} (h0 : 4096 ≤ p0) (h1 : 4096 ≤ n0) (h : D13 p0 n0 p q z) (hq : ¬ q < 0) : D14 p0 n0 (p + q / 8192) (q - p / 8192) (z + 83443) := by
  unfold D13 at h
  unfold D14
  omega
theorem D13_neg {p0 n0 p q z : Int} (h0 : 4096 ≤ p0) (h1 : 4096 ≤ n0) (h : D13 p0 n0 p q z) (hq : q < 0) : D14 p0 n0 (p - q / 8192) (q + p / 8192) (z - 83443) := by
  unfold D13 at h
  unfold D14
  omega
theorem D14_pos {p0 n0 p q z : Int} (h0 : 4096 ≤ p0) (h1 : 4096 ≤ n0) (h : D14 p0 n0 p q z) (hq : ¬ q < 0) : D15 p0 n0 (p + q / 16384) (q - p / 16384) (z + 41722) := by
  unfold D14 at h
  unfold D15
  omega
theorem D14_neg {p0 n0 p q z : Int} (h0 : 4096 ≤ p0) (h1 : 4096 ≤ n0) (h : D14 p0 n0 p q z) (hq : q < 0) : D15 p0 n0 (p - q / 16384) (q + p / 16384) (z - 41722) := by
  unfold D14 at h
  unfold D15
  omega
theorem D15_pos {p0 n0 p q z : Int} (h0 : 4096 ≤ p0) (h1 : 4096 ≤ n0) (h : D15 p0 n0 p q z) (hq : ¬ q < 0) : D16 p0 n0 (p + q / 32768) (q - p / 32768) (z + 20861) := by
  unfold D15 at h
  unfold D16
  omega
theorem D15_neg {p0 n0 p q z : Int} (h0 : 4096 ≤ p0) (h1 : 4096 ≤ n0) (h : D15 p0 n0 p q z) (hq : q < 0) : D16 p0 n0 (p - q / 32768) (q + p / 32768) (z - 20861) := by
  unfold D15 at h
  unfold D16
  omega
theorem D16_pos {p0 n0 p q z : Int} (h0 : 4096 ≤ p0) (h1 : 4096 ≤ n0) (h : D16 p0 n0 p q z) (hq : ¬ q < 0) : D17 p0 n0 (p + q / 65536) (q - p / 65536) (z + 10430) := by
  unfold D16 at h
  unfold D17
  omega
theorem D16_neg {p0 n0 p q z : Int} (h0 : 4096 ≤ p0) (h1 : 4096 ≤ n0) (h : D16 p0 n0 p q z) (hq : q < 0) : D17 p0 n0 (p - q / 65536) (q + p / 65536) (z - 10430) := by
  unfold D16 at h
  unfold D17
  omega
theorem D17_pos {p0 n0 p q z : Int} (h0 : 4096 ≤ p0) (h1 : 4096 ≤ n0) (h : D17 p0 n0 p q z) (hq : ¬ q < 0) : D18 p0 n0 (p + q / 131072) (q - p / 131072) (z + 5215) := by
  unfold D17 at h
  unfold D18
  omega
theorem D17_neg {p0 n0 p q z : Int} (h0 : 4096 ≤ p0) (h1 : 4096 ≤ n0) (h : D17 p0 n0 p q z) (hq : q < 0) : D18 p0 n0 (p - q / 131072) (q + p / 131072) (z - 5215) := by
  unfold D17 at h
  unfold D18
  omega
theorem D18_pos {p0 n0 p q z : Int} (h0 : 4096 ≤ p0) (h1 : 4096 ≤ n0) (h : D18 p0 n0 p q z) (hq : ¬ q < 0) : D19 p0 n0 (p + q / 262144) (q - p / 262144) (z + 2608) := by
  unfold D18 at h
  unfold D19
  omega
theorem D18_neg {p0 n0 p q z : Int} (h0 : 4096 ≤ p0) (h1 : 4096 ≤ n0) (h : D18 p0 n0 p q z) (hq : q < 0) : D19 p0 n0 (p - q / 262144) (q + p / 262144) (z - 2608) := by
  unfold D18 at h
  unfold D19
  omega
theorem D19_pos {p0 n0 p q z : Int} (h0 : 4096 ≤ p0) (h1 : 4096 ≤ n0) (h : D19 p0 n0 p q z) (hq : ¬ q < 0) : D20 p0 n0 (p + q / 524288) (q - p / 524288) (z + 1304) := by
  unfold D19 at h
  unfold D20
  omega
theorem D19_neg {p0 n0 p q z : Int} (h0 : 4096 ≤ p0) (h1 : 4096 ≤ n0) (h : D19 p0 n0 p q z) (hq : q < 0) : D20 p0 n0 (p - q / 524288) (q + p / 524288) (z - 1304) := by
  unfold D19 at h
  unfold D20
  omega
theorem D20_pos {p0 n0 p q z : Int} (h0 : 4096 ≤ p0) (h1 : 4096 ≤ n0) (h : D20 p0 n0 p q z) (hq : ¬ q < 0) : D21 p0 n0 (p + q / 1048576) (q - p / 1048576) (z + 652) := by
  unfold D20 at h
  unfold D21
  omega
theorem D20_neg {p0 n0 p q z : Int} (h0 : 4096 ≤ p0) (h1 : 4096 ≤ n0) (h : D20 p0 n0 p q z) (hq : q < 0) : D21 p0 n0 (p - q / 1048576) (q + p / 1048576) (z - 652) := by
  unfold D20 at h
  unfold D21
  omega
theorem D21_pos {p0 n0 p q z : Int} (h0 : 4096 ≤ p0) (h1 : 4096 ≤ n0) (h : D21 p0 n0 p q z) (hq : ¬ q < 0) : D22 p0 n0 (p + q / 2097152) (q - p / 2097152) (z + 326) := by
  unfold D21 at h
  unfold D22
  omega
theorem D21_neg {p0 n0 p q z : Int} (h0 : 4096 ≤ p0) (h1 : 4096 ≤ n0) (h : D21 p0 n0 p q z) (hq : q < 0) : D22 p0 n0 (p - q / 2097152) (q + p / 2097152) (z - 326) := by
  unfold D21 at h
  unfold D22
  omega
theorem D22_pos {p0 n0 p q z : Int} (h0 : 4096 ≤ p0) (h1 : 4096 ≤ n0) (h : D22 p0 n0 p q z) (hq : ¬ q < 0) : D23 p0 n0 (p + q / 4194304) (q - p / 4194304) (z + 163) := by
  unfold D22 at h
  unfold D23
  omega
theorem D22_neg {p0 n0 p q z : Int} (h0 : 4096 ≤ p0) (h1 : 4096 ≤ n0) (h : D22 p0 n0 p q z) (hq : q < 0) : D23 p0 n0 (p - q / 4194304) (q + p / 4194304) (z - 163) := by
  unfold D22 at h
  unfold D23
  omega
theorem D23_pos {p0 n0 p q z : Int} (h0 : 4096 ≤ p0) (h1 : 4096 ≤ n0) (h : D23 p0 n0 p q z) (hq : ¬ q < 0) : D24 p0 n0 (p + q / 8388608) (q - p / 8388608) (z + 81) := by
  unfold D23 at h
  unfold D24
  omega
theorem D23_neg {p0 n0 p q z : Int} (h0 : 4096 ≤ p0) (h1 : 4096 ≤ n0) (h : D23 p0 n0 p q z) (hq : q < 0) : D24 p0 n0 (p - q / 8388608) (q + p / 8388608) (z - 81) := by
  unfold D23 at h
  unfold D24
  omega
theorem D0_step {p0 n0 : Int} {s : Int × Int × Int} (h0 : 4096 ≤ p0) (h1 : 4096 ≤ n0) (h : D0 p0 n0 s.1 s.2.1 s.2.2) : D1 p0 n0 (stA 0 s).1 (stA 0 s).2.1 (stA 0 s).2.2 := by
  unfold stA
  split
  · exact D0_neg h0 h1 h ‹_›
  · exact D0_pos h0 h1 h ‹_›
theorem D1_step {p0 n0 : Int} {s : Int × Int × Int} (h0 : 4096 ≤ p0) (h1 : 4096 ≤ n0) (h : D1 p0 n0 s.1 s.2.1 s.2.2) : D2 p0 n0 (stA 1 s).1 (stA 1 s).2.1 (stA 1 s).2.2 := by
  unfold stA
  split
  · exact D1_neg h0 h1 h ‹_›
  · exact D1_pos h0 h1 h ‹_›
theorem D2_step {p0 n0 : Int} {s : Int × Int × Int} (h0 : 4096 ≤ p0) (h1 : 4096 ≤ n0) (h : D2 p0 n0 s.1 s.2.1 s.2.2) : D3 p0 n0 (stA 2 s).1 (stA 2 s).2.1 (stA 2 s).2.2 := by
  unfold stA
  split
  · exact D2_neg h0 h1 h ‹_›
  · exact D2_pos h0 h1 h ‹_›
theorem D3_step {p0 n0 : Int} {s : Int × Int × Int} (h0 : 4096 ≤ p0) (h1 : 4096 ≤ n0) (h : D3 p0 n0 s.1 s.2.1 s.2.2) : D4 p0 n0 (stA 3 s).1 (stA 3 s).2.1 (stA 3 s).2.2 := by
  unfold stA
  split
  · exact D3_neg h0 h1 h ‹_›
  · exact D3_pos h0 h1 h ‹_›
theorem D4_step {p0 n0 : Int} {s : Int × Int × Int} (h0 : 4096 ≤ p0) (h1 : 4096 ≤ n0) (h : D4 p0 n0 s.1 s.2.1 s.2.2) : D5 p0 n0 (stA 4 s).1 (stA 4 s).2.1 (stA 4 s).2.2 := by
  unfold stA
  split
  · exact D4_neg h0 h1 h ‹_›
  · exact D4_pos h0 h1 h ‹_›
theorem D5_step {p0 n0 : Int} {s : Int × Int × Int} (h0 : 4096 ≤ p0) (h1 : 4096 ≤ n0) (h : D5 p0 n0 s.1 s.2.1 s.2.2) : D6 p0 n0 (stA 5 s).1 (stA 5 s).2.1 (stA 5 s).2.2 := by
  unfold stA
  split
  · exact D5_neg h0 h1 h ‹_›
  · exact D5_pos h0 h1 h ‹_›
theorem D6_step {p0 n0 : Int} {s : Int × Int × Int} (h0 : 4096 ≤ p0) (h1 : 4096 ≤ n0) (h : D6 p0 n0 s.1 s.2.1 s.2.2) : D7 p0 n0 (stA 6 s).1 (stA 6 s).2.1 (stA 6 s).2.2 := by
  unfold stA
  split
  · exact D6_neg h0 h1 h ‹_›
  · exact D6_pos h0 h1 h ‹_›
theorem D7_step {p0 n0 : Int} {s : Int × Int × Int} (h0 : 4096 ≤ p0) (h1 : 4096 ≤ n0) (h : D7 p0 n0 s.1 s.2.1 s.2.2) : D8 p0 n0 (stA 7 s).1 (stA 7 s).2.1 (stA 7 s).2.2 := by
  unfold stA
  split
  · exact D7_neg h0 h1 h ‹_›
  · exact D7_pos h0 h1 h ‹_›
theorem D8_step {p0 n0 : Int} {s : Int × Int × Int} (h0 : 4096 ≤ p0) (h1 : 4096 ≤ n0) (h : D8 p0 n0 s.1 s.2.1 s.2.2) : D9 p0 n0 (stA 8 s).1 (stA 8 s).2.1 (stA 8 s).2.2 := by
  unfold stA
  split
  · exact D8_neg h0 h1 h ‹_›
  · exact D8_pos h0 h1 h ‹_›
theorem D9_step {p0 n0 : Int} {s : Int × Int × Int} (h0 : 4096 ≤ p0) (h1 : 4096 ≤ n0) (h : D9 p0 n0 s.1 s.2.1 s.2.2) : D10 p0 n0 (stA 9 s).1 (stA 9 s).2.1 (stA 9 s).2.2 := by
  unfold stA
  split
  · exact D9_neg h0 h1 h ‹_›
  · exact D9_pos h0 h1 h ‹_›
theorem D10_step {p0 n0 : Int} {s : Int × Int × Int} (h0 : 4096 ≤ p0) (h1 : 4096 ≤ n0) (h : D10 p0 n0 s.1 s.2.1 s.2.2) : D11 p0 n0 (stA 10 s).1 (stA 10 s).2.1 (stA 10 s).2.2 := by
  unfold stA
  split
  · exact D10_neg h0 h1 h ‹_›
  · exact D10_pos h0 h1 h ‹_›
theorem D11_step {p0 n0 : Int} {s : Int × Int × Int} (h0 : 4096 ≤ p0) (h1 : 4096 ≤ n0) (h : D11 p0 n0 s.1 s.2.1 s.2.2) : D12 p0 n0 (stA 11 s).1 (stA 11 s).2.1 (stA 11 s).2.2 := by
  unfold stA
  split
  · exact D11_neg h0 h1 h ‹_›
  · exact D11_pos h0 h1 h ‹_›
theorem D12_step {p0 n0 : Int} {s : Int × Int × Int} (h0 : 4096 ≤ p0) (h1 : 4096 ≤ n0) (h : D12 p0 n0 s.1 s.2.1 s.2.2) : D13 p0 n0 (stA 12 s).1 (stA 12 s).2.1 (stA 12 s).2.2 := by
  unfold stA
  split
  · exact D12_neg h0 h1 h ‹_›
  · exact D12_pos h0 h1 h ‹_›
theorem D13_step {p0 n0 : Int} {s : Int × Int × Int} (h0 : 4096 ≤ p0) (h1 : 4096 ≤ n0) (h : D13 p0 n0 s.1 s.2.1 s.2.2) : D14 p0 n0 (stA 13 s).1 (stA 13 s).2.1 (stA 13 s).2.2 := by
  unfold stA
  split
  · exact D13_neg h0 h1 h ‹_›
  · exact D13_pos h0 h1 h ‹_›
theorem D14_step {p0 n0 : Int} {s : Int × Int × Int} (h0 : 4096 ≤ p0) (h1 : 4096 ≤ n0) (h : D14 p0 n0 s.1 s.2.1 s.2.2) : D15 p0 n0 (stA 14 s).1 (stA 14 s).2.1 (stA 14 s).2.2 := by
  unfold stA
  split
  · exact D14_neg h0 h1 h ‹_›
  · exact D14_pos h0 h1 h ‹_›
theorem D15_step {p0 n0 : Int} {s : Int × Int × Int} (h0 : 4096 ≤ p0) (h1 : 4096 ≤ n0) (h : D15 p0 n0 s.1 s.2.1 s.2.2) : D16 p0 n0 (stA 15 s).1 (stA 15 s).2.1 (stA 15 s).2.2 := by
  unfold stA
  split
  · exact D15_neg h0 h1 h ‹_›
  · exact D15_pos h0 h1 h ‹_›
theorem D16_step {p0 n0 : Int} {s : Int × Int × Int} (h0 : 4096 ≤ p0) (h1 : 4096 ≤ n0) (h : D16 p0 n0 s.1 s.2.1 s.2.2) : D17 p0 n0 (stA 16 s).1 (stA 16 s).2.1 (stA 16 s).2.2 := by
  unfold stA
  split
  · exact D16_neg h0 h1 h ‹_›
  · exact D16_pos h0 h1 h ‹_›
theorem D17_step {p0 n0 : Int} {s : Int × Int × Int} (h0 : 4096 ≤ p0) (h1 : 4096 ≤ n0) (h : D17 p0 n0 s.1 s.2.1 s.2.2) : D18 p0 n0 (stA 17 s).1 (stA 17 s).2.1 (stA 17 s).2.2 := by
  unfold stA
  split
  · exact D17_neg h0 h1 h ‹_›
  · exact D17_pos h0 h1 h ‹_›
theorem D18_step {p0 n0 : Int} {s : Int × Int × Int} (h0 : 4096 ≤ p0) (h1 : 4096 ≤ n0) (h : D18 p0 n0 s.1 s.2.1 s.2.2) : D19 p0 n0 (stA 18 s).1 (stA 18 s).2.1 (stA 18 s).2.2 := by
  unfold stA
  split
  · exact D18_neg h0 h1 h ‹_›
  · exact D18_pos h0 h1 h ‹_›
theorem D19_step {p0 n0 : Int} {s : Int × Int × Int} (h0 : 4096 ≤ p0) (h1 : 4096 ≤ n0) (h : D19 p0 n0 s.1 s.2.1 s.2.2) : D20 p0 n0 (stA 19 s).1 (stA 19 s).2.1 (stA 19 s).2.2 := by
  unfold stA
  split
  · exact D19_neg h0 h1 h ‹_›
  · exact D19_pos h0 h1 h ‹_›
theorem D20_step {p0 n0 : Int} {s : Int × Int × Int} (h0 : 4096 ≤ p0) (h1 : 4096 ≤ n0) (h : D20 p0 n0 s.1 s.2.1 s.2.2) : D21 p0 n0 (stA 20 s).1 (stA 20 s).2.1 (stA 20 s).2.2 := by
  unfold stA
  split
  · exact D20_neg h0 h1 h ‹_›
  · exact D20_pos h0 h1 h ‹_›
theorem D21_step {p0 n0 : Int} {s : Int × Int × Int} (h0 : 4096 ≤ p0) (h1 : 4096 ≤ n0) (h : D21 p0 n0 s.1 s.2.1 s.2.2) : D22 p0 n0 (stA 21 s).1 (stA 21 s).2.1 (stA 21 s).2.2 := by
  unfold stA
  split
  · exact D21_neg h0 h1 h ‹_›
  · exact D21_pos h0 h1 h ‹_›
theorem D22_step {p0 n0 : Int} {s : Int × Int × Int} (h0 : 4096 ≤ p0) (h1 : 4096 ≤ n0) (h : D22 p0 n0 s.1 s.2.1 s.2.2) : D23 p0 n0 (stA 22 s).1 (stA 22 s).2.1 (stA 22 s).2.2 := by
  unfold stA
  split
  · exact D22_neg h0 h1 h ‹_›
  · exact D22_pos h0 h1 h ‹_›
theorem D23_step {p0 n0 : Int} {s : Int × Int × Int} (h0 : 4096 ≤ p0) (h1 : 4096 ≤ n0) (h : D23 p0 n0 s.1 s.2.1 s.2.2) : D24 p0 n0 (stA 23 s).1 (stA 23 s).2.1 (stA 23 s).2.2 := by
  unfold stA
  split
  · exact D23_neg h0 h1 h ‹_›
  · exact D23_pos h0 h1 h ‹_›
theorem D_all {p0 n0 : Int} {r : Nat → Int × Int × Int} (h0 : 4096 ≤ p0) (h1 : 4096 ≤ n0) (e : r 0 = (p0, -n0, 0)) (hs : ∀ n, r (n + 1) = stA n (r n)) : D24 p0 n0 (r 24).1 (r 24).2.1 (r 24).2.2 := by
  have r0 : D0 p0 n0 (r 0).1 (r 0).2.1 (r 0).2.2 := by
    rw [e]
    show D0 p0 n0 p0 (-n0) 0
    unfold D0
    omega
  have r1 : D1 p0 n0 (r 1).1 (r 1).2.1 (r 1).2.2 := by rw [show r 1 = stA 0 (r 0) from hs 0]; exact D0_step h0 h1 r0
  have r2 : D2 p0 n0 (r 2).1 (r 2).2.1 (r 2).2.2 := by rw [show r 2 = stA 1 (r 1) from hs 1]; exact D1_step h0 h1 r1
  have r3 : D3 p0 n0 (r 3).1 (r 3).2.1 (r 3).2.2 := by rw [show r 3 = stA 2 (r 2) from hs 2]; exact D2_step h0 h1 r2
  have r4 : D4 p0 n0 (r 4).1 (r 4).2.1 (r 4).2.2 := by rw [show r 4 = stA 3 (r 3) from hs 3]; exact D3_step h0 h1 r3
  have r5 : D5 p0 n0 (r 5).1 (r 5).2.1 (r 5).2.2 := by rw [show r 5 = stA 4 (r 4) from hs 4]; exact D4_step h0 h1 r4
  have r6 : D6 p0 n0 (r 6).1 (r 6).2.1 (r 6).2.2 := by rw [show r 6 = stA 5 (r 5) from hs 5]; exact D5_step h0 h1 r5
  have r7 : D7 p0 n0 (r 7).1 (r 7).2.1 (r 7).2.2 := by rw [show r 7 = stA 6 (r 6) from hs 6]; exact D6_step h0 h1 r6
  have r8 : D8 p0 n0 (r 8).1 (r 8).2.1 (r 8).2.2 := by rw [show r 8 = stA 7 (r 7) from hs 7]; exact D7_step h0 h1 r7
  have r9 : D9 p0 n0 (r 9).1 (r 9).2.1 (r 9).2.2 := by rw [show r 9 = stA 8 (r 8) from hs 8]; exact D8_step h0 h1 r8
  have r10 : D10 p0 n0 (r 10).1 (r 10).2.1 (r 10).2.2 := by rw [show r 10 = stA 9 (r 9) from hs 9]; exact D9_step h0 h1 r9
  have r11 : D11 p0 n0 (r 11).1 (r 11).2.1 (r 11).2.2 := by rw [show r 11 = stA 10 (r 10) from hs 10]; exact D10_step h0 h1 r10
  have r12 : D12 p0 n0 (r 12).1 (r 12).2.1 (r 12).2.2 := by rw [show r 12 = stA 11 (r 11) from hs 11]; exact D11_step h0 h1 r11
  have r13 : D13 p0 n0 (r 13).1 (r 13).2.1 (r 13).2.2 := by rw [show r 13 = stA 12 (r 12) from hs 12]; exact D12_step h0 h1 r12
  have r14 : D14 p0 n0 (r 14).1 (r 14).2.1 (r 14).2.2 := by rw [show r 14 = stA 13 (r 13) from hs 13]; exact D13_step h0 h1 r13
  have r15 : D15 p0 n0 (r 15).1 (r 15).2.1 (r 15).2.2 := by rw [show r 15 = stA 14 (r 14) from hs 14]; exact D14_step h0 h1 r14
  have r16 : D16 p0 n0 (r 16).1 (r 16).2.1 (r 16).2.2 := by rw [show r 16 = stA 15 (r 15) from hs 15]; exact D15_step h0 h1 r15
  have r17 : D17 p0 n0 (r 17).1 (r 17).2.1 (r 17).2.2 := by rw [show r 17 = stA 16 (r 16) from hs 16]; exact D16_step h0 h1 r16
  have r18 : D18 p0 n0 (r 18).1 (r 18).2.1 (r 18).2.2 := by rw [show r 18 = stA 17 (r 17) from hs 17]; exact D17_step h0 h1 r17
  have r19 : D19 p0 n0 (r 19).1 (r 19).2.1 (r 19).2.2 := by rw [show r 19 = stA 18 (r 18) from hs 18]; exact D18_step h0 h1 r18
  have r20 : D20 p0 n0 (r 20).1 (r 20).2.1 (r 20).2.2 := by rw [show r 20 = stA 19 (r 19) from hs 19]; exact D19_step h0 h1 r19
  have r21 : D21 p0 n0 (r 21).1 (r 21).2.1 (r 21).2.2 := by rw [show r 21 = stA 20 (r 20) from hs 20]; exact D20_step h0 h1 r20
  have r22 : D22 p0 n0 (r 22).1 (r 22).2.1 (r 22).2.2 := by rw [show r 22 = stA 21 (r 21) from hs 21]; exact D21_step h0 h1 r21
  have r23 : D23 p0 n0 (r 23).1 (r 23).2.1 (r 23).2.2 := by rw [show r 23 = stA 22 (r 22) from hs 22]; exact D22_step h0 h1 r22
  have r24 : D24 p0 n0 (r 24).1 (r 24).2.1 (r 24).2.2 := by rw [show r 24 = stA 23 (r 23) from hs 23]; exact D23_step h0 h1 r23
  exact r24
end Go.Proofs.Ytliebglildaneaa.Tm
