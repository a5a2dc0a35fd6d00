/-
  Plain arithmetic: how the angle is bounded on its way, case C: each bound is reckoned ahead, and held step by step.
-/
import Derived.Test.YtliebglildaneaaTrigM
set_option linter.unusedVariables false
namespace Go.Proofs.Ytliebglildaneaa.Tm
def C0 (p0 n0 p q z : Int) : Prop := z ≤ (-1191649942) ∨ (z = 0 ∧ 18446744073709551616 * p0 + 0 * n0 + 0 ≤ 18446744073709551616 * p ∧ 18446744073709551616 * p ≤ 18446744073709551616 * p0 + 0 * n0 + 0 ∧ 0 * p0 + (-18446744073709551616) * n0 + 0 ≤ 18446744073709551616 * q ∧ 18446744073709551616 * q ≤ 0 * p0 + (-18446744073709551616) * n0 + 0)
def C1 (p0 n0 p q z : Int) : Prop := z ≤ (-654779030) ∨ (z = (-536870912) ∧ 18446744073709551616 * p0 + 18446744073709551616 * n0 + 0 ≤ 18446744073709551616 * p ∧ 18446744073709551616 * p ≤ 18446744073709551616 * p0 + 18446744073709551616 * n0 + 0 ∧ 18446744073709551616 * p0 + (-18446744073709551616) * n0 + 0 ≤ 18446744073709551616 * q ∧ 18446744073709551616 * q ≤ 18446744073709551616 * p0 + (-18446744073709551616) * n0 + 0)
def C2 (p0 n0 p q z : Int) : Prop := z ≤ (-337845624) ∨ (z = (-219937506) ∧ 27670116110564327424 * p0 + 9223372036854775808 * n0 + (-9223372036854775808) ≤ 18446744073709551616 * p ∧ 18446744073709551616 * p ≤ 27670116110564327424 * p0 + 9223372036854775808 * n0 + 0 ∧ 9223372036854775808 * p0 + (-27670116110564327424) * n0 + 0 ≤ 18446744073709551616 * q ∧ 18446744073709551616 * q ≤ 9223372036854775808 * p0 + (-27670116110564327424) * n0 + 9223372036854775808)
def C3 (p0 n0 p q z : Int) : Prop := z ≤ (-170386717) ∨ (z = (-52478599) ∧ 29975959119778021376 * p0 + 2305843009213693952 * n0 + (-23058430092136939520) ≤ 18446744073709551616 * p ∧ 18446744073709551616 * p ≤ 29975959119778021376 * p0 + 2305843009213693952 * n0 + 2305843009213693952 ∧ 2305843009213693952 * p0 + (-29975959119778021376) * n0 + 0 ≤ 18446744073709551616 * q ∧ 18446744073709551616 * q ≤ 2305843009213693952 * p0 + (-29975959119778021376) * n0 + 25364273101350633472)
def C4 (p0 n0 p q z : Int) : Prop := z ≤ (-85381961) ∨ (z = 32526157 ∧ 30264189495929733120 * p0 + (-1441151880758558720) * n0 + (-39199331156632797184) ≤ 18446744073709551616 * p ∧ 18446744073709551616 * p ≤ 30264189495929733120 * p0 + (-1441151880758558720) * n0 + 5476377146882523136 ∧ (-1441151880758558720) * p0 + (-30264189495929733120) * n0 + (-288230376151711744) ≤ 18446744073709551616 * q ∧ 18446744073709551616 * q ≤ (-1441151880758558720) * p0 + (-30264189495929733120) * n0 + 44387477927363608576)
def C5 (p0 n0 p q z : Int) : Prop := z ≤ (-42714630) ∨ (z = (-10141174) ∧ 30354261488477143040 * p0 + 450359962737049600 * n0 + (-41973548527093022720) ≤ 18446744073709551616 * p ∧ 18446744073709551616 * p ≤ 30354261488477143040 * p0 + 450359962737049600 * n0 + 22788214114494709760 ∧ 450359962737049600 * p0 + (-30354261488477143040) * n0 + (-20032011142543966208) ≤ 18446744073709551616 * q ∧ 18446744073709551616 * q ≤ 450359962737049600 * p0 + (-30354261488477143040) * n0 + 44729751499043766272)
def C6 (p0 n0 p q z : Int) : Prop := z ≤ (-21360165) ∨ (z = 11213291 ∧ 30368335237312675840 * p0 + (-498210708777861120) * n0 + (-60469832196703649792) ≤ 18446744073709551616 * p ∧ 18446744073709551616 * p ≤ 30368335237312675840 * p0 + (-498210708777861120) * n0 + 24186018848839827456 ∧ (-498210708777861120) * p0 + (-30368335237312675840) * n0 + (-20744142833621925888) ≤ 18446744073709551616 * q ∧ 18446744073709551616 * q ≤ (-498210708777861120) * p0 + (-30368335237312675840) * n0 + 63911708211921551360)
def C7 (p0 n0 p q z : Int) : Prop := z ≤ (-10680327) ∨ (z = 533453 ∧ 30376119779637329920 * p0 + (-23705470694850560) * n0 + (-61468452637514924032) ≤ 18446744073709551616 * p ∧ 18446744073709551616 * p ≤ 30376119779637329920 * p0 + (-23705470694850560) * n0 + 42668659778173009920 ∧ (-23705470694850560) * p0 + (-30376119779637329920) * n0 + (-39847497659253260288) ≤ 18446744073709551616 * q ∧ 18446744073709551616 * q ≤ (-23705470694850560) * p0 + (-30376119779637329920) * n0 + 64289614756434673664)
def C8 (p0 n0 p q z : Int) : Prop := z ≤ (-5340082) ∨ (z = (-4806792) ∧ 30376304978627133440 * p0 + 213607965083566080 * n0 + (-61970715252799569920) ≤ 18446744073709551616 * p ∧ 18446744073709551616 * p ≤ 30376304978627133440 * p0 + 213607965083566080 * n0 + 61282597239269621760 ∧ 213607965083566080 * p0 + (-30376304978627133440) * n0 + (-58630348831117541376) ≤ 18446744073709551616 * q ∧ 18446744073709551616 * q ≤ 213607965083566080 * p0 + (-30376304978627133440) * n0 + 64622963660951650304)
def C9 (p0 n0 p q z : Int) : Prop := z ≤ (-2669919) ∨ (z = (-2136629) ∧ 30377139384740741120 * p0 + 94950523760803840 * n0 + (-80574426532592746496) ≤ 18446744073709551616 * p ∧ 18446744073709551616 * p ≤ 30377139384740741120 * p0 + 94950523760803840 * n0 + 61535030691070214144 ∧ 94950523760803840 * p0 + (-30377139384740741120) * n0 + (-58869733976583438336) ≤ 18446744073709551616 * q ∧ 18446744073709551616 * q ≤ 94950523760803840 * p0 + (-30377139384740741120) * n0 + 83239723247079522304)
def C10 (p0 n0 p q z : Int) : Prop := z ≤ (-1334832) ∨ (z = (-801542) ∧ 30377324834982461440 * p0 + 35620173399982080 * n0 + (-99100121758456348672) ≤ 18446744073709551616 * p ∧ 18446744073709551616 * p ≤ 30377324834982461440 * p0 + 35620173399982080 * n0 + 61697608275537166336 ∧ 35620173399982080 * p0 + (-30377324834982461440) * n0 + (-58989919583401934848) ≤ 18446744073709551616 * q ∧ 18446744073709551616 * q ≤ 35620173399982080 * p0 + (-30377324834982461440) * n0 + 101807810450591580160)
def C11 (p0 n0 p q z : Int) : Prop := z ≤ (-667288) ∨ (z = (-133998) ∧ 30377359620308047360 * p0 + 5954817115819520 * n0 + (-117586458776999584256) ≤ 18446744073709551616 * p ∧ 18446744073709551616 * p ≤ 30377359620308047360 * p0 + 5954817115819520 * n0 + 61797029965430322176 ∧ 5954817115819520 * p0 + (-30377359620308047360) * n0 + (-59050171153983514112) ≤ 18446744073709551616 * q ∧ 18446744073709551616 * q ≤ 5954817115819520 * p0 + (-30377359620308047360) * n0 + 120333317588446392320)
def C12 (p0 n0 p q z : Int) : Prop := z ≤ (-333516) ∨ (z = 199774 ∧ 30377362527933592193 * p0 + (-8877878011284019) * n0 + (-136053028742838175893) ≤ 18446744073709551616 * p ∧ 18446744073709551616 * p ≤ 30377362527933592194 * p0 + (-8877878011284018) * n0 + 61855786468159055766 ∧ (-8877878011284019) * p0 + (-30377362527933592194) * n0 + (-59080345485021321887) ≤ 18446744073709551616 * q ∧ 18446744073709551616 * q ≤ (-8877878011284018) * p0 + (-30377362527933592193) * n0 + 138828469725975909773)
def C13 (p0 n0 p q z : Int) : Prop := z ≤ (-166630) ∨ (z = 32888 ∧ 30377364695384278541 * p0 + (-1461529737862732) * n0 + (-136086922412204869231) ≤ 18446744073709551616 * p ∧ 18446744073709551616 * p ≤ 30377364695384278543 * p0 + (-1461529737862730) * n0 + 80312450854713165920 ∧ (-1461529737862732) * p0 + (-30377364695384278543) * n0 + (-77555802030573922484) ≤ 18446744073709551616 * q ∧ 18446744073709551616 * q ≤ (-1461529737862730) * p0 + (-30377364695384278541) * n0 + 138843571236344112668)
def C14 (p0 n0 p q z : Int) : Prop := z ≤ (-83187) ∨ (z = (-50555) ∧ 30377364873793670369 * p0 + 2246644663429294 * n0 + (-136103871090334305769) ≤ 18446744073709551616 * p ∧ 18446744073709551616 * p ≤ 30377364873793670372 * p0 + 2246644663429297 * n0 + 98766410389599092582 ∧ 2246644663429294 * p0 + (-30377364873793670372) * n0 + (-96016906477615809955) ≤ 18446744073709551616 * q ∧ 18446744073709551616 * q ≤ 2246644663429297 * p0 + (-30377364873793670369) * n0 + 138853375002317588397)
def C15 (p0 n0 p q z : Int) : Prop := z ≤ (-41465) ∨ (z = (-8833) ∧ 30377365010917978439 * p0 + 392557451894035 * n0 + (-154555349671026517680) ≤ 18446744073709551616 * p ∧ 18446744073709551616 * p ≤ 30377365010917978443 * p0 + 392557451894039 * n0 + 98774885327038198881 ∧ 392557451894035 * p0 + (-30377365010917978443) * n0 + (-96022934700906190759) ≤ 18446744073709551616 * q ∧ 18446744073709551616 * q ≤ 392557451894039 * p0 + (-30377365010917978439) * n0 + 157307300297158525802)
def C16 (p0 n0 p q z : Int) : Prop := z ≤ (-20604) ∨ (z = 12028 ∧ 30377365022897881145 * p0 + (-534486158058296) * n0 + (-173004461182194174663) ≤ 18446744073709551616 * p ∧ 18446744073709551616 * p ≤ 30377365022897881150 * p0 + (-534486158058291) * n0 + 98779685964864650253 ∧ (-534486158058296) * p0 + (-30377365022897881150) * n0 + (-96025949071185946564) ≤ 18446744073709551616 * q ∧ 18446744073709551616 * q ≤ (-534486158058291) * p0 + (-30377365022897881145) * n0 + 175758198075872878351)
def C17 (p0 n0 p q z : Int) : Prop := z ≤ (-10174) ∨ (z = 1598 ∧ 30377365031053492687 * p0 + (-70964352899332) * n0 + (-173007143039464619501) ≤ 18446744073709551616 * p ∧ 18446744073709551616 * p ≤ 30377365031053492693 * p0 + (-70964352899326) * n0 + 117227613803298894808 ∧ (-70964352899332) * p0 + (-30377365031053492693) * n0 + (-114475051508498838095) ≤ 18446744073709551616 * q ∧ 18446744073709551616 * q ≤ (-70964352899326) * p0 + (-30377365031053492687) * n0 + 175759705334264676213)
def C18 (p0 n0 p q z : Int) : Prop := z ≤ (-4959) ∨ (z = (-3617) ∧ 30377365031594907732 * p0 + 160796549742372 * n0 + (-173008483979599310852) ≤ 18446744073709551616 * p ∧ 18446744073709551616 * p ≤ 30377365031594907739 * p0 + 160796549742379 * n0 + 135675090514852034600 ∧ 160796549742372 * p0 + (-30377365031594907739) * n0 + (-132922974784471006861) ≤ 18446744073709551616 * q ∧ 18446744073709551616 * q ≤ 160796549742379 * p0 + (-30377365031594907732) * n0 + 175760599709980338589)
def C19 (p0 n0 p q z : Int) : Prop := z ≤ (-2351) ∨ (z = (-1009) ∧ 30377365032208297890 * p0 + 44916098419454 * n0 + (-191455664745473133867) ≤ 18446744073709551616 * p ∧ 18446744073709551616 * p ≤ 30377365032208297898 * p0 + 44916098419462 * n0 + 135675760988331152873 ∧ 44916098419454 * p0 + (-30377365032208297898) * n0 + (-132923492343867807292) ≤ 18446744073709551616 * q ∧ 18446744073709551616 * q ≤ 44916098419462 * p0 + (-30377365032208297890) * n0 + 194207933389936479446)
def C20 (p0 n0 p q z : Int) : Prop := z ≤ (-1047) ∨ (z = 295 ∧ 30377365032293968548 * p0 + (-13024127243175) * n0 + (-209902627166251987391) ≤ 18446744073709551616 * p ∧ 18446744073709551616 * p ≤ 30377365032293968557 * p0 + (-13024127243166) * n0 + 135676131410567385510 ∧ (-13024127243175) * p0 + (-30377365032293968557) * n0 + (-132923751124845034181) ≤ 18446744073709551616 * q ∧ 18446744073709551616 * q ≤ (-13024127243166) * p0 + (-30377365032293968548) * n0 + 212655007451974338717)
def C21 (p0 n0 p q z : Int) : Prop := z ≤ (-395) ∨ (z = (-357) ∧ 30377365032306389323 * p0 + 15945985588221 * n0 + (-209902829969870849519) ≤ 18446744073709551616 * p ∧ 18446744073709551616 * p ≤ 30377365032306389333 * p0 + 15945985588231 * n0 + 154122984658058380852 ∧ 15945985588221 * p0 + (-30377365032306389333) * n0 + (-151370677785113016033) ≤ 18446744073709551616 * q ∧ 18446744073709551616 * q ≤ 15945985588231 * p0 + (-30377365032306389323) * n0 + 212655136842816214335)
def C22 (p0 n0 p q z : Int) : Prop := z ≤ (-69) ∨ (z = (-31) ∧ 30377365032313992961 * p0 + 1460929172517 * n0 + (-228349637426651209262) ≤ 18446744073709551616 * p ∧ 18446744073709551616 * p ≤ 30377365032313992972 * p0 + 1460929172528 * n0 + 154123086059929510278 ∧ 1460929172517 * p0 + (-30377365032313992972) * n0 + (-151370751276679034166) ≤ 18446744073709551616 * q ∧ 18446744073709551616 * q ≤ 1460929172528 * p0 + (-30377365032313992961) * n0 + 231101972209901685370)
def C23 (p0 n0 p q z : Int) : Prop := z ≤ 94 ∨ (z = 132 ∧ 30377365032314341273 * p0 + (-5781599035337) * n0 + (-246796413191913686696) ≤ 18446744073709551616 * p ∧ 18446744073709551616 * p ≤ 30377365032314341285 * p0 + (-5781599035325) * n0 + 154123141158933352132 ∧ (-5781599035337) * p0 + (-30377365032314341285) * n0 + (-151370788022486219323) ≤ 18446744073709551616 * q ∧ 18446744073709551616 * q ≤ (-5781599035325) * p0 + (-30377365032314341273) * n0 + 249548766328360819502)
def C24 (p0 n0 p q z : Int) : Prop := z ≤ 175 ∨ (z = 51 ∧ 30377365032315030493 * p0 + (-2160334931411) * n0 + (-246796442940444828974) ≤ 18446744073709551616 * p ∧ 18446744073709551616 * p ≤ 30377365032315030506 * p0 + (-2160334931398) * n0 + 172569901078423747099 ∧ (-2160334931411) * p0 + (-30377365032315030506) * n0 + (-169817559317597595677) ≤ 18446744073709551616 * q ∧ 18446744073709551616 * q ≤ (-2160334931398) * p0 + (-30377365032315030493) * n0 + 249548784701270980394)
theorem C0_pos {p0 n0 p q z : Int} (h0 : 4096 ≤ p0) (h1 : 4096 ≤ n0) (h : C0 p0 n0 p q z) (hq : ¬ q < 0) : C1 p0 n0 (p + q / 1) (q - p / 1) (z + 536870912) := by
  unfold C0 at h
  unfold C1
  omega
theorem C0_neg {p0 n0 p q z : Int} (h0 : 4096 ≤ p0) (h1 : 4096 ≤ n0) (h : C0 p0 n0 p q z) (hq : q < 0) : C1 p0 n0 (p - q / 1) (q + p / 1) (z - 536870912) := by
  unfold C0 at h
  unfold C1
  omega
theorem C1_pos {p0 n0 p q z : Int} (h0 : 4096 ≤ p0) (h1 : 4096 ≤ n0) (h : C1 p0 n0 p q z) (hq : ¬ q < 0) : C2 p0 n0 (p + q / 2) (q - p / 2) (z + 316933406) := by
  unfold C1 at h
  unfold C2
  omega
theorem C1_neg {p0 n0 p q z : Int} (h0 : 4096 ≤ p0) (h1 : 4096 ≤ n0) (h : C1 p0 n0 p q z) (hq : q < 0) : C2 p0 n0 (p - q / 2) (q + p / 2) (z - 316933406) := by
  unfold C1 at h
  unfold C2
  omega
theorem C2_pos {p0 n0 p q z : Int} (h0 : 4096 ≤ p0) (h1 : 4096 ≤ n0) (h : C2 p0 n0 p q z) (hq : ¬ q < 0) : C3 p0 n0 (p + q / 4) (q - p / 4) (z + 167458907) := by
  unfold C2 at h
  unfold C3
  omega
theorem C2_neg {p0 n0 p q z : Int} (h0 : 4096 ≤ p0) (h1 : 4096 ≤ n0) (h : C2 p0 n0 p q z) (hq : q < 0) : C3 p0 n0 (p - q / 4) (q + p / 4) (z - 167458907) := by
  unfold C2 at h
  unfold C3
  omega
theorem C3_pos {p0 n0 p q z : Int} (h0 : 4096 ≤ p0) (h1 : 4096 ≤ n0) (h : C3 p0 n0 p q z) (hq : ¬ q < 0) : C4 p0 n0 (p + q / 8) (q - p / 8) (z + 85004756) := by
  unfold C3 at h
  unfold C4
  omega
theorem C3_neg {p0 n0 p q z : Int} (h0 : 4096 ≤ p0) (h1 : 4096 ≤ n0) (h : C3 p0 n0 p q z) (hq : q < 0) : C4 p0 n0 (p - q / 8) (q + p / 8) (z - 85004756) := by
  unfold C3 at h
  unfold C4
  omega
theorem C4_pos {p0 n0 p q z : Int} (h0 : 4096 ≤ p0) (h1 : 4096 ≤ n0) (h : C4 p0 n0 p q z) (hq : ¬ q < 0) : C5 p0 n0 (p + q / 16) (q - p / 16) (z + 42667331) := by
  unfold C4 at h
  unfold C5
  omega
theorem C4_neg {p0 n0 p q z : Int} (h0 : 4096 ≤ p0) (h1 : 4096 ≤ n0) (h : C4 p0 n0 p q z) (hq : q < 0) : C5 p0 n0 (p - q / 16) (q + p / 16) (z - 42667331) := by
  unfold C4 at h
  unfold C5
  omega
theorem C5_pos {p0 n0 p q z : Int} (h0 : 4096 ≤ p0) (h1 : 4096 ≤ n0) (h : C5 p0 n0 p q z) (hq : ¬ q < 0) : C6 p0 n0 (p + q / 32) (q - p / 32) (z + 21354465) := by
  unfold C5 at h
  unfold C6
  omega
theorem C5_neg {p0 n0 p q z : Int} (h0 : 4096 ≤ p0) (h1 : 4096 ≤ n0) (h : C5 p0 n0 p q z) (hq : q < 0) : C6 p0 n0 (p - q / 32) (q + p / 32) (z - 21354465) := by
  unfold C5 at h
  unfold C6
  omega
theorem C6_pos {p0 n0 p q z : Int} (h0 : 4096 ≤ p0) (h1 : 4096 ≤ n0) (h : C6 p0 n0 p q z) (hq : ¬ q < 0) : C7 p0 n0 (p + q / 64) (q - p / 64) (z + 10679838) := by
  unfold C6 at h
  unfold C7
  omega
theorem C6_neg {p0 n0 p q z : Int} (h0 : 4096 ≤ p0) (h1 : 4096 ≤ n0) (h : C6 p0 n0 p q z) (hq : q < 0) : C7 p0 n0 (p - q / 64) (q + p / 64) (z - 10679838) := by
  unfold C6 at h
  unfold C7
  omega
theorem C7_pos {p0 n0 p q z : Int} (h0 : 4096 ≤ p0) (h1 : 4096 ≤ n0) (h : C7 p0 n0 p q z) (hq : ¬ q < 0) : C8 p0 n0 (p + q / 128) (q - p / 128) (z + 5340245) := by
  unfold C7 at h
  unfold C8
  omega
theorem C7_neg {p0 n0 p q z : Int} (h0 : 4096 ≤ p0) (h1 : 4096 ≤ n0) (h : C7 p0 n0 p q z) (hq : q < 0) : C8 p0 n0 (p - q / 128) (q + p / 128) (z - 5340245) := by
  unfold C7 at h
  unfold C8
  omega
theorem C8_pos {p0 n0 p q z : Int} (h0 : 4096 ≤ p0) (h1 : 4096 ≤ n0) (h : C8 p0 n0 p q z) (hq : ¬ q < 0) : C9 p0 n0 (p + q / 256) (q - p / 256) (z + 2670163) := by
  unfold C8 at h
  unfold C9
  omega
theorem C8_neg {p0 n0 p q z : Int} (h0 : 4096 ≤ p0) (h1 : 4096 ≤ n0) (h : C8 p0 n0 p q z) (hq : q < 0) : C9 p0 n0 (p - q / 256) (q + p / 256) (z - 2670163) := by
  unfold C8 at h
  unfold C9
  omega
theorem C9_pos {p0 n0 p q z : Int} (h0 : 4096 ≤ p0) (h1 : 4096 ≤ n0) (h : C9 p0 n0 p q z) (hq : ¬ q < 0) : C10 p0 n0 (p + q / 512) (q - p / 512) (z + 1335087) := by
  unfold C9 at h
  unfold C10
  omega
theorem C9_neg {p0 n0 p q z : Int} (h0 : 4096 ≤ p0) (h1 : 4096 ≤ n0) (h : C9 p0 n0 p q z) (hq : q < 0) : C10 p0 n0 (p - q / 512) (q + p / 512) (z - 1335087) := by
  unfold C9 at h
  unfold C10
  omega
theorem C10_pos {p0 n0 p q z : Int} (h0 : 4096 ≤ p0) (h1 : 4096 ≤ n0) (h : C10 p0 n0 p q z) (hq : ¬ q < 0) : C11 p0 n0 (p + q / 1024) (q - p / 1024) (z + 667544) := by
  unfold C10 at h
  unfold C11
  omega
theorem C10_neg {p0 n0 p q z : Int} (h0 : 4096 ≤ p0) (h1 : 4096 ≤ n0) (h : C10 p0 n0 p q z) (hq : q < 0) : C11 p0 n0 (p - q / 1024) (q + p / 1024) (z - 667544) := by
  unfold C10 at h
  unfold C11
  omega
theorem C11_pos {p0 n0 p q z : Int} (h0 : 4096 ≤ p0) (h1 : 4096 ≤ n0) (h : C11 p0 n0 p q z) (hq : ¬ q < 0) : C12 p0 n0 (p + q / 2048) (q - p / 2048) (z + 333772) := by
  unfold C11 at h
  unfold C12
  omega
theorem C11_neg {p0 n0 p q z : Int} (h0 : 4096 ≤ p0) (h1 : 4096 ≤ n0) (h : C11 p0 n0 p q z) (hq : q < 0) : C12 p0 n0 (p - q / 2048) (q + p / 2048) (z - 333772) := by
  unfold C11 at h
  unfold C12
  omega
theorem C12_pos {p0 n0 p q z : Int} (h0 : 4096 ≤ p0) (h1 : 4096 ≤ n0) (h : C12 p0 n0 p q z) (hq : ¬ q < 0) : C13 p0 n0 (p + q / 4096) (q - p / 4096) (z + 166886) := by
  unfold C12 at h
  unfold C13
  omega
theorem C12_neg {p0 n0 p q z : Int} (h0 : 4096 ≤ p0) (h1 : 4096 ≤ n0) (h : C12 p0 n0 p q z) (hq : q < 0) : C13 p0 n0 (p - q / 4096) (q + p / 4096) (z - 166886) := by
  unfold C12 at h
  unfold C13
  omega
theorem C13_pos {p0 n0 p q z : Int} (h0 : 4096 ≤ p0) (h1 : 4096 ≤ n0) (h : C13 p0 n0 p q z) (hq : ¬ q < 0) : C14 p0 n0 (p + q / 8192) (q - p / 8192) (z + 83443) := by
  unfold C13 at h
  unfold C14
  omega
theorem C13_neg {p0 n0 p q z : Int} (h0 : 4096 ≤ p0) (h1 : 4096 ≤ n0) (h : C13 p0 n0 p q z) (hq : q < 0) : C14 p0 n0 (p - q / 8192) (q + p / 8192) (z - 83443) := by
  unfold C13 at h
  unfold C14
  omega
theorem C14_pos {p0 n0 p q z : Int} (h0 : 4096 ≤ p0) (h1 : 4096 ≤ n0) (h : C14 p0 n0 p q z) (hq : ¬ q < 0) : C15 p0 n0 (p + q / 16384) (q - p / 16384) (z + 41722) := by
  unfold C14 at h
  unfold C15
  omega
theorem C14_neg {p0 n0 p q z : Int} (h0 : 4096 ≤ p0) (h1 : 4096 ≤ n0) (h : C14 p0 n0 p q z) (hq : q < 0) : C15 p0 n0 (p - q / 16384) (q + p / 16384) (z - 41722) := by
  unfold C14 at h
  unfold C15
  omega
theorem C15_pos {p0 n0 p q z : Int} (h0 : 4096 ≤ p0) (h1 : 4096 ≤ n0) (h : C15 p0 n0 p q z) (hq : ¬ q < 0) : C16 p0 n0 (p + q / 32768) (q - p / 32768) (z + 20861) := by
  unfold C15 at h
  unfold C16
  omega
theorem C15_neg {p0 n0 p q z : Int} (h0 : 4096 ≤ p0) (h1 : 4096 ≤ n0) (h : C15 p0 n0 p q z) (hq : q < 0) : C16 p0 n0 (p - q / 32768) (q + p / 32768) (z - 20861) := by
  unfold C15 at h
  unfold C16
  omega
theorem C16_pos {p0 n0 p q z : Int} (h0 : 4096 ≤ p0) (h1 : 4096 ≤ n0) (h : C16 p0 n0 p q z) (hq : ¬ q < 0) : C17 p0 n0 (p + q / 65536) (q - p / 65536) (z + 10430) := by
  unfold C16 at h
  unfold C17
  omega
theorem C16_neg {p0 n0 p q z : Int} (h0 : 4096 ≤ p0) (h1 : 4096 ≤ n0) (h : C16 p0 n0 p q z) (hq : q < 0) : C17 p0 n0 (p - q / 65536) (q + p / 65536) (z - 10430) := by
  unfold C16 at h
  unfold C17
  omega
theorem C17_pos {p0 n0 p q z : Int} (h0 : 4096 ≤ p0) (h1 : 4096 ≤ n0) (h : C17 p0 n0 p q z) (hq : ¬ q < 0) : C18 p0 n0 (p + q / 131072) (q - p / 131072) (z + 5215) := by
  unfold C17 at h
  unfold C18
  omega
theorem C17_neg {p0 n0 p q z : Int} (h0 : 4096 ≤ p0) (h1 : 4096 ≤ n0) (h : C17 p0 n0 p q z) (hq : q < 0) : C18 p0 n0 (p - q / 131072) (q + p / 131072) (z - 5215) := by
  unfold C17 at h
  unfold C18
  omega
theorem C18_pos {p0 n0 p q z : Int} (h0 : 4096 ≤ p0) (h1 : 4096 ≤ n0) (h : C18 p0 n0 p q z) (hq : ¬ q < 0) : C19 p0 n0 (p + q / 262144) (q - p / 262144) (z + 2608) := by
  unfold C18 at h
  unfold C19
  omega
theorem C18_neg {p0 n0 p q z : Int} (h0 : 4096 ≤ p0) (h1 : 4096 ≤ n0) (h : C18 p0 n0 p q z) (hq : q < 0) : C19 p0 n0 (p - q / 262144) (q + p / 262144) (z - 2608) := by
  unfold C18 at h
  unfold C19
  omega
theorem C19_pos {p0 n0 p q z : Int} (h0 : 4096 ≤ p0) (h1 : 4096 ≤ n0) (h : C19 p0 n0 p q z) (hq : ¬ q < 0) : C20 p0 n0 (p + q / 524288) (q - p / 524288) (z + 1304) := by
  unfold C19 at h
  unfold C20
  omega
theorem C19_neg {p0 n0 p q z : Int} (h0 : 4096 ≤ p0) (h1 : 4096 ≤ n0) (h : C19 p0 n0 p q z) (hq : q < 0) : C20 p0 n0 (p - q / 524288) (q + p / 524288) (z - 1304) := by
  unfold C19 at h
  unfold C20
  omega
theorem C20_pos {p0 n0 p q z : Int} (h0 : 4096 ≤ p0) (h1 : 4096 ≤ n0) (h : C20 p0 n0 p q z) (hq : ¬ q < 0) : C21 p0 n0 (p + q / 1048576) (q - p / 1048576) (z + 652) := by
  unfold C20 at h
  unfold C21
  omega
theorem C20_neg {p0 n0 p q z : Int} (h0 : 4096 ≤ p0) (h1 : 4096 ≤ n0) (h : C20 p0 n0 p q z) (hq : q < 0) : C21 p0 n0 (p - q / 1048576) (q + p / 1048576) (z - 652) := by
  unfold C20 at h
  unfold C21
  omega
theorem C21_pos {p0 n0 p q z : Int} (h0 : 4096 ≤ p0) (h1 : 4096 ≤ n0) (h : C21 p0 n0 p q z) (hq : ¬ q < 0) : C22 p0 n0 (p + q / 2097152) (q - p / 2097152) (z + 326) := by
  unfold C21 at h
  unfold C22
  omega
theorem C21_neg {p0 n0 p q z : Int} (h0 : 4096 ≤ p0) (h1 : 4096 ≤ n0) (h : C21 p0 n0 p q z) (hq : q < 0) : C22 p0 n0 (p - q / 2097152) (q + p / 2097152) (z - 326) := by
  unfold C21 at h
  unfold C22
  omega
theorem C22_pos {p0 n0 p q z : Int} (h0 : 4096 ≤ p0) (h1 : 4096 ≤ n0) (h : C22 p0 n0 p q z) (hq : ¬ q < 0) : C23 p0 n0 (p + q / 4194304) (q - p / 4194304) (z + 163) := by
  unfold C22 at h
  unfold C23
  omega
theorem C22_neg {p0 n0 p q z : Int} (h0 : 4096 ≤ p0) (h1 : 4096 ≤ n0) (h : C22 p0 n0 p q z) (hq : q < 0) : C23 p0 n0 (p - q / 4194304) (q + p / 4194304) (z - 163) := by
  unfold C22 at h
  unfold C23
  omega
theorem C23_pos {p0 n0 p q z : Int} (h0 : 4096 ≤ p0) (h1 : 4096 ≤ n0) (h : C23 p0 n0 p q z) (hq : ¬ q < 0) : C24 p0 n0 (p + q / 8388608) (q - p / 8388608) (z + 81) := by
  unfold C23 at h
  unfold C24
  omega
theorem C23_neg {p0 n0 p q z : Int} (h0 : 4096 ≤ p0) (h1 : 4096 ≤ n0) (h : C23 p0 n0 p q z) (hq : q < 0) : C24 p0 n0 (p - q / 8388608) (q + p / 8388608) (z - 81) := by
  unfold C23 at h
  unfold C24
  omega
theorem C0_step {p0 n0 : Int} {s : Int × Int × Int} (h0 : 4096 ≤ p0) (h1 : 4096 ≤ n0) (h : C0 p0 n0 s.1 s.2.1 s.2.2) : C1 p0 n0 (stA 0 s).1 (stA 0 s).2.1 (stA 0 s).2.2 := by
  unfold stA
  split
  · exact C0_neg h0 h1 h ‹_›
  · exact C0_pos h0 h1 h ‹_›
theorem C1_step {p0 n0 : Int} {s : Int × Int × Int} (h0 : 4096 ≤ p0) (h1 : 4096 ≤ n0) (h : C1 p0 n0 s.1 s.2.1 s.2.2) : C2 p0 n0 (stA 1 s).1 (stA 1 s).2.1 (stA 1 s).2.2 := by
  unfold stA
  split
  · exact C1_neg h0 h1 h ‹_›
  · exact C1_pos h0 h1 h ‹_›
theorem C2_step {p0 n0 : Int} {s : Int × Int × Int} (h0 : 4096 ≤ p0) (h1 : 4096 ≤ n0) (h : C2 p0 n0 s.1 s.2.1 s.2.2) : C3 p0 n0 (stA 2 s).1 (stA 2 s).2.1 (stA 2 s).2.2 := by
  unfold stA
  split
  · exact C2_neg h0 h1 h ‹_›
  · exact C2_pos h0 h1 h ‹_›
theorem C3_step {p0 n0 : Int} {s : Int × Int × Int} (h0 : 4096 ≤ p0) (h1 : 4096 ≤ n0) (h : C3 p0 n0 s.1 s.2.1 s.2.2) : C4 p0 n0 (stA 3 s).1 (stA 3 s).2.1 (stA 3 s).2.2 := by
  unfold stA
  split
  · exact C3_neg h0 h1 h ‹_›
  · exact C3_pos h0 h1 h ‹_›
theorem C4_step {p0 n0 : Int} {s : Int × Int × Int} (h0 : 4096 ≤ p0) (h1 : 4096 ≤ n0) (h : C4 p0 n0 s.1 s.2.1 s.2.2) : C5 p0 n0 (stA 4 s).1 (stA 4 s).2.1 (stA 4 s).2.2 := by
  unfold stA
  split
  · exact C4_neg h0 h1 h ‹_›
  · exact C4_pos h0 h1 h ‹_›
theorem C5_step {p0 n0 : Int} {s : Int × Int × Int} (h0 : 4096 ≤ p0) (h1 : 4096 ≤ n0) (h : C5 p0 n0 s.1 s.2.1 s.2.2) : C6 p0 n0 (stA 5 s).1 (stA 5 s).2.1 (stA 5 s).2.2 := by
  unfold stA
  split
  · exact C5_neg h0 h1 h ‹_›
  · exact C5_pos h0 h1 h ‹_›
theorem C6_step {p0 n0 : Int} {s : Int × Int × Int} (h0 : 4096 ≤ p0) (h1 : 4096 ≤ n0) (h : C6 p0 n0 s.1 s.2.1 s.2.2) : C7 p0 n0 (stA 6 s).1 (stA 6 s).2.1 (stA 6 s).2.2 := by
  unfold stA
  split
  · exact C6_neg h0 h1 h ‹_›
  · exact C6_pos h0 h1 h ‹_›
theorem C7_step {p0 n0 : Int} {s : Int × Int × Int} (h0 : 4096 ≤ p0) (h1 : 4096 ≤ n0) (h : C7 p0 n0 s.1 s.2.1 s.2.2) : C8 p0 n0 (stA 7 s).1 (stA 7 s).2.1 (stA 7 s).2.2 := by
  unfold stA
  split
  · exact C7_neg h0 h1 h ‹_›
  · exact C7_pos h0 h1 h ‹_›
theorem C8_step {p0 n0 : Int} {s : Int × Int × Int} (h0 : 4096 ≤ p0) (h1 : 4096 ≤ n0) (h : C8 p0 n0 s.1 s.2.1 s.2.2) : C9 p0 n0 (stA 8 s).1 (stA 8 s).2.1 (stA 8 s).2.2 := by
  unfold stA
  split
  · exact C8_neg h0 h1 h ‹_›
  · exact C8_pos h0 h1 h ‹_›
theorem C9_step {p0 n0 : Int} {s : Int × Int × Int} (h0 : 4096 ≤ p0) (h1 : 4096 ≤ n0) (h : C9 p0 n0 s.1 s.2.1 s.2.2) : C10 p0 n0 (stA 9 s).1 (stA 9 s).2.1 (stA 9 s).2.2 := by
  unfold stA
  split
  · exact C9_neg h0 h1 h ‹_›
  · exact C9_pos h0 h1 h ‹_›
theorem C10_step {p0 n0 : Int} {s : Int × Int × Int} (h0 : 4096 ≤ p0) (h1 : 4096 ≤ n0) (h : C10 p0 n0 s.1 s.2.1 s.2.2) : C11 p0 n0 (stA 10 s).1 (stA 10 s).2.1 (stA 10 s).2.2 := by
  unfold stA
  split
  · exact C10_neg h0 h1 h ‹_›
  · exact C10_pos h0 h1 h ‹_›
theorem C11_step {p0 n0 : Int} {s : Int × Int × Int} (h0 : 4096 ≤ p0) (h1 : 4096 ≤ n0) (h : C11 p0 n0 s.1 s.2.1 s.2.2) : C12 p0 n0 (stA 11 s).1 (stA 11 s).2.1 (stA 11 s).2.2 := by
  unfold stA
  split
  · exact C11_neg h0 h1 h ‹_›
  · exact C11_pos h0 h1 h ‹_›
theorem C12_step {p0 n0 : Int} {s : Int × Int × Int} (h0 : 4096 ≤ p0) (h1 : 4096 ≤ n0) (h : C12 p0 n0 s.1 s.2.1 s.2.2) : C13 p0 n0 (stA 12 s).1 (stA 12 s).2.1 (stA 12 s).2.2 := by
  unfold stA
  split
  · exact C12_neg h0 h1 h ‹_›
  · exact C12_pos h0 h1 h ‹_›
theorem C13_step {p0 n0 : Int} {s : Int × Int × Int} (h0 : 4096 ≤ p0) (h1 : 4096 ≤ n0) (h : C13 p0 n0 s.1 s.2.1 s.2.2) : C14 p0 n0 (stA 13 s).1 (stA 13 s).2.1 (stA 13 s).2.2 := by
  unfold stA
  split
  · exact C13_neg h0 h1 h ‹_›
  · exact C13_pos h0 h1 h ‹_›
theorem C14_step {p0 n0 : Int} {s : Int × Int × Int} (h0 : 4096 ≤ p0) (h1 : 4096 ≤ n0) (h : C14 p0 n0 s.1 s.2.1 s.2.2) : C15 p0 n0 (stA 14 s).1 (stA 14 s).2.1 (stA 14 s).2.2 := by
  unfold stA
  split
  · exact C14_neg h0 h1 h ‹_›
  · exact C14_pos h0 h1 h ‹_›
theorem C15_step {p0 n0 : Int} {s : Int × Int × Int} (h0 : 4096 ≤ p0) (h1 : 4096 ≤ n0) (h : C15 p0 n0 s.1 s.2.1 s.2.2) : C16 p0 n0 (stA 15 s).1 (stA 15 s).2.1 (stA 15 s).2.2 := by
  unfold stA
  split
  · exact C15_neg h0 h1 h ‹_›
  · exact C15_pos h0 h1 h ‹_›
theorem C16_step {p0 n0 : Int} {s : Int × Int × Int} (h0 : 4096 ≤ p0) (h1 : 4096 ≤ n0) (h : C16 p0 n0 s.1 s.2.1 s.2.2) : C17 p0 n0 (stA 16 s).1 (stA 16 s).2.1 (stA 16 s).2.2 := by
  unfold stA
  split
  · exact C16_neg h0 h1 h ‹_›
  · exact C16_pos h0 h1 h ‹_›
theorem C17_step {p0 n0 : Int} {s : Int × Int × Int} (h0 : 4096 ≤ p0) (h1 : 4096 ≤ n0) (h : C17 p0 n0 s.1 s.2.1 s.2.2) : C18 p0 n0 (stA 17 s).1 (stA 17 s).2.1 (stA 17 s).2.2 := by
  unfold stA
  split
  · exact C17_neg h0 h1 h ‹_›
  · exact C17_pos h0 h1 h ‹_›
theorem C18_step {p0 n0 : Int} {s : Int × Int × Int} (h0 : 4096 ≤ p0) (h1 : 4096 ≤ n0) (h : C18 p0 n0 s.1 s.2.1 s.2.2) : C19 p0 n0 (stA 18 s).1 (stA 18 s).2.1 (stA 18 s).2.2 := by
  unfold stA
  split
  · exact C18_neg h0 h1 h ‹_›
  · exact C18_pos h0 h1 h ‹_›
theorem C19_step {p0 n0 : Int} {s : Int × Int × Int} (h0 : 4096 ≤ p0) (h1 : 4096 ≤ n0) (h : C19 p0 n0 s.1 s.2.1 s.2.2) : C20 p0 n0 (stA 19 s).1 (stA 19 s).2.1 (stA 19 s).2.2 := by
  unfold stA
  split
  · exact C19_neg h0 h1 h ‹_›
  · exact C19_pos h0 h1 h ‹_›
theorem C20_step {p0 n0 : Int} {s : Int × Int × Int} (h0 : 4096 ≤ p0) (h1 : 4096 ≤ n0) (h : C20 p0 n0 s.1 s.2.1 s.2.2) : C21 p0 n0 (stA 20 s).1 (stA 20 s).2.1 (stA 20 s).2.2 := by
  unfold stA
  split
  · exact C20_neg h0 h1 h ‹_›
  · exact C20_pos h0 h1 h ‹_›
theorem C21_step {p0 n0 : Int} {s : Int × Int × Int} (h0 : 4096 ≤ p0) (h1 : 4096 ≤ n0) (h : C21 p0 n0 s.1 s.2.1 s.2.2) : C22 p0 n0 (stA 21 s).1 (stA 21 s).2.1 (stA 21 s).2.2 := by
  unfold stA
  split
  · exact C21_neg h0 h1 h ‹_›
  · exact C21_pos h0 h1 h ‹_›
theorem C22_step {p0 n0 : Int} {s : Int × Int × Int} (h0 : 4096 ≤ p0) (h1 : 4096 ≤ n0) (h : C22 p0 n0 s.1 s.2.1 s.2.2) : C23 p0 n0 (stA 22 s).1 (stA 22 s).2.1 (stA 22 s).2.2 := by
  unfold stA
  split
  · exact C22_neg h0 h1 h ‹_›
  · exact C22_pos h0 h1 h ‹_›
theorem C23_step {p0 n0 : Int} {s : Int × Int × Int} (h0 : 4096 ≤ p0) (h1 : 4096 ≤ n0) (h : C23 p0 n0 s.1 s.2.1 s.2.2) : C24 p0 n0 (stA 23 s).1 (stA 23 s).2.1 (stA 23 s).2.2 := by
  unfold stA
  split
  · exact C23_neg h0 h1 h ‹_›
  · exact C23_pos h0 h1 h ‹_›
theorem C_all {p0 n0 : Int} {r : Nat → Int × Int × Int} (h0 : 4096 ≤ p0) (h1 : 4096 ≤ n0) (e : r 0 = (p0, -n0, 0)) (hs : ∀ n, r (n + 1) = stA n (r n)) : C24 p0 n0 (r 24).1 (r 24).2.1 (r 24).2.2 := by
  have r0 : C0 p0 n0 (r 0).1 (r 0).2.1 (r 0).2.2 := by
    rw [e]
    show C0 p0 n0 p0 (-n0) 0
    unfold C0
    omega
  have r1 : C1 p0 n0 (r 1).1 (r 1).2.1 (r 1).2.2 := by rw [show r 1 = stA 0 (r 0) from hs 0]; exact C0_step h0 h1 r0
  have r2 : C2 p0 n0 (r 2).1 (r 2).2.1 (r 2).2.2 := by rw [show r 2 = stA 1 (r 1) from hs 1]; exact C1_step h0 h1 r1
  have r3 : C3 p0 n0 (r 3).1 (r 3).2.1 (r 3).2.2 := by rw [show r 3 = stA 2 (r 2) from hs 2]; exact C2_step h0 h1 r2
  have r4 : C4 p0 n0 (r 4).1 (r 4).2.1 (r 4).2.2 := by rw [show r 4 = stA 3 (r 3) from hs 3]; exact C3_step h0 h1 r3
  have r5 : C5 p0 n0 (r 5).1 (r 5).2.1 (r 5).2.2 := by rw [show r 5 = stA 4 (r 4) from hs 4]; exact C4_step h0 h1 r4
  have r6 : C6 p0 n0 (r 6).1 (r 6).2.1 (r 6).2.2 := by rw [show r 6 = stA 5 (r 5) from hs 5]; exact C5_step h0 h1 r5
  have r7 : C7 p0 n0 (r 7).1 (r 7).2.1 (r 7).2.2 := by rw [show r 7 = stA 6 (r 6) from hs 6]; exact C6_step h0 h1 r6
  have r8 : C8 p0 n0 (r 8).1 (r 8).2.1 (r 8).2.2 := by rw [show r 8 = stA 7 (r 7) from hs 7]; exact C7_step h0 h1 r7
  have r9 : C9 p0 n0 (r 9).1 (r 9).2.1 (r 9).2.2 := by rw [show r 9 = stA 8 (r 8) from hs 8]; exact C8_step h0 h1 r8
  have r10 : C10 p0 n0 (r 10).1 (r 10).2.1 (r 10).2.2 := by rw [show r 10 = stA 9 (r 9) from hs 9]; exact C9_step h0 h1 r9
  have r11 : C11 p0 n0 (r 11).1 (r 11).2.1 (r 11).2.2 := by rw [show r 11 = stA 10 (r 10) from hs 10]; exact C10_step h0 h1 r10
  have r12 : C12 p0 n0 (r 12).1 (r 12).2.1 (r 12).2.2 := by rw [show r 12 = stA 11 (r 11) from hs 11]; exact C11_step h0 h1 r11
  have r13 : C13 p0 n0 (r 13).1 (r 13).2.1 (r 13).2.2 := by rw [show r 13 = stA 12 (r 12) from hs 12]; exact C12_step h0 h1 r12
  have r14 : C14 p0 n0 (r 14).1 (r 14).2.1 (r 14).2.2 := by rw [show r 14 = stA 13 (r 13) from hs 13]; exact C13_step h0 h1 r13
  have r15 : C15 p0 n0 (r 15).1 (r 15).2.1 (r 15).2.2 := by rw [show r 15 = stA 14 (r 14) from hs 14]; exact C14_step h0 h1 r14
  have r16 : C16 p0 n0 (r 16).1 (r 16).2.1 (r 16).2.2 := by rw [show r 16 = stA 15 (r 15) from hs 15]; exact C15_step h0 h1 r15
  have r17 : C17 p0 n0 (r 17).1 (r 17).2.1 (r 17).2.2 := by rw [show r 17 = stA 16 (r 16) from hs 16]; exact C16_step h0 h1 r16
  have r18 : C18 p0 n0 (r 18).1 (r 18).2.1 (r 18).2.2 := by rw [show r 18 = stA 17 (r 17) from hs 17]; exact C17_step h0 h1 r17
  have r19 : C19 p0 n0 (r 19).1 (r 19).2.1 (r 19).2.2 := by rw [show r 19 = stA 18 (r 18) from hs 18]; exact C18_step h0 h1 r18
  have r20 : C20 p0 n0 (r 20).1 (r 20).2.1 (r 20).2.2 := by rw [show r 20 = stA 19 (r 19) from hs 19]; exact C19_step h0 h1 r19
  have r21 : C21 p0 n0 (r 21).1 (r 21).2.1 (r 21).2.2 := by rw [show r 21 = stA 20 (r 20) from hs 20]; exact C20_step h0 h1 r20
  have r22 : C22 p0 n0 (r 22).1 (r 22).2.1 (r 22).2.2 := by rw [show r 22 = stA 21 (r 21) from hs 21]; exact C21_step h0 h1 r21
  have r23 : C23 p0 n0 (r 23).1 (r 23).2.1 (r 23).2.2 := by rw [show r 23 = stA 22 (r 22) from hs 22]; exact C22_step h0 h1 r22
  have r24 : C24 p0 n0 (r 24).1 (r 24).2.1 (r 24).2.2 := by rw [show r 24 = stA 23 (r 23) from hs 23]; exact C23_step h0 h1 r23
  exact r24
end Go.Proofs.Ytliebglildaneaa.Tm
