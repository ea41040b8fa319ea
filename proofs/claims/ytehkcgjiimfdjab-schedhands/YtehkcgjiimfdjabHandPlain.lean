/- What one task hands over under a mutex and a condition another one has, plainly: all boards that can be reached are laid out in a row, each turn goes further down the row, and the last ones are ended. -/
import Derived.Test.YtehkcgjiimfdjabOk5
namespace Go.Proofs.Ytehkcgjiimfdjab
open Go.RowKit
def gvK (i : Nat) : List Ins := [⟨8, 0, 0, 0⟩, ⟨1, 0, 0, 0⟩, ⟨6, 0, ((9 * i + 5 : Nat) : Int), 0⟩, ⟨10, 1, 0, 0⟩, ⟨7, 0, ((9 * i + 1 : Nat) : Int), 0⟩, ⟨4, 1, ((i + 1 : Nat) : Int), 0⟩, ⟨2, 0, 1, 0⟩, ⟨11, 0, 0, 0⟩, ⟨9, 0, 0, 0⟩]
def tkK (i : Nat) : List Ins := [⟨8, 0, 0, 0⟩, ⟨1, 0, 0, 0⟩, ⟨6, 0, ((10 * i + 4 : Nat) : Int), 0⟩, ⟨7, 0, ((10 * i + 6 : Nat) : Int), 0⟩, ⟨10, 0, 0, 0⟩, ⟨7, 0, ((10 * i + 1 : Nat) : Int), 0⟩, ⟨13, 0, 0, 0⟩, ⟨2, 0, 1, 0⟩, ⟨11, 1, 0, 0⟩, ⟨9, 0, 0, 0⟩]
def gvC : Nat → List Ins
  | 0 => []
  | n + 1 => gvC n ++ gvK n
def tkC : Nat → List Ins
  | 0 => []
  | n + 1 => tkC n ++ tkK n
def emL : Nat → List (Nat × Int)
  | 0 => []
  | k + 1 => emL k ++ [(1, ((k + 1 : Nat) : Int))]
def ownD (n : Nat) : Option Nat := if n = 0 then none else some (n - 1)
def hcells (r : Nat) : List Int := ((r % 8 : Nat) : Int) :: List.replicate 15 0
def hown (r : Nat) : List (Option Nat) := ownD (r / 8 % 4) :: List.replicate 15 none
def hts (r : Nat) : List (Nat × List Int × Nat) := [(r / 32 % 64, [((r / 2048 % 8 : Nat) : Int), ((r / 16384 % 8 : Nat) : Int), 0, 0], r / 131072 % 8), (r / 1048576 % 64, [((r / 67108864 % 8 : Nat) : Int), 0, 0, 0], r / 536870912 % 8)]
def hem (r : Nat) : List (Nat × Int) := emL (r / 4294967296 % 8)
def hd0 (r : Nat) : Nat := r / 34359738368 % 512
def hd1 (r : Nat) : Nat := r / 17592186044416 % 512
def mkT (c0 c1 : List Ins) : List (Nat × List Int × Nat) → List PTask
  | [x, y] => [⟨c0, x.1, x.2.1, x.2.2⟩, ⟨c1, y.1, y.2.1, y.2.2⟩]
  | _ => []
/-- The board that a number tells. -/
def hB (c0 c1 : List Ins) (r st : Nat) : PB := ⟨hcells r, hown r, mkT c0 c1 (hts r), hem r, st⟩
def proj (t : PTask) : Nat × List Int × Nat := (t.place, t.r, t.ph)
def same (B : PB) (r : Nat) : Bool := decide (B.cells = hcells r) && decide (B.own = hown r) && decide (B.ts.map proj = hts r) && decide (B.em = hem r)
def hstep (c0 c1 : List Ins) (r i d : Nat) (rest : List Nat) : Bool :=
  match d with
  | 0 => !(hB c0 c1 r 0).canGo ((hB c0 c1 r 0).t i)
  | k + 1 => (hB c0 c1 r 0).canGo ((hB c0 c1 r 0).t i) && decide (k < rest.length) && same ((hB c0 c1 r 0).act i) (rest.getD k 0)
def hfin (n r : Nat) : Bool := decide (r / 131072 % 8 = 3) && decide (r / 536870912 % 8 = 3) && decide (r / 4294967296 % 8 = n)
def chk (c0 c1 : List Ins) (n : Nat) : List Nat → Bool
  | [] => true
  | r :: rest => hstep c0 c1 r 0 (hd0 r) rest && hstep c0 c1 r 1 (hd1 r) rest && (hfin n r || decide (hd0 r ≠ 0) || decide (hd1 r ≠ 0)) && chk c0 c1 n rest
def cert1 : List Nat := [18038862643200, 17592187093008, 17592188141584, 17592190238736, 34900803584, 34900803624, 34900803656, 34900803752, 34900820168, 34900820201, 35437691145, 17593264390433, 140737494008113, 34359738408, 34359738440, 34359738536, 34359754952, 34359754985, 34359755017, 17592186454305, 17592187502897, 17592255660337, 17592256708913, 17592259854641, 17596555870513, 17596556919088, 17596557967664, 5983584544]
def cert2 : List Nat := [18210661335040, 17592187093008, 17592188141584, 17592190238736, 34900803584, 34900803624, 34900803656, 34900803752, 34900820168, 34900820201, 35437691145, 17661983473953, 228698423836977, 35437691209, 35437693289, 35437693321, 17593264130433, 457396842547601, 34359738408, 34359738440, 34359738536, 34359754952, 34359754985, 34359755017, 18107582136609, 17592187109681, 17592255267121, 17592256315697, 17592259461425, 17596555477297, 17596556525872, 17596557574448, 17802717053216, 17596559671600, 17596493611312, 17596495708464, 39206273312, 692041302344, 1000804991304, 34359755081, 34359757161, 34359757193, 17592186194305, 17592187242897, 17592255400337, 17592256448913, 17592259594641, 17596555610513, 17596556659088, 17596557838736, 18111954962816, 17596559935888, 17596493875600, 17596495972752, 39206537600, 39206275496, 39206275400, 39206273384, 39206273480, 39206289896, 39206289930, 39743160874, 17597569860162, 17596497166930, 175926167372370, 38732319144, 38732319048, 38732317032, 38732317128, 38732333544, 38732333578, 38732333610, 17596559032898, 17596560081490, 17596628238930, 17596629287506, 17596632433234, 17600928449106, 17600929497680, 17600930546256, 10356163136]
def cert3 : List Nat := [18210661335040, 17592187093008, 17592188141584, 17592190238736, 34900803584, 34900803624, 34900803656, 34900803752, 34900820168, 34900820201, 35437691145, 17661983473953, 228698423836977, 35437691209, 35437693289, 35437693321, 17593264130433, 457396842547601, 34359738408, 34359738440, 34359738536, 34359754952, 34359754985, 34359755017, 18107582136609, 17592187109681, 17592255267121, 17592256315697, 17592259461425, 17596555477297, 17596556525872, 17596557574448, 17802717053216, 17596559671600, 17596493611312, 17596495708464, 39206273312, 692041302344, 1206963421512, 34359755081, 34359757161, 34359757193, 17592186194305, 17592187242897, 17592255400337, 17592256448913, 17592259594641, 17596555610513, 17596556659088, 17596557838736, 18318113393024, 17596559935888, 17596493875600, 17596495972752, 39206537600, 39206275496, 39206275400, 39206273384, 39206273480, 39206289896, 39206289930, 39743160874, 17700648682050, 17596496773714, 281479283245650, 39743160938, 39743165066, 39743165098, 17597569602210, 17596496908978, 492585515913906, 38732319144, 38732319048, 38732317032, 38732317128, 38732333544, 38732333578, 38732333610, 18111954715202, 17596559688274, 17596627845714, 17596628894290, 17596632040018, 17600928055890, 17600929104464, 17600930153040, 17807089631808, 17600932250192, 17600799081040, 17600801178192, 43511743040, 696346772072, 1005177569896, 38732333674, 38732337802, 38732337834, 17596558774946, 17596559823538, 17596627980978, 17596629029554, 17596632175282, 17600928191154, 17600929239728, 17600930419376, 18116327543456, 17600932516528, 17600799347376, 17600801444528, 43512009376, 43511747272, 43511747176, 43511743112, 43511743208, 43511759624, 43511759659, 44048630603, 17601875329891, 17600802636659, 175930472842099, 43104899784, 43104899688, 43104895624, 43104895720, 43104912136, 43104912171, 43104912203, 17600931611491, 17600932660083, 17601000817523, 17601001866099, 17601005011827, 17605301027699, 17605302076272, 17605303124848, 14728741728]
def cert4 : List Nat := [18210661335040, 17592187093008, 17592188141584, 17592190238736, 34900803584, 34900803624, 34900803656, 34900803752, 34900820168, 34900820201, 35437691145, 17661983473953, 228698423836977, 35437691209, 35437693289, 35437693321, 17593264130433, 457396842547601, 34359738408, 34359738440, 34359738536, 34359754952, 34359754985, 34359755017, 18107582136609, 17592187109681, 17592255267121, 17592256315697, 17592259461425, 17596555477297, 17596556525872, 17596557574448, 17802717053216, 17596559671600, 17596493611312, 17596495708464, 39206273312, 692041302344, 1206963421512, 34359755081, 34359757161, 34359757193, 17592186194305, 17592187242897, 17592255400337, 17592256448913, 17592259594641, 17596555610513, 17596556659088, 17596557838736, 18318113393024, 17596559935888, 17596493875600, 17596495972752, 39206537600, 39206275496, 39206275400, 39206273384, 39206273480, 39206289896, 39206289930, 39743160874, 17700648682050, 17596496773714, 281479283245650, 39743160938, 39743165066, 39743165098, 17597569602210, 17596496908978, 492585515913906, 38732319144, 38732319048, 38732317032, 38732317128, 38732333544, 38732333578, 38732333610, 18111954715202, 17596559688274, 17596627845714, 17596628894290, 17596632040018, 17600928055890, 17600929104464, 17600930153040, 17807089631808, 17600932250192, 17600799081040, 17600801178192, 43511743040, 696346772072, 1211336000104, 38732333674, 38732337802, 38732337834, 17596558774946, 17596559823538, 17596627980978, 17596629029554, 17596632175282, 17600928191154, 17600929239728, 17600930419376, 18322485973664, 17600932516528, 17600799347376, 17600801444528, 43512009376, 43511747272, 43511747176, 43511743112, 43511743208, 43511759624, 43511759659, 44048630603, 17704954151779, 17600802243443, 281483588715379, 44048630667, 44048636843, 44048636875, 17601875073987, 17600802380755, 492589821385683, 43104899784, 43104899688, 43104895624, 43104895720, 43104912136, 43104912171, 43104912203, 18116327293795, 17600932266867, 17601000424307, 17601001472883, 17601004618611, 17605300634483, 17605301683056, 17605302731632, 17811462210400, 17605304828784, 17605104550768, 17605106647920, 47817212768, 700652241800, 1009550148488, 43104912267, 43104918443, 43104918475, 17600931355587, 17600932404179, 17601000561619, 17601001610195, 17601004755923, 17605300771795, 17605301820368, 17605303000016, 18120700124096, 17605305097168, 17605104819152, 17605106916304, 47817481152, 47817219048, 47817218952, 47817212840, 47817212936, 47817229352, 47817229388, 48354100332, 17606180799620, 17605108106388, 175934778311828, 47477480424, 47477480328, 47477474216, 47477474312, 47477490728, 47477490764, 47477490796, 17605304190084, 17605305238676, 17605373396116, 17605374444692, 17605377590420, 17609673606292, 17609674654864, 17609675703440, 19101320320]
def cert5 : List Nat := [18210661335040, 17592187093008, 17592188141584, 17592190238736, 34900803584, 34900803624, 34900803656, 34900803752, 34900820168, 34900820201, 35437691145, 17661983473953, 228698423836977, 35437691209, 35437693289, 35437693321, 17593264130433, 457396842547601, 34359738408, 34359738440, 34359738536, 34359754952, 34359754985, 34359755017, 18107582136609, 17592187109681, 17592255267121, 17592256315697, 17592259461425, 17596555477297, 17596556525872, 17596557574448, 17802717053216, 17596559671600, 17596493611312, 17596495708464, 39206273312, 692041302344, 1206963421512, 34359755081, 34359757161, 34359757193, 17592186194305, 17592187242897, 17592255400337, 17592256448913, 17592259594641, 17596555610513, 17596556659088, 17596557838736, 18318113393024, 17596559935888, 17596493875600, 17596495972752, 39206537600, 39206275496, 39206275400, 39206273384, 39206273480, 39206289896, 39206289930, 39743160874, 17700648682050, 17596496773714, 281479283245650, 39743160938, 39743165066, 39743165098, 17597569602210, 17596496908978, 492585515913906, 38732319144, 38732319048, 38732317032, 38732317128, 38732333544, 38732333578, 38732333610, 18111954715202, 17596559688274, 17596627845714, 17596628894290, 17596632040018, 17600928055890, 17600929104464, 17600930153040, 17807089631808, 17600932250192, 17600799081040, 17600801178192, 43511743040, 696346772072, 1211336000104, 38732333674, 38732337802, 38732337834, 17596558774946, 17596559823538, 17596627980978, 17596629029554, 17596632175282, 17600928191154, 17600929239728, 17600930419376, 18322485973664, 17600932516528, 17600799347376, 17600801444528, 43512009376, 43511747272, 43511747176, 43511743112, 43511743208, 43511759624, 43511759659, 44048630603, 17704954151779, 17600802243443, 281483588715379, 44048630667, 44048636843, 44048636875, 17601875073987, 17600802380755, 492589821385683, 43104899784, 43104899688, 43104895624, 43104895720, 43104912136, 43104912171, 43104912203, 18116327293795, 17600932266867, 17601000424307, 17601001472883, 17601004618611, 17605300634483, 17605301683056, 17605302731632, 17811462210400, 17605304828784, 17605104550768, 17605106647920, 47817212768, 700652241800, 1215708578696, 43104912267, 43104918443, 43104918475, 17600931355587, 17600932404179, 17601000561619, 17601001610195, 17601004755923, 17605300771795, 17605301820368, 17605303000016, 18326858554304, 17605305097168, 17605104819152, 17605106916304, 47817481152, 47817219048, 47817218952, 47817212840, 47817212936, 47817229352, 47817229388, 48354100332, 17709259621508, 17605107713172, 281487894185108, 48354100396, 48354108620, 48354108652, 17606180545764, 17605107852532, 492594126857460, 47477480424, 47477480328, 47477474216, 47477474312, 47477490728, 47477490764, 47477490796, 18120699872388, 17605304845460, 17605373002900, 17605374051476, 17605377197204, 17609673213076, 17609674261648, 17609675310224, 17815834788992, 17609677407376, 17609410020496, 17609412117648, 52122682496, 704957711528, 1013922727080, 47477490860, 47477499084, 47477499116, 17605303936228, 17605304984820, 17605373142260, 17605374190836, 17605377336564, 17609673352436, 17609674401008, 17609675580656, 18125072704736, 17609677677808, 17609410290928, 17609412388080, 52122952928, 52122690824, 52122690728, 52122682568, 52122682664, 52122699080, 52122699117, 52659570061, 17610486269349, 17609413576117, 175939083781557, 51850061064, 51850060968, 51850052808, 51850052904, 51850069320, 51850069357, 51850069389, 17609676768677, 17609677817269, 17609745974709, 17609747023285, 17609750169013, 17614046184885, 17614047233456, 17614048282032, 23473898912]
def cert6 : List Nat := [18210661335040, 17592187093008, 17592188141584, 17592190238736, 34900803584, 34900803624, 34900803656, 34900803752, 34900820168, 34900820201, 35437691145, 17661983473953, 228698423836977, 35437691209, 35437693289, 35437693321, 17593264130433, 457396842547601, 34359738408, 34359738440, 34359738536, 34359754952, 34359754985, 34359755017, 18107582136609, 17592187109681, 17592255267121, 17592256315697, 17592259461425, 17596555477297, 17596556525872, 17596557574448, 17802717053216, 17596559671600, 17596493611312, 17596495708464, 39206273312, 692041302344, 1206963421512, 34359755081, 34359757161, 34359757193, 17592186194305, 17592187242897, 17592255400337, 17592256448913, 17592259594641, 17596555610513, 17596556659088, 17596557838736, 18318113393024, 17596559935888, 17596493875600, 17596495972752, 39206537600, 39206275496, 39206275400, 39206273384, 39206273480, 39206289896, 39206289930, 39743160874, 17700648682050, 17596496773714, 281479283245650, 39743160938, 39743165066, 39743165098, 17597569602210, 17596496908978, 492585515913906, 38732319144, 38732319048, 38732317032, 38732317128, 38732333544, 38732333578, 38732333610, 18111954715202, 17596559688274, 17596627845714, 17596628894290, 17596632040018, 17600928055890, 17600929104464, 17600930153040, 17807089631808, 17600932250192, 17600799081040, 17600801178192, 43511743040, 696346772072, 1211336000104, 38732333674, 38732337802, 38732337834, 17596558774946, 17596559823538, 17596627980978, 17596629029554, 17596632175282, 17600928191154, 17600929239728, 17600930419376, 18322485973664, 17600932516528, 17600799347376, 17600801444528, 43512009376, 43511747272, 43511747176, 43511743112, 43511743208, 43511759624, 43511759659, 44048630603, 17704954151779, 17600802243443, 281483588715379, 44048630667, 44048636843, 44048636875, 17601875073987, 17600802380755, 492589821385683, 43104899784, 43104899688, 43104895624, 43104895720, 43104912136, 43104912171, 43104912203, 18116327293795, 17600932266867, 17601000424307, 17601001472883, 17601004618611, 17605300634483, 17605301683056, 17605302731632, 17811462210400, 17605304828784, 17605104550768, 17605106647920, 47817212768, 700652241800, 1215708578696, 43104912267, 43104918443, 43104918475, 17600931355587, 17600932404179, 17601000561619, 17601001610195, 17601004755923, 17605300771795, 17605301820368, 17605303000016, 18326858554304, 17605305097168, 17605104819152, 17605106916304, 47817481152, 47817219048, 47817218952, 47817212840, 47817212936, 47817229352, 47817229388, 48354100332, 17709259621508, 17605107713172, 281487894185108, 48354100396, 48354108620, 48354108652, 17606180545764, 17605107852532, 492594126857460, 47477480424, 47477480328, 47477474216, 47477474312, 47477490728, 47477490764, 47477490796, 18120699872388, 17605304845460, 17605373002900, 17605374051476, 17605377197204, 17609673213076, 17609674261648, 17609675310224, 17815834788992, 17609677407376, 17609410020496, 17609412117648, 52122682496, 704957711528, 1220081157288, 47477490860, 47477499084, 47477499116, 17605303936228, 17605304984820, 17605373142260, 17605374190836, 17605377336564, 17609673352436, 17609674401008, 17609675580656, 18331231134944, 17609677677808, 17609410290928, 17609412388080, 52122952928, 52122690824, 52122690728, 52122682568, 52122682664, 52122699080, 52122699117, 52659570061, 17713565091237, 17609413182901, 281492199654837, 52659570125, 52659580397, 52659580429, 17610486017541, 17609413324309, 492598432329237, 51850061064, 51850060968, 51850052808, 51850052904, 51850069320, 51850069357, 51850069389, 18125072450981, 17609677424053, 17609745581493, 17609746630069, 17609749775797, 17614045791669, 17614046840240, 17614047888816, 17820207367584, 17614049985968, 17613715490224, 17613717587376, 56428152224, 709263181256, 1018295305672, 51850069453, 51850079725, 51850079757, 17609676516869, 17609677565461, 17609745722901, 17609746771477, 17609749917205, 17614045933077, 17614046981648, 17614048161296, 18129445285376, 17614050258448, 17613715762704, 17613717859856, 56428424704, 56428162600, 56428162504, 56428152296, 56428152392, 56428168808, 56428168846, 56965039790, 17614791739078, 17613719045846, 175943389251286, 56222641704, 56222641608, 56222631400, 56222631496, 56222647912, 56222647950, 56222647982, 17614049347270, 17614050395862, 17614118553302, 17614119601878, 17614122747606, 17618418763478, 17618419812048, 17618420860624, 27846477504]
set_option maxRecDepth 100000 in
theorem chk1 : chk (gvC 1) (tkC 1) 1 cert1 = true := by kernel_rfl
set_option maxRecDepth 100000 in
theorem chk2 : chk (gvC 2) (tkC 2) 2 cert2 = true := by kernel_rfl
set_option maxRecDepth 100000 in
theorem chk3 : chk (gvC 3) (tkC 3) 3 cert3 = true := by kernel_rfl
set_option maxRecDepth 100000 in
theorem chk4 : chk (gvC 4) (tkC 4) 4 cert4 = true := by kernel_rfl
set_option maxRecDepth 100000 in
theorem chk5 : chk (gvC 5) (tkC 5) 5 cert5 = true := by kernel_rfl
set_option maxRecDepth 100000 in
theorem chk6 : chk (gvC 6) (tkC 6) 6 cert6 = true := by kernel_rfl
def PB.stp (B : PB) (st : Nat) : PB := { B with steps := st }
theorem next_stp (B : PB) (st i n : Nat) : (B.stp st).next i n = (B.next i n).stp st := by
  unfold PB.next
  rw [show (B.stp st).t i = B.t i from rfl]
  split <;> rfl
theorem release_stp (B : PB) (st i : Nat) (m : Int) (ph : Nat) : (B.stp st).release i m ph = (B.release i m ph).stp st := by
  unfold PB.release
  rw [show (B.stp st).own = B.own from rfl]
  split <;> rfl
theorem swap_stp (B : PB) (st i : Nat) (x : Ins) : (B.stp st).swap i x = (B.swap i x).stp st := by
  unfold PB.swap
  rw [show (B.stp st).get x.a = B.get x.a from rfl, show (B.stp st).t i = B.t i from rfl]
  split <;> rfl
theorem act_stp (B : PB) (st i : Nat) : (B.stp st).act i = (B.act i).stp st := by
  rw [act_eq, act_eq]
  rw [show (B.stp st).t i = B.t i from rfl]
  generalize hx : (B.t i).ins = x
  generalize ht : B.t i = t
  by_cases e1 : x.op = 1
  · rw [if_pos e1, if_pos e1]
    exact Eq.trans (by rfl) (next_stp _ st _ _)
  rw [if_neg e1, if_neg e1]
  by_cases e2 : x.op = 2
  · rw [if_pos e2, if_pos e2]
    exact Eq.trans (by rfl) (next_stp _ st _ _)
  rw [if_neg e2, if_neg e2]
  by_cases e3 : x.op = 3
  · rw [if_pos e3, if_pos e3, swap_stp]
    exact Eq.trans (by rfl) (next_stp _ st _ _)
  rw [if_neg e3, if_neg e3]
  by_cases e4 : x.op = 4
  · rw [if_pos e4, if_pos e4]
    exact Eq.trans (by rfl) (next_stp _ st _ _)
  rw [if_neg e4, if_neg e4]
  by_cases e5 : x.op = 5
  · rw [if_pos e5, if_pos e5]
    exact Eq.trans (by rfl) (next_stp _ st _ _)
  rw [if_neg e5, if_neg e5]
  by_cases e6 : x.op = 6
  · rw [if_pos e6, if_pos e6]
    exact Eq.trans (by rfl) (next_stp _ st _ _)
  rw [if_neg e6, if_neg e6]
  by_cases e7 : x.op = 7
  · rw [if_pos e7, if_pos e7]
    exact Eq.trans (by rfl) (next_stp _ st _ _)
  rw [if_neg e7, if_neg e7]
  by_cases e8 : x.op = 8
  · rw [if_pos e8, if_pos e8]
    exact Eq.trans (by rfl) (next_stp _ st _ _)
  rw [if_neg e8, if_neg e8]
  by_cases e9 : x.op = 9
  · rw [if_pos e9, if_pos e9, release_stp]
    exact Eq.trans (by rfl) (next_stp _ st _ _)
  rw [if_neg e9, if_neg e9]
  by_cases e10 : x.op = 10
  · rw [if_pos e10, if_pos e10]
    by_cases e0 : t.ph = 0
    · rw [if_pos e0, if_pos e0]
      exact release_stp _ st _ _ _
    · rw [if_neg e0, if_neg e0]
      exact Eq.trans (by rfl) (next_stp _ st _ _)
  rw [if_neg e10, if_neg e10]
  by_cases e11 : x.op = 11
  · rw [if_pos e11, if_pos e11]
    exact Eq.trans (by rfl) (next_stp _ st _ _)
  rw [if_neg e11, if_neg e11]
  by_cases e12 : x.op = 12
  · rw [if_pos e12, if_pos e12]
    exact Eq.trans (by rfl) (next_stp _ st _ _)
  rw [if_neg e12, if_neg e12]
  by_cases e13 : x.op = 13
  · rw [if_pos e13, if_pos e13]
    exact Eq.trans (by rfl) (next_stp _ st _ _)
  rw [if_neg e13, if_neg e13]
  rfl
def codes (B : PB) : List (List Ins) := B.ts.map fun t => t.code
theorem setT_codes (B : PB) (i : Nat) (t : PTask) (h : t.code = (B.t i).code) : codes (B.setT i t) = codes B := by
  unfold codes PB.setT
  simp only
  apply List.ext_getElem?
  intro k
  rw [List.getElem?_map, List.getElem?_map, List.getElem?_set]
  by_cases e : i = k
  · subst e
    by_cases hl : i < B.ts.length
    · have : B.t i = B.ts[i] := by unfold PB.t; simp [List.getD, hl]
      simp [hl, h, this]
    · simp [hl]
  · simp [e]
theorem next_codes (B : PB) (i n : Nat) : codes (B.next i n) = codes B := by
  unfold PB.next
  split
  · exact setT_codes B i _ rfl
  · rfl
theorem release_codes (B : PB) (i : Nat) (m : Int) (ph : Nat) : codes (B.release i m ph) = codes B := by
  unfold PB.release
  split
  · exact (setT_codes (B.has m none) i ((B.t i).at ph) rfl).trans rfl
  · exact setT_codes B i _ rfl
theorem swap_codes (B : PB) (i : Nat) (x : Ins) : codes (B.swap i x) = codes B := by
  unfold PB.swap
  split
  · exact (setT_codes (B.put x.a ((B.t i).get x.c)) i ((B.t i).reg 3 1) rfl).trans rfl
  · exact setT_codes B i _ rfl
theorem tell_codes (c : Int) (all : Bool) : ∀ l : List PTask, (tellL c all l).map (fun t => t.code) = l.map fun t => t.code
  | [] => rfl
  | t :: r => by
    have ih := tell_codes c all r
    unfold tellL
    split
    · cases all
      · rfl
      · simp only [if_true, List.map_cons, ih]
        rfl
    · simp only [List.map_cons, ih]
theorem act_codes (B : PB) (i : Nat) : codes (B.act i) = codes B := by
  rw [act_eq]
  by_cases e1 : (B.t i).ins.op = 1
  · rw [if_pos e1]
    exact (next_codes _ _ _).trans (setT_codes B i _ rfl)
  rw [if_neg e1]
  by_cases e2 : (B.t i).ins.op = 2
  · rw [if_pos e2]
    exact next_codes _ _ _
  rw [if_neg e2]
  by_cases e3 : (B.t i).ins.op = 3
  · rw [if_pos e3]
    exact (next_codes _ _ _).trans (swap_codes _ _ _)
  rw [if_neg e3]
  by_cases e4 : (B.t i).ins.op = 4
  · rw [if_pos e4]
    exact (next_codes _ _ _).trans (setT_codes B i _ rfl)
  rw [if_neg e4]
  by_cases e5 : (B.t i).ins.op = 5
  · rw [if_pos e5]
    exact (next_codes _ _ _).trans (setT_codes B i _ rfl)
  rw [if_neg e5]
  by_cases e6 : (B.t i).ins.op = 6
  · rw [if_pos e6]
    exact next_codes _ _ _
  rw [if_neg e6]
  by_cases e7 : (B.t i).ins.op = 7
  · rw [if_pos e7]
    exact next_codes _ _ _
  rw [if_neg e7]
  by_cases e8 : (B.t i).ins.op = 8
  · rw [if_pos e8]
    exact next_codes _ _ _
  rw [if_neg e8]
  by_cases e9 : (B.t i).ins.op = 9
  · rw [if_pos e9]
    exact (next_codes _ _ _).trans (release_codes _ _ _ _)
  rw [if_neg e9]
  by_cases e10 : (B.t i).ins.op = 10
  · rw [if_pos e10]
    by_cases e0 : (B.t i).ph = 0
    · rw [if_pos e0]
      exact release_codes _ _ _ _
    · rw [if_neg e0]
      exact (next_codes _ _ _).trans (setT_codes B i ((B.t i).at 0) rfl)
  rw [if_neg e10]
  by_cases e11 : (B.t i).ins.op = 11
  · rw [if_pos e11]
    exact (next_codes _ _ _).trans (tell_codes _ _ _)
  rw [if_neg e11]
  by_cases e12 : (B.t i).ins.op = 12
  · rw [if_pos e12]
    exact (next_codes _ _ _).trans (tell_codes _ _ _)
  rw [if_neg e12]
  by_cases e13 : (B.t i).ins.op = 13
  · rw [if_pos e13]
    exact next_codes _ _ _
  rw [if_neg e13]
  exact setT_codes B i _ rfl
theorem codes_hB (c0 c1 : List Ins) (r st : Nat) : codes (hB c0 c1 r st) = [c0, c1] := rfl
theorem same_eq {c0 c1 : List Ins} {B : PB} {r : Nat} (h : same B r = true) (hc : codes B = [c0, c1]) : B = hB c0 c1 r B.steps := by
  unfold same at h
  simp only [Bool.and_eq_true, decide_eq_true_eq] at h
  obtain ⟨⟨⟨h1, h2⟩, h3⟩, h4⟩ := h
  obtain ⟨cs, ow, ts, em, st⟩ := B
  simp only at h1 h2 h3 h4 ⊢
  have hts : ts = mkT c0 c1 (hts r) := by
    unfold codes at hc
    simp only at hc
    match ts, hc, h3 with
    | [t0, t1], hc, h3 =>
      simp only [List.map_cons, List.map_nil, List.cons.injEq, and_true] at hc
      rw [← h3]
      simp only [List.map_cons, List.map_nil, mkT, proj]
      obtain ⟨a0, b0, d0, e0⟩ := t0
      obtain ⟨a1, b1, d1, e1⟩ := t1
      simp only at hc
      obtain ⟨rfl, rfl⟩ := hc
      rfl
  rw [h1, h2, h4, hts]
  rfl
theorem chk_drop {c0 c1 : List Ins} {n : Nat} : ∀ (k : Nat) (L : List Nat), chk c0 c1 n L = true → chk c0 c1 n (L.drop k) = true
  | 0, L, h => by simpa using h
  | k + 1, [], _ => by simp [chk]
  | k + 1, r :: L, h => by
    rw [List.drop_succ_cons]
    refine chk_drop k L ?_
    rw [chk] at h
    simp only [Bool.and_eq_true] at h
    exact h.2
theorem hstep_act {c0 c1 : List Ins} {r i d st : Nat} {rest : List Nat} (h : hstep c0 c1 r i d rest = true) : (d = 0 ∧ (hB c0 c1 r st).canGo ((hB c0 c1 r st).t i) = false) ∨ ∃ k, d = k + 1 ∧ k < rest.length ∧ (hB c0 c1 r st).canGo ((hB c0 c1 r st).t i) = true ∧ (hB c0 c1 r st).more.act i = hB c0 c1 (rest.getD k 0) (st + 1) := by
  cases d with
  | zero =>
    refine .inl ⟨rfl, ?_⟩
    unfold hstep at h
    have h' : (!(hB c0 c1 r st).canGo ((hB c0 c1 r st).t i)) = true := h
    simpa using h'
  | succ k =>
    unfold hstep at h
    simp only [Bool.and_eq_true, decide_eq_true_eq] at h
    obtain ⟨⟨h1, h2⟩, h3⟩ := h
    refine .inr ⟨k, rfl, h2, h1, ?_⟩
    have e1 : (hB c0 c1 r st).more = (hB c0 c1 r 0).stp (st + 1) := rfl
    rw [e1, act_stp, same_eq h3 ((act_codes _ _).trans (codes_hB _ _ _ _))]
    rfl
theorem hable (c0 c1 : List Ins) (r st : Nat) : (hB c0 c1 r st).able = (if (hB c0 c1 r st).canGo ((hB c0 c1 r st).t 0) = true then [0] else []) ++ (if (hB c0 c1 r st).canGo ((hB c0 c1 r st).t 1) = true then [1] else []) := by
  have e : (hB c0 c1 r st).able = ableL (hB c0 c1 r st).canGo [(hB c0 c1 r st).t 0, (hB c0 c1 r st).t 1] 0 := rfl
  rw [e]
  simp only [ableL]
  cases (hB c0 c1 r st).canGo ((hB c0 c1 r st).t 0) <;> cases (hB c0 c1 r st).canGo ((hB c0 c1 r st).t 1) <;> simp
theorem chk_run {c0 c1 : List Ins} {n : Nat} : ∀ (l : List Int) (r : Nat) (rest : List Nat) (st : Nat), chk c0 c1 n (r :: rest) = true → rest.length ≤ l.length → ∃ r' st', (hB c0 c1 r st).run l = hB c0 c1 r' st' ∧ hfin n r' = true := by
  intro l
  induction l with
  | nil =>
    intro r rest st h hl
    have h0 : rest = [] := List.eq_nil_of_length_eq_zero (by simpa using hl)
    subst h0
    rw [chk] at h
    simp only [Bool.and_eq_true, Bool.or_eq_true, decide_eq_true_eq] at h
    obtain ⟨⟨⟨h1, h2⟩, h3⟩, _⟩ := h
    refine ⟨r, st, rfl, ?_⟩
    rcases hstep_act (st := st) h1 with ⟨e1, _⟩ | ⟨k, _, hk, _⟩
    · rcases hstep_act (st := st) h2 with ⟨e2, _⟩ | ⟨k, _, hk, _⟩
      · rcases h3 with (h3 | h3) | h3
        · exact h3
        · exact absurd e1 h3
        · exact absurd e2 h3
      · simp at hk
    · simp at hk
  | cons p l ih =>
    intro r rest st h hl
    have hd := fun k => chk_drop (c0 := c0) (c1 := c1) (n := n) (k + 1) (r :: rest) h
    rw [chk] at h
    simp only [Bool.and_eq_true, Bool.or_eq_true, decide_eq_true_eq] at h
    obtain ⟨⟨⟨h1, h2⟩, h3⟩, _⟩ := h
    have er : (hB c0 c1 r st).run (p :: l) = ((hB c0 c1 r st).step p).run l := rfl
    have go : ∀ k, k < rest.length → ∃ r' st', (hB c0 c1 (rest.getD k 0) (st + 1)).run l = hB c0 c1 r' st' ∧ hfin n r' = true := fun k hk => by
      have hdk := hd k
      rw [List.drop_succ_cons] at hdk
      have e : rest.drop k = rest.getD k 0 :: rest.drop (k + 1) := by
        rw [List.drop_eq_getElem_cons hk]
        simp [List.getD, hk]
      rw [e] at hdk
      exact ih _ _ (st + 1) hdk (by simp at hl ⊢; omega)
    rw [er]
    unfold PB.step
    have hA := hable c0 c1 r st
    rcases hstep_act (st := st) h1 with ⟨e1, g1⟩ | ⟨k1, e1, hk1, g1, a1⟩
    · rcases hstep_act (st := st) h2 with ⟨e2, g2⟩ | ⟨k2, e2, hk2, g2, a2⟩
      · rw [hA, g1, g2]
        simp only [Bool.false_eq_true, if_false, List.append_nil, List.length_nil, if_true]
        have hs : ∀ m : List Int, (hB c0 c1 r st).run m = hB c0 c1 r st := by
          intro m
          induction m with
          | nil => rfl
          | cons q m ihm =>
            have : (hB c0 c1 r st).step q = hB c0 c1 r st := by
              unfold PB.step
              rw [hA, g1, g2]
              rfl
            show ((hB c0 c1 r st).step q).run m = _
            rw [this]
            exact ihm
        refine ⟨r, st, hs l, ?_⟩
        rcases h3 with (h3 | h3) | h3
        · exact h3
        · exact absurd e1 h3
        · exact absurd e2 h3
      · rw [hA, g1, g2]
        simp only [Bool.false_eq_true, if_false, List.nil_append, List.length_cons, List.length_nil, if_true]
        rw [if_neg (by omega), show (fromZ p).toNat % (0 + 1) = 0 by omega]
        simp only [List.getD_cons_zero]
        rw [a2]
        exact go k2 hk2
    · rcases hstep_act (st := st) h2 with ⟨e2, g2⟩ | ⟨k2, e2, hk2, g2, a2⟩
      · rw [hA, g1, g2]
        simp only [Bool.false_eq_true, if_false, List.append_nil, List.length_cons, List.length_nil, if_true]
        rw [if_neg (by omega), show (fromZ p).toNat % (0 + 1) = 0 by omega]
        simp only [List.getD_cons_zero]
        rw [a1]
        exact go k1 hk1
      · rw [hA, g1, g2]
        simp only [if_true, List.singleton_append, List.length_cons, List.length_nil]
        rw [if_neg (by omega)]
        have hm : (fromZ p).toNat % (0 + 1 + 1) = 0 ∨ (fromZ p).toNat % (0 + 1 + 1) = 1 := by omega
        rcases hm with hm | hm <;> rw [hm]
        · simp only [List.getD_cons_zero]
          rw [a1]
          exact go k1 hk1
        · simp only [List.getD_cons_succ, List.getD_cons_zero]
          rw [a2]
          exact go k2 hk2
def hbeg (r : Nat) : Bool := decide (hcells r = 0 :: List.replicate 15 0) && decide (hown r = List.replicate 16 none) && decide (hts r = [(0, [0, 0, 0, 0], 0), (0, [0, 0, 0, 0], 0)]) && decide (hem r = [])
theorem hd_begins (n : Nat) (h : 0 < n) {r : Nat} (hr : hbeg r = true) : begins [gvC n, tkC n] [] = hB (gvC n) (tkC n) r 0 := by
  unfold hbeg at hr
  simp only [Bool.and_eq_true, decide_eq_true_eq] at hr
  obtain ⟨⟨⟨r1, r2⟩, r3⟩, r4⟩ := hr
  have h1 : (gvC n).length ≠ 0 := by
    cases n with
    | zero => omega
    | succ n => simp [gvC, gvK]
  have h2 : (tkC n).length ≠ 0 := by
    cases n with
    | zero => omega
    | succ n => simp [tkC, tkK]
  have f1 : fresh (gvC n) = ⟨gvC n, 0, [0, 0, 0, 0], 0⟩ := by unfold fresh PTask.goTo; simp [Ne.symm h1]
  have f2 : fresh (tkC n) = ⟨tkC n, 0, [0, 0, 0, 0], 0⟩ := by unfold fresh PTask.goTo; simp [Ne.symm h2]
  unfold begins hB
  rw [List.map_cons, List.map_cons, List.map_nil, f1, f2, r1, r2, r3, r4]
  rfl
theorem hd_of {n : Nat} (h1 : 0 < n) {r : Nat} {rest : List Nat} (hchk : chk (gvC n) (tkC n) n (r :: rest) = true) (hr : hbeg r = true) (hlen : rest.length ≤ 400) {l : List Int} (hl : 400 ≤ l.length) : ∃ B : PB, (begins [gvC n, tkC n] []).run l = B ∧ B.em = emL n ∧ B.states = [2, 2] ∧ B.ts.length = 2 := by
  rw [hd_begins n h1 hr]
  obtain ⟨r', st', e, hf⟩ := chk_run l r rest 0 hchk (by omega)
  refine ⟨_, rfl, ?_⟩
  rw [e]
  unfold hfin at hf
  simp only [Bool.and_eq_true, decide_eq_true_eq] at hf
  obtain ⟨⟨f1, f2⟩, f3⟩ := hf
  refine ⟨?_, ?_, rfl⟩
  · show emL _ = emL n
    rw [f3]
  · simp [PB.states, PB.state, hB, mkT, hts, f1, f2]
theorem beg1 : hbeg (cert1.headD 0) = true := by kernel_rfl
theorem beg2 : hbeg (cert2.headD 0) = true := by kernel_rfl
theorem beg3 : hbeg (cert3.headD 0) = true := by kernel_rfl
theorem beg4 : hbeg (cert4.headD 0) = true := by kernel_rfl
theorem beg5 : hbeg (cert5.headD 0) = true := by kernel_rfl
theorem beg6 : hbeg (cert6.headD 0) = true := by kernel_rfl
theorem hd_at {n : Nat} (h1 : 0 < n) {C : List Nat} (hchk : chk (gvC n) (tkC n) n C = true) (hr : hbeg (C.headD 0) = true) (hlen : decide (1 ≤ C.length ∧ C.length ≤ 400) = true) {l : List Int} (hl : 400 ≤ l.length) : ∃ B : PB, (begins [gvC n, tkC n] []).run l = B ∧ B.em = emL n ∧ B.states = [2, 2] ∧ B.ts.length = 2 := by
  have hlen := of_decide_eq_true hlen
  match C, hchk, hr, hlen with
  | [], _, _, h => simp at h
  | r :: rest, hchk, hr, h => exact hd_of h1 hchk hr (by simp at h; omega) hl
set_option maxRecDepth 100000 in
/-- What SchedHands asks, plainly. -/
theorem hd_all {n : Nat} (h1 : 1 ≤ n) (h6 : n ≤ 6) {l : List Int} (hl : 400 ≤ l.length) : ∃ B : PB, (begins [gvC n, tkC n] []).run l = B ∧ B.em = emL n ∧ B.states = [2, 2] ∧ B.ts.length = 2 := by
  rcases (by omega : n = 1 ∨ n = 2 ∨ n = 3 ∨ n = 4 ∨ n = 5 ∨ n = 6) with rfl | rfl | rfl | rfl | rfl | rfl
  · exact hd_at (by omega) chk1 beg1 (by kernel_rfl) hl
  · exact hd_at (by omega) chk2 beg2 (by kernel_rfl) hl
  · exact hd_at (by omega) chk3 beg3 (by kernel_rfl) hl
  · exact hd_at (by omega) chk4 beg4 (by kernel_rfl) hl
  · exact hd_at (by omega) chk5 beg5 (by kernel_rfl) hl
  · exact hd_at (by omega) chk6 beg6 (by kernel_rfl) hl
theorem hd_ok {n : Nat} (h1 : 1 ≤ n) (h6 : n ≤ 6) : allOk [gvC n, tkC n] [] = true := by
  rcases (by omega : n = 1 ∨ n = 2 ∨ n = 3 ∨ n = 4 ∨ n = 5 ∨ n = 6) with rfl | rfl | rfl | rfl | rfl | rfl <;> kernel_rfl
theorem emL_len : ∀ k, (emL k).length = k
  | 0 => rfl
  | k + 1 => by rw [emL, List.length_append, emL_len k]; rfl
theorem emL_at : ∀ k j, j < k → (emL k).getD j (0, 0) = (1, ((j + 1 : Nat) : Int))
  | 0, j, h => absurd h (Nat.not_lt_zero _)
  | k + 1, j, h => by
    have e := emL_len k
    rw [emL]
    by_cases hj : j < k
    · rw [← emL_at k j hj]
      simp [List.getD, List.getElem?_append_left (show j < (emL k).length by omega)]
    · obtain rfl : j = k := by omega
      simp [List.getD, e]
end Go.Proofs.Ytehkcgjiimfdjab
