import PyProof.Rows.All
import Wide.All
import OpenK.AllK
import Wide.FinOn
import Lean
import PyProof.EqAt
import PyProof.EqKinds
import PyProof.TupleCall
import PySem.Challenge.RW_spaceturns_k59_whole_from_lines_to_turns
set_option Elab.async false
set_option linter.all false
set_option maxRecDepth 100000
structure PySem.W.Fast:Prop where(tw8401625146949402724 tw12192144688316827780 tw16117760227256331304 tw3513891474639807045 tw7069636101203076130 tw12180202992574379572 tw13854710810537514508 tw8834719273482745338 tw15581749874668574347 tw7195198324413794906 tw3353631329037825648 tw4155781740165070903 tw15806025300662867292 tw5127910391845572045 tw6440417432798304279 tw10212324332407837054 tw13079868396595681020 tw59836108309854689 tw15812652768933286153 tw6138471933368453744 tw6895396558923331540 tw14919224624155002464 tw16998876814975046082 tw9759213822114098452 tw15926664592372446086 tw17146925644499521399 tw4586789686760790760 tw14631089460918803821 tw3684542771121902440 tw16856319339396054453 tw2534501589778990603 tw1032792464319099740 tw2625892780696068933 tw9044868750778097269 tw675403759046294537 tw12913375887677912445 tw16722102303300516896 tw6032658262423826219 tw17580721078246668286 tw1250286937846077985 tw18326197983399767404 tw8254011705283651586 tw13702936435737259199 tw8287657807154769499 tw1010414596229704972 tw7162222432828043734 tw17347537693984905563 tw6862567656389305469 tw2627515425030334297 tw657250980696799813 tw18166035241171752057 tw16053107267372148875 tw3900050305405360592 tw7509343709865891651 tw3222279859750286510 tw7123337719133394144 tw17018022043907826272 tw1322985141608791596 tw8822540230347553172 tw14782698573800328603 tw7492701598276097908 tw15236165012339151470 tw15197007442922741896 tw17737094566087487210 tw11907896629874841904 tw9832393041619681923 tw12219891909690335166 tw13231271370242787995 tw14398672318516754218 tw3476345336238339936 tw15520536139278476497 tw1354262734917854434 tw11611500585602020853 tw16725298516486141247 tw14120122351221788604 tw10492286233327484062 tw5539725482131909959 tw17792102336082848285 tw12513917736383712878 tw55889277552409492 tw15014737595312889524 tw8625277820742083479 tw10663766464536860147 tw12575479483942355 tw2584429796767774600 tw11771667576546441478 tw1322882418797126179 tw2865603530203072377 tw15248912118504435118 tw1688216791124651584 tw9999309852442518083 tw10928568996872667816 tw9075765156342870644 tw3211233378066622994 tw7606956748274312922 tw642880860600032318 tw9682069002118862424 tw10798712170768761639 tw3477983383837199301 tw2351568432198868598 tw18351707075203877150 tw14599502092471327583 tw2070567298397392527 tw2308602414333839625 tw6150968229136446892 tw483037175064968136 tw10363472403589986710 tw9870299600119919152 tw3697860089624739372 tw7914008015522834442 tw10679126622792139148 tw10715814130445429371 tw7119588162609516961 tw17923825818842250223 tw11755710117141864555 tw3010436264223598959 tw5988012294378688692 tw5555486746220010037 tw1257798621361395598 tw15694317129799215840 tw17743567119088187137 tw17763257838109020317 tw2443604113829375326 tw1286382831204320986 tw1742505949625073385 tw6537694646393116148 tw708138268782286144 tw544202053344891776 tw16705959353748445409 tw10179928274299692532 tw1465203903486500564 tw5918354643510122386 tw10248568768413952645 tw1840630819598132900 tw9135762335104792053 tw4824715423179187470 tw15890794685455135801 tw8772075893989721704 tw11832998510034631149 tw14964792403744911148 tw2109430596786182360 tw15896596067598957166 tw3515481996613715298 tw7694787463637446955 tw12350476337659255226 tw6739028002837592667 tw12644795919086914467 tw4042070260452014974 tw4405719454912934870 tw15406982231980266632 tw12058468104687052993 tw8252683747172816005 tw12471304656034481074 tw2260438014226073996 tw1266802200730095331 tw15414111996798326741 tw18399840190882186195 tw2589961640057944333 tw3620666190848817118 tw12555433797248044593 tw16407382724396722061 tw11861622935673930908 tw13499103080870278885 tw13266023059114672030 tw7642196293358235041 tw12854735539845139456 tw16910690400090927716 tw13683071634991370726 tw12513107058600121247 tw11432499902806907018 tw9452722053481656397 tw7676685618957325089 tw112551042064438095 tw1366080668016059226 tw17642551004251097741 tw14912905682472699289 tw725201754107063120 tw7623326814672971152 tw9365846312279026089 tw8281464342664285858 tw17935715964520216975 tw2163766715438493247 tw13273426859139795159 tw2537001779553489044 tw530280382320269442 tw13841010413214405458 tw11731319695611751897 tw6044143531674540950 tw7928053806411055656 tw519977471367713497 tw14980180710276893415 tw4585502661976524741 tw6523220012212565994 tw5373756923042897121 tw16602039838597011687 tw8999385656261718827 tw13248729718563122238 tw10016828809847025880 tw7702393470982571120 tw1501303520300137748 tw10719212891675378411 tw2514689134221053949 tw2427122198276630510 tw10150170286556248081 tw11556006565052054187 tw4400514386655201658 tw2806879450350555633 tw11284716019700914617 tw17740548537043120181 tw11257132680540883009 tw16256076804053385144 tw15327460873030904192 tw2032415217827799962 tw14607929902555677396 tw7091810799937990217 tw8674643576798664718 tw14307853742844123253 tw9874938087572387263 tw463259802879759381 tw10353289910821635827 tw12179671194862891170 tw11801846327591611241 tw8298037377865981596 tw16202850058553620202 tw8983301902950989156 tw4948368125307931262 tw14350119730234154427 tw11248659979964903507 tw3395730807515228526 tw8518519017583567382 tw7154809670033797305 tw1785314998763512545 tw3257363604293333589 tw12207300154476546080 tw14462831460770316318 tw1644137256726497590 tw7859227597522330616 tw6367686100175702819 tw16728205602130452605 tw3430644312066686128 tw4648647013768018218 tw1236392397701864353 tw17115036156034222453 tw3005405057568102179 tw5857293233561778507 tw3909853335937174436 tw17403997436577400847 tw11177040308553321852 tw16873929988906990294 tw1684422194551890981 tw4430979368660703266 tw12036921487400680597 tw4019928525460105936 tw3497064283139448577 tw17018222179429807701 tw6820340944318560036 tw14454513989748868817 tw16582344452575229094 tw8156642238979532064 tw3761247719067019290 tw2377485808485101132 tw15108542638338619851 tw13933338847689990705 tw2222680398819226122 tw15455508587947550220 tw8892514610419869410 tw1805499209536546177 tw17103817608394454680 tw7452980894265670897 tw13043378882084823187 tw15430502586142613736 tw3426962471485321137 tw6555012011833747918 tw7849172724882137858 tw17994964568852099612 tw16173677611767388773 tw14467034943394264156 tw17268553002802515926 tw1581323834731931295 tw17042319639712400273 tw7517124532123417894 tw16765921249688266003 tw7036665237894365375 tw12027110074945408060 tw4815469400426415185 tw8786864286509946086 tw15992182328216567375 tw4156909411637626442 tw13290893369102406509 tw2045163212305091230 tw965941208345437960 tw17123140988223625514 tw3456545523316918981 tw10233969757889875423 tw15492053728092750426 tw6419371237502616853 tw1308410974294692801 tw4915844097188466692 tw14701782001034293161 tw15239190628918371817 tw4970441774889819406 tw1662064836271653739 tw7727701319528903058 tw14921874235902430769 tw1310594179853855927 tw3128561101853596565 tw5410539837707908305 tw2644247923804128376 tw16234683787848093293 tw3279695908837007008 tw1297787228675835171 tw14499397693551877735 tw2813918831072732842 tw17580143158274067571 tw11027113512555806067 tw2410079247933342674 tw3149725750036671038 tw11237860072047540303 tw11011524898721399030 tw16918492258267996786 tw5855200154110616630 tw1158744708587283665 tw3497762237773154273 tw11767912277030564609 tw16736123908277249910 tw17037943888384012107 tw14058692834753417711 tw8880076606555266414 tw16853032308443131949 tw11984254600005508886 tw11854792837656121192 tw14912798573797696339 tw4180769152588022130 tw11958780497165767272 tw695201034528398876 tw1263855193139419190 tw5257729114190619500 tw13797069587410019571 tw3994596796393579288 tw2010929146367797495 tw3360116160303938998 tw12378422614157646687 tw18259736900080385792 tw11281853303877817503 tw3942725485084480543 tw4387690157051949319 tw17293577485270034445 tw17576510005170482909 tw5596330151107294739 tw11508324067785472008 tw18429058278274660910 tw9154880667227368091 tw5978694894803353756 tw11106397574978650027 tw17714012752959373577 tw3964075781116403330 tw12298937179081994786 tw5432617136211312630 tw16934621429575655367 tw16476943170735850597 tw1289697804100387421 tw10686633921349639056 tw7073196002039970019 tw2919599742660719926 tw8994524689837053962 tw10328579331632327228 tw12667015202192037961 tw16972733603511416804 tw3396490727612447587 tw10834069863437866535 tw7060295632139384756 tw2831579867575657020 tw4186707217543967558 tw8721566696679454468 tw12985792392223062375 tw3267685180232292999 tw10830983731743950071 tw10872460586063248719 tw11459582170226655343 tw17109811070354822926 tw16963561174612496315 tw1568890576665991282 tw11362286722097250458 tw3245683650750863313 tw14629157955364232209 tw5920032989270501214 tw9203745615139471615 tw2942156710973620705 tw3229481506238636359 tw15839049324377869929 tw11708437096663940096 tw14152402677612906888 tw8572213724022799177 tw13320024384178161555 tw11328266261859678343 tw1870004044016451044 tw16377549106133920130 tw16347899471069480024 tw14463324961121102352 tw5876115731894875954 tw10916157363516164375 tw1250283286152091312 tw17574663777857795396 tw11685567031548336794 tw17936235160625021064 tw15889413342829922778 tw7032545957077171527 tw16139191542006132486 tw8506766916927658003 tw7402948031307381903 tw11740852185280954321 tw17687709102510252102 tw4883632055161438804 tw10073862639324291352 tw3240306855605343589 tw3827367796904922568 tw17746047203356086233 tw11277460076887496221 tw16866645154199925409 tw16597574113686003966 tw1611840016123433461 tw4837970692671055947 tw6815741998007254862 tw10905183561046049825 tw15619442318353038808 tw1112039683270339042 tw6617359269408423175 tw1334597744493562388 tw4005588648401354554 tw15710920959237836800 tw3170923427306280642 tw9441154998513581278 tw4289253739176572091 tw3598046915201828311 tw2917535157081915995 tw11032356207955615451 tw17951581171230070319 tw223611954540757611 tw9156094227351452300 tw18431929216609852141 tw1416458689306680510 tw7165594068869570111 tw11271658613880089332 tw11118602195504133332 tw16080257501702099000 tw6814614161079431528 tw9037159901854223026 tw13767576632691231227 tw1227401614653378828 tw2931142607493530196 tw9213804586508067048 tw15178119948829649523 tw10873549296827314962 tw1905277283507928711 tw12638232935988775594 tw13828886113850447592 tw7800081806374332345 tw11082957059855178474 tw3899022760509560206 tw9763283516240853995 tw17321057853522308259 tw10319510230254846436 tw1272739295899893863 tw2734069251954074491 tw18268865465246832778 tw16795695862666024534 tw5225469053126506304 tw5769288158783771996 tw11693132156787976815 tw6000060458097329343 tw18385820702239856067 tw7019790350053998930 tw2149900391412025805 tw9912612638197253582 tw17244207163084005381 tw2037499293904842491 tw2049333282804438713 tw13942881564084947894 tw10106061453434026130 tw309123120723350660 tw12426801762029467179 tw9369392670648904746 tw9627145834075636980 tw11857226067802687046 tw484196714005888435 tw14429093874989461029 tw18363179838711214949 tw1020697489655540837 tw14126145101034195692 tw5897641605136054548 tw4709123922183433812 tw600842832492027814 tw5963950846210368070 tw12106469828902628179 tw13845842463104347584 tw12762336890769140592 tw8641857102620479417 tw17555736408910323207 tw817948489036400903 tw10303547731397315036 tw1286306078060725715 tw8779779207839095132 tw9916098919622422337 tw10173080718463597794 tw1942124477745678955 tw15503772772213300343 tw16313432384326360324 tw16143809331210889700 tw2319954613694448264 tw11720010361178580760 tw13207265197754753439 tw619336149907941847 tw6565319993734109019 tw1527448764126606213 tw4871892328467640526 tw7043455709306594171 tw10636612482690336792 tw1488976042992880083 tw13718305300734677372 tw5979267995030250862 tw18097149905323939663 tw4580625776331148507 tw1225396274106794374 tw2932738340871351470 tw60115633320354528 tw15961307450304036044 tw9569758685710532425 tw7044286236120275895 tw17238764716581641199 tw11635425872949910156 tw2093511362000946407 tw13589767678859758340 tw4843367426769754451 tw11089170521873435139 tw4673719488112259355 tw8032269262085652515 tw8409360119305684984 tw6530661478300544017 tw1202147963454800843 tw18042813420825775595 tw9372261991869429534 tw11482957168387091128 tw9770837715875442151 tw3609482256910774481 tw3711199064222576985 tw641058545847604380 tw8461052660588710306 tw13788126129866877615 tw17882279530549009445 tw8140300083288252357 tw9855260739646901986 tw12001311636122618388 tw4772058710553427901 tw18355988001895126620 tw5847237652323543203 tw7150103893950416607 tw4559278747096032334 tw9134140535985049570 tw7614486187707181439 tw5429750956752631224 tw3525204720306218492 tw17012995640370702044 tw1230820503301303998 tw5755073097350797516 tw8767131137658931526 tw18243666290720402886 tw9555538036176079232 tw14877002666534084935 tw16993129229345733917 tw10214605562815727382 tw11910722829554530703 tw13236468563271346683 tw12914409731494764208 tw12904244398739140255 tw6809061901584652272 tw8342974365677758072 tw14729050779642868226:True)
local macro_rules | `(tactic| k_head) => `(tactic| z_head)
set_option maxHeartbeats 0 in
theorem aF4:type_of%@PySem.wpAny_bind:=@PySem.wpAny_bind
theorem aF5:type_of%@Nat.le_trans:=@Nat.le_trans
theorem aF6:type_of%@PySem.Heap.get?_push_of_some:=@PySem.Heap.get?_push_of_some
theorem aF7:type_of%@Nat.le_of_ble_eq_true:=@Nat.le_of_ble_eq_true
theorem aF8:type_of%@List.mem_cons:=@List.mem_cons
theorem aF9:type_of%@Nat.le_refl:=@Nat.le_refl
theorem aG0:type_of%@List.mem_cons_self:=@List.mem_cons_self
theorem aG1:type_of%@List.mem_cons_of_mem:=@List.mem_cons_of_mem
theorem aG2:type_of%@PySem.Heap.lt_size:=@PySem.Heap.lt_size
theorem aG3:type_of%@PySem.wpAny_pure:=@PySem.wpAny_pure
theorem aG4:type_of%@List.not_mem_nil:=@List.not_mem_nil
theorem aG5:type_of%@PySem.Heap.get?_push_size:=@PySem.Heap.get?_push_size
theorem aG6:type_of%@List.lookup_cons:=@List.lookup_cons
theorem aG7:type_of%@Nat.lt_of_lt_of_le:=@Nat.lt_of_lt_of_le
theorem aG8:type_of%@Nat.pow_le_pow_right:=@Nat.pow_le_pow_right
theorem aG9:type_of%@List.length_cons:=@List.length_cons
theorem aH0:type_of%@PySem.mem_of_lookup:=@PySem.mem_of_lookup
theorem aH1:type_of%@PySem.W.mg_of:=@PySem.W.mg_of
theorem aH2:type_of%@Int.mul_assoc:=@Int.mul_assoc
theorem aH3:type_of%@List.length_map:=@List.length_map
theorem aH4:type_of%@Bool.and_eq_true:=@Bool.and_eq_true
theorem aH5:type_of%@Nat.zero_le:=@Nat.zero_le
theorem aH6:type_of%@decide_eq_false:=@decide_eq_false
theorem aH7:type_of%@List.getElem?_eq_getElem:=@List.getElem?_eq_getElem
theorem aH8:type_of%@List.map_cons:=@List.map_cons
theorem aH9:type_of%@Bool.false_ne_true:=@Bool.false_ne_true
theorem aI0:type_of%@List.size_toArray:=@List.size_toArray
theorem aI1:type_of%@Nat.lt_of_le_of_lt:=@Nat.lt_of_le_of_lt
theorem aI2:type_of%@Int.mul_comm:=@Int.mul_comm
theorem aI3:type_of%@List.getElem?_eq_some_iff:=@List.getElem?_eq_some_iff
theorem aI4:type_of%@decide_eq_true:=@decide_eq_true
theorem aI5:type_of%@Int.natAbs_mul:=@Int.natAbs_mul
theorem aI6:type_of%@List.length_append:=@List.length_append
theorem aI7:type_of%@or_false:=@or_false
theorem aI8:type_of%@Int.fmod_nonneg_of_pos:=@Int.fmod_nonneg_of_pos
theorem aI9:type_of%@List.mem_append_right:=@List.mem_append_right
theorem aJ0:type_of%@Nat.ne_of_lt:=@Nat.ne_of_lt
theorem aJ1:type_of%@Nat.lt_succ_self:=@Nat.lt_succ_self
theorem aJ2:type_of%@List.getD_eq_getElem?_getD:=@List.getD_eq_getElem?_getD
theorem aJ3:type_of%@Int.fmod_lt_of_pos:=@Int.fmod_lt_of_pos
theorem aJ4:type_of%@PySem.wpAny_field:=@PySem.wpAny_field
theorem aJ5:type_of%@PySem.W.mg_none_of:=@PySem.W.mg_none_of
theorem aJ6:type_of%@Nat.mul_le_mul:=@Nat.mul_le_mul
theorem aJ7:type_of%@Nat.lt_irrefl:=@Nat.lt_irrefl
theorem aJ8:type_of%@List.mem_singleton:=@List.mem_singleton
theorem aJ9:type_of%@List.length_set:=@List.length_set
theorem aK0:type_of%@List.mem_map:=@List.mem_map
theorem aK1:type_of%@Nat.lt_trans:=@Nat.lt_trans
theorem aK2:type_of%@List.mem_of_getElem?:=@List.mem_of_getElem?
theorem aK3:type_of%@Int.mul_pos:=@Int.mul_pos
theorem aK4:type_of%@congrArg:=@congrArg
theorem aK5:type_of%@PySem.wpAny_truthy_bool:=@PySem.wpAny_truthy_bool
theorem aK6:type_of%@Option.some.inj:=@Option.some.inj
theorem aK7:type_of%@List.append_nil:=@List.append_nil
theorem aK8:type_of%@PySem.wpAny_setField_rec:=@PySem.wpAny_setField_rec
theorem aK9:type_of%@Nat.not_lt_zero:=@Nat.not_lt_zero
theorem aL0:type_of%@PySem.wpAny_pyIter_list:=@PySem.wpAny_pyIter_list
theorem aL1:type_of%@Nat.ne_of_gt:=@Nat.ne_of_gt
theorem aL2:type_of%@PySem.Heap.size_push:=@PySem.Heap.size_push
theorem aL3:type_of%@Nat.eq_zero_or_pos:=@Nat.eq_zero_or_pos
theorem aL4:type_of%@PySem.wpAny_callSpecial?_slot:=@PySem.wpAny_callSpecial?_slot
theorem aL5:type_of%@Int.fdiv_eq_ediv_of_nonneg:=@Int.fdiv_eq_ediv_of_nonneg
theorem aL6:type_of%@PySem.SeqAt.canLay_of_shaped:=@PySem.SeqAt.canLay_of_shaped
theorem aL7:type_of%@List.getElem?_map:=@List.getElem?_map
theorem aL8:type_of%@beq_eq_false_iff_ne:=@beq_eq_false_iff_ne
theorem aL9:type_of%@List.mem_append:=@List.mem_append
theorem aM0:type_of%@PySem.wpAny_loadPart':=@PySem.wpAny_loadPart'
theorem aM1:type_of%@List.all_eq_true:=@List.all_eq_true
theorem aM2:type_of%@Nat.pow_succ:=@Nat.pow_succ
theorem aM3:type_of%@PySem.wpAny_newObj_type:=@PySem.wpAny_newObj_type
theorem aM4:type_of%@of_decide_eq_true:=@of_decide_eq_true
theorem aM5:type_of%@PyProof.Rows.callWith_type1:=@PyProof.Rows.callWith_type1
theorem aM6:type_of%@PySem.PassesOwn.never:=@PySem.PassesOwn.never
theorem aM7:type_of%@PySem.wpAny_mono:=@PySem.wpAny_mono
theorem aM8:type_of%@Int.natAbs_neg:=@Int.natAbs_neg
theorem aM9:type_of%@Nat.pow_add:=@Nat.pow_add
theorem aN0:type_of%@List.map_nil:=@List.map_nil
theorem aN1:type_of%@Bool.eq_iff_iff:=@Bool.eq_iff_iff
theorem aN2:type_of%@Nat.pow_lt_pow_right:=@Nat.pow_lt_pow_right
theorem aN3:type_of%@List.map_map:=@List.map_map
theorem aN4:type_of%@List.map_append:=@List.map_append
theorem aN5:type_of%@List.flatMap_cons:=@List.flatMap_cons
theorem aN6:type_of%@List.length_eq_zero_iff:=@List.length_eq_zero_iff
theorem aN7:type_of%@Nat.mul_le_mul_left:=@Nat.mul_le_mul_left
theorem aN8:type_of%@List.mem_range:=@List.mem_range
theorem aN9:type_of%@PySem.wpAny_call_entry:=@PySem.wpAny_call_entry
theorem aO0:type_of%@PySem.wpAny_seqItems:=@PySem.wpAny_seqItems
theorem aO1:type_of%@PySem.sizeLine_eq:=@PySem.sizeLine_eq
theorem aO2:type_of%@PySem.wpAny_pyIter_tuple:=@PySem.wpAny_pyIter_tuple
theorem aO3:type_of%@PySem.wpAny_Call_Name_kw:=@PySem.wpAny_Call_Name_kw
theorem aO4:type_of%@PySem.wpAny_passesOwn:=@PySem.wpAny_passesOwn
theorem aO5:type_of%@Int.mul_eq_zero:=@Int.mul_eq_zero
theorem aO6:type_of%@Int.natAbs_sub_le:=@Int.natAbs_sub_le
theorem aO7:type_of%@List.getElem?_set_ne:=@List.getElem?_set_ne
theorem aO8:type_of%@Ne.symm:=@Ne.symm
theorem aO9:type_of%@List.forIn_cons:=@List.forIn_cons
theorem aP0:type_of%@List.getElem_idxOf:=@List.getElem_idxOf
theorem aP1:type_of%@Int.lt_or_gt_of_ne:=@Int.lt_or_gt_of_ne
theorem aP2:type_of%@Nat.le_of_lt:=@Nat.le_of_lt
theorem aP3:type_of%@if_true:=@if_true
theorem aP4:type_of%@Nat.add_le_add:=@Nat.add_le_add
theorem aP5:type_of%@Nat.mul_comm:=@Nat.mul_comm
theorem aP6:type_of%@List.length_take:=@List.length_take
theorem aP7:type_of%@List.any_eq_true:=@List.any_eq_true
theorem aP8:type_of%@Int.mul_one:=@Int.mul_one
theorem aP9:type_of%@List.nodup_cons:=@List.nodup_cons
theorem aQ0:type_of%@List.find?_cons:=@List.find?_cons
theorem aQ1:type_of%@List.length_nil:=@List.length_nil
theorem aQ2:type_of%@Int.neg_mul_neg:=@Int.neg_mul_neg
theorem aQ3:type_of%@beq_iff_eq:=@beq_iff_eq
set_option maxHeartbeats 0 in
open_top PHD for PySem.Challenge.rw_spaceturns_k59_whole_from_lines_to_turns
namespace L2
open PySem PySem.Spec PyProof.Rows
variable{us:List Value}{C a b dx it:Addr}{P:Program}{w:World}{base h:Heap}{o:Obj}{g':Array GenState}{ch fp:List Addr}{qual x:Str}{N ps:List Str}{i j k n:Nat}{M:Model}{A:Around}{E Q:Value->Shared->Prop}{u:Value}{s s':Shared}{c e l tg:Expr}{α:Type}{pins:List (Addr×Obj)}{p pos:Pos}{K:W.Frag}{es:List Expr}{body:List Stmt}{f:Value->Value->Sem Value}{g:Int->Int->Int}{op op':CmpOp}{mA mg:Str->Option Value}{pl:Sem Bool}{kw:List (Str×Value)}{fd:FuncData}{outer:List Env}{scope:Scope}
noncomputable abbrev bM:=Sum Int Str
noncomputable def nN:bM->Value->Bool
 | .inl k,v=>Value.isInt k v
 | .inr x,v=>Value.isStrOf x v
noncomputable def ac7(w:World):bM->Int
 | .inl k=>hashInt k
 | .inr x=>hashStr w x
theorem dR:∀{k:bM} {v:Value},nN k v=true->(∃i t,k=Sum.inl i/\v=Value.int i t)\/(∃x t,k=Sum.inr x/\v=Value.str x t)
 | .inl i,v,h=>by
  obtain⟨t,e⟩:=Value.isInt_shape (k:=i) (v:=v) h
  exact .inl ⟨i,t,rfl,e⟩
 | .inr x,v,h=>by
  obtain⟨t,e⟩:=Value.isStrOf_shape (x:=x) (v:=v) h
  exact .inr ⟨x,t,rfl,e⟩
theorem A7(i:Int)(t:Tok):nN (.inl i) (.int i t)=true:=by simp[nN,Value.isInt]
theorem A6(x:Str)(t:Tok):nN (.inr x) (.str x t)=true:=by simp[nN,Value.isStrOf]
theorem M4(a b:Int):decide ((Sum.inl a:bM)=Sum.inl b)=(a==b):=by
 by_cases e:a=b
 ·subst e;simp
 ·have h:¬ (Sum.inl a:bM)=Sum.inl b:=λq=>e (Sum.inl.inj q)
  rw[aH6 h]
  exact(aL8.mpr e).symm
theorem M1(a b:Str):decide ((Sum.inr a:bM)=Sum.inr b)=decide (a=b):=by
 by_cases e:a=b
 ·subst e;simp
 ·have h:¬ (Sum.inr a:bM)=Sum.inr b:=λq=>e (Sum.inr.inj q)
  rw[aH6 h,aH6 e]
theorem M3(a:Int)(b:Str):decide ((Sum.inl a:bM)=Sum.inr b)=false:=aH6 (λq=>nomatch q)
theorem M2(a:Str)(b:Int):decide ((Sum.inr a:bM)=Sum.inl b)=false:=aH6 (λq=>nomatch q)
noncomputable def gJ(prog:Program)(w:World):PySem.KeyKind prog w bM where
 is:=nN
 hash:=ac7 w
 inj:=λv a b ha hb=>by
  rcases dR ha with⟨i,t,rfl,rfl⟩|⟨x,t,rfl,rfl⟩
  ·rcases dR hb with⟨j,u,rfl,e⟩|⟨y,u,rfl,e⟩
   ·injection e with e1 _;rw[e1]
   ·exact nomatch e
  ·rcases dR hb with⟨j,u,rfl,e⟩|⟨y,u,rfl,e⟩
   ·exact nomatch e
   ·injection e with e1 _;rw[e1]
 byValue:=λk v h=>by
  rcases dR h with⟨i,t,rfl,rfl⟩|⟨x,t,rfl,rfl⟩<;>rfl
 pyHash:=λhv h=>by
  rcases dR hv with⟨i,t,rfl,rfl⟩|⟨x,t,rfl,rfl⟩
  ·exact wpAny_pyHash_int h
  ·exact wpAny_pyHash_str h
 eqBool:=λhu hv h=>by
  rcases dR hu with⟨i,t,rfl,rfl⟩|⟨x,t,rfl,rfl⟩
  ·rcases dR hv with⟨j,u,rfl,rfl⟩|⟨y,u,rfl,rfl⟩
   ·rw[M4]at h;exact wpAny_eqBool_int h
   ·rw[M3]at h;exact SeqAt.EqAt.int_str i t y u _ _ _ _ h
  ·rcases dR hv with⟨j,u,rfl,rfl⟩|⟨y,u,rfl,rfl⟩
   ·rw[M2]at h;exact SeqAt.EqAt.str_int x t j u _ _ _ _ h
   ·rw[M1]at h;exact wpAny_eqBool_str h
 «strs» := λk x t v h=>by
  rcases dR h with⟨i,u,rfl,e⟩|⟨y,u,rfl,e⟩
  ·exact nomatch e
  ·injection e with e1 _
   subst e1
   cases v<;>rfl
theorem wO(prog:Program)(w:World)(i:Int)(t:Tok):(gJ prog w).is (.inl i) (.int i t)=true:=A7 i t
theorem wM(prog:Program)(w:World)(x:Str)(t:Tok):(gJ prog w).is (.inr x) (.str x t)=true:=A6 x t
inductive V where
 | non|bl (b:Bool)|int (i:Int)|str (x:Str)|byt (b:Array UInt8)|flt (b:UInt64)|ref (a:Addr)|ty (n:String)
 deriving DecidableEq
noncomputable def bO:V->Value->Prop
 | .non,u=>u=Value.none
 | .bl b,u=>u=Value.bool b
 | .int i,u => ∃t,u=Value.int i t
 | .str x,u => ∃t,u=Value.str x t
 | .byt b,u => ∃t,u=Value.bytes b t
 | .flt b,u => ∃t,u=Value.float b t
 | .ref a,u=>u=Value.ref a
 | .ty n,u=>u=Value.type n
noncomputable abbrev bi:List V->List Value->Prop:=Paired bO
theorem bi.length{xs:List V}(r:bi xs us):xs.length=us.length:=Paired.length r
theorem bi.get:∀{xs:List V} {us:List Value} {i:Nat} {x:V},bi xs us->xs[i]?=some x->∃u,us[i]?=some u/\bO x u
 | _,_,_,_,.nil,e=>by simp at e
 | _,_,0,_,.cons r _,e=>by simp at e;subst e;exact⟨_,rfl,r⟩
 | _,_,i+1,x,.cons _ t,e=>by
  obtain⟨u,h1,h2⟩:=bi.get (i:=i) (x:=x) t (by simpa using e)
  exact⟨u,by simpa using h1,h2⟩
theorem bi.set{x:V}{u:Value}(r:bO x u):∀{xs:List V} {us:List Value} (i:Nat),bi xs us->bi (xs.set i x) (us.set i u)
 | _,_,_,.nil=>.nil
 | _,_,0,.cons _ t=>.cons r t
 | _,_,i+1,.cons q t=>.cons q (bi.set r i t)
theorem bi.append:∀{xs ys:List V} {us ws:List Value},bi xs us->bi ys ws->bi (xs++ys) (us++ws)
 | _,_,_,_,.nil,s=>s
 | _,_,_,_,.cons r t,s=>.cons r (bi.append t s)
theorem bi.take:∀{xs:List V} {us:List Value} (n:Nat),bi xs us->bi (xs.take n) (us.take n)
 | _,_,0,_=>.nil
 | _,_,_+1,.nil=>.nil
 | _,_,n+1,.cons r t=>.cons r (bi.take n t)
theorem bi.drop:∀{xs:List V} {us:List Value} (n:Nat),bi xs us->bi (xs.drop n) (us.drop n)
 | _,_,0,r=>r
 | _,_,_+1,.nil=>.nil
 | _,_,n+1,.cons _ t=>bi.drop n t
theorem bi.none_of:∀{xs:List V} {us:List Value} {i:Nat},bi xs us->xs[i]?=none->us[i]?=none:=λ{xs us i} r e=>by
 have h1:=r.length
 have h2:xs.length<=i:=List.getElem?_eq_none_iff.mp e
 exact List.getElem?_eq_none_iff.mpr (by omega)
noncomputable def gn:Option V->Option Value->Prop
 | some v,some u=>bO v u
 | none,none=>True
 | _,_=>False
noncomputable def KV{κ:Type}:List (κ×V)->List (κ×Value)->Prop:=Paired λ(p:κ×V) (q:κ×Value)=>p.1=q.1/\bO p.2 q.2
noncomputable def kV:bM->V
 | .inl i=>.int i
 | .inr x=>.str x
inductive HO where
  | lst (xs:List V)
  | tup (xs:List V)
  | dK (kvs:List (bM×V))|dT (kvs:List (List bM×V))
  | set (S:Int->Bool) (n:Nat)
  | ins (C dx:Addr) (fs:List (Str×V))
  | own (x:Addr)
  | xd (fs:List (Str×V))
  | met (f x:Addr)
  | rng (lo hi:Int)
  | frz (o:Obj) (u:HO)
  | tbl (ps:Array Value)
  | ext (φ:Heap->Prop)
noncomputable abbrev Hp:=Addr->Option HO
noncomputable def bo(H:Hp)(a:Addr)(o:HO):Hp:=λb=>if b=a then some o else H b
theorem aU{H:Hp}{o:HO}:bo H a o a=some o:=by unfold bo;rw[if_pos rfl]
theorem aK{H:Hp}{o:HO}(h:b≠a):bo H a o b=H b:=by unfold bo;rw[if_neg h]
theorem xk{H:Hp}{o u:HO}:bo (bo H a o) a u=bo H a u:=by
 funext b;unfold bo;split<;>rfl
theorem gh{H:Hp}{o u:HO}(h:H a=some o)(h':H b=some u)(d:o≠u):a≠b:=by
 intro e;subst e;rw[h]at h';exact d (aK6 h')
theorem cu{H:Hp}{o:HO}(h:H a=some o)(h':H b=none):a≠b:=by
 intro e;subst e;rw[h]at h';cases h'
section
variable(P:Program)(w:World)
noncomputable def k9(h:Heap)(a:Addr)(items:Array Value):Prop:=IsTup h a items/\∃o,h.get? a=some o/\o.dict=none
theorem k9.new(h:Heap)(items:Array Value):k9 (h.push { cls:=.type "tuple", data:=.seq items }) h.objs.size items:=⟨IsTup.new h items,_,aG5 _ rfl,rfl⟩
noncomputable def dn(H:Hp)(h:Heap)(a:Addr):HO->Prop
  | .lst xs=>xs.length<=sizeLine/\∃(its:List Value) (n:Nat),bi xs its/\h.get? a=some { cls:=.type "list", data:=.seq its.toArray n }
  | .tup xs=>xs.length<=sizeLine/\∃its:List Value,bi xs its/\k9 h a its.toArray
  | .dK kvs=>kvs.length<=sizeLine/\(a==sysModules)=false/\∃vs,KV kvs vs/\h.DictOf (gJ P w) a vs
  | .dT kvs=>kvs.length<=sizeLine/\(a==sysModules)=false/\∃xs:List (List bM×Addr×Value),
      Paired (λ(p:List bM×V) (q:List bM×Addr×Value)=>p.1=q.1/\H q.2.1=some (.tup (p.1.map kV))/\bO p.2 q.2.2) kvs xs /\
      ∃o es ep,h.get? a=some o/\o.ExactDict/\o.data=.dict es ep/\es.toList=xs.map (entryOfKey (tupleKind (gJ P w)))/\(xs.map (·.1)).Nodup
  | .set S n=>h.SetOf (intKind P w) a S n
  | .ins C dx fs=>H dx=some (.own a)/\fs.length<=1000/\dx≠a/\h.get? a=some (W.instObj C dx) /\
      ∃mA,h.Ns1 dx mA/\(∀f,gn (fs.lookup f) (mA f))/\PySem.Within mA (fs.map (·.1))
  | .own _ => ∃o,h.get? a=some o
  | .xd fs => ∃mA,h.Ns1 a mA/\∀f,gn (fs.lookup f) (mA f)
  | .rng lo hi => ∃t u v,h.get? a=some { cls:=.type "range", data:=.fields #[.int lo t,.int hi u,.int 1 v] }
  | .frz o u=>h.get? a=some o/\dn H h a u
  | .tbl ps=>h.get? a=some { cls:=.none,data:=.fields ps }
  | .met f x=>h.get? a=some (W.methodObj (.ref f) (.ref x))
  | .ext φ=>φ h/\(∃o,h.get? a=some o)/\∀h1 h2:Heap,φ h1->(∀o,h1.get? a=some o->h2.get? a=some o)->φ h2
noncomputable def fB(H:Hp)(h:Heap):Prop:=∀a o,H a=some o->dn P w H h a o
end
section
variable{H H':Hp}{h':Heap}{o:HO}
theorem dn.lt(x:dn P w H h a o):a<h.objs.size:=by
 cases o with
 | lst xs=>obtain⟨_,_,_,_,e⟩:=x;exact aG2 e
 | tup xs=>obtain⟨_,_,_,p⟩:=x;exact p.1.lt
 | dK kvs=>obtain⟨_,_,_,_,o,_,_,e,_⟩:=x;exact aG2 e
 | dT kvs=>obtain⟨_,_,_,_,o,_,_,e,_⟩:=x;exact aG2 e
 | set S n=>obtain⟨o,_,_,_,e,_⟩:=x;exact aG2 e
 | ins C dx fs=>obtain⟨_,_,_,e,_⟩:=x;exact aG2 e
 | own y=>obtain⟨_,e⟩:=x;exact aG2 e
 | xd fs=>obtain⟨_,⟨_,_,_,e,_⟩,_⟩:=x;exact aG2 e
 | rng lo hi=>obtain⟨_,_,_,e⟩:=x;exact aG2 e
 | frz ob u=>obtain⟨e,_⟩:=x;exact aG2 e
 | tbl ps=>exact aG2 (show h.get? a=some _ from x)
 | met f y=>exact aG2 (show h.get? a=some _ from x)
 | ext φ=>obtain⟨_,⟨_,e⟩,_⟩:=x;exact aG2 e
theorem Paired.mapP{α β:Type}{F G:α->β->Prop}:∀{l₁:List α} {l₂:List β},Paired F l₁ l₂->(∀a b,F a b->G a b)->Paired G l₁ l₂
 | _,_,.nil,_=>.nil
 | _,_,.cons r t,f=>.cons (f _ _ r) (Paired.mapP t f)
theorem dn.stay(x:dn P w H h a o)(k:∀b u,(b=a\/H b=some (.own a))->h.get? b=some u->h'.get? b=some u)
  (ho:∀b,H b=some (.own a)->H' b=some (.own a)) (ht:∀b xs,H b=some (.tup xs)->H' b=some (.tup xs)):dn P w H' h' a o:=by
 induction o with
 | lst xs=>obtain⟨z,its,n,r,e⟩:=x;exact⟨z,its,n,r,k _ _ (.inl rfl) e⟩
 | tup xs=>obtain⟨z,its,r,⟨ob,e,c⟩,o2,e2,d2⟩:=x;exact⟨z,its,r,⟨ob,k _ _ (.inl rfl) e,c⟩,o2,k _ _ (.inl rfl) e2,d2⟩
 | dK kvs=>obtain⟨z,y,vs,r,ob,es,ep,e,c⟩:=x;exact⟨z,y,vs,r,ob,es,ep,k _ _ (.inl rfl) e,c⟩
 | dT kvs =>
  obtain⟨z,y,xs,r,ob,es,ep,e,c⟩:=x
  exact⟨z,y,xs,Paired.mapP r λp q z=>⟨z.1,ht _ _ z.2.1,z.2.2⟩,ob,es,ep,k _ _ (.inl rfl) e,c⟩
 | set S n=>obtain⟨ob,es,ep,t,e,c⟩:=x;exact⟨ob,es,ep,t,k _ _ (.inl rfl) e,c⟩
 | ins C dx fs =>
  obtain⟨d,z,ne,e,mA,⟨od,es,ep,e2,c⟩,r⟩:=x
  exact⟨ho _ d,z,ne,k _ _ (.inl rfl) e,mA,⟨od,es,ep,k _ _ (.inr d) e2,c⟩,r⟩
 | own y=>obtain⟨ob,e⟩:=x;exact⟨ob,k _ _ (.inl rfl) e⟩
 | xd fs=>obtain⟨mA,⟨od,es,ep,e,c⟩,r⟩:=x;exact⟨mA,⟨od,es,ep,k _ _ (.inl rfl) e,c⟩,r⟩
 | rng lo hi=>obtain⟨t,u,v,e⟩:=x;exact⟨t,u,v,k _ _ (.inl rfl) e⟩
 | frz ob u ih=>obtain⟨e,q⟩:=x;exact⟨k _ _ (.inl rfl) e,ih q⟩
 | tbl ps =>
  have e:h.get? a=some { cls:=.none,data:=.fields ps }:=x
  show h'.get? a=some { cls:=.none,data:=.fields ps }
  exact k a _ (.inl rfl) e
 | met f y =>
  have e:h.get? a=some (W.methodObj (.ref f) (.ref y)):=x
  show h'.get? a=some (W.methodObj (.ref f) (.ref y))
  exact k a _ (.inl rfl) e
 | ext φ=>obtain⟨p,⟨o,e⟩,st⟩:=x;exact⟨st _ _ p λo q=>k _ _ (.inl rfl) q,⟨o,k _ _ (.inl rfl) e⟩,st⟩
theorem fB.lt(x:fB P w H h)(e:H a=some o):a<h.objs.size:=(x a o e).lt
theorem fB.fresh(x:fB P w H h)(e:h.objs.size<=a):H a=none:=by
 cases q:H a with
 | none=>rfl
 | some u=>exact absurd (aG7 (x.lt q) e) (aJ7 _)
theorem fB.kept(x:fB P w H h)(k:∀b u,h.get? b=some u->h'.get? b=some u):fB P w H h':=λa o e =>
 (x a o e).stay (λb u _ q=>k b u q) (λ_ q=>q) λ_ _ q=>q
theorem fB.laid(x:fB P w H h)(k:∀b u,h.get? b=some u->h'.get? b=some u)(hp:h.objs.size<=a)(new:dn P w (bo H a o) h' a o):fB P w (bo H a o) h':=λb u e=>by
 have hn:=x.fresh hp
 by_cases hb:b=a
 ·subst hb;rw[aU]at e;cases e;exact new
 ·rw[aK hb]at e
  exact(x b u e).stay (λc v _ q=>k c v q) (λc q=>by rw[aK (cu q hn)];exact q) λc xs q=>by rw[aK (cu q hn)];exact q
end
noncomputable def Rd(H:Hp)(a:Addr)(u:HO):Prop:=H a=some u\/∃o,H a=some (.frz o u)
theorem Rd.ok{H:Hp}{u:HO}(r:Rd H a u)(x:fB P w H h):dn P w H h a u:=by
 rcases r with r|⟨o,r⟩
 ·exact x a u r
 ·obtain⟨_,q⟩:=x a _ r
  exact q
noncomputable def Gv:Option HO->Prop
 | some (.lst _)=>True
 | some (.dK _)=>True
 | some (.dT _)=>True
 | some (.set _ _)=>True
 | some (.ins _ _ _)=>True
 | some (.ext _)=>True
 | _=>False
section
variable{H:Hp}{h':Heap}{x e:Addr}{o':HO}
theorem fB.write(ok:fB P w H h)(mu:Gv (H x))(he:e=x\/H e=some (.own x))(k:∀b u,b≠e->h.get? b=some u->h'.get? b=some u)(heo:∃u,h'.get? e=some u)
  (new:dn P w (bo H x o') h' x o'):fB P w (bo H x o') h':=λb u q=>by
 have nown:∀c y,H c=some (.own y)->c≠x:=λc y r z=>by subst z;rw[r]at mu;exact mu
 have ntup:∀c xs,H c=some (.tup xs)->c≠x:=λc xs r z=>by subst z;rw[r]at mu;exact mu
 by_cases hb:b=x
 ·subst hb;rw[aU]at q;cases q;exact new
 ·rw[aK hb]at q
  by_cases hbe:b=e
  ·have q':H b=some (.own x):=by
    rcases he with z|z
    ·exact absurd (hbe.trans z) hb
    ·rw[hbe];exact z
   rw[q]at q';cases q'
   obtain⟨v,hv⟩:=heo
   exact⟨v,by rw[hbe];exact hv⟩
  ·refine(ok b u q).stay (λc v hc r=>k c v ?_ r) (λc r=>by rw[aK (nown c b r)];exact r) λc xs r=>by rw[aK (ntup c xs r)];exact r
   rcases hc with rfl|hc
   ·exact hbe
   ·rintro rfl
    rcases he with z|z
    ·exact nown c b hc z
    ·rw[hc]at z;cases z;exact hb rfl
end
structure Un(fs ex:List Addr)(H H':Hp)(h h':Heap):Prop where
 keep:∀b o,h.get? b=some o->H b=none->b∉fs->b∉ex->h'.get? b=some o
 slot:∀b o,h.get? b=some o->H b=none->b∈fs->b∉ex->∃sl,h'.get? b=some { o with slots:=sl }
 free:∀b o,h.get? b=some o->H b=none->b∉ex->H' b=none
 there:∀b o,h.get? b=some o->b∉ex->∃o',h'.get? b=some o'
 tups:∀b xs,H b=some (.tup xs)->H' b=some (.tup xs)
 frzs:∀b o u,H b=some (.frz o u)->H' b=some (.frz o u)
 tbls:∀b ps,H b=some (.tbl ps)->∃more,H' b=some (.tbl (ps++more))
section
variable{fs fs' ex ex':List Addr}{H H1 H2:Hp}{h1 h2 h':Heap}{x e:Addr}{o:HO}
theorem Un.any(u:Un fs ex H H1 h h1){ob:Obj}(q:h.get? b=some ob)(n:H b=none)(hx:b∉ex):∃sl,h1.get? b=some { ob with slots:=sl }:=by
 by_cases hb:b∈fs
 ·exact u.slot b ob q n hb hx
 ·exact⟨ob.slots,u.keep b ob q n hb hx⟩
theorem Un.kept(k:∀b u,h.get? b=some u->h'.get? b=some u):Un fs ex H H h h' :=
 ⟨λb ob q _ _ _=>k b ob q,λb ob q _ _ _=>⟨ob.slots,k b ob q⟩,λ_ _ _ n _=>n,λb ob q _=>⟨ob,k b ob q⟩,λ_ _ q=>q,λ_ _ _ q=>q,λ_ ps q=>⟨#[],by rw[q];simp⟩⟩
theorem Un.refl:Un fs ex H H h h:=Un.kept λ_ _ q=>q
theorem Un.laid(k:∀b u,h.get? b=some u->h'.get? b=some u)(hp:h.objs.size<=a)(hn:H a=none):Un fs ex H (bo H a o) h h' where
 keep:=λb u q _ _ _=>k b u q
 slot:=λb u q _ _ _=>⟨u.slots,k b u q⟩
 free:=λb u q n _=>by rw[aK (aJ0 (aG7 (aG2 q) hp))];exact n
 there:=λb u q _=>⟨u,k b u q⟩
 tups:=λb xs q=>by rw[aK (cu q hn)];exact q
 frzs:=λb u xs q=>by rw[aK (cu q hn)];exact q
 tbls:=λb ps q=>⟨#[],by rw[aK (cu q hn),q];simp⟩
theorem Un.write(mu:Gv (H x))(he:e=x\/H e=some (.own x))(k:∀b u,b≠e->h.get? b=some u->h'.get? b=some u)(heo:∃u,h'.get? e=some u):Un fs ex H (bo H x o) h h':=by
 have hx:∀b,H b=none->b≠x:=λb n z=>by subst z;rw[n]at mu;exact mu
 have hb:∀b,H b=none->b≠e:=λb n z=>by
  subst z
  rcases he with r|r
  ·exact hx b n r
  ·rw[n]at r;cases r
 have hm:∀b u,H b=some u -> ¬ Gv (some u)->b≠x:=λb u q nm z=>by subst z;rw[q]at mu;exact nm mu
 refine⟨λb u q n _ _=>k b u (hb b n) q,λb u q n _ _=>⟨u.slots,k b u (hb b n) q⟩,λb u q n _=>by rw[aK (hx b n)];exact n,λb u q _=>?_,
  λb xs q=>by rw[aK (hm b _ q λz=>z)];exact q,λb u xs q=>by rw[aK (hm b _ q λz=>z)];exact q,λb ps q=>⟨#[],by rw[aK (hm b _ q λz=>z),q];simp⟩⟩
 by_cases hbe:b=e
 ·subst hbe;exact heo
 ·exact⟨u,k b u hbe q⟩
end
noncomputable def Eu(h:Heap)(H:Hp):List Addr:=(List.range h.objs.size).filter λa=>(H a).isSome
noncomputable def lA(h:Heap)(H:Hp):Heap:=W.hideAll h (Eu h H)
theorem Bg(h:Heap)(H:Hp):(lA h H).objs.size=h.objs.size:=W.hideAll_size _ _
theorem Dp{H:Hp}(e:h.get? b=some o)(n:H b=none):(lA h H).get? b=some o :=
 W.hideAll_get _ e λhm=>by
  have q:(H b).isSome=true:=(List.mem_filter.mp hm).2
  rw[n]at q;simp at q
theorem IU{H:Hp}(e:(lA h H).get? b=some o):h.get? b=some o/\H b=none:=by
 have e':h.get? b=some o:=W.of_hideAll (Eu h H) e
 refine⟨e',?_⟩
 cases q:H b with
 | none=>rfl
 | some x =>
  have hm:b∈Eu h H:=List.mem_filter.mpr ⟨aN8.mpr (aG2 e'),by simp[q]⟩
  have z:(lA h H).get? b=none:=W.hideAll_none (Eu h H) hm
  rw[z]at e;cases e
noncomputable def Kh(g h:Heap)(L:Addr):List (Addr×Obj):=(List.range h.objs.size).filterMap λa=>if a=L\/(g.get? a).isSome=true then none else(h.get? a).map λo=>(a,o)
noncomputable def rest(g h:Heap)(L d:Addr):List (Addr×Obj):=(Kh g h L).filter λp=>decide (p.1≠d)
variable{v y:V}{H:Hp}{R:V->V->Hp->Prop}{vs:List V}
structure Mod(K:W.Frag)(mg:Str->Option Value)(base:Heap):Prop where
 kin:K.In base
 glob:base.Ns mainGlobals mg
 blt:∃mb,base.Ns builtinsNs mb/\∀x:Str,x ≠ "__name__" -> mb x=bootBuiltins x
 nolimit:base.NoLimit
structure Cx where
 prog:Program
 w:World
 K:W.Frag
 mg:Str->Option Value
 base:Heap
 A:Around
 N:List Str
 s₀:Shared
 H₀:Hp
 env:Env
 outer:List Env
 stack:List Env
 ex:List Addr
 fn:Str->Bool
 calm:Bool
 pn:List (Addr×Obj)
 xe:Value->Shared->Prop
noncomputable def kS(l:List Env):List Addr:=l.filterMap (·.frame)
noncomputable abbrev Cx.fs(X:Cx):List Addr:=kS X.outer
noncomputable def eB(sc:Scope)(x:Str):Prop:=sc.names.lookup x=some .local\/sc.names.lookup x=some .cell\/sc.names.lookup x=some .free
noncomputable def ym(sc:Scope)(x:Str):Prop:=sc.names.lookup x=some .local\/sc.names.lookup x=some .cell
noncomputable def aD7(env:Env)(h:Heap)(m:Str->Option Value)(x:Str)(u:Value):Prop :=
 (env.kindOf x=some .local/\m x=some u)\/((env.kindOf x=some .cell\/env.kindOf x=some .free)/\∃c,env.cells.lookup x=some c/\h.IsCell c (some u))
structure Cx.Ok(X:Cx):Prop where
 mod:Mod X.K X.mg X.base
 kind:X.env.scope.kind=.function
 glob:X.env.globals=mainGlobals
 blt:X.env.builtins=builtinsNs
 above:X.s₀.heap.objs.size<=X.env.locals
 inj:∀x y c,X.env.cells.lookup x=some c->X.env.cells.lookup y=some c->x=y
 has:∀x,(X.env.kindOf x=some .cell\/X.env.kindOf x=some .free)->∃c,X.env.cells.lookup x=some c
 cab:∀x c,X.fn x=true->X.env.cells.lookup x=some c->X.s₀.heap.objs.size<=c
 hd:X.calm=true->X.A.handled=none
 frames:X.A.frames=some X.stack
 stk:X.stack=X.outer\/(X.stack=X.env::X.outer/\X.env.frame=some X.env.locals)
 exf:∀b∈X.ex,b≠X.env.locals/\∀x c,X.env.cells.lookup x=some c->c≠b
 bs:∀b o,X.base.get? b=some o->X.s₀.heap.get? b=some o/\X.H₀ b=none
 bsz:X.base.objs.size<=X.s₀.heap.objs.size
 noex:∀b o,X.base.get? b=some o->b∉X.ex
 exfs:∀b∈X.ex,b∉X.fs
 funs:X.s₀.heap.FunFrames X.base X.outer
 frf:∀b∈X.fs,X.H₀ b=none
structure aq(X:Cx)(pins:List (Addr×Obj))(σ:List (Option V))(H:Hp)(s:Shared):Prop where
 ok:X.Ok
 os:s.os=X.s₀.os
 bare:AllBare s.gens
 base:Un X.fs X.ex X.H₀ H X.s₀.heap s.heap
 loc:∃m,s.heap.Ns X.env.locals m/\∀(i:Nat) (x:Str) (v:V),X.N[i]?=some x->σ[i]?=some (some v)->eB X.env.scope x->∃u,bO v u/\aD7 X.env s.heap m x u
 cell:∀x c,X.env.cells.lookup x=some c->∃v,s.heap.IsCell c v
 free:H X.env.locals=none
 freeC:∀x c,X.env.cells.lookup x=some c->H c=none
 pin:∀p∈X.pn++pins,s.heap.get? p.1=some p.2/\H p.1=none/\p.1≠X.env.locals/\p.1∉X.fs/\∀v,p.2.data ≠ .cell v
 hok:fB X.prog X.w H s.heap
 len:σ.length=X.N.length
section
variable{X:Cx}{σ:List (Option V)}{H':Hp}{h':Heap}
theorem Cx.Ok.nofr(ok:X.Ok)(e:X.base.get? b=some o):b∉X.fs:=λhb=>by
 have:=(ok.funs.mem hb).1
 rw[e]at this;cases this
theorem aq.bs(I:aq X pins σ H s):∀b o,X.base.get? b=some o->s.heap.get? b=some o/\H b=none:=λb o e =>
 ⟨I.base.keep b o (I.ok.bs b o e).1 (I.ok.bs b o e).2 (I.ok.nofr e) (I.ok.noex b o e),I.base.free b o (I.ok.bs b o e).1 (I.ok.bs b o e).2 (I.ok.noex b o e)⟩
theorem aq.bk(I:aq X pins σ H s):∀b o,X.base.get? b=some o->s.heap.get? b=some o:=λb o e=>(I.bs b o e).1
theorem aq.mod(I:aq X pins σ H s):Mod X.K X.mg X.base:=I.ok.mod
theorem aq.kIn(I:aq X pins σ H s):X.K.In s.heap:=I.ok.mod.kin.keeps I.bk
theorem aq.nolimit(I:aq X pins σ H s):s.heap.NoLimit:=I.ok.mod.nolimit.keeps I.bk
theorem aq.fr(I:aq X pins σ H s):∃m,Fr X.base X.env.locals s.heap m :=
 let ⟨m,hn,_⟩:=I.loc
 ⟨m,hn,I.bk,aF5 I.ok.bsz I.ok.above⟩
theorem aq.lt(I:aq X pins σ H s):X.env.locals<s.heap.objs.size:=let ⟨_,hn,_⟩:=I.loc;hn.lt
theorem aq.sz(I:aq X pins σ H s):X.s₀.heap.objs.size<=s.heap.objs.size:=aF5 I.ok.above (aP2 I.lt)
theorem aq.nofs(I:aq X pins σ H s)(h:s.heap.objs.size<=a):a∉X.fs:=λhb=>by
 obtain⟨_,o,ho,_⟩:=I.ok.funs.mem hb
 exact absurd (aG7 (aG2 ho) (aF5 I.sz h)) (aJ7 _)
theorem aq.cne(I:aq X pins σ H s):∀x c,X.env.cells.lookup x=some c->c≠X.env.locals:=λx c e z=>by
 obtain⟨v,o,ho,hd⟩:=I.cell x c e
 obtain⟨m,⟨o',es,ep,ho',hd',_⟩,_⟩:=I.loc
 rw[z,ho']at ho;cases ho;rw[hd']at hd;cases hd
theorem aq.funs(I:aq X pins σ H s):s.heap.FunFrames X.base X.outer:=by
 have all:∀(l:List Env),(∀b∈kS l,b∈X.fs)->X.s₀.heap.FunFrames X.base l->s.heap.FunFrames X.base l:=by
  intro l
  induction l with
  | nil=>intro _ _;trivial
  | cons env r ih =>
   intro hs hl
   obtain⟨hk,⟨L,o,hf,hn,ho,hd⟩,hr⟩:=hl
   have hL:L∈X.fs:=hs L (by unfold kS;rw[List.filterMap_cons,hf];exact aG0)
   obtain⟨sl,e⟩:=I.base.slot L o ho (I.ok.frf L hL) hL λz=>I.ok.exfs L z hL
   exact⟨hk,⟨L,_,hf,hn,e,hd⟩,ih (λb hb=>hs b (by unfold kS;rw[List.filterMap_cons,hf];exact aG1 _ hb)) hr⟩
 exact all X.outer (λ_ hb=>hb) I.ok.funs
theorem aq.stack(I:aq X pins σ H s):s.heap.FunFrames X.base X.stack:=by
 rcases I.ok.stk with e|⟨e,hf⟩
 ·rw[e];exact I.funs
 ·rw[e]
  obtain⟨m,hn,_⟩:=I.loc
  refine .cons (by rw[I.ok.kind];decide) hf hn ?_ I.funs
  exact Heap.get?_none_of_le (aF5 I.ok.bsz I.ok.above)
theorem aq.stkSub(I:aq X pins σ H s):∀b∈kS X.stack,b∈X.env.locals::X.fs:=λb hb=>by
 rcases I.ok.stk with e|⟨e,hf⟩
 ·rw[e]at hb;exact aG1 _ hb
 ·rw[e]at hb
  unfold kS at hb
  rw[List.filterMap_cons,hf]at hb
  exact hb
theorem aq.stkFree(I:aq X pins σ H s):∀b∈kS X.stack,H b=none:=λb hb=>by
 rcases aF8.mp (I.stkSub b hb)with e|hb
 ·rw[e];exact I.free
 ·obtain⟨_,o,ho,_⟩:=I.ok.funs.mem hb
  exact I.base.free b o ho (I.ok.frf b hb) λz=>I.ok.exfs b z hb
theorem aq.step{t':Nat}{d':Drawn}(I:aq X pins σ H s)
  (hch:∀b∈ch,(b∈X.ex\/X.s₀.heap.objs.size<=b)/\b≠X.env.locals/\(∀x c,X.env.cells.lookup x=some c->c≠b)/\∀p∈X.pn++pins,p.1≠b)
  (keep:∀b o,b≠X.env.locals->b∉X.fs->b∉ch->s.heap.get? b=some o->H b=none->h'.get? b=some o)
  (slot:∀b o,b≠X.env.locals->b∈X.fs->b∉ch->s.heap.get? b=some o->H b=none->∃sl,h'.get? b=some { o with slots:=sl }) (free:∀b o,b∉ch->s.heap.get? b=some o->H b=none->H' b=none)
  (there:∀b o,b∉ch->s.heap.get? b=some o->∃o',h'.get? b=some o')
  (tups:∀b xs,H b=some (.tup xs)->H' b=some (.tup xs)) (frzs:∀b o u,H b=some (.frz o u)->H' b=some (.frz o u)) (tbls:∀b ps,H b=some (.tbl ps)->∃more,H' b=some (.tbl (ps++more)))
  (ns:∀m,s.heap.Ns X.env.locals m->h'.Ns X.env.locals m) (hok:fB X.prog X.w H' h') (hg:AllBare g') :
  aq X pins σ H' { s with heap:=h',gens:=g',drawn:=d',toks:=t' }:=by
 have neL:∀b o,X.s₀.heap.get? b=some o->b≠X.env.locals:=λb o e=>aJ0 (aG7 (aG2 e) I.ok.above)
 have neC:∀b o,X.s₀.heap.get? b=some o->b∉X.ex->b∉ch:=λb o e hx hb=>by
  rcases(hch b hb).1 with z|z
  ·exact hx z
  ·exact absurd (aG7 (aG2 e) z) (aJ7 _)
 have cellK:∀x c,X.env.cells.lookup x=some c->∀v,s.heap.IsCell c v->h'.IsCell c v:=λx c e v ⟨o,ho,hd⟩=>by
  have nch:c∉ch:=λz=>(hch c z).2.2.1 x c e rfl
  by_cases hc:c∈X.fs
  ·obtain⟨sl,q⟩:=slot c o (I.cne x c e) hc nch ho (I.freeC x c e)
   exact⟨_,q,hd⟩
  ·exact⟨o,keep c o (I.cne x c e) hc nch ho (I.freeC x c e),hd⟩
 refine⟨I.ok,I.os,hg,⟨λb o e n hb hx=>?_,λb o e n hb hx=>?_,λb o e n hx=>?_,λb o e hx=>?_,λb xs e=>tups b xs (I.base.tups b xs e),λb o xs e=>frzs b o xs (I.base.frzs b o xs e),λb ps e=>?_⟩,?_,λx c e=>?_,?_,λx c e=>?_,λp hp=>?_,hok,I.len⟩
 ·exact keep b o (neL b o e) hb (neC b o e hx) (I.base.keep b o e n hb hx) (I.base.free b o e n hx)
 ·obtain⟨sl,e1⟩:=I.base.slot b o e n hb hx
  obtain⟨sl',e2⟩:=slot b _ (neL b o e) hb (neC b o e hx) e1 (I.base.free b o e n hx)
  exact⟨sl',e2⟩
 ·obtain⟨o',e1⟩:=I.base.there b o e hx
  exact free b o' (neC b o e hx) e1 (I.base.free b o e n hx)
 ·obtain⟨o',e1⟩:=I.base.there b o e hx
  exact there b o' (neC b o e hx) e1
 ·obtain⟨m1,e1⟩:=I.base.tbls b ps e
  obtain⟨m2,e2⟩:=tbls b _ e1
  exact⟨m1++m2,by rw[e2,Array.append_assoc]⟩
 ·obtain⟨m,hn,hl⟩:=I.loc
  refine⟨m,ns m hn,λi x v e1 e2 e3=>?_⟩
  obtain⟨u,r,l⟩:=hl i x v e1 e2 e3
  refine⟨u,r,?_⟩
  rcases l with l|⟨k,c,e,z⟩
  ·exact .inl l
  ·exact .inr ⟨k,c,e,cellK x c e _ z⟩
 ·obtain⟨v,z⟩:=I.cell x c e
  exact⟨v,cellK x c e v z⟩
 ·obtain⟨m,⟨o,_,_,ho,_⟩,_⟩:=I.loc
  exact free _ o (λz=>(hch _ z).2.1 rfl) ho I.free
 ·obtain⟨v,o,ho,hd⟩:=I.cell x c e
  exact free c o (λz=>(hch c z).2.2.1 x c e rfl) ho (I.freeC x c e)
 ·obtain⟨e,n,ne,nf,d⟩:=I.pin p hp
  have nch:p.1∉ch:=λz=>(hch p.1 z).2.2.2 p hp rfl
  exact⟨keep p.1 p.2 ne nf nch e n,free p.1 p.2 nch e n,ne,nf,d⟩
theorem aq.un{t':Nat}(I:aq X pins σ H s)(u:Un X.fs [] H H' s.heap h')(hok:fB X.prog X.w H' h'):aq X pins σ H' { s with heap:=h',toks:=t' }:=by
 obtain⟨m,⟨o,es,ep,ho,r⟩,_⟩:=id I.loc
 obtain⟨sl,hL⟩:=u.any ho I.free (by simp)
 exact I.step (g':=s.gens) (d':=s.drawn) (ch:=[]) (λ_ z=>nomatch z) (λb o _ hb _ e n=>u.keep b o e n hb (by simp)) (λb o _ hb _ e n=>u.slot b o e n hb (by simp)) (λb o _ e n=>u.free b o e n (by simp)) (λb o _ e=>u.there b o e (by simp)) u.tups u.frzs u.tbls (λm' hm=>by
  obtain⟨o',es',ep',ho',r'⟩:=hm
  rw[ho]at ho';cases ho'
  exact⟨_,es',ep',hL,r'⟩) hok I.bare
theorem aq.call{t':Nat}{d':Drawn}(I:aq X pins σ H s)(u:Un (kS X.stack) ch H H' s.heap h')(hok:fB X.prog X.w H' h')(hg:AllBare g')
  (hch:∀b∈ch,(b∈X.ex\/X.s₀.heap.objs.size<=b)/\b≠X.env.locals/\(∀x c,X.env.cells.lookup x=some c->c≠b)/\∀p∈X.pn++pins,p.1≠b) :
  aq X pins σ H' { s with heap:=h',gens:=g',drawn:=d',toks:=t' }:=by
 obtain⟨m,⟨o,es,ep,ho,r⟩,_⟩:=id I.loc
 obtain⟨sl,hL⟩:=u.any ho I.free λz=>(hch _ z).2.1 rfl
 exact I.step (ch:=ch) hch (λb o hL hb hc e n=>u.keep b o e n (λz=>(aF8.mp (I.stkSub b z)).elim hL hb) hc) (λb o _ _ hc e n=>u.any e n hc) (λb o hc e n=>u.free b o e n hc) (λb o hc e=>u.there b o e hc) u.tups u.frzs u.tbls (λm' hm=>by
  obtain⟨o',es',ep',ho',r'⟩:=hm
  rw[ho]at ho';cases ho'
  exact⟨_,es',ep',hL,r'⟩) hok hg
theorem aq.turned{t':Nat}(I:aq X pins σ H s)(k:∀b o,b≠it->s.heap.get? b=some o->h'.get? b=some o)(hn:H it=none)(hL:it≠X.env.locals)
  (h1:it∈X.ex\/X.s₀.heap.objs.size<=it) (h2:∀x c,X.env.cells.lookup x=some c->c≠it) (h3:∀p∈X.pn++pins,p.1≠it):aq X pins σ H { s with heap:=h',toks:=t' }:=by
 have nit:∀b u,H b=some u->b≠it:=λb u e z=>by rw[z,hn]at e;cases e
 refine I.step (g':=s.gens) (d':=s.drawn) (ch:=[it]) (λb hb=>?_) (λb o _ _ hc e _=>k b o (λz=>hc (by simp[z])) e) (λb o _ _ hc e _=>⟨o.slots,k b o (λz=>hc (by simp[z])) e⟩) (λ_ _ _ _ n=>n)
  (λb o hc e=>⟨o,k b o (λz=>hc (by simp[z])) e⟩) (λ_ _ e=>e) (λ_ _ _ e=>e) (λb ps e=>⟨#[],by rw[e];simp⟩) (λm hm=>?_) (λb u e=>?_) I.bare
 ·have e:b=it:=by simpa using hb
  subst e
  exact⟨h1,hL,h2,h3⟩
 ·obtain⟨o,es,ep,ho,r⟩:=hm
  exact⟨o,es,ep,k _ o (aO8 hL) ho,r⟩
 ·refine(I.hok b u e).stay (λc v hc q=>k c v ?_ q) (λ_ q=>q) λ_ _ q=>q
  rcases hc with z|z
  ·rw[z];exact nit b u e
  ·exact nit c _ z
theorem aq.tok(I:aq X pins σ H s)(t:Nat):aq X pins σ H { s with toks:=t }:=I.un (h':=s.heap) (t':=t) Un.refl I.hok
theorem aq.kept{t':Nat}(I:aq X pins σ H s)(k:∀b u,s.heap.get? b=some u->h'.get? b=some u):aq X pins σ H { s with heap:=h',toks:=t' }:=I.un (Un.kept k) (I.hok.kept k)
theorem aq.laid{o:HO}{t':Nat}(I:aq X pins σ H s)(k:∀b u,s.heap.get? b=some u->h'.get? b=some u)(hp:s.heap.objs.size<=a)(new:dn X.prog X.w (bo H a o) h' a o) :
  aq X pins σ (bo H a o) { s with heap:=h',toks:=t' }:=I.un (Un.laid k hp (I.hok.fresh hp)) (I.hok.laid k hp new)
theorem aq.write{x e:Addr}{o:HO}{t':Nat}(I:aq X pins σ H s)(mu:Gv (H x))(he:e=x\/H e=some (.own x))(k:∀b u,b≠e->s.heap.get? b=some u->h'.get? b=some u)(heo:∃u,h'.get? e=some u)
  (new:dn X.prog X.w (bo H x o) h' x o):aq X pins σ (bo H x o) { s with heap:=h',toks:=t' }:=I.un (Un.write mu he k heo) (I.hok.write mu he k heo new)
theorem aq.pins_of{pins':List (Addr×Obj)}(I:aq X pins σ H s)(h:∀p∈pins',s.heap.get? p.1=some p.2/\H p.1=none/\p.1≠X.env.locals/\p.1∉X.fs/\∀v,p.2.data ≠ .cell v):aq X pins' σ H s :=
 ⟨I.ok,I.os,I.bare,I.base,I.loc,I.cell,I.free,I.freeC,λp hp=>(aL9.mp hp).elim (λz=>I.pin p (List.mem_append_left _ z)) (h p),I.hok,I.len⟩
theorem oN(hN:N.Nodup)(a:N[i]?=some x)(b:N[j]?=some x):i=j:=by
 obtain⟨h1,e1⟩:=aI3.mp a
 obtain⟨h2,e2⟩:=aI3.mp b
 exact(List.getElem_inj hN).mp (e1.trans e2.symm)
theorem As{Q:Unit->Shared->Prop}(I:aq X pins σ H s)(hN:X.N.Nodup)(hi:X.N[i]?=some x)(hx:ym X.env.scope x)(r:bO v u)
  (h:∀s',aq X pins (σ.set i (some v)) H s'->(∃a,Heap.SameBut a s.heap s'.heap/\(a=X.env.locals\/X.env.cells.lookup x=some a))->Q () s') (hf:X.fn x=true\/X.env.scope.names.lookup x=some .local:=by first|exact .inl rfl|exact .inr rfl|assumption):wpAny M A (storeName X.env x u) Q E s:=by
 obtain⟨m,hn,hl⟩:=id I.loc
 have hcls:(X.env.scope.kind == .class || (X.env.scope.kind == .module&&X.env.locals != X.env.globals))=false:=by rw[I.ok.kind];rfl
 have hiσ:i<σ.length:=by rw[I.len];exact(aI3.mp hi).1
 have cne:=I.cne
 have tracked:∀{a:Addr} {h':Heap},(∃o,s.heap.get? a=some o/\H a=none)->Heap.SameBut a s.heap h'->fB X.prog X.w H h':=λ{a h'} ha hs b ob e=>by
  obtain⟨_,_,hfree⟩:=ha
  refine(I.hok b ob e).stay (λc w' hc q=>(hs.2 c ?_).trans q) (λ_ q=>q) λ_ _ q=>q
  rintro rfl
  rcases hc with rfl|hc
  ·rw[hfree]at e;cases e
  ·rw[hfree]at hc;cases hc
 rcases hx with hk|hk
 ·refine wpAny_storeName_local hk hn (λh' hn' hs=>?_) hcls
  obtain⟨oL,_,_,hoL,_⟩:=id hn
  refine h _ ⟨I.ok,I.os,I.bare,⟨λb o e n hb hx=>?_,λb o e n hb hx=>?_,I.base.free,λb o e hx=>?_,I.base.tups,I.base.frzs,I.base.tbls⟩,⟨_,hn',λj y v' e1 e2 e3=>?_⟩,λy c e=>?_,I.free,I.freeC,λp hp=>?_,tracked ⟨oL,hoL,I.free⟩ hs,by simpa using I.len⟩ ⟨_,hs,.inl rfl⟩
  ·exact(hs.2 b (aJ0 (aG7 (aG2 e) I.ok.above))).trans (I.base.keep b o e n hb hx)
  ·obtain⟨sl,e1⟩:=I.base.slot b o e n hb hx
   exact⟨sl,(hs.2 b (aJ0 (aG7 (aG2 e) I.ok.above))).trans e1⟩
  ·obtain⟨o',e1⟩:=I.base.there b o e hx
   exact⟨o',(hs.2 b (aJ0 (aG7 (aG2 e) I.ok.above))).trans e1⟩
  ·by_cases hj:j=i
   ·subst hj
    rw[hi]at e1;cases e1
    rw[List.getElem?_set_self hiσ]at e2
    cases e2
    exact⟨u,r,.inl ⟨hk,by simp⟩⟩
   ·rw[aO7 (aO8 hj)]at e2
    obtain⟨u',r',q⟩:=hl j y v' e1 e2 e3
    refine⟨u',r',?_⟩
    rcases q with⟨k,e⟩|⟨k,c,e,z⟩
    ·refine .inl ⟨k,?_⟩
     have:y≠x:=λe=>hj (oN hN e1 (e ▸ hi))
     simp[this,e]
    ·exact .inr ⟨k,c,e,z.sameBut hs (cne y c e)⟩
  ·obtain⟨w',z⟩:=I.cell y c e
   exact⟨w',z.sameBut hs (cne y c e)⟩
  ·obtain⟨e,n,ne,nf,d⟩:=I.pin p hp
   exact⟨(hs.2 p.1 ne).trans e,n,ne,nf,d⟩
 ·have hfn:X.fn x=true:=by
   rcases hf with z|z
   ·exact z
   ·rw[z]at hk;cases hk
  obtain⟨c,hc⟩:=I.ok.has x (.inl hk)
  obtain⟨w',z⟩:=I.cell x c hc
  refine wpAny_storeName_cell I.ok.kind hk hc z (λh' hc' hs=>?_)
  obtain⟨oc,hoc,hocd⟩:=id z
  refine h { s with heap:=h' } ⟨I.ok,I.os,I.bare,⟨λb o e n hb hx=>?_,λb o e n hb hx=>?_,I.base.free,λb o e hx=>?_,I.base.tups,I.base.frzs,I.base.tbls⟩,⟨m,hn.sameBut hs (aO8 (cne x c hc)),λj y v' e1 e2 e3=>?_⟩,λy c' e=>?_,I.free,I.freeC,λp hp=>?_,tracked ⟨oc,hoc,I.freeC x c hc⟩ hs,by simpa using I.len⟩ ⟨c,hs,.inr hc⟩
  ·exact(hs.2 b (aJ0 (aG7 (aG2 e) (I.ok.cab x c hfn hc)))).trans (I.base.keep b o e n hb hx)
  ·obtain⟨sl,e1⟩:=I.base.slot b o e n hb hx
   exact⟨sl,(hs.2 b (aJ0 (aG7 (aG2 e) (I.ok.cab x c hfn hc)))).trans e1⟩
  ·obtain⟨o',e1⟩:=I.base.there b o e hx
   exact⟨o',(hs.2 b (aJ0 (aG7 (aG2 e) (I.ok.cab x c hfn hc)))).trans e1⟩
  ·by_cases hj:j=i
   ·subst hj
    rw[hi]at e1;cases e1
    rw[List.getElem?_set_self hiσ]at e2
    cases e2
    exact⟨u,r,.inr ⟨.inl hk,c,hc,hc'⟩⟩
   ·rw[aO7 (aO8 hj)]at e2
    obtain⟨u',r',q⟩:=hl j y v' e1 e2 e3
    refine⟨u',r',?_⟩
    rcases q with q|⟨k,c',e,z'⟩
    ·exact .inl q
    ·refine .inr ⟨k,c',e,z'.sameBut hs ?_⟩
     rintro rfl
     exact hj (oN hN e1 (I.ok.inj _ _ _ e hc ▸ hi))
  ·by_cases hcc:c'=c
   ·subst hcc;exact⟨_,hc'⟩
   ·obtain⟨w2,z2⟩:=I.cell y c' e
    exact⟨w2,z2.sameBut hs hcc⟩
  ·obtain⟨e,n,ne,nf,d⟩:=I.pin p hp
   refine⟨(hs.2 p.1 ?_).trans e,n,ne,nf,d⟩
   intro q
   rw[q,hoc]at e
   have q':oc=p.2:=aK6 e
   exact d w' (by rw[<- q'];exact hocd)
theorem lg{Q:Unit->Shared->Prop}(I:aq X pins σ H s)(hN:X.N.Nodup)(hi:X.N[i]?=some x)(hx:ym X.env.scope x)(r:bO v u)
  (h:∀s',aq X pins (σ.set i (some v)) H s'->Q () s') (hf:X.fn x=true\/X.env.scope.names.lookup x=some .local:=by first|exact .inl rfl|exact .inr rfl|assumption):wpAny M A (storeName X.env x u) Q E s :=
 As I hN hi hx r (λs' I' _=>h s' I') hf
theorem aq.call'(I:aq X pins σ H s)(ho:s'.os=s.os)(u:Un (kS X.stack) ch H H' s.heap s'.heap)(hok:fB X.prog X.w H' s'.heap)(hg:AllBare s'.gens)
  (hch:∀b∈ch,(b∈X.ex\/X.s₀.heap.objs.size<=b)/\b≠X.env.locals/\(∀x c,X.env.cells.lookup x=some c->c≠b)/\∀p∈X.pn++pins,p.1≠b):aq X pins σ H' s':=by
 obtain⟨h',g',d',t',o'⟩:=s'
 have e:o'=s.os:=ho
 subst e
 exact I.call (g':=g') (t':=t') (d':=d') u hok hg hch
end
noncomputable abbrev XK:=Value->Option Addr->Hp->Prop
noncomputable abbrev St:=List (Option V)
noncomputable abbrev VK:=V->Hp->Prop
noncomputable abbrev TE:=St->Hp->VK->Prop
noncomputable abbrev TT:=St->Hp->(Bool->Hp->Prop)->Prop
noncomputable abbrev TA:=St->Hp->(List V->Hp->Prop)->Prop
structure jL where
 nx:St->Hp->Prop
 rt:VK
 bk:St->Hp->Prop:=λ_ _=>False
 ct:St->Hp->Prop:=λ_ _=>False
noncomputable abbrev TS:=jL->St->Hp->Prop
noncomputable def EP(X:Cx)(pins:List (Addr×Obj))(σ:St)(Q:VK)(u:Value)(s':Shared):Prop:=∃v H',aq X pins σ H' s'/\bO v u/\Q v H'
noncomputable def TP(X:Cx)(pins:List (Addr×Obj))(σ:St)(Q:Bool->Hp->Prop)(b:Bool)(s':Shared):Prop:=∃H',aq X pins σ H' s'/\Q b H'
noncomputable def AP(X:Cx)(pins:List (Addr×Obj))(σ:St)(Q:List V->Hp->Prop)(us:List Value)(s':Shared):Prop:=∃vs H',aq X pins σ H' s'/\bi vs us/\Q vs H'
noncomputable def SP(X:Cx)(pins:List (Addr×Obj))(D:jL)(f:Flow)(s':Shared):Prop :=
 match f with
 | .next => ∃σ' H',aq X pins σ' H' s'/\D.nx σ' H'
 | .brk => ∃σ' H',aq X pins σ' H' s'/\D.bk σ' H'
 | .cont => ∃σ' H',aq X pins σ' H' s'/\D.ct σ' H'
 | .ret u => ∃v σ' H',aq X pins σ' H' s'/\bO v u/\D.rt v H'
noncomputable def PE(X:Cx)(e:Expr)(t:TE):Prop :=
 ∀(pins:List (Addr×Obj)) (s:Shared) (σ:St) (H:Hp) (Q:VK),aq X pins σ H s->t σ H Q->wpAny (model X.prog X.w) X.A (eval e X.env) (EP X pins σ Q) X.xe s
noncomputable def PT(X:Cx)(e:Expr)(t:TT):Prop :=
 ∀(pins:List (Addr×Obj)) (s:Shared) (σ:St) (H:Hp) (Q:Bool->Hp->Prop),aq X pins σ H s->t σ H Q->wpAny (model X.prog X.w) X.A (isTrue e X.env (eval e X.env)) (TP X pins σ Q) X.xe s
noncomputable def PW(X:Cx)(e:Expr)(t:TT):Prop :=
 ∀(whole:Sem Value) (pins:List (Addr×Obj)) (s:Shared) (σ:St) (H:Hp) (Q:Bool->Hp->Prop),aq X pins σ H s->t σ H Q->wpAny (model X.prog X.w) X.A (isTrue e X.env whole) (TP X pins σ Q) X.xe s
theorem PW.pt{X:Cx}{t:TT}(h:PW X e t):PT X e t:=h _
noncomputable def PA(X:Cx)(es:List Expr)(t:TA):Prop :=
 ∀(pos:Pos) (pins:List (Addr×Obj)) (s:Shared) (σ:St) (H:Hp) (Q:List V->Hp->Prop),aq X pins σ H s->t σ H Q->wpAny (model X.prog X.w) X.A (spliced (backTo pos (starEach es X.env))) (AP X pins σ Q) X.xe s
noncomputable def PS(X:Cx)(st:Stmt)(t:TS):Prop :=
 ∀(pins:List (Addr×Obj)) (s:Shared) (σ:St) (H:Hp) (D:jL),aq X pins σ H s->t D σ H->wpAny (model X.prog X.w) X.A (exec st X.env) (SP X pins D) X.xe s
noncomputable def eT(X:Cx)(st:List Stmt)(t:TS):Prop :=
 ∀(pins:List (Addr×Obj)) (s:Shared) (σ:St) (H:Hp) (D:jL),aq X pins σ H s->t D σ H->wpAny (model X.prog X.w) X.A (execs st X.env) (SP X pins D) X.xe s
theorem bu{t:Sem α}{Q Q':α->Shared->Prop}(h:wpAny M A t Q E s)(hQ:∀a s,Q a s->Q' a s):wpAny M A t Q' E s:=aM7 h hQ λ_ _ x=>x
variable{σ:St}{t te tl:TE}{X:Cx}{tc:TT}{ta:TA}{tb:TS}
section
theorem VE{a b:Expr}{ta tb:TE}(ha:PE X a ta)(hb:PE X b tb)(I:aq X pins σ H s)(h:ta σ H λx H1=>tb σ H1 λy H2=>R x y H2)
  {Q:α->Shared->Prop} {f:Value->Value->Sem α}
  (hf:∀v u s2 x y H2,aq X pins σ H2 s2->bO x v->bO y u->R x y H2->wpAny (model X.prog X.w) X.A (f v u) Q X.xe s2) :
  wpAny (model X.prog X.w) X.A (eval a X.env) (λv s₁=>wpAny (model X.prog X.w) X.A (eval b X.env) (λu s₂=>wpAny (model X.prog X.w) X.A (f v u) Q X.xe s₂) X.xe s₁) X.xe s:=by
 refine bu (ha pins s σ H _ I h) λv s1 ⟨x,H1,I1,r1,q1⟩=>?_
 refine bu (hb pins s1 σ H1 _ I1 q1) λu s2 ⟨y,H2,I2,r2,q2⟩=>?_
 exact hf v u s2 x y H2 I2 r1 r2 q2
noncomputable def mm(i:Nat):TE:=λσ H Q => ∃v,σ[i]?=some (some v)/\Q v H
noncomputable def tC(v:V):TE:=λ_ H Q=>Q v H
theorem gU(hN:X.N[i]?=some x)(hv:eB X.env.scope x)(hd:(x==("__debug__" : Str))=false:=by decide)(hcd:(x==("__classdict__" : Str))=false:=by decide):PE X (.Name x pos) (mm i):=by
 intro pins s σ H Q I h
 obtain⟨v,e,h⟩:=h
 obtain⟨m,hn,hl⟩:=I.loc
 obtain⟨u,r,l⟩:=hl i x v hN e hv
 have fin:EP X pins σ Q u s:=⟨v,H,I,r,h⟩
 rcases l with⟨hk,hm⟩|⟨hk,c,hc,hcell⟩
 ·exact wpAny_Name (wpAny_loadName_local I.ok.kind hk hn hm fin) hd
 ·rcases hk with hk|hk
  ·exact wpAny_Name (wpAny_loadName_cell I.ok.kind hk hc hcell fin) hd
  ·exact wpAny_Name (wpAny_loadName_free I.ok.kind hk hc hcell fin hcd) hd
theorem LP{i j pos}:PE X (.Constant (.int i) j pos) (tC (.int i)):=λ_ _ _ H _ I h=>wpAny_Constant_int ⟨.int i,H,I.tok _,⟨_,rfl⟩,h⟩
theorem RI{b j pos}:PE X (.Constant (.bool b) j pos) (tC (.bl b)):=λ_ _ _ H _ I h=>Constant_bool ⟨.bl b,H,I,rfl,h⟩
theorem LO{j pos}:PE X (.Constant .none j pos) (tC .non):=λ_ _ _ H _ I h=>Constant_none ⟨.non,H,I,rfl,h⟩
theorem LL{x j pos}:PE X (.Constant (.str x) j pos) (tC (.str x)):=λ_ _ _ H _ I h=>Calls.Constant_str ⟨.str x,H,I.tok _,⟨_,rfl⟩,h⟩
noncomputable def Gl(X:Cx)(x:Str):Prop:=X.env.kindOf x=some .globalImplicit
theorem jc(I:aq X pins σ H s)(hg:Gl X x)(hm:X.mg x=some u)(h:Q u s)
  (hd:(x==("__debug__" : Str))=false:=by decide):wpAny (model X.prog X.w) X.A (eval (.Name x pos) X.env) Q E s :=
 Calls.Name_function_global I.ok.kind hg (Calls.loadGlobal_global (by rw[I.ok.glob];exact I.mod.glob.keeps I.bk) hm h) hd
theorem jm(I:aq X pins σ H s)(hg:Gl X x)(hm:X.mg x=none)(hv:bootBuiltins x=some u)(h:Q u s)
  (hn:x ≠ "__name__" := by decide) (hd:(x==("__debug__" : Str))=false:=by decide):wpAny (model X.prog X.w) X.A (eval (.Name x pos) X.env) Q E s:=by
 obtain⟨mb,h1,h2⟩:=I.mod.blt
 exact Calls.Name_function_global I.ok.kind hg (Calls.loadGlobal_builtin (by rw[I.ok.glob];exact I.mod.glob.keeps I.bk) hm (by rw[I.ok.blt];exact h1.keeps I.bk) ((h2 x hn).trans hv) h) hd
theorem xD(hg:Gl X x)(hm:X.mg x=some u)(r:bO v u)(hd:(x==("__debug__" : Str))=false:=by decide):PE X (.Name x pos) (tC v) :=
 λ_ _ _ H _ I h=>jc I hg hm ⟨v,H,I,r,h⟩ hd
theorem IO(hg:Gl X x)(hm:X.mg x=none)(hv:bootBuiltins x=some u)(r:bO v u)(hn:x ≠ "__name__" := by decide)(hd:(x==("__debug__" : Str))=false:=by decide):PE X (.Name x pos) (tC v) :=
 λ_ _ _ H _ I h=>jm I hg hm hv ⟨v,H,I,r,h⟩ hn hd
variable{a b:Expr}{ta tb:TE}
noncomputable def tB(t:TE):TT:=λσ H Q=>t σ H λx H1 => ∃c,x=.bl c/\Q c H1
theorem Lw(h:PE X e t)(he:∀whole,isTrue e X.env whole=(do let v <- whole;standAt e.pos;holding [v] (truthy v)):=by intro _;rfl):PT X e (tB t):=by
 intro pins s σ H Q I hw
 refine isTrue_plain (bu (h pins s σ H _ I hw) λv s1 ⟨x,H1,I1,r1,q1⟩=>?_) (he _)
 obtain⟨d,rfl,q⟩:=q1
 cases r1
 exact aK5 ⟨H1,I1,q⟩
variable{tA tB':TT}{rest:List Expr}
noncomputable def V1(t u:TT):TT:=λσ H Q=>t σ H λc H1=>if c=true then u σ H1 Q else Q false H1
noncomputable def tOr(t u:TT):TT:=λσ H Q=>t σ H λc H1=>if c=true then Q true H1 else u σ H1 Q
noncomputable def VV(t:TT):TT:=λσ H Q=>t σ H λc H1=>Q (!c) H1
theorem Iq(ha:PT X a tA):PW X (.BoolOp .And [a] pos) tA:=by
 intro wh pins s σ H Q I h
 refine isTrue_and (bu (ha pins s σ H Q I h) λc s1 e=>?_)
 cases c with
 | true=>exact isTrue_and_nil e
 | false=>exact e
theorem Lv(ha:PT X a tA):PW X (.BoolOp .Or [a] pos) tA:=by
 intro wh pins s σ H Q I h
 refine isTrue_or (bu (ha pins s σ H Q I h) λc s1 e=>?_)
 cases c with
 | false=>exact isTrue_or_nil e
 | true=>exact e
theorem AH(ha:PT X a tA)(hb:PW X (.BoolOp .And (b::rest) pos) tB'):PW X (.BoolOp .And (a::b::rest) pos) (V1 tA tB'):=by
 intro wh pins s σ H Q I h
 refine isTrue_and (bu (ha pins s σ H _ I h) λc s1 ⟨H1,I1,q1⟩=>?_)
 cases c with
 | true=>exact hb wh pins s1 σ H1 Q I1 q1
 | false=>exact⟨H1,I1,q1⟩
theorem EV(ha:PT X a tA)(hb:PW X (.BoolOp .Or (b::rest) pos) tB'):PW X (.BoolOp .Or (a::b::rest) pos) (tOr tA tB'):=by
 intro wh pins s σ H Q I h
 refine isTrue_or (bu (ha pins s σ H _ I h) λc s1 ⟨H1,I1,q1⟩=>?_)
 cases c with
 | true=>exact⟨H1,I1,q1⟩
 | false=>exact hb wh pins s1 σ H1 Q I1 q1
theorem Lx(ha:PT X a tA):PT X (.UnaryOp .Not a pos) (VV tA):=by
 intro pins s σ H Q I h
 exact isTrue_not (ha pins s σ H (λc H1=>Q (!c) H1) I h)
noncomputable def Qc(ta tb:TE):TE:=λσ H Q=>ta σ H λx H1 => ∃c,x=.bl c/\if c=true then tb σ H1 Q else Q (.bl false) H1
noncomputable def VU(ta tb:TE):TE:=λσ H Q=>ta σ H λx H1 => ∃c,x=.bl c/\if c=true then Q (.bl true) H1 else tb σ H1 Q
noncomputable def P8(ta:TE):TE:=λσ H Q=>ta σ H λx H1 => ∃c,x=.bl c/\Q (.bl (!c)) H1
theorem LM{op}(h:PE X a t):PE X (.BoolOp op [a] pos) t:=λpins s σ H Q I hw=>BoolOp_one (h pins s σ H Q I hw)
theorem AT(ha:PE X a ta)(hb:PE X (.BoolOp .And (b::rest) pos) tb):PE X (.BoolOp .And (a::b::rest) pos) (Qc ta tb):=by
 intro pins s σ H Q I h
 refine BoolOp_and (bu (ha pins s σ H _ I h) λv s1 ⟨x,H1,I1,r1,q1⟩=>?_)
 obtain⟨c,rfl,q1⟩:=q1
 cases r1
 refine aK5 ?_
 cases c with
 | true=>exact hb pins s1 σ H1 Q I1 q1
 | false=>exact⟨.bl false,H1,I1,rfl,q1⟩
theorem EY(ha:PE X a ta)(hb:PE X (.BoolOp .Or (b::rest) pos) tb):PE X (.BoolOp .Or (a::b::rest) pos) (VU ta tb):=by
 intro pins s σ H Q I h
 refine BoolOp_or (bu (ha pins s σ H _ I h) λv s1 ⟨x,H1,I1,r1,q1⟩=>?_)
 obtain⟨c,rfl,q1⟩:=q1
 cases r1
 refine aK5 ?_
 cases c with
 | false=>exact hb pins s1 σ H1 Q I1 q1
 | true=>exact⟨.bl true,H1,I1,rfl,q1⟩
theorem LN(ha:PE X a ta):PE X (.UnaryOp .Not a pos) (P8 ta):=by
 intro pins s σ H Q I h
 refine UnaryOp_ (bu (ha pins s σ H _ I h) λv s1 ⟨x,H1,I1,r1,q1⟩=>?_)
 obtain⟨c,rfl,q1⟩:=q1
 cases r1
 exact not_of (aK5 ⟨.bl (!c),H1,I1,rfl,q1⟩)
end
noncomputable def dG(K:W.Frag)(H:Hp)(a:Addr)(xs:List V):Prop :=
 Rd H a (.lst xs) \/
  ∃(o:Obj) (its:Array Value) (n:Nat),K.lookup a=some o/\o.cls=.type "list" /\ o.dict=none/\o.data=.seq its n/\its.size<=sizeLine/\bi xs its.toList
noncomputable def ck(K:W.Frag)(H:Hp)(a:Addr)(xs:List V):Prop :=
 Rd H a (.tup xs) \/
  ∃(o:Obj) (its:Array Value) (n:Nat),K.lookup a=some o/\o.cls=.type "tuple" /\ o.dict=none/\o.data=.seq its n/\its.size<=sizeLine/\bi xs its.toList
noncomputable def aC0:Value->Option V
 | .none=>some .non
 | .bool b=>some (.bl b)
 | .int i _=>some (.int i)
 | .str x _=>some (.str x)
 | .bytes b _=>some (.byt b)
 | .float b _=>some (.flt b)
 | .ref a=>some (.ref a)
 | .type n=>some (.ty n)
 | _=>none
theorem bO.abs{x:V}(r:bO x u):aC0 u=some x:=by
 cases x with
 | non=>cases r;rfl
 | bl _=>cases r;rfl
 | int _=>obtain⟨t,rfl⟩:=r;rfl
 | str _=>obtain⟨t,rfl⟩:=r;rfl
 | byt _=>obtain⟨t,rfl⟩:=r;rfl
 | flt _=>obtain⟨t,rfl⟩:=r;rfl
 | ref _=>cases r;rfl
 | ty _=>cases r;rfl
theorem bO.inj{x:V}(r:bO x u)(q:bO y u):x=y:=aK6 (r.abs.symm.trans q.abs)
theorem bi.inj:∀{xs ys:List V} {us:List Value},bi xs us->bi ys us->xs=ys
 | _,_,_,.nil,.nil=>rfl
 | _,_,_,.cons r t,.cons r' t'=>by rw[r.inj r',bi.inj t t']
section
variable{xs ys:List V}
theorem dG.of(h:H a=some (.lst xs)):dG K H a xs:=.inl (.inl h)
theorem ck.of(h:H a=some (.tup xs)):ck K H a xs:=.inl (.inl h)
theorem aq.list(I:aq X pins σ H s)(h:dG X.K H a xs):∃its:List Value,bi xs its/\PlainL s.heap a its.toArray/\xs.length<=sizeLine:=by
 rcases h with h|⟨o,its,n,hk,hc,hd,hs,hz,r⟩
 ·obtain⟨z,its,n,r,e⟩:=h.ok I.hok
  exact⟨its,r,⟨_,n,e,rfl,rfl,rfl⟩,z⟩
 ·refine⟨its.toList,r,⟨o,n,I.kIn a o hk,hc,hd,by simpa using hs⟩,?_⟩
  have e:=r.length
  simp only[Array.length_toList]at e
  omega
theorem aq.tuple(I:aq X pins σ H s)(h:ck X.K H a xs):∃its:List Value,bi xs its/\IsTup s.heap a its.toArray/\xs.length<=sizeLine:=by
 rcases h with h|⟨o,its,n,hk,hc,hd,hs,hz,r⟩
 ·obtain⟨z,its,r,p⟩:=h.ok I.hok
  exact⟨its,r,p.1,z⟩
 ·refine⟨its.toList,r,⟨o,I.kIn a o hk,hc,n,by simpa using hs⟩,?_⟩
  have e:=r.length
  simp only[Array.length_toList]at e
  omega
theorem aq.tupN(I:aq X pins σ H s)(h:ck X.K H a xs):∃o,s.heap.get? a=some o/\o.cls=.type "tuple" /\ o.dict=none:=by
 obtain h|⟨o,_,_,hk,hc,hd,_⟩:=h
 ·obtain⟨z,its,r,⟨o,e,c,_⟩,o2,e2,d⟩:=h.ok I.hok
  rw[e]at e2;cases e2
  exact⟨o,e,c,d⟩
 ·exact⟨o,I.kIn a o hk,hc,hd⟩
theorem aq.list_inj(I:aq X pins σ H s)(h:dG X.K H a xs)(h':dG X.K H a ys):xs=ys:=by
 obtain⟨its,r,⟨o,n,e,_,_,d⟩,_⟩:=I.list h
 obtain⟨its',r',⟨o',n',e',_,_,d'⟩,_⟩:=I.list h'
 rw[e]at e';cases e'
 rw[d]at d'
 injection d' with d1 _
 have:its=its':=by simpa using aK4 Array.toList d1
 subst this
 exact r.inj r'
theorem aq.tuple_inj(I:aq X pins σ H s)(h:ck X.K H a xs)(h':ck X.K H a ys):xs=ys:=by
 obtain⟨its,r,⟨o,e,_,n,d⟩,_⟩:=I.tuple h
 obtain⟨its',r',⟨o',e',_,n',d'⟩,_⟩:=I.tuple h'
 rw[e]at e';cases e'
 rw[d]at d'
 injection d' with d1 _
 have:its=its':=by simpa using aK4 Array.toList d1
 subst this
 exact r.inj r'
end
noncomputable abbrev Cx.wish(X:Cx)(E:Value->Shared->Prop):Cx:={ X with xe:=E }
noncomputable abbrev Cx.nox(X:Cx):Cx:=X.wish λ_ _=>False
theorem Cx.Ok.wish(ok:X.Ok)(E:Value->Shared->Prop):(X.wish E).Ok :=
 ⟨ok.mod,ok.kind,ok.glob,ok.blt,ok.above,ok.inj,ok.has,ok.cab,ok.hd,ok.frames,ok.stk,ok.exf,ok.bs,ok.bsz,ok.noex,ok.exfs,ok.funs,ok.frf⟩
theorem Cx.Ok.unwish(ok:(X.wish E).Ok):X.Ok :=
 ⟨ok.mod,ok.kind,ok.glob,ok.blt,ok.above,ok.inj,ok.has,ok.cab,ok.hd,ok.frames,ok.stk,ok.exf,ok.bs,ok.bsz,ok.noex,ok.exfs,ok.funs,ok.frf⟩
section
theorem aq.wish(I:aq X pins σ H s)(E:Value->Shared->Prop):aq (X.wish E) pins σ H s:=⟨I.ok.wish E,I.os,I.bare,I.base,I.loc,I.cell,I.free,I.freeC,I.pin,I.hok,I.len⟩
theorem aq.unwish(I:aq (X.wish E) pins σ H s):aq X pins σ H s:=⟨I.ok.unwish,I.os,I.bare,I.base,I.loc,I.cell,I.free,I.freeC,I.pin,I.hok,I.len⟩
theorem SP.unwish{D:jL}{f:Flow}(h:SP (X.wish E) pins D f s'):SP X pins D f s':=by
 cases f with
 | next=>obtain⟨σ',H',I,q⟩:=h;exact⟨σ',H',I.unwish,q⟩
 | brk=>obtain⟨σ',H',I,q⟩:=h;exact⟨σ',H',I.unwish,q⟩
 | cont=>obtain⟨σ',H',I,q⟩:=h;exact⟨σ',H',I.unwish,q⟩
 | ret u=>obtain⟨v,σ',H',I,r,q⟩:=h;exact⟨v,σ',H',I.unwish,r,q⟩
theorem PE.nox(h:PE X.nox e t):PE X e t:=λpins s σ H Q I hw =>
 aM7 (h pins s σ H Q (I.wish _) hw) (λ_ _ ⟨v,H',I',r,q⟩=>⟨v,H',I'.unwish,r,q⟩) λ_ _ z=>False.elim z
theorem PT.nox{t:TT}(h:PT X.nox e t):PT X e t:=λpins s σ H Q I hw =>
 aM7 (h pins s σ H Q (I.wish _) hw) (λ_ _ ⟨H',I',q⟩=>⟨H',I'.unwish,q⟩) λ_ _ z=>False.elim z
theorem eT.nox{st:List Stmt}{t:TS}(h:eT X.nox st t):eT X st t:=λpins s σ H D I hw =>
 aM7 (h pins s σ H D (I.wish _) hw) (λ_ _ q=>q.unwish) λ_ _ z=>False.elim z
end
section
variable{st:Stmt}{rest:List Stmt}{t u:TS}
noncomputable def EN:TS:=λD σ H=>D.nx σ H
noncomputable def VR(t u:TS):TS:=λD σ H=>t { D with nx:=u D } σ H
theorem rO:eT X [] EN:=λ_ _ σ H _ I h=>wpAny_execs_nil ⟨σ,H,I,h⟩
theorem du(h1:PS X st t)(h2:eT X rest u):eT X (st::rest) (VR t u):=by
 intro pins s σ H D I h
 refine wpAny_execs_cons (bu (h1 pins s σ H { D with nx:=u D } I h) λf s1 q=>?_)
 cases f with
 | next =>
  obtain⟨σ',H',I',q⟩:=q
  exact h2 pins s1 σ' H' D I' q
 | ret v=>exact q
 | brk=>exact q
 | cont=>exact q
theorem nE(h1:PS X st t):eT X [st] t:=by
 intro pins s σ H D I h
 refine wpAny_execs_cons (bu (h1 pins s σ H D I h) λf s1 q=>?_)
 cases f with
 | next=>exact wpAny_execs_nil q
 | ret v=>exact q
 | brk=>exact q
 | cont=>exact q
noncomputable def KG:TS:=λD σ H=>D.bk σ H
noncomputable def Qa:TS:=λD σ H=>D.ct σ H
theorem Iv:PS X (.Pass pos) EN:=λ_ _ σ H _ I h=>wpAny_Pass ⟨σ,H,I,h⟩
theorem CK:PS X (.Break pos) KG:=λ_ _ σ H _ I h=>wpAny_Break ⟨σ,H,I,h⟩
theorem wK:PS X (.Continue pos) Qa:=λ_ _ σ H _ I h=>wpAny_Continue ⟨σ,H,I,h⟩
theorem aq.quiet(I:aq X pins σ H s):interactive X.env=false:=by simp[interactive,I.ok.kind]
noncomputable def P9(te:TE):TS:=λD σ H=>te σ H λ_ H1=>D.nx σ H1
theorem kJ(he:PE X e te)(hs:swapsWith e none pos.line X.env=pure false:=by rfl):PS X (.Expr e pos) (P9 te):=by
 intro pins s σ H D I h
 exact wpAny_Expr_any (bu (he pins s σ H _ I h) λv s1 ⟨x,H1,I1,r1,q1⟩=>⟨σ,H1,I1,q1⟩) I.quiet hs
noncomputable def VS(te:TE):TS:=λD σ H=>te σ H D.rt
theorem pS(he:PE X e te):PS X (.Return (some e) pos) (VS te):=by
 intro pins s σ H D I h
 exact wpAny_Return_some (bu (he pins s σ H _ I h) λv s1 ⟨x,H1,I1,r1,q1⟩=>⟨x,σ,H1,I1,r1,q1⟩)
noncomputable def P6:TS:=λD _ H=>D.rt .non H
theorem Iu:PS X (.Return none pos) P6:=λ_ _ σ H _ I h=>wpAny_Return_none ⟨.non,σ,H,I,rfl,h⟩
noncomputable def VX(c:TT)(t u:TS):TS:=λD σ H=>c σ H λb H1=>if b=true then t D σ H1 else u D σ H1
theorem ue{a b:List Stmt}(hc:PT X c tc)(ha:eT X a t)(hb:eT X b u):PS X (.If c a b pos) (VX tc t u):=by
 intro pins s σ H D I h
 refine wpAny_If (bu (hc pins s σ H _ I h) λd s1 ⟨H1,I1,q1⟩=>?_)
 cases d with
 | true=>exact ha pins s1 σ H1 D I1 q1
 | false=>exact hb pins s1 σ H1 D I1 q1
noncomputable def KF:TS:=λ_ _ _=>False
theorem fZ{sts:List Stmt}:eT X sts KF:=λ_ _ _ _ _ _ h=>h.elim
end
noncomputable abbrev TG:=V->St->Hp->(St->Hp->Prop)->Prop
noncomputable abbrev rc:=List V->St->Hp->(St->Hp->Prop)->Prop
noncomputable def PG(X:Cx)(target:Expr)(t:TG):Prop :=
 ∀(pins:List (Addr×Obj)) (s:Shared) (σ:St) (H:Hp) (v:V) (u:Value) (Q:St->Hp->Prop),aq X pins σ H s->bO v u->t v σ H Q ->
  wpAny (model X.prog X.w) X.A (assign target X.env u) (λ_ s' => ∃σ' H',aq X pins σ' H' s'/\Q σ' H') X.xe s
noncomputable def yk(X:Cx)(ts:List Expr)(t:rc):Prop :=
 ∀(pins:List (Addr×Obj)) (s:Shared) (σ:St) (H:Hp) (vs:List V) (us:List Value) (Q:St->Hp->Prop),aq X pins σ H s->bi vs us->t vs σ H Q ->
  wpAny (model X.prog X.w) X.A (assignInOrder ((assignEach ts X.env).map (·.2)) us) (λ_ s' => ∃σ' H',aq X pins σ' H' s'/\Q σ' H') X.xe s
noncomputable abbrev zS:=V->V->V->Hp->(Hp->Prop)->Prop
noncomputable def El(X:Cx)(t:zS):Prop :=
 ∀(pins:List (Addr×Obj)) (s:Shared) (σ:St) (H:Hp) (o i v:V) (ov iv u:Value) (Q:Hp->Prop),aq X pins σ H s->bO o ov->bO i iv->bO v u->t o i v H Q ->
  wpAny (model X.prog X.w) X.A (setItem ov iv u) (λ_ s' => ∃H',aq X pins σ H' s'/\Q H') X.xe s
section
noncomputable def FI(i:Nat):TG:=λv σ H Q=>Q (σ.set i (some v)) H
theorem il(hN:X.N.Nodup)(hi:X.N[i]?=some x)(hx:ym X.env.scope x)(hf:X.fn x=true\/X.env.scope.names.lookup x=some .local:=by first|exact .inl rfl|exact .inr rfl|assumption):PG X (.Name x pos) (FI i):=by
 intro pins s σ H v u Q I r h
 exact wpAny_assign_Name (lg I hN hi hx r (λs' I'=>⟨_,H,I',h⟩) hf)
noncomputable def aj0:rc:=λvs σ H Q=>vs=[]/\Q σ H
noncomputable def T7(t:TG)(u:rc):rc:=λvs σ H Q => ∃v r,vs=v::r/\t v σ H λσ' H'=>u r σ' H' Q
theorem rP:yk X [] aj0:=by
 intro pins s σ H vs us Q I r h
 obtain⟨e,h⟩:=h
 subst e
 cases r
 exact assignInOrder_nil ⟨σ,H,I,h⟩
theorem jk{t:TG}{u:rc}(h1:PG X e t)(h2:yk X es u)
  (hs:(assignEach (e::es) X.env).map (·.2)=assign e X.env::(assignEach es X.env).map (·.2):=by rfl):yk X (e::es) (T7 t u):=by
 intro pins s σ H vs us Q I r h
 obtain⟨v,vr,e1,h⟩:=h
 subst e1
 cases r with
 | cons r rr =>
  rw[hs]
  refine assignInOrder_cons (bu (h1 pins s σ H _ _ _ I r h) λ_ s1 ⟨σ1,H1,I1,q1⟩=>?_)
  exact h2 pins s1 σ1 H1 _ _ Q I1 rr q1
noncomputable def ai8(K:W.Frag)(n:Nat)(t:rc):TG:=λv σ H Q => ∃a xs,v=.ref a/\ck K H a xs/\xs.length=n/\t xs σ H Q
theorem pU{t:rc}(hc:X.calm=true)(h:yk X es t)
  (hn:(assignEach es X.env).length=n:=by rfl) (hst:(assignEach es X.env).findIdx? (·.1)=none:=by rfl):PG X (.Tuple es k pos) (ai8 X.K n t):=by
 intro pins s σ H v u Q I r hw
 obtain⟨a,xs,e1,hq,hl,hw⟩:=hw
 subst e1
 cases r
 obtain⟨its,rv,ht,hz⟩:=I.tuple hq
 refine assign_Tuple_tuple (I.ok.hd hc) ht (by simp[hn,<- hl,rv.length]) hst λh' hx=>?_
 have I1:aq X pins σ H { s with heap:=h' }:=I.kept (t':=s.toks) λb o e=>hx b o (aJ0 (aG2 e)) e
 exact h pins _ σ H xs _ Q I1 (by simpa using rv) hw
noncomputable def ai9(to ti:TE)(t:zS):TG:=λv σ H Q=>to σ H λo H1=>ti σ H1 λi H2=>t o i v H2 λH3=>Q σ H3
theorem AO{o i:Expr}{to ti:TE}{t:zS}(ho:PE X o to)(hi:PE X i ti)(hs:El X t)
  (ha:∀v,assign (.Subscript o i pos) X.env v=(do
   let ov <- holding [v] (eval o X.env)
   let iv <- holding [v,ov] (eval i X.env)
   standAt pos
   holding [v,ov,iv] (setItem ov iv v)
   release [v,ov,iv] []):=by intro _;rfl):PG X (.Subscript o i pos) (ai9 to ti t):=by
 intro pins s σ H v u Q I r h
 rw[ha]
 refine aF4 (wpAny_holding (bu (ho pins s σ H _ I h) λov s1 ⟨x,H1,I1,r1,q1⟩=>?_))
 refine aF4 (wpAny_holding (bu (hi pins s1 σ H1 _ I1 q1) λiv s2 ⟨y,H2,I2,r2,q2⟩=>?_))
 refine aF4 (wpAny_standAt (aF4 (wpAny_holding (bu (hs pins s2 σ H2 x y v ov iv u _ I2 r1 r2 r q2) λ_ s3 ⟨H3,I3,q3⟩=>?_))))
 exact wpAny_release ⟨σ,H3,I3,q3⟩
noncomputable def KH(te:TE)(g:TG):TS:=λD σ H=>te σ H λx H1=>g x σ H1 D.nx
theorem mC{g:TG}(he:PE X e te)(hg:PG X tg g)(hs:swapsWithSole [tg] e pos.line X.env=pure false:=by rfl)(hw:swappedStores [tg] e X.env=pure none:=by rfl)
  (h1:(assignEach [tg] X.env).map (·.2)=[assign tg X.env]:=by rfl):PS X (.Assign [tg] e pos) (KH te g):=by
 intro pins s σ H D I h
 refine wpAny_Assign_stores (bu (he pins s σ H _ I h) λv s1 ⟨x,H1,I1,r1,q1⟩=>?_) hs hw
 rw[h1]
 exact bu (hg pins s1 σ H1 x v _ I1 r1 q1) λ_ s2 q=>q
theorem AI{pos':Pos}(hN:X.N.Nodup)(hi:X.N[i]?=some x)(hx:ym X.env.scope x)(he:PE X e te)(hs:swapsWith e (some (.Name x pos')) pos.line X.env=pure false:=by rfl)(hf:X.fn x=true\/X.env.scope.names.lookup x=some .local:=by first|exact .inl rfl|exact .inr rfl|assumption) :
  PS X (.Assign [.Name x pos'] e pos) (KH te (FI i)):=by
 intro pins s σ H D I h
 refine wpAny_Assign_Name (bu (he pins s σ H _ I h) λv s1 ⟨y,H1,I1,r1,q1⟩=>?_) hs
 exact lg I1 hN hi hx r1 (λs2 I2=>⟨_,H1,I2,q1⟩) hf
noncomputable def VT(i j:Nat)(ta:TA):TS:=λD σ H=>ta σ H λvs H1 => ∃v w,vs=[v,w]/\D.nx ((σ.set i (some v)).set j (some w)) H1
theorem Ly{y:Str}{a b:Expr}{px py pt:Pos}{kt k2 pt2}(hc:X.calm=true)(hN:X.N.Nodup)(hi:X.N[i]?=some x)(hj:X.N[j]?=some y)(hij:i≠j)
  (hx:X.env.scope.names.lookup x=some .local) (hy:X.env.scope.names.lookup y=some .local) (ha:PA X [a,b] ta)
  (hw:swappedStores [.Tuple [.Name x px,.Name y py] kt pt] (.Tuple [a,b] k2 pt2) X.env=pure (some [x,y]))
  (hs:swapsWithSole [.Tuple [.Name x px,.Name y py] kt pt] (.Tuple [a,b] k2 pt2) pos.line X.env=pure false:=by rfl) :
  PS X (.Assign [.Tuple [.Name x px,.Name y py] kt pt] (.Tuple [a,b] k2 pt2) pos) (VT i j ta):=by
 intro pins s σ H D I h
 rw[exec_Assign_arm]
 refine aF4 (wpAny_standAt ?_)
 rw[hs]
 refine aF4 (aG3 ?_)
 rw[if_neg (by decide)]
 refine aF4 (Tuple_ (bu (ha _ pins s σ H _ I h) λus s1 ⟨vs,H1,I1,r1,q1⟩=>?_))
 obtain⟨v,w,e1,q1⟩:=q1
 subst e1
 obtain⟨u1,u2,rfl,rv,rw'⟩:∃u1 u2,us=[u1,u2]/\bO v u1/\bO w u2:=by
  cases r1 with
  | cons p q =>
   cases q with
   | cons p' q' =>
    cases q'
    exact⟨_,_,rfl,p,p'⟩
 refine aM3 ?_ (by show 2<=sizeLine;decide)
 have I2:aq X pins σ H1 { s1 with heap:=s1.heap.push { cls:=.type "tuple", data:=.seq [u1,u2].toArray } }:=I1.kept (t':=s1.toks) λb o e=>aF6 _ e
 rw[hw]
 refine aF4 (aG3 ?_)
 show wpAny (model X.prog X.w) X.A (do rule "assign.swapped-stores"; let items <- unpackItems (.ref s1.heap.objs.size) 2 none;assignInOrder [λv=>bindName X.env y v,λv=>bindName X.env x v] items.reverse;pure Flow.next) _ _ _
 refine aF4 (wpAny_rule (aF4 (unpackItems_tuple (items:=#[u1,u2]) (I.ok.hd hc) (IsTup.new s1.heap _) λh' hx'=>?_)))
 have I3:=I2.kept (h':=h') (t':=s1.toks) λb o e=>hx' b o (aJ0 (aG2 e)) e
 show wpAny _ _ (assignInOrder [λv=>bindName X.env y v,λv=>bindName X.env x v] [u2,u1] >>= λ_=>pure Flow.next) _ _ _
 refine aF4 (assignInOrder_cons (wpAny_bindName (lg I3 hN hj (.inl hy) rw' (λs2 I4=>?_) (.inr hy))))
 refine assignInOrder_cons (wpAny_bindName (lg I4 hN hi (.inl hx) rv (λs3 I5=>assignInOrder_nil (aG3 ?_)) (.inr hx)))
 rw[List.set_comm _ _ (aO8 hij)]at I5
 exact⟨_,H1,I5,q1⟩
end
section
noncomputable def KC(c:TT)(tb:TS):TS:=λD σ H => ∃Wt:Nat->St->Hp->Prop,(∃m,Wt m σ H)/\∀m σ H,Wt m σ H ->
 c σ H λb H1=>if b=true then ∃N:St->Hp->Prop,(∀σ' H',N σ' H'->∃m',m' < m/\Wt m' σ' H')/\tb { D with nx:=N,ct:=N,bk:=D.nx } σ H1 else D.nx σ H1
theorem CJ(hp:PassesOwn (model X.prog X.w) X.A X.env X.xe)(hc:PT X c tc)(hb:eT X body tb):PS X (.While c body [] pos) (KC tc tb):=by
 intro pins s σ H D I h
 obtain⟨Wt,⟨m0,w0⟩,turn⟩:=h
 refine wpAny_While (codeAny_whileLoop (λn s' => ∃σ' H',aq X pins σ' H' s'/\Wt n σ' H') ?_ m0 ⟨σ,H,I,w0⟩)
 rintro n s1 ⟨σ1,H1,I1,w1⟩
 refine aO4 hp (bu (hc pins s1 σ1 H1 _ I1 (turn n σ1 H1 w1)) λb s2 ⟨H2,I2,q2⟩=>?_)
 cases b with
 | true =>
  obtain⟨N,hN,q2⟩:=q2
  rw[if_pos rfl]
  refine aO4 hp (bu (hb pins s2 σ1 H2 _ I2 q2) λf s3 q3=>?_)
  cases f with
  | next =>
   obtain⟨σ3,H3,I3,n3⟩:=q3
   obtain⟨m',hm,w3⟩:=hN σ3 H3 n3
   exact⟨m',hm,σ3,H3,I3,w3⟩
  | cont =>
   obtain⟨σ3,H3,I3,n3⟩:=q3
   obtain⟨m',hm,w3⟩:=hN σ3 H3 n3
   exact⟨m',hm,σ3,H3,I3,w3⟩
  | brk=>exact q3
  | ret v=>exact q3
 | false =>
  rw[if_neg aH9]
  exact wpAny_execs_nil ⟨σ1,H2,I2,q2⟩
end
structure It where
 go:Nat->Hp->Prop
 yld:Nat->Hp->V->Hp->Prop
 stop:Nat->Hp->Prop
noncomputable def iw(X:Cx)(pins:List (Addr×Obj))(H:Hp)(b:Addr):Prop :=
 H b=none/\b≠X.env.locals/\b∉X.fs/\(b∈X.ex\/X.s₀.heap.objs.size<=b)/\(∀x c,X.env.cells.lookup x=some c->c≠b)/\∀p∈X.pn++pins,p.1≠b
theorem aq.fpOk{H':Hp}(I:aq X pins σ H s)(hb:s.heap.objs.size<=b)(hn:H' b=none):iw X pins H' b:=by
 refine⟨hn,aL1 (aG7 I.lt hb),I.nofs hb,.inr (aF5 I.sz hb),λx c e z=>?_,λp hp z=>?_⟩
 ·obtain⟨v,q⟩:=I.cell x c e
  exact absurd (aG7 q.lt (by rw[z];exact hb)) (aJ7 _)
 ·exact absurd (aG7 (aG2 (I.pin p hp).1) (by rw[z];exact hb)) (aJ7 _)
structure Turn(P:Program)(w:World)(K:W.Frag)(tg:Expr)(J:It)(fp:List Addr)(it:Addr)(tn:Nat->Heap->Prop):Prop where
 mem:it∈fp
 obj:∀i h,tn i h->∀b∈fp,∃o,h.get? b=some o/\∀v,o.data ≠ .cell v
 keep:∀i h h',tn i h->(∀b∈fp,∀o,h.get? b=some o->h'.get? b=some o)->tn i h'
 item:∀(X:Cx),X.prog=P->X.w=w->X.K=K->X.calm=true->∀(i:Nat) (pins:List (Addr×Obj)) (s:Shared) (σ:St) (H:Hp) (E:Value->Shared->Prop),aq X pins σ H s->(∀b∈fp,iw X pins H b)->tn i s.heap->J.go i H ->
  wpAny (model P w) X.A (pyNext (.ref it)) (λr s1 => ∃u,r=some u /\
   wpAny (model P w) X.A (letOwnedTupleGo tg (.ref it) u) (λ_ s2 => ∃x H',aq X pins σ H' s2/\bO x u/\J.yld i H x H'/\tn (i+1) s2.heap/\∀b∈fp,H' b=none) E s1) E s
 done:∀(X:Cx),X.prog=P->X.w=w->X.K=K->X.calm=true->∀(i:Nat) (pins:List (Addr×Obj)) (s:Shared) (σ:St) (H:Hp) (E:Value->Shared->Prop),aq X pins σ H s->(∀b∈fp,iw X pins H b)->tn i s.heap->J.stop i H ->
  wpAny (model P w) X.A (pyNext (.ref it)) (λr s1=>r=none/\aq X pins σ H s1) E s
 self:∀(A:Around) (i:Nat) (s:Shared) (Q:Value->Shared->Prop) (E:Value->Shared->Prop),tn i s.heap->Q (.ref it) s->wpAny (model P w) A (pyIter (.ref it)) Q E s
noncomputable abbrev TI:=St->Hp->(It->Hp->Prop)->Prop
noncomputable def VF(X:Cx)(pins:List (Addr×Obj))(σ:St)(tg:Expr)(R:It->Hp->Prop)(itv:Value)(s2:Shared):Prop :=
 ∃(it:Addr) (fp:List Addr) (tn:Nat->Heap->Prop) (J:It) (H':Hp),itv=.ref it/\aq X pins σ H' s2/\Turn X.prog X.w X.K tg J fp it tn/\tn 0 s2.heap/\(∀b∈fp,iw X pins H' b)/\R J H'
noncomputable def PI(X:Cx)(tg iter:Expr)(wi:TI):Prop :=
 ∀(pins:List (Addr×Obj)) (s:Shared) (σ:St) (H:Hp) (R:It->Hp->Prop),aq X pins σ H s->wi σ H R ->
  wpAny (model X.prog X.w) X.A (eval iter X.env) (λv s1=>wpAny (model X.prog X.w) X.A (pyIter v) (VF X pins σ tg R) X.xe s1) X.xe s
theorem uq{n:String}{vs:Array Value}{Q:Unit->Shared->Prop}(ho:s.heap.get? it=some o)(hc:o.cls=.type n)(hd:o.data=.fields vs)
    (hn:["enumerate", "zip", "dict_itemiterator", "dict_reverseitemiterator", "odict_iterator", "itertools.zip_longest", "itertools.pairwise"].contains n=false) (hQ:Q () s):wpAny M A (letOwnedTupleGo tg (.ref it) u) Q E s:=by
  unfold letOwnedTupleGo
  cases tg<;>first
    | exact aG3 hQ
    | (cases u<;>first
        | exact aG3 hQ
        | (refine aF4 (wpAny_load ho ?_)
           rw[hc,hd]
           show wpAny M A (if (["enumerate", "zip", "dict_itemiterator", "dict_reverseitemiterator", "odict_iterator", "itertools.zip_longest", "itertools.pairwise"].contains n&&vs[0]? == some (rawInt _))=true then _ else _) Q E s
           rw[if_neg (by intro h;rw[hn,Bool.false_and]at h;cases h)]
           exact aG3 hQ))
noncomputable def VI(K:W.Frag)(a:Addr):It :=
 ⟨λi H => ∃xs x,dG K H a xs/\xs[i]?=some x,λi H x H'=>H'=H/\∀xs,dG K H a xs->xs[i]?=some x,λi H => ∃xs,dG K H a xs/\xs.length<=i⟩
noncomputable def VH(K:W.Frag)(a:Addr):It :=
 ⟨λi H => ∃xs x,ck K H a xs/\xs[i]?=some x,λi H x H'=>H'=H/\∀xs,ck K H a xs->xs[i]?=some x,λi H => ∃xs,ck K H a xs/\xs.length<=i⟩
noncomputable def Gx(lo:Int)(n:Nat):It:=⟨λi _=>i<n,λi H x H'=>H'=H/\x=.int (lo+i),λi _=>n<=i⟩
theorem Af(a it:Addr):Turn P w K tg (VI K a) [it] it (λi h=>h.IsListIter it a i) where
 mem:=by simp
 obj:=λi h st b hb=>by
  have e:b=it:=by simpa using hb
  subst e
  obtain⟨o,e,c,d⟩:=st
  exact⟨o,e,λv z=>by rw[d]at z;cases z⟩
 keep:=λi h h' st k=>st.at λo e=>k it (by simp) o e
 item:=by
  intro X hP hw hK hc i pins s σ H E I hf st hg
  subst hP hw hK
  obtain⟨xs,x,hq,hx⟩:=hg
  obtain⟨its,rv,p,hz⟩:=I.list hq
  obtain⟨u,hu,ru⟩:=rv.get hx
  obtain⟨f0,f1,f2,f3,f4,f5⟩:=hf it (by simp)
  refine wpAny_pyNext_list_item st p.isList (x:=u) (by simpa using hu) λh' st' sb=>?_
  have I1:aq X pins σ H { s with heap:=h' }:=I.turned (t':=s.toks) (λb o hb e=>(sb.2 b hb).trans e) f0 f1 f3 f4 f5
  obtain⟨o,e,c,d⟩:=id st'
  exact⟨u,rfl,uq (s:={ s with heap:=h' }) e c d (by decide) ⟨x,H,I1,ru,⟨rfl,λys hy=>by rw[I.list_inj hy hq];exact hx⟩,st',λb hb=>(hf b hb).1⟩⟩
 done:=by
  intro X hP hw hK hc i pins s σ H E I hf st hg
  subst hP hw hK
  obtain⟨xs,hq,hx⟩:=hg
  obtain⟨its,rv,p,hz⟩:=I.list hq
  obtain⟨f0,f1,f2,f3,f4,f5⟩:=hf it (by simp)
  have hl:=rv.length
  exact wpAny_pyNext_list_end (I.ok.hd hc) st p.isList (by simp;omega) λh' eb=>⟨rfl,I.turned (t':=s.toks) (λb o hb e=>eb b o hb e) f0 f1 f3 f4 f5⟩
 self:=λ_ _ _ _ _ st h=>wpAny_pyIter_listiter st h
theorem yq(a it:Addr):Turn P w K tg (VH K a) [it] it (λi h=>h.IsTupleIter it a i) where
 mem:=by simp
 obj:=λi h st b hb=>by
  have e:b=it:=by simpa using hb
  subst e
  obtain⟨o,e,c,d⟩:=st
  exact⟨o,e,λv z=>by rw[d]at z;cases z⟩
 keep:=λi h h' st k=>st.at λo e=>k it (by simp) o e
 item:=by
  intro X hP hw hK hc i pins s σ H E I hf st hg
  subst hP hw hK
  obtain⟨xs,x,hq,hx⟩:=hg
  obtain⟨its,rv,p,hz⟩:=I.tuple hq
  obtain⟨u,hu,ru⟩:=rv.get hx
  obtain⟨f0,f1,f2,f3,f4,f5⟩:=hf it (by simp)
  refine wpAny_pyNext_tuple_item st (show s.heap.IsTuple a its.toArray from p) (x:=u) (by simpa using hu) λh' st' sb=>?_
  have I1:aq X pins σ H { s with heap:=h' }:=I.turned (t':=s.toks) (λb o hb e=>(sb.2 b hb).trans e) f0 f1 f3 f4 f5
  obtain⟨o,e,c,d⟩:=id st'
  exact⟨u,rfl,uq (s:={ s with heap:=h' }) e c d (by decide) ⟨x,H,I1,ru,⟨rfl,λys hy=>by rw[I.tuple_inj hy hq];exact hx⟩,st',λb hb=>(hf b hb).1⟩⟩
 done:=by
  intro X hP hw hK hc i pins s σ H E I hf st hg
  subst hP hw hK
  obtain⟨xs,hq,hx⟩:=hg
  obtain⟨its,rv,p,hz⟩:=I.tuple hq
  obtain⟨f0,f1,f2,f3,f4,f5⟩:=hf it (by simp)
  have hl:=rv.length
  exact wpAny_pyNext_tuple_end (I.ok.hd hc) st (show s.heap.IsTuple a its.toArray from p) (by simp;omega) λh' eb=>⟨rfl,I.turned (t':=s.toks) (λb o hb e=>eb b o hb e) f0 f1 f3 f4 f5⟩
 self:=λ_ _ _ _ _ st h=>wpAny_pyIter_tupleiter st h
theorem yr(it:Addr)(lo:Int)(n:Nat):Turn P w K tg (Gx lo n) [it] it (λi h=>IsRangeIter h it (lo+(i:Nat)*1) ((n:Int)-(i:Nat)) 1) where
 mem:=by simp
 obj:=λi h st b hb=>by
  have e:b=it:=by simpa using hb
  subst e
  exact⟨_,st,λv z=>by
   have z':Data.fields _=Data.cell v:=z
   cases z'⟩
 keep:=λi h h' st k=>k it (by simp) _ st
 item:=by
  intro X hP hw hK hc i pins s σ H E I hf st hg
  subst hP hw hK
  obtain⟨f0,f1,f2,f3,f4,f5⟩:=hf it (by simp)
  have Wt:=Walks.range (prog:=X.prog) (w:=X.w) (I.ok.hd hc) it lo 1 n
  refine Wt.item i s _ _ hg st λv h' tk hv st' kk=>?_
  obtain⟨t,rfl⟩:=hv
  have I1:aq X pins σ H { s with heap:=h',toks:=tk }:=I.turned (λb o hb e=>kk b o (by simpa using hb) e) f0 f1 f3 f4 f5
  refine⟨_,rfl,uq (s:={ s with heap:=h',toks:=tk }) (n := "range_iterator") st' rfl rfl (by decide) ⟨.int (lo+i),H,I1,⟨t,?_⟩,⟨rfl,rfl⟩,st',λb hb=>(hf b hb).1⟩⟩
  rw[aP8]
 done:=by
  intro X hP hw hK hc i pins s σ H E I hf st hg
  subst hP hw hK
  obtain⟨f0,f1,f2,f3,f4,f5⟩:=hf it (by simp)
  exact wpAny_pyNext_range_end (I.ok.hd hc) st (by have:n<=i:=hg;omega) λh' eb=>⟨rfl,I.turned (t':=s.toks) (λb o hb e=>eb b o hb e) f0 f1 f3 f4 f5⟩
 self:=λ_ _ _ _ _ st h=>wpAny_pyIter_rangeiter st h
section
noncomputable def T6(K:W.Frag)(tl:TE):TI:=λσ H R=>tl σ H λx H1 => ∃a,x=.ref a/\(∃xs,dG K H1 a xs)/\R (VI K a) H1
noncomputable def ai7(K:W.Frag)(tl:TE):TI:=λσ H R=>tl σ H λx H1 => ∃a,x=.ref a/\(∃xs,ck K H1 a xs)/\R (VH K a) H1
theorem IH(hl:PE X l tl):PI X tg l (T6 X.K tl):=by
 intro pins s σ H R I h
 refine bu (hl pins s σ H _ I h) λv s1 ⟨x,H1,I1,r1,q1⟩=>?_
 obtain⟨a,e,⟨xs,hq⟩,q⟩:=q1
 subst e
 cases r1
 obtain⟨its,rv,p,hz⟩:=I1.list hq
 refine aL0 p.isList ?_
 refine⟨s1.heap.objs.size,[s1.heap.objs.size],_,_,H1,rfl,I1.kept (t':=s1.toks) λb o e=>aF6 _ e,Af a _,⟨_,aG5 _ rfl,rfl,rfl⟩,λb hb=>?_,q⟩
 have e:b=s1.heap.objs.size:=by simpa using hb
 subst e
 exact I1.fpOk (aF9 _) (I1.hok.fresh (aF9 _))
theorem LI(hl:PE X l tl):PI X tg l (ai7 X.K tl):=by
 intro pins s σ H R I h
 refine bu (hl pins s σ H _ I h) λv s1 ⟨x,H1,I1,r1,q1⟩=>?_
 obtain⟨a,e,⟨xs,hq⟩,q⟩:=q1
 subst e
 cases r1
 obtain⟨its,rv,p,hz⟩:=I1.tuple hq
 refine aO2 (show s1.heap.IsTuple a its.toArray from p) ?_
 refine⟨s1.heap.objs.size,[s1.heap.objs.size],_,_,H1,rfl,I1.kept (t':=s1.toks) λb o e=>aF6 _ e,yq a _,⟨_,aG5 _ rfl,rfl,rfl⟩,λb hb=>?_,q⟩
 have e:b=s1.heap.objs.size:=by simpa using hb
 subst e
 exact I1.fpOk (aF9 _) (I1.hok.fresh (aF9 _))
theorem vn{R:It->Hp->Prop}{lo hi:Int}{t u v:Tok}{tk:Nat}(I:aq X pins σ H s)(h1:-(2 ^ 62)<=lo)(h2:lo<2 ^ 62)(h3:-(2 ^ 62)<=hi)(h4:hi<2 ^ 62)
  (q:R (Gx lo (hi-lo).toNat) H):wpAny (model X.prog X.w) X.A (pyIter (.ref s.heap.objs.size)) (VF X pins σ tg R) E { s with heap:=s.heap.push { cls:=.type "range", data:=.fields #[.int lo t,.int hi u,.int 1 v] },toks:=tk }:=by
 refine wpAny_pyIter_range (IsRange.new ..) (small_one h1 h2 h3 h4) ?_
 have I1:aq X pins σ H { s with heap:=s.heap.push { cls:=.type "range", data:=.fields #[.int lo t,.int hi u,.int 1 v] },toks:=tk }:=I.kept λb o e=>aF6 _ e
 refine⟨(s.heap.push { cls:=.type "range", data:=.fields #[.int lo t,.int hi u,.int 1 v] }).objs.size,[(s.heap.push { cls:=.type "range", data:=.fields #[.int lo t,.int hi u,.int 1 v] }).objs.size],_,_,H,rfl,
  I1.kept (t':=tk) λb o e=>aF6 _ e,yr _ lo (hi-lo).toNat,?_,λb hb=>?_,q⟩
 ·have e1:lo+((0:Nat):Int)*1=lo:=by simp
  have e2:(((hi-lo).toNat:Nat):Int)-((0:Nat):Int)=Builtin.Range.rangeSize lo hi 1:=by rw[rangeSize_one];split<;>omega
  show IsRangeIter _ _ (lo+((0:Nat):Int)*1) ((((hi-lo).toNat:Nat):Int)-((0:Nat):Int)) 1
  rw[e1,e2]
  exact aG5 _ rfl
 ·have e:b=(s.heap.push { cls:=.type "range", data:=.fields #[.int lo t,.int hi u,.int 1 v] }).objs.size:=by simpa using hb
  subst e
  exact I1.fpOk (aF9 _) (I1.hok.fresh (aF9 _))
noncomputable def T5(ta:TA):TI:=λσ H R=>ta σ H λvs H1 => ∃j:Int,vs=[.int j] /\ -(2 ^ 62)<=j/\j<2 ^ 62/\R (Gx 0 j.toNat) H1
noncomputable def T3(ta:TA):TI:=λσ H R=>ta σ H λvs H1 => ∃i j:Int,vs=[.int i,.int j]/\(-(2 ^ 62)<=i/\i<2 ^ 62 /\ -(2 ^ 62)<=j/\j<2 ^ 62)/\R (Gx i (j-i).toNat) H1
theorem AN{a:Expr}(hg:Gl X "range")(hm:X.mg "range" = none)(ha:PA X [a] ta)(hs:starEach [a] X.env=[(false,eval a X.env)]:=by rfl):PI X tg (.Call (.Name "range" p) [a] [] pos) (T5 ta):=by
 intro pins s σ H R I h
 refine Call_ (jm I hg hm boot_range (aM5 (bu (ha pos pins s σ H _ I h) λus s1 ⟨vs,H1,I1,r1,q1⟩=>?_) hs rfl))
 obtain⟨j,e,q1,q2,q⟩:=q1
 subst e
 cases r1 with
 | cons r rr =>
  cases rr
  obtain⟨t,rfl⟩:=r
  exact call_range_1 (vn I1 (by omega) (by omega) q1 q2 (by simpa using q))
theorem AM{a b:Expr}(hg:Gl X "range")(hm:X.mg "range" = none)(ha:PA X [a,b] ta)(hs:starEach [a,b] X.env=[(false,eval a X.env),(false,eval b X.env)]:=by rfl)(hs2:starEach [b] X.env=[(false,eval b X.env)]:=by rfl) :
  PI X tg (.Call (.Name "range" p) [a,b] [] pos) (T3 ta):=by
 intro pins s σ H R I h
 refine Call_ (jm I hg hm boot_range (aM5 (bu (ha pos pins s σ H _ I h) λus s1 ⟨vs,H1,I1,r1,q1⟩=>?_) (by rw[hs,hs2]) (by rw[hs2];rfl)))
 obtain⟨i,j,e,⟨q1,q2,q3,q4⟩,q⟩:=q1
 subst e
 cases r1 with
 | cons r rr =>
  cases rr with
  | cons r' rr =>
   cases rr
   obtain⟨t,rfl⟩:=r
   obtain⟨t',rfl⟩:=r'
   exact call_range_2 (vn I1 q1 q2 q3 q4 q)
noncomputable def VY(wi:TI)(g:TG)(tb:TS):TS:=λD σ H=>wi σ H λJ H1 => ∃Wt:Nat->Nat->St->Hp->Prop,(∃m,Wt 0 m σ H1)/\∀i m σ H,Wt i m σ H ->
 (J.stop i H/\D.nx σ H)\/(J.go i H/\∃N:St->Hp->Prop,(∀σ' H',N σ' H'->∃m',m' < m/\Wt (i+1) m' σ' H')/\∀x H',J.yld i H x H'->g x σ H' λσ2 H2=>tb { D with nx:=N,ct:=N,bk:=D.nx } σ2 H2)
noncomputable def mD(fp:List Addr)(h:Heap):List (Addr×Obj):=fp.filterMap λb=>(h.get? b).map λo=>(b,o)
theorem i9(hb:b∈fp)(e:h.get? b=some o):(b,o)∈mD fp h:=List.mem_filterMap.mpr ⟨b,hb,by rw[e];rfl⟩
theorem AV{p:Addr×Obj}(hp:p∈mD fp h):p.1∈fp/\h.get? p.1=some p.2:=by
 obtain⟨b,hb,e⟩:=List.mem_filterMap.mp hp
 cases q:h.get? b with
 | none=>rw[q]at e;cases e
 | some o =>
  rw[q]at e
  have e':(b,o)=p:=aK6 e
  subst e'
  exact⟨hb,q⟩
theorem aq.pinned(I:aq X pins σ H s)(hf:∀b∈fp,iw X pins H b)(ho:∀b∈fp,∃o,s.heap.get? b=some o/\∀v,o.data ≠ .cell v):aq X (pins++mD fp s.heap) σ H s :=
 I.pins_of λp hp=>(aL9.mp hp).elim (λz=>I.pin p (aI9 _ z)) λz=>by
  obtain⟨hb,e⟩:=AV z
  obtain⟨f0,f1,f2,_⟩:=hf p.1 hb
  obtain⟨o,e',d⟩:=ho p.1 hb
  rw[e]at e';cases e'
  exact⟨e,f0,f1,f2,d⟩
theorem aq.unpinned{pl:List (Addr×Obj)}(I:aq X (pins++pl) σ H s):aq X pins σ H s:=I.pins_of λp hp=>I.pin p (aI9 _ (List.mem_append_left _ hp))
theorem AJ{iter:Expr}{wi:TI}{g:TG}(hp:PassesOwn (model X.prog X.w) X.A X.env X.xe)(hc:X.calm=true)(hi:PI X tg iter wi)(hg:PG X tg g)(hb:eT X body tb)
  (hs:∀x,foldedSetIterable iter X.env x=pure x:=by intro _;rfl):PS X (.For tg iter body [] pos) (VY wi g tb):=by
 intro pins s σ H D I h
 refine wpAny_For (bu (hi pins s σ H _ I h) λv s1 h1=>bu h1 λitv s2 h2=>?_) hs
 obtain⟨it,fp,tn,J,H2,e,I2,T,st2,f2,Wt,⟨m0,w0⟩,turn⟩:=h2
 subst e
 have stat:∀{H':Hp},(∀b∈fp,H' b=none)->∀b∈fp,iw X pins H' b:=λhn b hb=>⟨hn b hb,(f2 b hb).2⟩
 refine codeAny_forLoop_any (λn s' => ∃i σ' H',aq X pins σ' H' s'/\tn i s'.heap/\(∀b∈fp,H' b=none)/\Wt i n σ' H') ?_ m0 ⟨0,σ,H2,I2,st2,λb hb=>(f2 b hb).1,w0⟩
 rintro n s3 ⟨i,σ3,H3,I3,st3,fr3,w3⟩
 rcases turn i n σ3 H3 w3 with⟨stop,qn⟩|⟨go,N,hN,step⟩
 ·refine aO4 hp (bu (T.done X rfl rfl rfl hc i pins s3 σ3 H3 X.xe I3 (stat fr3) st3 stop) λr s4 ⟨hr,I4⟩=>?_)
  subst hr
  exact wpAny_execs_nil ⟨σ3,H3,I4,qn⟩
 ·refine aO4 hp (bu (T.item X rfl rfl rfl hc i pins s3 σ3 H3 X.xe I3 (stat fr3) st3 go) λr s4 ⟨u,hr,h4⟩=>?_)
  subst hr
  refine aO4 hp (bu h4 λ_ s5 ⟨x,H5,I5,r5,y5,st5,fr5⟩=>?_)
  have I5':=I5.pinned (stat fr5) (T.obj _ _ st5)
  refine aO4 hp (bu (hg _ s5 σ3 H5 x u _ I5' r5 (step x H5 y5)) λ_ s6 ⟨σ6,H6,I6,q6⟩=>?_)
  refine aO4 hp (bu (hb _ s6 σ6 H6 _ I6 q6) λf s7 q7=>?_)
  have again:∀{σ7:St} {H7:Hp},aq X (pins++mD fp s5.heap) σ7 H7 s7->N σ7 H7->∃m,m<n/\∃i σ' H',aq X pins σ' H' s7/\tn i s7.heap/\(∀b∈fp,H' b=none)/\Wt i m σ' H':=λ{σ7 H7} I7 n7=>by
   obtain⟨m',hm,w7⟩:=hN σ7 H7 n7
   refine⟨m',hm,i+1,σ7,H7,I7.unpinned,T.keep _ _ _ st5 λb hb o e=>(I7.pin (b,o) (aI9 _ (aI9 _ (i9 hb e)))).1,λb hb=>?_,w7⟩
   obtain⟨o,e,d⟩:=T.obj _ _ st5 b hb
   exact(I7.pin (b,o) (aI9 _ (aI9 _ (i9 hb e)))).2.1
  cases f with
  | next=>obtain⟨σ7,H7,I7,n7⟩:=q7;exact again I7 n7
  | cont=>obtain⟨σ7,H7,I7,n7⟩:=q7;exact again I7 n7
  | brk=>obtain⟨σ7,H7,I7,q7⟩:=q7;exact⟨σ7,H7,I7.unpinned,q7⟩
  | ret v=>obtain⟨x7,σ7,H7,I7,r7,q7⟩:=q7;exact⟨x7,σ7,H7,I7.unpinned,r7,q7⟩
end
noncomputable abbrev R2:=V->V->Hp->VK->Prop
noncomputable def eG(X:Cx)(f:Value->Value->Sem Value)(r:R2):Prop :=
 ∀(pins:List (Addr×Obj)) (s:Shared) (σ:St) (H:Hp) (x y:V) (v u:Value) (Q:VK),aq X pins σ H s->bO x v->bO y u->r x y H Q ->
  wpAny (model X.prog X.w) X.A (f v u) (EP X pins σ Q) X.xe s
noncomputable def Pl(X:Cx)(f:Value->Sem Value)(r:V->Hp->VK->Prop):Prop :=
 ∀(pins:List (Addr×Obj)) (s:Shared) (σ:St) (H:Hp) (x:V) (v:Value) (Q:VK),aq X pins σ H s->bO x v->r x H Q ->
  wpAny (model X.prog X.w) X.A (f v) (EP X pins σ Q) X.xe s
noncomputable def fe(X:Cx)(f:Value)(r:List V->Hp->VK->Prop):Prop :=
 ∀(pins:List (Addr×Obj)) (s:Shared) (σ:St) (H:Hp) (xs:List V) (us:List Value) (Q:VK),aq X pins σ H s->bi xs us->r xs H Q ->
  wpAny (model X.prog X.w) X.A (call f us) (EP X pins σ Q) X.xe s
noncomputable def KE(r:R2)(ta tb:TE):TE:=λσ H Q=>ta σ H λx H1=>tb σ H1 λy H2=>r x y H2 Q
noncomputable def tUn(r:V->Hp->VK->Prop)(ta:TE):TE:=λσ H Q=>ta σ H λx H1=>r x H1 Q
noncomputable def rI(C:Int->Int->Prop)(g:Int->Int->V):R2:=λx y H Q => ∃i j,x=.int i/\y=.int j/\C i j/\Q (g i j) H
noncomputable def ou(g:Int->Int->V):R2:=λx y H Q => ∃i j,x=.int i/\y=.int j/\Q (g i j) H
noncomputable def rU(g:Int->V):V->Hp->VK->Prop:=λx H Q => ∃i,x=.int i/\Q (g i) H
section
variable{a b:Expr}{ta tb tc:TE}
theorem OW(ha:PE X a ta)(hb:PE X b tb)(I:aq X pins σ H s)
  (h:ta σ H λx H1=>tb σ H1 λy H2=>R x y H2)
  (hf:∀v u s2 x y H2,aq X pins σ H2 s2->bO x v->bO y u->R x y H2->wpAny (model X.prog X.w) X.A (f v u) Q X.xe s2) :
  wpAny (model X.prog X.w) X.A (eval a X.env) (λv s₁=>wpAny (model X.prog X.w) X.A (eval b X.env) (λu s₂=>wpAny (model X.prog X.w) X.A (f v u) Q X.xe s₂) X.xe s₁) X.xe s:=by
 refine bu (ha pins s σ H _ I h) λv s1 ⟨x,H1,I1,r1,q1⟩=>?_
 refine bu (hb pins s1 σ H1 _ I1 q1) λu s2 ⟨y,H2,I2,r2,q2⟩=>?_
 exact hf v u s2 x y H2 I2 r1 r2 q2
theorem RH{op:Operator}{r:R2}(ho:eG X (binaryOp op) r)(ha:PE X a ta)(hb:PE X b tb):PE X (.BinOp a op b pos) (KE r ta tb):=by
 intro pins s σ H Q I h
 exact wpAny_BinOp (OW ha hb I h λv u s2 x y H2 I2 rx ry q=>ho pins s2 σ H2 x y v u Q I2 rx ry q)
theorem RG{op:UnaryOp}{r:V->Hp->VK->Prop}(ho:Pl X (unaryOp op) r)(ha:PE X a ta):PE X (.UnaryOp op a pos) (tUn r ta):=by
 intro pins s σ H Q I h
 exact UnaryOp_ (bu (ha pins s σ H _ I h) λv s1 ⟨x,H1,I1,r1,q1⟩=>ho pins s1 σ H1 x v Q I1 r1 q1)
theorem E9{C:Int->Int->Prop}
  (rule:∀(i j:Int) (t u:Tok) (s:Shared) (Q:Value->Shared->Prop) (E:Value->Shared->Prop),C i j->Q (.int (g i j) s.toks) { s with toks:=s.toks+1 }->wpAny (model X.prog X.w) X.A (f (.int i t) (.int j u)) Q E s) :
  eG X f (rI C λi j=>.int (g i j)):=by
 intro pins s σ H x y v u Q I rx ry h
 obtain⟨i,j,rfl,rfl,hc,q⟩:=h
 obtain⟨t,rfl⟩:=rx
 obtain⟨t',rfl⟩:=ry
 exact rule i j t t' s _ _ hc ⟨.int (g i j),H,I.tok _,⟨_,rfl⟩,q⟩
theorem L6
  (rule:∀(i j:Int) (t u:Tok) (s:Shared) (Q:Value->Shared->Prop) (E:Value->Shared->Prop),Q (.int (g i j) s.toks) { s with toks:=s.toks+1 }->wpAny (model X.prog X.w) X.A (f (.int i t) (.int j u)) Q E s) :
  eG X f (ou λi j=>.int (g i j)):=by
 intro pins s σ H x y v u Q I rx ry h
 obtain⟨i,j,rfl,rfl,q⟩:=h
 obtain⟨t,rfl⟩:=rx
 obtain⟨t',rfl⟩:=ry
 exact rule i j t t' s _ _ ⟨.int (g i j),H,I.tok _,⟨_,rfl⟩,q⟩
theorem yU{g:Int->Int->Bool}
  (rule:∀(i j:Int) (t u:Tok) (s:Shared) (Q:Value->Shared->Prop) (E:Value->Shared->Prop),Q (.bool (g i j)) s->wpAny (model X.prog X.w) X.A (f (.int i t) (.int j u)) Q E s) :
  eG X f (ou λi j=>.bl (g i j)):=by
 intro pins s σ H x y v u Q I rx ry h
 obtain⟨i,j,rfl,rfl,q⟩:=h
 obtain⟨t,rfl⟩:=rx
 obtain⟨t',rfl⟩:=ry
 exact rule i j t t' s _ _ ⟨.bl (g i j),H,I,rfl,q⟩
noncomputable def aF3(i j:Int):Prop:=0<=j/\j<=1000000/\i.natAbs<2 ^ 64
theorem L5:eG X (binaryOp .Add) (ou λi j=>.int (i+j)):=L6 λ_ _ _ _ _ _ _ q=>add_int q
theorem LZ:eG X (binaryOp .Sub) (ou λi j=>.int (i-j)):=L6 λ_ _ _ _ _ _ _ q=>sub_int q
theorem IR:eG X (binaryOp .Mod) (rI (λ_ j=>j≠0) λi j=>.int (i.fmod j)):=E9 λ_ _ _ _ _ _ _ hc q=>mod_int' hc q
theorem L3:eG X (binaryOp .Pow) (rI aF3 λi j=>.int (i ^ j.toNat)):=E9 λ_ _ _ _ _ _ _ hc q=>pow_int_small hc.1 hc.2.1 hc.2.2 q
theorem unI{f:Value->Sem Value}{g:Int->Int}
  (rule:∀(i:Int) (t:Tok) (s:Shared) (Q:Value->Shared->Prop) (E:Value->Shared->Prop),Q (.int (g i) s.toks) { s with toks:=s.toks+1 }->wpAny (model X.prog X.w) X.A (f (.int i t)) Q E s) :
  Pl X f (rU λi=>.int (g i)):=by
 intro pins s σ H x v Q I rx h
 obtain⟨i,rfl,q⟩:=h
 obtain⟨t,rfl⟩:=rx
 exact rule i t s _ _ ⟨.int (g i),H,I.tok _,⟨_,rfl⟩,q⟩
theorem Ks:Pl X (unaryOp .USub) (rU λi=>.int (-i)):=unI λ_ _ _ _ _ q=>neg_int q
end
section
variable{a b:Expr}{ta tb tc:TE}
theorem Bk{Q:VK}{k k':Bool}(I:aq X pins σ H s)(q:Q (.bl k) H)(e:k=k'):EP X pins σ Q (.bool k') s:=by
 subst e
 exact⟨.bl k,H,I,rfl,q⟩
theorem RJ:eG X (compareOp .Lt) (ou λi j=>.bl (decide (i<j))):=yU λ_ _ _ _ _ _ _ q=>lt_int q
theorem RK:eG X (compareOp .LtE) (ou λi j=>.bl (decide (i<=j))):=yU λ_ _ _ _ _ _ _ q=>le_int q
theorem RL:eG X (compareOp .Gt) (ou λi j=>.bl (decide (j<i))):=yU λ_ _ _ _ _ _ _ q=>gt_int q
theorem RM:eG X (compareOp .GtE) (ou λi j=>.bl (decide (j<=i))):=yU λ_ _ _ _ _ _ _ q=>ge_int q
theorem L4:eG X (compareOp .Is) (λx y H Q=>y=.non/\Q (.bl (decide (x=.non))) H):=by
 intro pins s σ H x y v u Q I rx ry h
 obtain⟨rfl,q⟩:=h
 cases ry
 refine is_none_gen (Bk I q ?_)
 cases x<;>first
  | (cases rx;rfl)
  | (obtain⟨t,rfl⟩:=rx;rfl)
theorem IP:eG X (compareOp .IsNot) (λx y H Q=>y=.non/\Q (.bl (!decide (x=.non))) H):=by
 intro pins s σ H x y v u Q I rx ry h
 obtain⟨rfl,q⟩:=h
 cases ry
 refine isnot_none_gen (Bk I q ?_)
 cases x<;>first
  | (cases rx;rfl)
  | (obtain⟨t,rfl⟩:=rx;rfl)
theorem Mw(b:Expr)(h:op ≠ .In:=by decide)(h2:op ≠ .NotIn:=by decide):behindInMarks op b=false:=by
 have e1:(op==CmpOp.In)=false:=by cases op<;>first|rfl|exact absurd rfl h
 have e2:(op==CmpOp.NotIn)=false:=by cases op<;>first|rfl|exact absurd rfl h2
 cases b<;>simp[behindInMarks,e1,e2]
noncomputable def EK(t:TE):TT:=λσ H Q=>t σ H λx H' => ∃k,x=.bl k/\Q k H'
theorem Ir{r:R2}(ho:eG X (compareOp op) r)(ha:PE X a ta)(hb:PE X b tb)(hm:behindInMarks op b=false):PT X (.Compare a [op] [b] pos) (EK (KE r ta tb)):=by
 intro pins s σ H Q I h
 refine wpAny_isTrue_Compare1 (bu (ha pins s σ H _ I h) λv s1 ⟨x,H1,I1,r1,q1⟩=>bu (hb pins s1 σ H1 _ I1 q1) λu s2 ⟨y,H2,I2,r2,q2⟩ =>
  bu (ho pins s2 σ H2 x y v u _ I2 r1 r2 q2) λc s3 ⟨z,H3,I3,r3,k,e,q3⟩=>?_) hm
 subst e
 cases r3
 exact aK5 ⟨H3,I3,q3⟩
noncomputable def Ap(r r':R2)(ta tb tc:TE):TE:=λσ H Q=>ta σ H λx H1=>tb σ H1 λy H2=>r x y H2 λz H3 => ∃k,z=.bl k /\
 (if k=true then tc σ H3 λw' H4=>r' y w' H4 Q else Q (.bl false) H3)
theorem CQ{r r':R2}(ho:eG X (compareOp op) r)(ho':eG X (compareOp op') r')(ha:PE X a ta)(hb:PE X b tb)(hc:PE X c tc)
  (hm:lastMarks [op,op'] [b,c]=false:=by with_unfolding_all rfl):PE X (.Compare a [op,op'] [b,c] pos) (Ap r r' ta tb tc):=by
 intro pins s σ H Q I h
 refine Compare_chain (bu (ha pins s σ H _ I h) λv s1 ⟨x,H1,I1,r1,q1⟩=>chain_link (bu (hb pins s1 σ H1 _ I1 q1) λu s2 ⟨y,H2,I2,r2,q2⟩ =>
  bu (ho pins s2 σ H2 x y v u _ I2 r1 r2 q2) λd s3 ⟨z,H3,I3,r3,k,e,q3⟩=>?_)) hm
 subst e
 cases r3
 refine aK5 ?_
 cases k with
 | false=>exact ite_ff ⟨.bl false,H3,I3,rfl,q3⟩
 | true=>exact ite_tt (chain_last (bu (hc pins s3 σ H3 _ I3 q3) λw' s4 ⟨z',H4,I4,r4,q4⟩=>ho' pins s4 σ H4 y z' u w' Q I4 r2 r4 q4))
theorem CI{r r':R2}(ho:eG X (compareOp op) r)(ho':eG X (compareOp op') r')(ha:PE X a ta)(hb:PE X b tb)(hc:PE X c tc)
  (hm:lastMarks [op,op'] [b,c]=false:=by with_unfolding_all rfl):PT X (.Compare a [op,op'] [b,c] pos) (EK (Ap r r' ta tb tc)):=by
 intro pins s σ H Q I h
 refine isTrue_chain (bu (ha pins s σ H _ I h) λv s1 ⟨x,H1,I1,r1,q1⟩=>test_link (bu (hb pins s1 σ H1 _ I1 q1) λu s2 ⟨y,H2,I2,r2,q2⟩ =>
  bu (ho pins s2 σ H2 x y v u _ I2 r1 r2 q2) λd s3 ⟨z,H3,I3,r3,k,e,q3⟩=>?_)) hm
 subst e
 cases r3
 refine aK5 ?_
 cases k with
 | false =>
  obtain⟨k',e',q'⟩:=q3
  cases e'
  exact ite_ff ⟨H3,I3,q'⟩
 | true =>
  refine ite_tt (test_last (bu (hc pins s3 σ H3 _ I3 q3) λw' s4 ⟨z',H4,I4,r4,q4⟩=>bu (ho' pins s4 σ H4 y z' u w' _ I4 r2 r4 q4) λd' s5 ⟨z2,H5,I5,r5,k2,e2,q5⟩=>?_))
  subst e2
  cases r5
  exact aK5 ⟨H5,I5,q5⟩
theorem mL:(sizeLine:Nat)<2 ^ 63:=by rw[aO1];decide
theorem yT:eG X (binaryOp .Add) (λx y H Q => ∃i j,x=.str i/\y=.str j/\i.length+j.length<=sizeLine/\Q (.str (i++j)) H):=by
 intro pins s σ H x y v u Q I rx ry h
 obtain⟨i,j,rfl,rfl,hz,q⟩:=h
 obtain⟨t,rfl⟩:=rx
 obtain⟨t',rfl⟩:=ry
 exact add_str (λt' tk=>⟨.str (i++j),H,I.tok _,⟨_,rfl⟩,q⟩) hz
theorem d7{x:V}(r:bi [x] us):∃u,us=[u]/\bO x u:=by
 cases r with
 | cons r1 r2=>cases r2;exact⟨_,rfl,r1⟩
theorem Es{x:V}(r:bi [x,y] us):∃u w',us=[u,w']/\bO x u/\bO y w':=by
 cases r with
 | cons r1 r2 =>
  cases r2 with
  | cons r3 r4=>cases r4;exact⟨_,_,rfl,r1,r3⟩
theorem DZ:fe X (.builtin "abs") (λxs H Q => ∃i,xs=[.int i]/\Q (.int (if i<0 then -i else i)) H):=by
 intro pins s σ H xs us Q I r h
 obtain⟨i,rfl,q⟩:=h
 obtain⟨u,rfl,t,rfl⟩:=d7 r
 exact call_abs_int λu tk=>⟨.int (if i<0 then -i else i),H,I.tok _,⟨_,rfl⟩,q⟩
theorem Bz(hc:X.calm=true):fe X (.builtin "min") (λxs H Q => ∃i j,xs=[.int i,.int j]/\Q (.int (if j<i then j else i)) H):=by
 intro pins s σ H xs us Q I r h
 obtain⟨i,j,rfl,q⟩:=h
 obtain⟨u,w',rfl,⟨t,rfl⟩,⟨t',rfl⟩⟩:=Es r
 refine min_two_ints (I.ok.hd hc) λh' tk k=>⟨_,H,I.kept k,?_,q⟩
 by_cases hj:j<i
 ·rw[if_pos hj,if_pos hj];exact⟨_,rfl⟩
 ·rw[if_neg hj,if_neg hj];exact⟨_,rfl⟩
theorem tJ:fe X (.type "int") (λxs H Q=>(∃i,xs=[.int i]/\Q (.int i) H)\/∃k,xs=[.bl k]/\Q (.int (if k then 1 else 0)) H):=by
 intro pins s σ H xs us Q I r h
 rcases h with⟨i,rfl,q⟩|⟨k,rfl,q⟩
 ·obtain⟨u,rfl,t,rfl⟩:=d7 r
  exact call_int_int ⟨.int i,H,I,⟨_,rfl⟩,q⟩
 ·obtain⟨u,rfl,r1⟩:=d7 r
  cases r1
  exact call_int_bool ⟨.int (if k then 1 else 0),H,I.tok _,⟨_,rfl⟩,q⟩
theorem wk:fe X (.type "str") (λxs H Q => ∃i,xs=[.int i]/\i.natAbs.log2<1920/\Q (.str (toString i)) H):=by
 intro pins s σ H xs us Q I r h
 obtain⟨i,rfl,hz,q⟩:=h
 obtain⟨u,rfl,t,rfl⟩:=d7 r
 exact PySem.P.str_of_int hz ⟨.str _,H,I.tok _,⟨_,rfl⟩,q⟩
end
structure pi(h:Heap)(x dx C:Addr)(mA:Str->Option Value):Prop where
 obj:h.get? x=some (W.instObj C dx)
 ns:h.Ns1 dx mA
 ne:dx≠x
theorem A3(n:h.Ns1 dx mA):∃od,h.get? dx=some od/\∀name,W.lookIn name od=some (mA name):=by
 obtain⟨o,es,ep,ho,hd,hk,_,hm⟩:=n
 refine⟨o,ho,λname=>?_⟩
 have e:=hm name
 unfold nsFind findBy at e
 rw[<- Array.find?_toList]at e
 unfold W.lookIn
 rw[hd]
 dsimp only
 split
 ·rename_i y q
  rw[q]at e
  exact aK4 some e
 ·rename_i q
  rw[q]at e
  have a:es.toList.any (·.refKey)=false:=by
   rw[List.any_eq_false]
   intro y hy
   obtain⟨z,t,hkey⟩:=hk y (Array.mem_toList_iff.mp hy)
   simp[DictEntry.refKey,hkey]
  have a':¬ es.toList.any (·.refKey)=true:=by rw[a];exact aH9
  rw[if_neg a']
  exact aK4 some e
theorem pi.look{x:Addr}(I:pi h x dx C mA):∃od,W.InstAt h x (W.instObj C dx) C (some od)/\∀name,W.lookIn name od=some (mA name) :=
 let ⟨od,ho,hl⟩:=A3 I.ns
 ⟨od,⟨I.obj,rfl,rfl,ho⟩,hl⟩
section
variable{prog:Program}{x f:Addr}{name:Str}{v:Value}
theorem JD{expr:Bool}(X:K.In s.heap)(I:pi s.heap x dx C mA)(hg:W.plainGet K C name=true)(hh:W.hasDictIn K C=true)
  (ha:W.findIn K (.ref C) name=some none) (hv:mA name=some v) (hv':W.handedIn v=true) (h:Q v { s with toks:=s.toks+1 }) :
  wpAny (model prog w) A (getAttr (.ref x) name expr) Q E s:=by
 obtain⟨od,J,hl⟩:=I.look
 exact W.get_value X J (W.plainGet_of hg).1 (W.findObj_own hh ha rfl (by rw[hl,hv])) hv' h
theorem Dr{Q:Value×List Value->Shared->Prop}(X:K.In s.heap)(I:pi s.heap x dx C mA)(hg:W.plainGet K C name=true)
  (hf:W.findIn K (.ref C) name=some (some (.ref f))) (ht:W.isFn K (.ref f)=true) (hv:mA name=none) (h:Q (.ref f,[.ref x]) s) :
  wpAny (model prog w) A (getMethod (.ref x) name pl) Q E s:=by
 obtain⟨od,J,hl⟩:=I.look
 exact W.method_fn X J (W.plainGet_of hg).1 (W.plainGet_of hg).2 hf (aQ3.mp ht) (by show(W.lookIn name od).map (·.isSome)=some false;rw[hl,hv];rfl) h
theorem Ia{ns:List Str}{Q:Unit->Shared->Prop}(X:K.In s.heap)(I:pi s.heap x dx C mA)
  (hs:W.findIn K (.ref C) "__setattr__" = some (some (.builtin "object.__setattr__"))) (hp:W.plainOver K C=true) (ht:W.takerIn K C name=some none) (hh:W.hasDictIn K C=true)
  (hw:PySem.Within mA ns) (hsz:ns.length<=sizeLine)
  (h:∀h',pi h' x dx C (λy=>if y=name then some v else mA y)->Heap.SameBut dx s.heap h'->Q () { s with heap:=h',toks:=s.toks+2 }) :
  wpAny (model prog w) A (setAttr (.ref x) name v) Q E s:=by
 obtain⟨od,J,hl⟩:=I.look
 refine W.set_plain X J hs (W.osa_open (s:={ s with toks:=s.toks+1 }) (r:=none) X J hp ht λb=>?_)
 obtain⟨cd,hc,hd'⟩:=W.any_some hh
 have hx:s.heap.get? x=some ⟨.ref C,some dx,.plain,#[]⟩:=I.obj
 refine aF4 (aG3 (aF4 (aF4 (wpAny_loadPart hx (aF4 (W.Looks.here (s:={ s with toks:=s.toks+1 }) (W.looks_clsIn X hc) ?_))))))
 rw[hd']
 refine aG3 (a:=some dx) (aF4 (aG3 (aF4 ?_)))
 refine wpAny_nsSet1 (s:={ s with toks:=s.toks+1 }) I.ns λh' hn2 hs2=>?_
 obtain⟨oD,esD,epD,hoD,hdD,hcD⟩:=hn2.count (PySem.Within.cons name v hw)
 refine aF4 (wpAny_lookBehind hoD (by rw[hdD];exact pastItsLine_dict (aF5 hcD (by rw[aG9];omega))) ?_)
 exact aG3 (h _ ⟨(hs2.2 _ (aO8 I.ne)).trans I.obj,hn2,I.ne⟩ hs2)
theorem C5{R:Result->Shared->Prop}{vs:List Value}(X:K.In s.heap)(hm:W.makesIn K C=true)
  (hi:W.findIn K (.ref C) "__init__" = some (some (.ref f))) (hf:W.typeIn K (.ref f)=some (.type "function"))
  (h:codeAny (model prog w) (A.under (.builtin "type.__call__" ⟨.ref C::vs,kw⟩)) (.call (.ref f) ⟨.ref (s.heap.objs.size+1)::vs,kw⟩) (W.InitBack (s.heap.objs.size+1) R)
   { s with heap:=(s.heap.push W.emptyDict).push (W.instObj C s.heap.objs.size) }) :
  codeAny (model prog w) A (.call (.ref C) ⟨vs,kw⟩) R s:=by
 obtain⟨hh,g,d,t,os⟩:=s
 exact W.make_core (W.makes_of X hm) (W.looks_findIn X hi) (λself=>W.bind_fn X self hf) (.inl rfl) h
end
noncomputable def eH(f:Str)(v:V):List (Str×V)->List (Str×V)
 | []=>[(f,v)]
 | (g,x)::r=>if g=f then(g,v)::r else(g,x)::eH f v r
theorem oy(f g:Str)(v:V):∀fs:List (Str×V),(eH f v fs).lookup g=if g=f then some v else fs.lookup g
 | []=>by
  show List.lookup g [(f,v)]=_
  by_cases h:g=f
  ·have hb:(g==f)=true:=aQ3.mpr h
   simp only[List.lookup,hb,if_pos h]
  ·have hb:(g==f)=false:=aL8.mpr h
   simp only[List.lookup,hb,if_neg h]
 | (k,x)::r=>by
  have ih:=oy f g v r
  rw[show eH f v ((k,x)::r)=(if k=f then(k,v)::r else(k,x)::eH f v r)from rfl]
  by_cases hk:k=f
  ·rw[if_pos hk]
   by_cases h:g=k
   ·have hb:(g==k)=true:=aQ3.mpr h
    simp only[List.lookup,hb,if_pos (h.trans hk)]
   ·have hb:(g==k)=false:=aL8.mpr h
    simp only[List.lookup,hb,if_neg (λe:g=f=>h (e.trans hk.symm))]
  ·rw[if_neg hk]
   by_cases h:g=k
   ·have hb:(g==k)=true:=aQ3.mpr h
    simp only[List.lookup,hb,if_neg (λe:g=f=>hk (h.symm.trans e))]
   ·have hb:(g==k)=false:=aL8.mpr h
    simp only[List.lookup,hb]
    exact ih
theorem mN(f:Str)(v:V):∀fs:List (Str×V),f∈(eH f v fs).map (·.1)/\∀g,g∈fs.map (·.1)->g∈(eH f v fs).map (·.1)
 | []=>⟨by simp[eH],λg h=>by simp at h⟩
 | (k,x)::r=>by
  obtain⟨i1,i2⟩:=mN f v r
  rw[show eH f v ((k,x)::r)=(if k=f then(k,v)::r else(k,x)::eH f v r)from rfl]
  by_cases hk:k=f
  ·rw[if_pos hk]
   subst hk
   exact⟨by simp,λg h=>by simpa using h⟩
  ·rw[if_neg hk]
   refine⟨?_,λg h=>?_⟩
   ·rw[aH8]
    exact aG1 _ i1
   ·rw[aH8]at h⊢
    rcases aF8.mp h with e|e
    ·exact aF8.mpr (.inl e)
    ·exact aG1 _ (i2 g e)
theorem iB(f:Str)(v:V):∀fs:List (Str×V),(eH f v fs).length<=fs.length+1
 | []=>by simp[eH]
 | (k,x)::r=>by
  have ih:=iB f v r
  rw[show eH f v ((k,x)::r)=(if k=f then(k,v)::r else(k,x)::eH f v r)from rfl]
  by_cases hk:k=f
  ·rw[if_pos hk,aG9,aG9];omega
  ·rw[if_neg hk,aG9,aG9];omega
theorem gn.some_of{o:Option Value}(r:gn (some v) o):∃u,o=some u/\bO v u:=by
 cases o with
 | none=>exact(show False from r).elim
 | some u=>exact⟨u,rfl,r⟩
theorem gn.none_of{o:Option Value}(r:gn none o):o=none:=by
 cases o with
 | none=>rfl
 | some u=>exact(show False from r).elim
theorem Bh(r:bO v u):W.handedIn u=true:=by
 cases v with
 | non=>cases (show u=Value.none from r);rfl
 | bl b=>cases (show u=Value.bool b from r);rfl
 | int i=>obtain⟨t,e⟩:=(show ∃t,u=Value.int i t from r);cases e;rfl
 | str x=>obtain⟨t,e⟩:=(show ∃t,u=Value.str x t from r);cases e;rfl
 | byt b=>obtain⟨t,e⟩:=(show ∃t,u=Value.bytes b t from r);cases e;rfl
 | flt b=>obtain⟨t,e⟩:=(show ∃t,u=Value.float b t from r);cases e;rfl
 | ref a=>cases (show u=Value.ref a from r);rfl
 | ty n=>cases (show u=Value.type n from r);rfl
section
variable{H':Hp}{h':Heap}{fs fs':List (Str×V)}
theorem rT(hok:fB P w H h)(e:H a=some (.ins C dx fs)):∃mA,pi h a dx C mA/\(∀f,gn (fs.lookup f) (mA f))/\PySem.Within mA (fs.map (·.1))/\fs.length<=1000/\H dx=some (.own a):=by
 obtain⟨d,z,ne,ob,mA,n,r,q⟩:=(show dn P w H h a (.ins C dx fs)from hok a _ e)
 exact⟨mA,⟨ob,n,ne⟩,r,q,z,d⟩
end
structure eV(K:W.Frag)(C:Addr):Prop where
 pg:W.plainGet K C Str.empty=true
 hd:W.hasDictIn K C=true
 po:W.plainOver K C=true
 sa:W.findIn K (.ref C) "__setattr__" = some (some (.builtin "object.__setattr__"))
theorem eV.get(c:eV K C)(f:Str):W.plainGet K C f=true:=c.pg
noncomputable def cr(K:W.Frag)(C:Addr)(f:Str):Prop:=W.findIn K (.ref C) f=some none
theorem cr.taker{f:Str}(n:cr K C f):W.takerIn K C f=some none:=by
 unfold W.takerIn
 rw[show W.findIn K (.ref C) f=some none from n]
 rfl
structure jJ(K:W.Frag)(C:Addr)(m:Str)(f:Addr):Prop where
 at_:W.findIn K (.ref C) m=some (some (.ref f))
 fn:W.isFn K (.ref f)=true
 kp:W.keepIn K (.ref f)=true
section
variable{fs:List (Str×V)}{f:Str}
theorem zm{b:Bool}(I:aq X pins σ H s)(e:H a=some (.ins C dx fs))(c:eV X.K C)(n:cr X.K C f)(l:fs.lookup f=some v)
  (h:∀u s',aq X pins σ H s'->bO v u->Q u s'):wpAny (model X.prog X.w) A (getAttr (.ref a) f b) Q E s:=by
 obtain⟨mA,O,r,_,_,_⟩:=rT I.hok e
 obtain⟨u,hu,ru⟩:=gn.some_of (v:=v) (o:=mA f) (by rw[<- l];exact r f)
 exact JD I.kIn O (c.get f) c.hd n hu (Bh ru) (h u _ (I.tok _) ru)
theorem lB{m:Str}{g:Addr}{Q:Value×List Value->Shared->Prop}(I:aq X pins σ H s)(e:H a=some (.ins C dx fs))(c:eV X.K C)(k:jJ X.K C m g)(l:fs.lookup m=none)
  (h:Q (.ref g,[.ref a]) s):wpAny (model X.prog X.w) A (getMethod (.ref a) m pl) Q E s:=by
 obtain⟨mA,O,r,_,_,_⟩:=rT I.hok e
 have hn:mA m=none:=gn.none_of (by rw[<- l];exact r m)
 exact Dr I.kIn O (c.get m) k.at_ k.fn hn h
theorem yF{Q:Unit->Shared->Prop}(I:aq X pins σ H s)(e:H a=some (.ins C dx fs))(c:eV X.K C)(n:cr X.K C f)(hl:fs.length<1000)(ry:bO y u)
  (h:∀s',aq X pins σ (bo H a (.ins C dx (eH f y fs))) s'->Q () s'):wpAny (model X.prog X.w) A (setAttr (.ref a) f u) Q E s:=by
 obtain⟨mA,O,r,wi,_,ho⟩:=rT I.hok e
 have hz:(fs.map (·.1)).length<=sizeLine:=by rw[aH3,aO1];omega
 refine Ia I.kIn O c.sa c.po n.taker c.hd wi hz λh' O' sb=>h _ ?_
 have hd:∃o,h'.get? dx=some o:=let ⟨o,_,_,e',_⟩:=O'.ns;⟨o,e'⟩
 refine I.write (x:=a) (e:=dx) (by rw[e];exact True.intro) (.inr ho) (λb q hb z=>(sb.2 b hb).trans z) hd ?_
 refine⟨by rw[aK O.ne];exact ho,?_,O.ne,O'.obj,_,O'.ns,λg=>?_,λg hg=>?_⟩
 ·have:=iB f y fs;omega
 ·show gn ((eH f y fs).lookup g) (if g=f then some u else mA g)
  rw[oy]
  by_cases q:g=f
  ·rw[if_pos q,if_pos q];exact ry
  ·rw[if_neg q,if_neg q];exact r g
 ·by_cases q:g=f
  ·rw[q];exact(mN f y fs).1
  ·refine(mN f y fs).2 g (wi g λz=>hg ?_)
   show(if g=f then some u else mA g)=none
   rw[if_neg q];exact z
theorem aq.made(I:aq X pins σ H s):aq X pins σ (bo (bo H s.heap.objs.size (.own (s.heap.objs.size+1))) (s.heap.objs.size+1) (.ins C s.heap.objs.size []))
  { s with heap:=(s.heap.push W.emptyDict).push (W.instObj C s.heap.objs.size) }:=by
 have e1:(s.heap.push W.emptyDict).get? s.heap.objs.size=some W.emptyDict:=aG5 s.heap rfl
 have e2:((s.heap.push W.emptyDict).push (W.instObj C s.heap.objs.size)).get? (s.heap.objs.size+1)=some (W.instObj C s.heap.objs.size):=by
  have:=aG5 (s.heap.push W.emptyDict) (o:=W.instObj C s.heap.objs.size) rfl
  rwa [aL2]at this
 have e3:(s.heap.push W.emptyDict).Ns s.heap.objs.size (λ_=>none):=⟨W.emptyDict,#[],_,e1,rfl,(λe he=>absurd he (by simp)),λ_=>rfl⟩
 have I1:=I.laid (a:=s.heap.objs.size) (o:=.own (s.heap.objs.size+1)) (h':=s.heap.push W.emptyDict) (t':=s.toks) (λb u q=>aF6 _ q) (aF9 _) ⟨_,e1⟩
 refine I1.laid (a:=s.heap.objs.size+1) (o:=.ins C s.heap.objs.size []) (t':=s.toks) (λb u q=>aF6 _ q) (Nat.le_of_eq (aL2 _ _)) ?_
 have ne:s.heap.objs.size≠s.heap.objs.size+1:=aJ0 (aJ1 _)
 refine⟨by rw[aK ne,aU],aH5 _,ne,e2,λ_=>none,(Heap.Ns1.of_empty e3).at λo q=>aF6 _ q,λ_=>True.intro,λy hy=>absurd rfl hy⟩
theorem Kf{prog:Program}{env:Env}{f:Str}(hb:attributeBase e f env (eval e env)=eval e env)
  (h:wpAny (model prog w) A (eval e env) (λo s₁=>wpAny (model prog w) A (getAttr o f true) Q E s₁) E s):wpAny (model prog w) A (eval (.Attribute e f pos) env) Q E s :=
 Attribute_any_ h (by rw[arm_eval_Attribute,hb])
end
noncomputable def VZ(K:W.Frag)(ta:TE)(f:Str):TE:=λσ H Q=>ta σ H λx H1 => ∃a C dx fs v,x=.ref a/\H1 a=some (.ins C dx fs)/\eV K C/\cr K C f/\fs.lookup f=some v/\Q v H1
noncomputable def Xz(K:W.Frag)(ta tv:TE)(f:Str):TS:=λD σ H=>tv σ H λy H1=>ta σ H1 λx H2 => ∃a C dx fs,x=.ref a/\H2 a=some (.ins C dx fs)/\eV K C/\cr K C f/\fs.length<1000 /\
 D.nx σ (bo H2 a (.ins C dx (eH f y fs)))
section
variable{o value:Expr}{f:Str}{pos' tpos:Pos}{ta tv:TE}
theorem AR(he:PE X e ta)(hb:attributeBase e f X.env (eval e X.env)=eval e X.env):PE X (.Attribute e f pos) (VZ X.K ta f):=by
 intro pins s σ H Q I h
 refine Kf hb (bu (he pins s σ H _ I h) λu s1 ⟨x,H1,I1,rx,a,C,dx,fs,v,ex,ea,c,n,l,q⟩=>?_)
 subst ex
 obtain rfl:u=Value.ref a:=rx
 exact zm I1 ea c n l λu' s2 I2 ru=>⟨v,H1,I2,ru,q⟩
theorem pT(ha:PE X o ta)(hv:PE X value tv)(hs:swapsWith value (some (.Attribute o f pos')) pos.line X.env=pure false):PS X (.Assign [.Attribute o f pos'] value pos) (Xz X.K ta tv f):=by
 intro pins s σ H D I h
 refine plainObj_wpAny_Assign_Attribute (bu (hv pins s σ H _ I h) λu s1 ⟨y,H1,I1,ry,q⟩=>bu (ha pins s1 σ H1 _ I1 q) λov s2 ⟨x,H2,I2,rx,a,C,dx,fs,ex,ea,c,n,l,q2⟩=>?_) hs
 subst ex
 obtain rfl:ov=Value.ref a:=rx
 exact yF I2 ea c n l ry λs3 I3=>⟨σ,_,I3,q2⟩
end
section
variable{c:Value}{b:Bool}
end
structure cw(k:Nat)(A:Around):Prop where
 hd:A.handled=none
 dp:A.depth+3*k+5<recursionLimit
 un:A.units+16*k+200<cLine
theorem cw.mono(r:cw k A)(h:j<=k):cw j A:=⟨r.hd,by have:=r.dp;omega,by have:=r.un;omega⟩
theorem cw.deeper(r:cw (k+1) A)(env:Env):cw k (A.deeper env) :=
 ⟨r.hd,by have:=r.dp;show A.depth+1+3*k+5<_;omega,by have:=r.un;show A.units+3+16*k+200<_;omega⟩
theorem cw.in1(r:cw (k+1) A):cw k A.in1 :=
 ⟨r.hd,by have:=r.dp;show A.depth+3*k+5<_;omega,by have:=r.un;show A.units+1+16*k+200<_;omega⟩
theorem y8:(A.under (.builtin "type.__call__" ⟨.ref C::us,kw⟩)).depth=A.depth+1:=by
 first|rfl|simp[Around.under,Code.weight,Code.isCreation,Code.isGuard,Code.isCaller,Code.frames,Code.isFrame,guardIds]
theorem y6:(A.under (.builtin "type.__call__" ⟨.ref C::us,kw⟩)).units=A.units+1:=by
 first|rfl|simp[Around.under,Code.cUnits,Code.frames,Code.isFrame]
theorem cw.make(r:cw (k+1) A)(C:Addr)(us:List Value)(kw:List (Str×Value)):cw k (A.under (.builtin "type.__call__" ⟨.ref C::us,kw⟩)) :=
 ⟨r.hd,by have:=r.dp;rw[y8];omega,by have:=r.un;rw[y6];omega⟩
theorem cw.depth(r:cw k A):A.depth<recursionLimit:=by have:=r.dp;omega
theorem cw.units(r:cw k A):A.units+64<cLine:=by have:=r.un;omega
noncomputable def yw:TA:=λ_ H Q=>Q [] H
noncomputable def Qb(ta:TE)(tr:TA):TA:=λσ H Q=>ta σ H λx H1=>tr σ H1 λxs H2=>Q (x::xs) H2
section
variable{t:TA}
theorem LV:PA X [] yw:=λ_ _ _ _ H Q I h=>Calls.spliced_nil ⟨[],H,I,.nil,h⟩
theorem xF(ha:PE X e te)(hr:PA X es t)(hs:starEach (e::es) X.env=(false,eval e X.env)::starEach es X.env:=by rfl):PA X (e::es) (Qb te t):=by
 intro pos pins s σ H Q I h
 rw[hs]
 show wpAny _ _ (spliced ((false,eval e X.env)::backTo pos (starEach es X.env))) _ _ s
 refine Calls.spliced_cons (bu (ha pins s σ H _ I h) λu s1 ⟨x,H1,I1,r1,q1⟩=>?_)
 exact bu (hr pos pins s1 σ H1 _ I1 q1) λus s2 ⟨xs,H2,I2,r2,q2⟩=>⟨x::xs,H2,I2,.cons r1 r2,q2⟩
noncomputable def VQ(t:TA):TE:=λσ H Q=>t σ H λxs H1=>xs.length<=sizeLine/\∀p,H1 p=none->Q (.ref p) (bo H1 p (.tup xs))
noncomputable def VW(t:TA):TE:=λσ H Q=>t σ H λxs H1=>xs.length<=sizeLine/\∀p,H1 p=none->Q (.ref p) (bo H1 p (.lst xs))
theorem LK{x1}(h:PA X es t):PE X (.Tuple es x1 pos) (VQ t):=by
 intro pins s σ H Q I hq
 refine wpAny_Tuple_spliced (bu (h pos pins s σ H _ I hq) λus s1 ⟨xs,H1,I1,r,z,q⟩=>⟨by rw[<- r.length];exact z,?_⟩)
 have hf:H1 s1.heap.objs.size=none:=I1.hok.fresh (aF9 _)
 refine⟨.ref s1.heap.objs.size,bo H1 s1.heap.objs.size (.tup xs),I1.laid (t':=s1.toks) (λb u e=>aF6 _ e) (aF9 _) ?_,rfl,q _ hf⟩
 exact⟨z,us,r,⟨_,aG5 _ rfl,rfl,_,rfl⟩,_,aG5 _ rfl,rfl⟩
theorem AQ(h:PA X es t):PE X (.List es pos) (VW t):=by
 intro pins s σ H Q I hq
 refine wpAny_List_spliced (bu (h pos pins s σ H _ I hq) λus s1 ⟨xs,H1,I1,r,z,q⟩=>⟨by rw[<- r.length];exact z,?_⟩)
 have hf:H1 s1.heap.objs.size=none:=I1.hok.fresh (aF9 _)
 refine⟨.ref s1.heap.objs.size,bo H1 s1.heap.objs.size (.lst xs),I1.laid (t':=s1.toks) (λb u e=>aF6 _ e) (aF9 _) ?_,rfl,q _ hf⟩
 exact⟨z,us,0,r,aG5 _ rfl⟩
end
noncomputable abbrev Sp:=List V->Hp->VK->XK->Prop
noncomputable abbrev jW:=List Env->Hp->Shared->XK->Value->Shared->Prop
structure kC(P:Program)(w:World)(K:W.Frag)(mg:Str->Option Value)(base:Heap)(A:Around)(outer:List Env)(s:Shared)(H:Hp):Prop where
 frames:A.frames=some outer
 mod:Mod K mg base
 bs:∀b o,base.get? b=some o->s.heap.get? b=some o/\H b=none
 bsz:base.objs.size<=s.heap.objs.size
 funs:s.heap.FunFrames base outer
 frf:∀b∈kS outer,H b=none
 hok:fB P w H s.heap
 bare:AllBare s.gens
noncomputable def CE(outer:List Env)(P:Program)(w:World)(H:Hp)(s:Shared)(Q:VK)(u:Value)(s':Shared):Prop :=
 ∃v H',s'.os=s.os/\AllBare s'.gens/\Un (kS outer) [] H H' s.heap s'.heap/\fB P w H' s'.heap/\bO v u/\Q v H'
noncomputable def CR(CX:jW)(outer:List Env)(P:Program)(w:World)(H:Hp)(s:Shared)(Q:VK)(E:XK)(r:Result)(s':Shared):Prop :=
 match r with
 | .ok (.ret u)=>CE outer P w H s Q u s'
 | .ok _=>False
 | .error e=>CX outer H s E e s'
structure bT(P:Program)(w:World)(K:W.Frag)(mg:Str->Option Value)(base:Heap)(CX:jW)(k:Nat)(f:Addr)(fd:FuncData)(ps:List Str)(sp:Sp):Prop where
 len:∀vs H Q E,sp vs H Q E->vs.length=ps.length
 run:∀(A:Around) (outer:List Env) (s:Shared) (H:Hp) (args:Args) (us:List Value) (vs:List V) (Q:VK) (E:XK),cw k A->kC P w K mg base A outer s H->BindsTo s fd args (ps.zip us)->bi vs us->sp vs H Q E ->
  codeAny (model P w) A (.call (.ref f) args) (CR CX outer P w H s Q E) s
theorem bT.mono{CX:jW}{f:Addr}{sp:Sp}(F:bT P w K mg base CX j f fd ps sp)(h:j<=k) :
  bT P w K mg base CX k f fd ps sp:=⟨F.len,λA outer s H args us vs Q E hr=>F.run A outer s H args us vs Q E (hr.mono h)⟩
theorem kC.make(e:kC P w K mg base A outer s H)(C:Addr)(us:List Value)(kw:List (Str×Value)) :
  kC P w K mg base (A.under (.builtin "type.__call__" ⟨.ref C::us,kw⟩)) outer s H:=⟨by first|exact e.frames|(simpa [Around.under,Code.envs,Code.isFrame,pushEnvs]using e.frames),e.mod,e.bs,e.bsz,e.funs,e.frf,e.hok,e.bare⟩
theorem kC.in1(e:kC P w K mg base A outer s H) :
  kC P w K mg base A.in1 outer s H:=⟨e.frames,e.mod,e.bs,e.bsz,e.funs,e.frf,e.hok,e.bare⟩
section
theorem aq.env0(I:aq X pins σ H s):kC X.prog X.w X.K X.mg X.base X.A X.stack s H :=
 ⟨I.ok.frames,I.ok.mod,I.bs,aF5 I.ok.bsz I.sz,I.stack,I.stkFree,I.hok,I.bare⟩
theorem aq.after{Q:VK}(I:aq X pins σ H s)(h:CE X.stack X.prog X.w H s Q u s'):EP X pins σ Q u s':=by
 obtain⟨v,H',os,bare,un,hok,r,q⟩:=h
 obtain⟨hh,g,d,t,os'⟩:=s'
 obtain rfl:os'=s.os:=os
 exact⟨v,H',I.call (h':=hh) (g':=g) (d':=d) (t':=t) (ch:=[]) un hok bare (λb z=>absurd z (by simp)),r,q⟩
end
noncomputable def yx(sp:Sp)(dvs:List V)(E:XK)(t:TA):TE:=λσ H Q=>t σ H λvs H1=>sp (vs++dvs) H1 Q E
noncomputable def EO(C:Addr)(m:Str)(sp:Sp)(dvs:List V)(E:XK)(ta:TE)(t:TA):TE:=λσ H Q=>ta σ H λx H1 => ∃a dx fs,x=.ref a/\H1 a=some (.ins C dx fs)/\fs.lookup m=none /\
 t σ H1 λvs H2=>sp (x::(vs++dvs)) H2 Q E
noncomputable def EQ(C:Addr)(sp:Sp)(dvs:List V)(E:XK)(t:TA):TE:=λσ H Q=>t σ H λvs H1 => ∀x dx,H1 x=none->H1 dx=none->dx≠x ->
 sp (.ref x::(vs++dvs)) (bo (bo H1 dx (.own x)) x (.ins C dx [])) (λv H2=>v=.non/\Q (.ref x) H2) E
noncomputable def cx(K:W.Frag)(fd:FuncData)(ps:List Str)(ds:List Value):Prop :=
 ∀(s:Shared) (us:List Value),K.In s.heap->(us++ds).length=ps.length->BindsTo s fd ⟨us,[]⟩ (ps.zip (us++ds))
theorem cx.all(h:∀us:List Value,us.length=ps.length->bindArgs fd ⟨us,[]⟩=pure (ps.zip us)):cx K fd ps []:=λs us _ hl=>by
 rw[aK7]at hl⊢
 exact .of_eq (h us hl)
noncomputable def gf(CX:jW)(X:Cx)(E:XK):Prop:=∀(pins:List (Addr×Obj)) (σ:St) (H:Hp) (s:Shared) (e:Value) (s':Shared),aq X pins σ H s->CX X.stack H s E e s'->X.xe e s'
section
variable{CX:jW}{f:Addr}{sp:Sp}{dvs:List V}{ds:List Value}{E:XK}{m:Str}{apos:Pos}{o:Expr}{ta:TE}{t:TA}
theorem kI{Q:VK}(F:bT X.prog X.w X.K X.mg X.base CX k f fd ps sp)(hr:cw k X.A)(hb:cx X.K fd ps ds)(hd:bi dvs ds)(hx:gf CX X E)
  (I:aq X pins σ H s) (r:bi vs us) (h:sp (vs++dvs) H Q E):wpAny (model X.prog X.w) X.A (call (.ref f) us) (EP X pins σ Q) X.xe s:=by
 have r2:bi (vs++dvs) (us++ds):=r.append hd
 have hl:(us++ds).length=ps.length:=by rw[<- r2.length];exact F.len _ _ _ _ h
 refine wpAny_call (codeAny_mono (F.run X.A X.stack s H ⟨us,[]⟩ (us++ds) (vs++dvs) Q E hr I.env0 (hb s us I.kIn hl) r2 h) λr s' hq=>?_)
 cases r with
 | error e=>exact hx pins σ H s e s' I hq
 | ok fl =>
  cases fl with
  | ret u=>exact I.after hq
  | next=>exact False.elim hq
  | brk=>exact False.elim hq
  | cont=>exact False.elim hq
theorem IN(F:bT X.prog X.w X.K X.mg X.base CX k f fd ps sp)(hr:cw k X.A)(hg:Gl X x)(hm:X.mg x=some (.ref f))(hk:W.keepIn X.K (.ref f)=true)(hb:cx X.K fd ps ds)(hd:bi dvs ds)(hx:gf CX X E)
  (ha:PA X (e::es) t) (hdb:(x==("__debug__" : Str))=false:=by decide) (he:starEach (e::es) X.env=(false,eval e X.env)::starEach es X.env:=by rfl) (hpl:(backTo pos (starEach es X.env)).any (·.1)=false:=by rfl) :
  PE X (.Call (.Name x p) (e::es) [] pos) (yx sp dvs E t):=by
 intro pins s σ H Q I h
 refine aO3 (jc I hg hm ?_ hdb)
 refine W.callWith_K (h₀:=X.base) I.ok.mod.kin hk (bu (ha pos pins s σ H _ I h) λus s1 ⟨vs,H1,I1,r,q⟩=>⟨I1.kIn,?_⟩) he hpl
 exact kI F hr hb hd hx I1 r q
theorem CT(F:bT X.prog X.w X.K X.mg X.base CX k f fd ps sp)(hr:cw k X.A)(hg:Gl X x)(hm:X.mg x=some (.ref f))(hk:W.keepIn X.K (.ref f)=true)(hb:cx X.K fd ps ds)(hd:bi dvs ds)(hx:gf CX X E)
  (hdb:(x==("__debug__" : Str))=false:=by decide):PE X (.Call (.Name x p) [] [] pos) (yx sp dvs E yw):=by
 intro pins s σ H Q I h
 refine aO3 (jc I hg hm ?_ hdb)
 exact W.callWith_K0 I.kIn hk (kI (us:=[]) F hr hb hd hx I .nil h)
theorem xC(he:PE X o ta)(c:eV X.K C)(hm:jJ X.K C m f)(F:bT X.prog X.w X.K X.mg X.base CX k f fd ps sp)(hr:cw k X.A)(hb:cx X.K fd ps ds)(hd:bi dvs ds)(hx:gf CX X E)(ha:PA X (e::es) t)
  (hst:starEach (e::es) X.env=(false,eval e X.env)::starEach es X.env:=by rfl) (hpl:(backTo pos (starEach es X.env)).any (·.1)=false:=by rfl)
  (ht:eval (.Call (.Attribute o m apos) (e::es) [] pos) X.env=(do
   let ov <- eval o X.env
   standAt apos.atName
   let (f,first) <- holding [ov] (getMethod ov m pl)
   callWith pos f first (backTo pos (starEach (e::es) X.env)) (backToKw pos (keywordEach [] X.env))):=by rfl) :
  PE X (.Call (.Attribute o m apos) (e::es) [] pos) (EO C m sp dvs E ta t):=by
 intro pins s σ H Q I h
 refine W.methodCall_KW (pl:=pl) (bu (he pins s σ H _ I h) λu s1 ⟨x,H1,I1,rx,a,dx,fs,ex,ea,l,q⟩=>?_) ht
 subst ex
 obtain rfl:u=Value.ref a:=rx
 refine lB I1 ea c hm l ?_
 refine W.callWith_K (first:=[.ref a]) (h₀:=X.base) I.ok.mod.kin hm.kp (bu (ha pos pins s1 σ H1 _ I1 q) λus s2 ⟨vs,H2,I2,r,q2⟩=>⟨I2.kIn,?_⟩) hst hpl
 exact kI (us:=.ref a::us) (vs:=.ref a::vs) F hr hb hd hx I2 (.cons rfl r) q2
theorem CN(he:PE X o ta)(c:eV X.K C)(hm:jJ X.K C m f)(F:bT X.prog X.w X.K X.mg X.base CX k f fd ps sp)(hr:cw k X.A)(hb:cx X.K fd ps ds)(hd:bi dvs ds)(hx:gf CX X E)
  (ht:eval (.Call (.Attribute o m apos) [] [] pos) X.env=(do
   let ov <- eval o X.env
   standAt apos.atName
   let (f,first) <- holding [ov] (getMethod ov m pl)
   callWith pos f first (backTo pos (starEach [] X.env)) (backToKw pos (keywordEach [] X.env))):=by rfl) :
  PE X (.Call (.Attribute o m apos) [] [] pos) (EO C m sp dvs E ta yw):=by
 intro pins s σ H Q I h
 refine W.methodCall_KW (pl:=pl) (bu (he pins s σ H _ I h) λu s1 ⟨x,H1,I1,rx,a,dx,fs,ex,ea,l,q⟩=>?_) ht
 subst ex
 obtain rfl:u=Value.ref a:=rx
 refine lB I1 ea c hm l ?_
 exact W.callWith_K0 (first:=[.ref a]) I1.kIn hm.kp (kI (us:=[.ref a]) (vs:=[.ref a]) F hr hb hd hx I1 (.cons rfl .nil) q)
structure Mk(K:W.Frag)(C f:Addr):Prop where
 makes:W.makesIn K C=true
 init:W.findIn K (.ref C) "__init__" = some (some (.ref f))
 fn:W.isFn K (.ref f)=true
 kp:W.keepIn K (.ref C)=true
theorem vh{Q:VK}(M:Mk X.K C f)(F:bT X.prog X.w X.K X.mg X.base CX k f fd ps sp)(hr:cw (k+1) X.A)(hb:cx X.K fd ps ds)(hd:bi dvs ds)
  (hx:gf CX X E) (I:aq X pins σ H s) (r:bi vs us)
  (h:∀x dx,H x=none->H dx=none->dx≠x->sp (.ref x::(vs++dvs)) (bo (bo H dx (.own x)) x (.ins C dx [])) (λv H2=>v=.non/\Q (.ref x) H2) E) :
  wpAny (model X.prog X.w) X.A (call (.ref C) us) (EP X pins σ Q) X.xe s:=by
 have hq:=h (s.heap.objs.size+1) s.heap.objs.size (I.hok.fresh (Nat.le_succ _)) (I.hok.fresh (aF9 _)) (aJ0 (aJ1 _))
 have I2:=aq.made (C:=C) I
 have r2:bi (V.ref (s.heap.objs.size+1)::(vs++dvs)) (Value.ref (s.heap.objs.size+1)::(us++ds)):=.cons rfl (r.append hd)
 have hl:(Value.ref (s.heap.objs.size+1)::us++ds).length=ps.length:=by
  have e:=r2.length
  rw[F.len _ _ _ _ hq]at e
  exact e.symm
 refine wpAny_call (C5 (f:=f) I.kIn M.makes M.init (aQ3.mp M.fn) (codeAny_mono (F.run _ X.stack _ _ ⟨Value.ref (s.heap.objs.size+1)::us,[]⟩ (Value.ref (s.heap.objs.size+1)::(us++ds)) _ _ E (hr.make C us [])
  (I2.env0.make C us []) (hb _ (Value.ref (s.heap.objs.size+1)::us) I2.kIn hl) r2 hq) λr s' hq'=>?_))
 cases r with
 | error e=>exact hx pins σ _ _ e s' I2 hq'
 | ok fl =>
  cases fl with
  | ret u =>
   obtain⟨v,H',I3,rv,ev,q3⟩:=I2.after hq'
   subst ev
   exact⟨rv,⟨V.ref (s.heap.objs.size+1),H',I3,rfl,q3⟩⟩
  | next=>exact False.elim hq'
  | brk=>exact False.elim hq'
  | cont=>exact False.elim hq'
theorem IM(M:Mk X.K C f)(F:bT X.prog X.w X.K X.mg X.base CX k f fd ps sp)(hr:cw (k+1) X.A)(hg:Gl X x)(hm:X.mg x=some (.ref C))(hb:cx X.K fd ps ds)(hd:bi dvs ds)(hx:gf CX X E)
  (ha:PA X (e::es) t) (hdb:(x==("__debug__" : Str))=false:=by decide) (he:starEach (e::es) X.env=(false,eval e X.env)::starEach es X.env:=by rfl) (hpl:(backTo pos (starEach es X.env)).any (·.1)=false:=by rfl) :
  PE X (.Call (.Name x p) (e::es) [] pos) (EQ C sp dvs E t):=by
 intro pins s σ H Q I h
 refine aO3 (jc I hg hm ?_ hdb)
 refine W.callWith_K (h₀:=X.base) I.ok.mod.kin M.kp (bu (ha pos pins s σ H _ I h) λus s1 ⟨vs,H1,I1,r,q⟩=>⟨I1.kIn,?_⟩) he hpl
 exact vh M F hr hb hd hx I1 r q
theorem vq(M:Mk X.K C f)(F:bT X.prog X.w X.K X.mg X.base CX k f fd ps sp)(hr:cw (k+1) X.A)(hg:Gl X x)(hm:X.mg x=some (.ref C))(hb:cx X.K fd ps ds)(hd:bi dvs ds)(hx:gf CX X E)
  (hdb:(x==("__debug__" : Str))=false:=by decide):PE X (.Call (.Name x p) [] [] pos) (EQ C sp dvs E yw):=by
 intro pins s σ H Q I h
 refine aO3 (jc I hg hm ?_ hdb)
 exact W.callWith_K0 I.kIn M.kp (vh (us:=[]) M F hr hb hd hx I .nil h)
end
section
variable{CX:jW}{f:Addr}{ks:List Str}{sp:Sp}{E:XK}{m:Str}{apos kpos:Pos}{o:Expr}{kws:List Keyword}{ta:TE}{t tk:TA}{nm:Option Str}
variable{g:List Value->List Value->List Value}{gV:List V->List V->List V}
end
structure au(N P:List Str)(sc:Scope):Prop where
 kind:sc.kind=.function
 co:sc.isCoroutine=false
 gen:sc.isGenerator=false
 nd:N.Nodup
 pre:N.take P.length=P
 par:∀x∈P,sc.names.lookup x=some .local\/sc.names.lookup x=some .cell
 nofree:∀y∈sc.names,y.2 ≠ .free
theorem tK{kindOf:Str->Option NameKind}{x:Str}:∀{binds:List (Str×Value)} {m:Str->Option Value},(∀v,(x,v)∉binds)->bindL kindOf binds m x=m x
 | [],_,_=>rfl
 | (n,v)::r,m,h=>by
  unfold bindL
  rw[tK λw hw=>h w (aG1 _ hw)]
  split
  ·have:x≠n:=by rintro rfl;exact h v aG0
   simp[this]
  ·rfl
theorem tM{kindOf:Str->Option NameKind}{x:Str}:∀{binds:List (Str×Value)} {m:Str->Option Value},(∀v,(x,v)∉binds)->bindC kindOf binds m x=m x
 | [],_,_=>rfl
 | (n,v)::r,m,h=>by
  unfold bindC
  rw[tM λw hw=>h w (aG1 _ hw)]
  split
  ·rfl
  ·have:x≠n:=by rintro rfl;exact h v aG0
   simp[this]
theorem tL{kindOf:Str->Option NameKind}{x:Str}{v:Value}:∀{P:List Str} {vs:List Value} {i:Nat} {m:Str->Option Value},P.Nodup->P[i]?=some x->vs[i]?=some v->kindOf x=some .local ->
  bindL kindOf (P.zip vs) m x=some v
 | [],_,_,_,_,h,_,_=>by simp at h
 | _::_,[],_,_,_,_,h,_=>by simp at h
 | p::P,w::vs,0,m,nd,h1,h2,hk=>by
  simp at h1 h2;subst h1;subst h2
  show bindL kindOf ((p,w)::P.zip vs) m p=_
  unfold bindL
  rw[tK λv hv=>(aP9.mp nd).1 (List.of_mem_zip hv).1,if_pos hk]
  simp
 | p::P,w::vs,i+1,m,nd,h1,h2,hk=>by
  show bindL kindOf ((p,w)::P.zip vs) m x=_
  unfold bindL
  exact tL (i:=i) (aP9.mp nd).2 (by simpa using h1) (by simpa using h2) hk
theorem tN{kindOf:Str->Option NameKind}{x:Str}{v:Value}:∀{P:List Str} {vs:List Value} {i:Nat} {m:Str->Option Value},P.Nodup->P[i]?=some x->vs[i]?=some v->kindOf x≠some .local ->
  bindC kindOf (P.zip vs) m x=some v
 | [],_,_,_,_,h,_,_=>by simp at h
 | _::_,[],_,_,_,_,h,_=>by simp at h
 | p::P,w::vs,0,m,nd,h1,h2,hk=>by
  simp at h1 h2;subst h1;subst h2
  show bindC kindOf ((p,w)::P.zip vs) m p=_
  unfold bindC
  rw[tM λv hv=>(aP9.mp nd).1 (List.of_mem_zip hv).1,if_neg hk]
  simp
 | p::P,w::vs,i+1,m,nd,h1,h2,hk=>by
  show bindC kindOf ((p,w)::P.zip vs) m x=_
  unfold bindC
  exact tN (i:=i) (aP9.mp nd).2 (by simpa using h1) (by simpa using h2) hk
noncomputable def start(N:List Str)(vs:List V):St:=vs.map some++List.replicate (N.length-vs.length) none
noncomputable def iq(CX:jW)(P:Program)(w:World)(K:W.Frag)(mg:Str->Option Value)(base:Heap)(N:List Str)(qual:Str)(scope:Scope)(f:Addr)(cd:Value)(A:Around)(outer:List Env)(s:Shared)(H:Hp)(E:XK):Cx where
 prog:=P
 w:=w
 K:=K
 mg:=mg
 base:=base
 A:=A.deeper (envOfC qual scope s.heap.objs.size f cd)
 N:=N
 s₀:=s
 H₀:=H
 env:=envOfC qual scope s.heap.objs.size f cd
 outer:=outer
 stack:=envOfC qual scope s.heap.objs.size f cd::outer
 ex:=[]
 calm:=true
 fn:=λ_=>true
 pn:=[]
 xe:=λe s'=>wpAny (model P w) (A.deeper (envOfC qual scope s.heap.objs.size f cd)) (leaving (envOfC qual scope s.heap.objs.size f cd) e) (λ_ s''=>CX outer H s E e s'') (λe' s''=>CX outer H s E e' s'') s'
theorem wg{sc:Scope}(h:sc.names.lookup x=some .cell):∃c,(cellsFrom n sc.names []).lookup x=some c:=by
 have q:=W.cellsFrom_some sc.names n [] (.inl h)
 exact Option.isSome_iff_exists.mp q
theorem Bd{CX:jW}{f:Addr}{cd:Value}{s1:Shared}{E:XK}
  (S:au N ps scope) (hd:A.handled=none) (e0:kC P w K mg base A outer s H) (hl:vs.length=ps.length) (r:bi vs us)
  (x:InCallC s s.heap.objs.size (bindL (envOfC qual scope s.heap.objs.size f cd).kindOf (ps.zip us) λ_=>none) (cellsFrom (s.heap.objs.size+1) scope.names []) (bindC (envOfC qual scope s.heap.objs.size f cd).kindOf (ps.zip us) λ_=>none) s1) :
  aq (iq CX P w K mg base N qual scope f cd A outer s H E) [] (start N vs) H s1:=by
 have hpl:ps.length<=N.length:=by have:=aK4 List.length S.pre;rw[aP6]at this;omega
 obtain⟨h1,tk,rfl,hk⟩:=x.done
 have noA:∀b:Addr,b∉(iq CX P w K mg base N qual scope f cd A outer s H E).ex:=λb z=>absurd (show b∈([]:List Addr)from z) (by simp)
 refine⟨⟨e0.mod,S.kind,rfl,rfl,aF9 _,λy z c h1 h2=>?_,λy hy=>?_,λy c _ h=>?_,λ_=>hd,Around.frames_deeper e0.frames,.inr ⟨rfl,rfl⟩,λb z=>absurd z (noA b),e0.bs,e0.bsz,λb _ _=>noA b,λb z=>absurd z (noA b),e0.funs,e0.frf⟩,
  rfl,e0.bare,Un.kept hk,⟨_,x.toInCall.ns,λi y v h1 h2 h3=>?_⟩,λy c h=>⟨_,x.cell y c h⟩,e0.hok.fresh (aF9 _),λy c h=>?_,λp hp=>absurd (show p∈([]:List (Addr×Obj))from hp) (by simp),e0.hok.kept hk,?_⟩
 ·exact name_of_addr x.apart (aH0 h1) (aH0 h2)
 ·have hy:scope.names.lookup y=some .cell\/scope.names.lookup y=some .free:=hy
  rcases hy with hy|hy
  ·exact wg hy
  ·exact absurd rfl (S.nofree _ (aH0 hy))
 ·exact aP2 (x.above y c (aH0 h))
 ·have hi:i<vs.length:=by
   unfold start at h2
   by_cases hi:i<vs.length
   ·exact hi
   ·rw[List.getElem?_append_right (by simpa using hi)]at h2
    rw[List.getElem?_replicate]at h2
    split at h2<;>cases h2
  have ha:vs[i]?=some v:=by
   unfold start at h2
   rw[List.getElem?_append_left (by simpa using hi),aL7]at h2
   cases e:vs[i]? with
   | none=>rw[e]at h2;cases h2
   | some a=>rw[e]at h2;cases h2;rfl
  obtain⟨u,hu,rv⟩:=r.get ha
  have hp:ps[i]?=some y:=by
   rw[<- S.pre,List.getElem?_take_of_lt (by omega)];exact h1
  have ndP:ps.Nodup:=by rw[<- S.pre];exact S.nd.sublist (List.take_sublist _ _)
  refine⟨u,rv,?_⟩
  rcases S.par y (aK2 hp)with k|k
  ·exact .inl ⟨k,tL ndP hp hu k⟩
  ·obtain⟨c,e⟩:=wg (n:=s.heap.objs.size+1) k
   refine .inr ⟨.inl k,c,e,?_⟩
   have q:=x.cell y c e
   rw[tN ndP hp hu (by show scope.names.lookup y≠_;rw[k];decide)]at q
   exact q
 ·exact e0.hok.fresh (aP2 (x.above y c (aH0 h)))
 ·unfold start
  show _=N.length
  rw[aI6,aH3,List.length_replicate]
  omega
theorem Ub{CX:jW}{f:Addr}{name:Str}{params:Arguments}{dV kV doc pm cdv ct oc:Value}{an od:Option Addr}
  {osl:Array (Option Value)} {sp:Sp} (lk:K.lookup f=some ⟨oc,od,.func (W.fnOf name qual params body scope dV kV doc pm an cdv ct),osl⟩) (hcd:W.codeIn K cdv qual=true) (S:au N ps scope)
  (len:∀vs H Q E,sp vs H Q E->vs.length=ps.length)
  (hbody:∀(A:Around) (outer:List Env) (s:Shared) (H:Hp) (vs:List V) (Q:VK) (E:XK),cw k (A.deeper (envOfC qual scope s.heap.objs.size f cdv))->sp vs H Q E ->
   ∃t,eT (iq CX P w K mg base N qual scope f cdv A outer s H E) body t/\t { nx:=λ_ H'=>Q .non H',rt:=Q } (start N vs) H) :
  bT P w K mg base CX (k+1) f (W.fnOf name qual params body scope dV kV doc pm an cdv ct) ps sp:=by
 refine⟨len,λA outer s H args us vs Q E hr e0 hb r hsp=>?_⟩
 have hl:=len _ _ _ _ hsp
 have KX:K.In s.heap:=e0.mod.kin.keeps λb o e=>(e0.bs b o e).1
 have lim:s.heap.NoLimit:=e0.mod.nolimit.keeps λb o e=>(e0.bs b o e).1
 have hkind:∀y∈ps.zip us,scope.names.lookup y.1=some .local\/(scope.names.lookup y.1=some .cell/\((cellsFrom (s.heap.objs.size+1) scope.names []).lookup y.1).isSome=true):=λ⟨n,v⟩ hy=>by
  rcases S.par n (List.of_mem_zip hy).1 with q|q
  ·exact .inl q
  ·exact .inr ⟨q,W.cellsFrom_some _ _ _ (.inl q)⟩
 refine codeAny_call_function hr.depth (KX _ _ lk) rfl S.co S.gen rfl (W.codeRec_of KX hcd) (hb _ _ _ _ ?_)
 refine wpAny_newFunctionEnv_cells S.kind hkind λenv he s1 x=>?_
 subst he
 refine⟨lim.keeps x.toInCall.keep,codeAny_func ?_⟩
 obtain⟨t,ht,hq⟩:=hbody A outer s H vs Q E (hr.deeper _) hsp
 have I:aq (iq CX P w K mg base N qual scope f cdv A outer s H E) [] (start N vs) H s1:=Bd S hr.hd e0 hl r x
 refine aM7 (ht [] s1 (start N vs) H _ I hq) (λfl s' hs=>?_) λe s' hs=>hs
 have fin:∀{σ':St} {H':Hp} {v:V} {u:Value},aq (iq CX P w K mg base N qual scope f cdv A outer s H E) [] σ' H' s'->bO v u->Q v H'->CE outer P w H s Q u s' :=
  λ{σ' H' v u} J rv q=>⟨v,H',J.os,J.bare,J.base,J.hok,rv,q⟩
 cases fl with
 | ret u =>
  obtain⟨v,σ',H',J,rv,q⟩:=hs
  exact fin J rv q
 | next =>
  obtain⟨σ',H',J,q⟩:=hs
  exact fin (v:=V.non) (u:=Value.none) J rfl q
 | brk =>
  obtain⟨_,_,_,q⟩:=hs
  exact False.elim q
 | cont =>
  obtain⟨_,_,_,q⟩:=hs
  exact False.elim q
section
variable{t:TA}{id T:String}{r:List V->Hp->VK->Prop}
noncomputable def VA(r:List V->Hp->VK->Prop)(t:TA):TE:=λσ H Q=>t σ H λvs H1=>r vs H1 Q
theorem CS(hc:fe X (.builtin id) r)(hg:Gl X x)(hm:X.mg x=none)(hv:bootBuiltins x=some (.builtin id))(ha:PA X (e::es) t)(hn:x ≠ "__name__" := by decide)(hdb:(x==("__debug__" : Str))=false:=by decide)
  (he:starEach (e::es) X.env=(false,eval e X.env)::starEach es X.env:=by rfl) (hpl:(backTo pos (starEach es X.env)).any (·.1)=false:=by rfl):PE X (.Call (.Name x p) (e::es) [] pos) (VA r t):=by
 intro pins s σ H Q I h
 refine aO3 (jm I hg hm hv ?_ hn hdb)
 exact PyProof.Rows.callWith_builtin1 (bu (ha pos pins s σ H _ I h) λus s1 ⟨vs,H1,I1,r1,q1⟩=>hc pins s1 σ H1 vs us Q I1 r1 q1) he hpl
theorem AS(hc:fe X (.type T) r)(hg:Gl X x)(hm:X.mg x=none)(hv:bootBuiltins x=some (.type T))(ha:PA X (e::es) t)(hn:x ≠ "__name__" := by decide)(hdb:(x==("__debug__" : Str))=false:=by decide)
  (he:starEach (e::es) X.env=(false,eval e X.env)::starEach es X.env:=by rfl) (hpl:(backTo pos (starEach es X.env)).any (·.1)=false:=by rfl):PE X (.Call (.Name x p) (e::es) [] pos) (VA r t):=by
 intro pins s σ H Q I h
 refine aO3 (jm I hg hm hv ?_ hn hdb)
 exact aM5 (bu (ha pos pins s σ H _ I h) λus s1 ⟨vs,H1,I1,r1,q1⟩=>hc pins s1 σ H1 vs us Q I1 r1 q1) he hpl
end
end L2
namespace HT
open PySem PyProof.Rows
variable{sl t:Addr}{Q:Value->Shared->Prop}{vl vu:Value}{hi lo:Option Int}
section
open PySem.SeqAt
open PySem.AutoSeq1 (wpAny_loadPart')
open PySem.MeetsSeq PySem.MeetsSeq2 PySem.MeetsSeq3
end
section
variable{prog:Program}{w:World}{A:Around}{E:Value->Shared->Prop}{s:Shared}
theorem cat_tup{b:Addr}{vs ws:List Value}(ht:IsTup s.heap t vs.toArray)(hb:IsTup s.heap b ws.toArray)(hv:vs≠[])
  (h1:ws=[]->Q (.ref t) s) (h2:ws≠[]->Q (.ref s.heap.objs.size) { s with heap:=s.heap.push { cls:=.type "tuple", data:=.seq (vs++ws).toArray } })
  (hsz:vs.length+ws.length<=sizeLine):wpAny (model prog w) A (binaryOp .Add (.ref t) (.ref b)) Q E s:=by
 obtain⟨⟨cls,dd,data,sl⟩,ho,hc,n,hd⟩:=id ht
 obtain⟨⟨cls2,dd2,data2,sl2⟩,ho2,hc2,n2,hd2⟩:=id hb
 simp only at hc hd hc2 hd2
 subst hc hd hc2 hd2
 have e:vs.toArray++ws.toArray=(vs++ws).toArray:=by simp
 by_cases hw:ws=[]
 ·exact concat_meets ⟨_,ho,rfl⟩ ⟨_,ho2,rfl⟩ noFill_tuple_add seq_tuple_add PySem.F.slot_tuple_add PySem.F.entry_tuple_add (PySem.F.args_tuple_add_2 _ _)
   (tuple_addW1 t b vs.toArray ws.toArray n n2 dd dd2 sl sl2 (by simpa using hv) (by simp[hw])) ⟨ho,ho2,h1 hw⟩
 ·refine concat_meets ⟨_,ho,rfl⟩ ⟨_,ho2,rfl⟩ noFill_tuple_add seq_tuple_add PySem.F.slot_tuple_add PySem.F.entry_tuple_add (PySem.F.args_tuple_add_2 _ _)
   (tuple_addW2 t b vs.toArray ws.toArray n n2 dd dd2 sl sl2 (by simpa using hv) (by simpa using hw) (by rw[aI0,aI0];exact hsz)) ⟨ho,ho2,?_⟩
  rw[e]
  exact h2 hw
noncomputable def sIx(n d:Nat):Option Int->Nat
 | none=>d
 | some v=>if v<0 then(v+(n:Int)).toNat else min v.toNat n
theorem Lp(n d:Nat)(hd:d<=n)(o:Option Int):sIx n d o<=n:=by
 cases o with
 | none=>exact hd
 | some v =>
  show(if v<0 then(v+(n:Int)).toNat else min v.toNat n)<=n
  by_cases hv:v<0
  ·rw[if_pos hv];omega
  ·rw[if_neg hv];exact Nat.min_le_right _ _
theorem yh(v:Int)(n d:Nat):(if v<0 then max (v+(n:Int)) 0 else min v (n:Int))=((sIx n d (some v):Nat):Int):=by
 show(if v<0 then max (v+(n:Int)) 0 else min v (n:Int))=(((if v<0 then(v+(n:Int)).toNat else min v.toNat n):Nat):Int)
 by_cases hv:v<0
 ·simp only[if_pos hv];omega
 ·simp only[if_neg hv];omega
theorem zL(lo hi:Option Int)(n:Nat):Builtin.Slice.sliceAdjust lo hi 1 (n:Int)=(((sIx n 0 lo:Nat):Int),((sIx n n hi:Nat):Int)):=by
 have h1:¬ ((1:Int)<0):=by omega
 unfold Builtin.Slice.sliceAdjust
 simp only[h1,if_false]
 refine Prod.ext ?_ ?_
 ·cases lo with
  | none=>rfl
  | some v=>exact yh v n 0
 ·cases hi with
  | none=>rfl
  | some v=>exact yh v n n
theorem yO(i j:Nat):Builtin.Slice.slicePlaces (i:Int) (j:Int) 1=j-i:=by
 unfold Builtin.Slice.slicePlaces
 have h1:(1:Int)>0:=by omega
 simp only[h1,aP3,Int.ediv_one]
 split<;>omega
theorem pL{v:Value}{o:Option Int}{Q:Option Int->Shared->Prop}(p:IsPart v o)(h:Q o s):wpAny (model prog w) A (Builtin.Slice.slicePartIndex v) Q E s:=by
 cases p with
 | none=>exact slicePart_none h
 | int i t=>exact slicePart_int h
theorem oI{n:Nat}{Q:Int×Int×Nat->Shared->Prop}(hs:s.heap.IsSliceOf sl vl vu .none)(pl:IsPart vl lo)(pu:IsPart vu hi)
  (h:Q (((sIx n 0 lo:Nat):Int),1,sIx n n hi-sIx n 0 lo) s):wpAny (model prog w) A (Builtin.Slice.sliceApplied (.ref sl) (pure (n:Int))) Q E s:=by
 obtain⟨os,hos,hcs,hds⟩:=id hs
 unfold Builtin.Slice.sliceApplied Builtin.Slice.sliceFields
 refine aF4 (aF4 (aJ4 hos hds (x:=vl) rfl (aF4 (aJ4 hos hds (x:=vu) rfl (aF4 (aJ4 hos hds (x:=.none) rfl (aG3 ?_)))))))
 refine aF4 (slicePart_none ?_)
 show wpAny _ _ (if ((1:Int)==0)=true then _ else _) _ _ s
 rw[if_neg (by decide)]
 refine aF4 (pL pl (aF4 (pL pu (aF4 (aG3 ?_)))))
 show wpAny _ _ (match Builtin.Slice.sliceAdjust lo hi 1 (n:Int)with|(lo,hi)=>pure (lo,(1:Int),Builtin.Slice.slicePlaces lo hi 1)) _ _ s
 rw[zL lo hi n]
 show wpAny _ _ (pure (((sIx n 0 lo:Nat):Int),(1:Int),Builtin.Slice.slicePlaces ((sIx n 0 lo:Nat):Int) ((sIx n n hi:Nat):Int) 1)) _ _ s
 rw[yO]
 exact aG3 h
theorem CL(xs:Array Value)(i k:Nat):((List.range k).filterMap λ(m:Nat)=>xs[((i:Int)+(m:Int)*1).toNat]?).toArray=((xs.toList.drop i).take k).toArray:=by
 have e:(λ(m:Nat)=>xs[((i:Int)+(m:Int)*1).toNat]?)=λm=>xs[i+m]?:=by
  funext m
  have:((i:Int)+(m:Int)*1).toNat=i+m:=by omega
  rw[this]
 rw[e]
 have:=pick_run xs i k
 rw[List.filterMap_map]at this
 have e2:((λx=>xs[x]?) ∘ λx=>i+x)=λm=>xs[i+m]?:=rfl
 rw[e2]at this
 rw[this]
theorem getItem_tuple_cut{items:Array Value}(ht:IsTup s.heap t items)(hs:s.heap.IsSliceOf sl vl vu .none)(pl:IsPart vl lo)(pu:IsPart vu hi)
  (hw:¬ (sIx items.size 0 lo=0/\sIx items.size items.size hi=items.size))
  (h:Q (.ref s.heap.objs.size) { s with heap:=s.heap.push { cls:=.type "tuple", data:=.seq ((items.toList.drop (sIx items.size 0 lo)).take (sIx items.size items.size hi-sIx items.size 0 lo)).toArray } })
  (hsz:items.size<=sizeLine):wpAny (model prog w) A (getItem (.ref t) (.ref sl)) Q E s:=by
 have htake:sizeOk (.seq ((items.toList.drop (sIx items.size 0 lo)).take (sIx items.size items.size hi-sIx items.size 0 lo)).toArray):=by
  show((items.toList.drop (sIx items.size 0 lo)).take (sIx items.size items.size hi-sIx items.size 0 lo)).toArray.size<=sizeLine
  rw[aI0,aP6,List.length_drop,Array.length_toList]
  omega
 have hj:sIx items.size items.size hi<=items.size:=Lp _ _ (aF9 _) hi
 obtain⟨os,hos,hcs,hds⟩:=id hs
 have hTs:s.TypeIs (.ref sl) "slice" := ⟨os,hos,hcs⟩
 unfold getItem
 try with_reducible refine wpAny_holding ?_
 first|refine aF4 (aG3 ?_)|skip
 refine aF4 (wpAny_sequenceKey ht.typeIs (by decide) ?_)
 refine aF4 (aL4 (name:=Str.ofString "__getitem__") ht.typeIs PyProof.Rows.slot_tuple_getitem
  (aN9 PyProof.Rows.slot_tuple_getitem ht.typeIs entry_tuple_getitem ?_ (args_tuple_getitem _ _)))
 show wpAny _ _ (Builtin.Tuple.tupleItemsOf (.ref t) >>= _) _ _ s
 refine aF4 (tupleItemsOf_ ht ?_)
 refine aF4 (wpAny_typeOf hTs ?_)
 rw[if_pos (by decide)]
 refine aF4 (oI hs pl pu ?_)
 have hno:¬ ((((sIx items.size 0 lo:Nat):Int)==0&&(1:Int)==1&&(sIx items.size items.size hi-sIx items.size 0 lo)==items.size)=true):=by
  intro q
  rw[aH4,aH4]at q
  have q1:((sIx items.size 0 lo:Nat):Int)=0:=eq_of_beq q.1.1
  have q2:sIx items.size items.size hi-sIx items.size 0 lo=items.size:=eq_of_beq q.2
  exact hw ⟨by omega,by omega⟩
 show wpAny _ _ (if (((sIx items.size 0 lo:Nat):Int)==0&&(1:Int)==1&&(sIx items.size items.size hi-sIx items.size 0 lo)==items.size)=true then _ else _) _ _ s
 rw[if_neg hno,CL]
 first
  | exact aF4 (m:=Builtin.Tuple.tupleExact _) (aM3 (aG3 ⟨_,rfl,aG3 h⟩) htake)
  | exact aF4 (m:=Builtin.Tuple.tupleExact _) (aM3 (aF4 (aG3 (aG3 ⟨_,rfl,aG3 h⟩))) htake)
  | exact aF4 (aF4 (m:=Builtin.Tuple.tupleExact _) (aM3 (aG3 (aG3 ⟨_,rfl,aG3 h⟩)) htake))
  | exact aF4 (aF4 (m:=Builtin.Tuple.tupleExact _) (aM3 (aG3 ⟨_,rfl,aG3 h⟩) htake))
end
end HT
namespace L2
open PySem PySem.Spec PyProof.Rows
variable{xs:List V}{its its' us:List Value}{j n:Nat}{i:Int}{α:Type}{pins:List (Addr×Obj)}{σ:St}{H:Hp}{s:Shared}{p:Addr}
noncomputable abbrev TO:=St->Hp->(Option Int->Hp->Prop)->Prop
noncomputable def PO(X:Cx)(e:Option Expr)(t:TO):Prop :=
 ∀(pins:List (Addr×Obj)) (s:Shared) (σ:St) (H:Hp) (Q:Option Int->Hp->Prop),aq X pins σ H s->t σ H Q ->
  wpAny (model X.prog X.w) X.A (evalPart e X.env) (λu s' => ∃o H',aq X pins σ H' s'/\IsPart u o/\Q o H') X.xe s
noncomputable def HM:TO:=λ_ H Q=>Q none H
noncomputable def P7(t:TE):TO:=λσ H Q=>t σ H λx H1 => ∃i,x=.int i/\Q (some i) H1
section
variable{X:Cx}{e:Expr}{te:TE}{lo hi:Option Expr}{tl th:TO}{pos p2:Pos}
theorem IA:PO X none HM:=by
 intro pins s σ H Q I h
 rw[evalPart_none]
 exact aG3 ⟨none,H,I,.none,h⟩
theorem Iz(h:PE X e te):PO X (some e) (P7 te):=by
 intro pins s σ H Q I hw
 rw[evalPart_some]
 refine bu (h pins s σ H _ I hw) λu s1 ⟨x,H1,I1,r1,q1⟩=>?_
 obtain⟨i,rfl,q⟩:=q1
 obtain⟨t,rfl⟩:=r1
 exact⟨some i,H1,I1,.int i t,q⟩
noncomputable def Gp(X:Cx)(r:V->Option Int->Option Int->Hp->VK->Prop):Prop :=
 ∀(pins:List (Addr×Obj)) (s:Shared) (σ:St) (H:Hp) (x:V) (v vl vu:Value) (lo hi:Option Int) (sl:Addr) (Q:VK),aq X pins σ H s->bO x v->s.heap.IsSliceOf sl vl vu .none->IsPart vl lo->IsPart vu hi->r x lo hi H Q ->
  ∃T id,typeLookup (.type T) "__getitem__" = pure (some (.builtin id))/\s.TypeIs v T/\wpAny (model X.prog X.w) X.A (getItem v (.ref sl)) (EP X pins σ Q) X.xe s
noncomputable def tSl(r:V->Option Int->Option Int->Hp->VK->Prop)(te:TE)(tl th:TO):TE:=λσ H Q=>te σ H λx H1=>tl σ H1 λl H2=>th σ H2 λu H3=>r x l u H3 Q
theorem oM{r:V->Option Int->Option Int->Hp->VK->Prop}(hr:Gp X r)(he:PE X e te)(hl:PO X lo tl)(hu:PO X hi th):PE X (.Subscript e (.Slice lo hi none p2) pos) (tSl r te tl th):=by
 intro pins s σ H Q I h
 refine Subscript_ (bu (he pins s σ H _ I h) λv s1 ⟨x,H1,I1,r1,q1⟩=>?_)
 refine wpAny_Slice (bu (hl pins s1 σ H1 _ I1 q1) λvl s2 ⟨l,H2,I2,pl,q2⟩=>bu (hu pins s2 σ H2 _ I2 q2) λvu s3 ⟨u,H3,I3,pu,q3⟩=>?_)
 rw[evalPart_none]
 refine aG3 ?_
 have I4:aq X pins σ H3 { s3 with heap:=s3.heap.push { cls:=.type "slice", data:=.fields #[vl,vu,.none] } }:=I3.kept (t':=s3.toks) λb ob q=>aF6 _ q
 obtain⟨T,id,hT,ht,hg⟩:=hr pins { s3 with heap:=s3.heap.push { cls:=.type "slice", data:=.fields #[vl,vu,.none] } } σ H3 x v vl vu l u s3.heap.objs.size Q I4 r1 (Heap.IsSliceOf.new ..) pl pu q3
 show wpAny (model X.prog X.w) X.A (subscriptTail e (.Slice lo hi none p2) v (.ref s3.heap.objs.size)) (EP X pins σ Q) X.xe { s3 with heap:=s3.heap.push { cls:=.type "slice", data:=.fields #[vl,vu,.none] } }
 exact tail_any (ops:=[.ref s3.heap.objs.size,v]) ht hT hg (by with_unfolding_all rfl)
noncomputable def kh(xs:List V)(lo hi:Option Int):List V:=(xs.drop (HT.sIx xs.length 0 lo)).take (HT.sIx xs.length xs.length hi-HT.sIx xs.length 0 lo)
theorem oz(xs:List V)(lo hi:Option Int):(kh xs lo hi).length<=xs.length:=by
 unfold kh
 rw[aP6,List.length_drop]
 omega
noncomputable def XA(K:W.Frag):V->Option Int->Option Int->Hp->VK->Prop:=λx lo hi H Q => ∃a xs,x=.ref a/\ck K H a xs /\
 ¬ (HT.sIx xs.length 0 lo=0/\HT.sIx xs.length xs.length hi=xs.length)/\∀p,H p=none->Q (.ref p) (bo H p (.tup (kh xs lo hi)))
theorem K2:Gp X (XA X.K):=by
 intro pins s σ H x v vl vu lo hi sl Q I rx hs pl pu h
 obtain⟨a,xs,rfl,hx,hw,q⟩:=h
 cases rx
 obtain⟨its,r,ht,hz⟩:=I.tuple hx
 have hlen:its.toArray.size=xs.length:=by rw[aI0];exact r.length.symm
 refine⟨"tuple", _,PyProof.Rows.slot_tuple_getitem.lookup,ht.typeIs,?_⟩
 refine HT.getItem_tuple_cut ht hs pl pu (by rw[hlen];exact hw) ?_ (by rw[hlen];exact hz)
 rw[hlen]
 refine⟨.ref s.heap.objs.size,_,I.laid (t':=s.toks) (o:=.tup (kh xs lo hi)) (λb ob q=>aF6 _ q) (aF9 _) ?_,rfl,q _ (I.hok.fresh (aF9 _))⟩
 exact⟨aF5 (oz xs lo hi) hz,_,(r.drop (HT.sIx xs.length 0 lo)).take (HT.sIx xs.length xs.length hi-HT.sIx xs.length 0 lo),k9.new _ _⟩
noncomputable def Ro(K:W.Frag):R2:=λx y H Q => ∃a b xs ys,x=.ref a/\y=.ref b/\ck K H a xs/\ck K H b ys/\xs≠[]/\xs.length+ys.length<=sizeLine /\
 (ys=[]->Q (.ref a) H)/\(ys≠[]->∀p,H p=none->Q (.ref p) (bo H p (.tup (xs++ys))))
theorem bi.nil_iff(r:bi xs us):us=[]↔xs=[]:=by
 cases r with
 | nil=>simp
 | cons _ _=>simp
theorem IS:eG X (binaryOp .Add) (Ro X.K):=by
 intro pins s σ H x y v u Q I rx ry h
 obtain⟨a,b,xs,ys,rfl,rfl,ha,hb,hx,hz,q1,q2⟩:=h
 cases rx
 cases ry
 obtain⟨its,r1,p1,_⟩:=I.tuple ha
 obtain⟨its2,r2,p2,_⟩:=I.tuple hb
 refine HT.cat_tup p1 p2 (λz=>hx (r1.nil_iff.mp z)) (λz=>⟨.ref a,H,I,rfl,q1 (r2.nil_iff.mp z)⟩) (λz=>?_) (by rw[<- r1.length,<- r2.length];exact hz)
 refine⟨.ref s.heap.objs.size,_,I.laid (t':=s.toks) (o:=.tup (xs++ys)) (λb ob q=>aF6 _ q) (aF9 _) ?_,rfl,q2 (λw=>z (r2.nil_iff.mpr w)) _ (I.hok.fresh (aF9 _))⟩
 exact⟨by rw[aI6];exact hz,_,r1.append r2,k9.new _ _⟩
end
noncomputable def ixN(n:Nat)(i:Int):Option Nat:=if 0<=i then(if i<n then some i.toNat else none)else if -(n:Int)<=i then some (i+n).toNat else none
noncomputable def atI{α:Type}(xs:List α)(i:Int):Option α:=(ixN xs.length i).bind λj=>xs[j]?
theorem xV(h:ixN n i=some j):seqIndex? i n=some j/\j<n /\ -(n:Int)<=i/\i<n:=by
 unfold ixN at h
 by_cases h0:0<=i
 ·rw[if_pos h0]at h
  by_cases h1:i<n
  ·rw[if_pos h1]at h
   have e:i.toNat=j:=aK6 h
   exact⟨by rw[seqIndex_of h0 h1,e],by omega,by omega,h1⟩
  ·rw[if_neg h1]at h;cases h
 ·rw[if_neg h0]at h
  by_cases h1:-(n:Int)<=i
  ·rw[if_pos h1]at h
   have e:(i+n).toNat=j:=aK6 h
   exact⟨by rw[seqIndex_neg (by omega) h1,e],by omega,h1,by omega⟩
  ·rw[if_neg h1]at h;cases h
theorem yi{xs:List α}{v:α}(h:atI xs i=some v):∃j,seqIndex? i xs.length=some j/\xs[j]?=some v/\j<xs.length /\ -(xs.length:Int)<=i/\i<xs.length:=by
 unfold atI at h
 cases e:ixN xs.length i with
 | none=>rw[e]at h;cases h
 | some j =>
  rw[e]at h
  obtain⟨h1,h2,h3,h4⟩:=xV e
  exact⟨j,h1,h,h2,h3,h4⟩
theorem sy{xs:List α}{v:α}(h:xs[j]?=some v):atI xs (j:Int)=some v:=by
 have hj:j<xs.length:=(aI3.mp h).1
 have e:ixN xs.length (j:Int)=some j:=by
  unfold ixN
  rw[if_pos (by omega),if_pos (by omega)];simp
 unfold atI;rw[e];exact h
noncomputable def nX(b:Expr):Prop:=∀o i,subscripted b false o i=operate [o,i] (getItem o i)
noncomputable def Gw(X:Cx)(r:R2):Prop :=
 ∀(value slice:Expr) (pins:List (Addr×Obj)) (s:Shared) (σ:St) (H:Hp) (x y:V) (v u:Value) (Q:VK),aq X pins σ H s->bO x v->bO y u->r x y H Q ->
  subscripted slice false v u=operate [v,u] (getItem v u)->wpAny (model X.prog X.w) X.A (subscriptTail value slice v u) (EP X pins σ Q) X.xe s
noncomputable def wD(X:Cx)(id:String)(r:V->List V->Hp->VK->Prop):Prop :=
 ∀(pins:List (Addr×Obj)) (s:Shared) (σ:St) (H:Hp) (x:V) (xs:List V) (v:Value) (us:List Value) (Q:VK),aq X pins σ H s->bO x v->bi xs us->r x xs H Q ->
  wpAny (model X.prog X.w) X.A (call (.builtin id) (v::us)) (EP X pins σ Q) X.xe s
section
variable{X:Cx}{a b:Expr}{ta tb:TE}{pos:Pos}
theorem uf{r:R2}(hr:Gw X r)(ha:PE X a ta)(hb:PE X b tb)(hs:nX b):PE X (.Subscript a b pos) (KE r ta tb):=by
 intro pins s σ H Q I h
 exact Subscript_ (OW ha hb I h λv u s2 x y H2 I2 rx ry q=>hr a b pins s2 σ H2 x y v u Q I2 rx ry q (hs _ _))
noncomputable def XD(K:W.Frag):R2:=λx y H Q => ∃p xs i v,x=.ref p/\y=.int i/\dG K H p xs/\atI xs i=some v/\Q v H
noncomputable def XC(K:W.Frag):R2:=λx y H Q => ∃p xs i v,x=.ref p/\y=.int i/\ck K H p xs/\atI xs i=some v/\Q v H
theorem Ju:Gw X (XD X.K):=by
 intro value slice pins s σ H x y v u Q I rx ry h hs
 obtain⟨p,xs,i,z,rfl,rfl,hq,he,q⟩:=h
 cases rx
 obtain⟨t,rfl⟩:=ry
 obtain⟨its,r,pl,hz⟩:=I.list hq
 obtain⟨j,h1,h2,h3,h4,h5⟩:=yi he
 obtain⟨w,ew,rw'⟩:=r.get h2
 have hl:=r.length
 have hn:=mL
 have fin:EP X pins σ Q w s:=⟨z,H,I,rw',q⟩
 by_cases h0:0<=i
 ·have hj:i.toNat=j:=by
   rw[seqIndex_of h0 h5]at h1
   exact aK6 h1
  exact item_listR pl.isList h0 (by omega) (by rw[hj];simpa using ew) fin hs
 ·have hj:(i+(its.toArray.size:Int)).toNat=j:=by
   rw[seqIndex_neg (by omega) h4]at h1
   rw[aI0,<- hl]
   exact aK6 h1
  exact subscriptTail_builtinR (x:=w) pl.isList.typeIs slot_list_getitem.lookup
   (wpAny_getItem_list_neg (Q:=λr s'=>r=w/\EP X pins σ Q r s') pl.isList (by omega) (by rw[aI0]<;>omega) (by omega) (by rw[hj];simpa using ew) ⟨rfl,fin⟩) hs
theorem Nf:Gw X (XC X.K):=by
 intro value slice pins s σ H x y v u Q I rx ry h hs
 obtain⟨p,xs,i,z,rfl,rfl,hq,he,q⟩:=h
 cases rx
 obtain⟨t,rfl⟩:=ry
 obtain⟨its,r,pl,hz⟩:=I.tuple hq
 obtain⟨j,h1,h2,h3,h4,h5⟩:=yi he
 obtain⟨w,ew,rw'⟩:=r.get h2
 have hl:=r.length
 have hn:=mL
 have fin:EP X pins σ Q w s:=⟨z,H,I,rw',q⟩
 exact subscriptTail_builtinR (x:=w) pl.typeIs slot_tuple_getitem.lookup
  (getItem_tuple (j:=j) (Q:=λr s'=>r=w/\EP X pins σ Q r s') pl (by omega) (by omega) (by rw[aI0,<- hl];exact h1) (by simpa using ew) ⟨rfl,fin⟩) hs
theorem yZ(its:List Value)(n j:Nat)(u:Value):Obj.mapSeq (·.setIfInBounds j u) { cls:=.type "list", data:=.seq its.toArray n } = { cls:=.type "list", data:=.seq (its.set j u).toArray n }:=by
 simp[Obj.mapSeq]
theorem aq.lst(I:aq X pins σ H s)(h:H p=some (.lst xs)) :
  ∃(its:List Value) (n:Nat),bi xs its/\s.heap.get? p=some { cls:=.type "list", data:=.seq its.toArray n }/\xs.length<=sizeLine:=by
 obtain⟨z,its,n,r,e⟩:=I.hok p _ h
 exact⟨its,n,r,e,z⟩
theorem aq.lstUpd{ys:List V}{n':Nat}{f:Obj->Obj}(I:aq X pins σ H s)(h:H p=some (.lst xs))
  (ho:s.heap.get? p=some { cls:=.type "list", data:=.seq its.toArray n }) (hf:f { cls:=.type "list", data:=.seq its.toArray n } = { cls:=.type "list", data:=.seq its'.toArray n' }) (r:bi ys its') (hz:ys.length<=sizeLine) (t:Nat) :
  aq X pins σ (bo H p (.lst ys)) { s with heap:=s.heap.update p f,toks:=t }:=by
 have e:(s.heap.update p f).get? p=some { cls:=.type "list", data:=.seq its'.toArray n' }:=by
  rw[Heap.get?_update_self f ho (by rw[hf]<;>rfl),hf]
 refine I.write (x:=p) (e:=p) (by rw[h];trivial) (.inl rfl) (λb u hb q=>(Heap.get?_update_other _ _ (aO8 hb)).trans q) ⟨_,e⟩ ?_
 exact⟨hz,its',n',r,e⟩
noncomputable def Rm:V->V->V->Hp->(Hp->Prop)->Prop:=λo i v H Q => ∃p xs k j,o=.ref p/\i=.int k/\H p=some (.lst xs)/\ixN xs.length k=some j/\Q (bo H p (.lst (xs.set j v)))
theorem Cz:El X Rm:=by
 intro pins s σ H o i v ov iv u Q I ro ri rv h
 obtain⟨p,xs,k,j,rfl,rfl,hp,hj,q⟩:=h
 cases ro
 obtain⟨t,rfl⟩:=ri
 obtain⟨its,n,r,ho,hz⟩:=I.lst hp
 obtain⟨h1,h2,h3,h4⟩:=xV hj
 have hl:=r.length
 have hn:=mL
 have I':aq X pins σ (bo H p (.lst (xs.set j v))) { s with heap:=s.heap.update p (Obj.mapSeq (·.setIfInBounds j u)) } :=
  I.lstUpd hp ho (yZ its n j u) (r.set rv j) (by rw[aJ9];exact hz) s.toks
 by_cases h0:0<=k
 ·have hk:k.toNat=j:=by
   rw[seqIndex_of h0 h4]at h1
   exact aK6 h1
  exact W.ki_setAt ho h0 (by omega) (by rw[aI0,<- hl];exact h4) (by rw[hk];exact⟨_,I',q⟩)
 ·have hk:(k+(its.toArray.size:Int)).toNat=j:=by
   rw[seqIndex_neg (by omega) h3]at h1
   rw[aI0,<- hl]
   exact aK6 h1
  exact W.ki_setBack ho (by omega) (by rw[aI0,<- hl];exact h3) (by omega) (by rw[hk];exact⟨_,I',q⟩)
theorem u9(lo hi:Option Int)(n:Nat):(sliceBounds lo hi none n).1=((HT.sIx n 0 lo:Nat):Int)/\(sliceBounds lo hi none n).2.1=((HT.sIx n n hi:Nat):Int)/\(sliceBounds lo hi none n).2.2=1:=by
 refine⟨?_,?_,rfl⟩
 ·cases lo with
  | none=>simp[sliceBounds,HT.sIx]
  | some i =>
   simp only[sliceBounds,HT.sIx,Option.getD_none,show(1:Int)>0 by decide,aP3]
   by_cases h:i<0
   ·simp only[h,aP3]<;>omega
   ·simp only[h,if_false]<;>omega
 ·cases hi with
  | none=>simp[sliceBounds,HT.sIx]
  | some i =>
   simp only[sliceBounds,HT.sIx,Option.getD_none,show(1:Int)>0 by decide,aP3]
   by_cases h:i<0
   ·simp only[h,aP3]<;>omega
   ·simp only[h,if_false]<;>omega
theorem tR(its:List Value)(lo hi:Option Int):slicePick its.toArray lo hi none=((its.drop (HT.sIx its.length 0 lo)).take (HT.sIx its.length its.length hi-HT.sIx its.length 0 lo)).toArray:=by
 obtain⟨h1,h2,h3⟩:=u9 lo hi its.toArray.size
 unfold slicePick
 rw[h1,h2,h3]
 simp only[sliceRange_one,pick_run,aI0]<;>rfl
noncomputable def XB(K:W.Frag):V->Option Int->Option Int->Hp->VK->Prop:=λx lo hi H Q => ∃a xs,x=.ref a/\dG K H a xs/\∀p,H p=none->Q (.ref p) (bo H p (.lst (kh xs lo hi)))
theorem HY:Gp X (XB X.K):=by
 intro pins s σ H x v vl vu lo hi sl Q I rx hs pl pu h
 obtain⟨a,xs,rfl,hx,q⟩:=h
 cases rx
 obtain⟨its,r,ht,hz⟩:=I.list hx
 have hlen:=r.length
 refine⟨"list", _,slot_list_getitem.lookup,ht.isList.typeIs,?_⟩
 refine wpAny_getItem_list_slice ht.isList hs pl pu .none (by simp) ?_ (by rw[aI0]<;>omega)
 rw[tR,<- hlen]
 refine⟨.ref s.heap.objs.size,_,I.laid (t':=s.toks) (o:=.lst (kh xs lo hi)) (λb ob q=>aF6 _ q) (aF9 _) ?_,rfl,q _ (I.hok.fresh (aF9 _))⟩
 exact⟨aF5 (oz xs lo hi) hz,_,0,(r.drop (HT.sIx xs.length 0 lo)).take (HT.sIx xs.length xs.length hi-HT.sIx xs.length 0 lo),aG5 _ rfl⟩
theorem mV:fe X (.builtin "len") (λxs H Q => ∃p ys,xs=[.ref p]/\(dG X.K H p ys\/ck X.K H p ys)/\Q (.int ys.length) H):=by
 intro pins s σ H xs us Q I r h
 obtain⟨p,ys,rfl,hq,q⟩:=h
 obtain⟨u,rfl,rx⟩:=d7 r
 cases rx
 have hn:=mL
 rcases hq with hq|hq
 ·obtain⟨its,r',pl,hz⟩:=I.list hq
  have hlen:=r'.length
  exact Calls.call_len_list pl.isList (by simp only[aI0]<;>omega) ⟨.int ys.length,H,I.tok _,⟨s.toks+1,by rw[aI0,hlen]⟩,q⟩
 ·obtain⟨its,r',pl,hz⟩:=I.tuple hq
  have hlen:=r'.length
  exact len_tuple pl (by simp only[aI0]<;>omega) ⟨.int ys.length,H,I.tok _,⟨s.toks+1,by rw[aI0,hlen]⟩,q⟩
theorem wl:fe X (.builtin "len") (λxs H Q => ∃z,xs=[.str z]/\z.length<=sizeLine/\Q (.int z.length) H):=by
 intro pins s σ H xs us Q I r h
 obtain⟨z,rfl,hz,q⟩:=h
 obtain⟨u,rfl,t,rfl⟩:=d7 r
 have hn:=mL
 exact len_str (by omega) ⟨.int z.length,H,I.tok _,⟨_,rfl⟩,q⟩
theorem lX:fe X (.type "tuple") (λxs H Q => ∃p ys,xs=[.ref p]/\((dG X.K H p ys/\∀l,H l=none->Q (.ref l) (bo H l (.tup ys)))\/(ck X.K H p ys/\Q (.ref p) H))):=by
 intro pins s σ H xs us Q I r h
 obtain⟨p,ys,rfl,h⟩:=h
 obtain⟨u,rfl,rx⟩:=d7 r
 cases rx
 rcases h with⟨hq,q⟩|⟨hq,q⟩
 ·obtain⟨its,r',pl,hz⟩:=I.list hq
  have hlen:=r'.length
  refine call_tuple_list pl.isList (λh' kp=>?_) (by simp only[aI0]<;>omega)
  have I1:aq X pins σ H { s with heap:=h' }:=I.kept (t':=s.toks) kp
  have I2:aq X pins σ (bo H h'.objs.size (.tup ys)) { s with heap:=h'.push { cls:=.type "tuple", data:=.seq its.toArray } } :=
   I1.laid (t':=s.toks) (λb o e=>aF6 _ e) (aF9 _) (show dn X.prog X.w _ _ _ (.tup ys)from⟨hz,its,r',k9.new _ _⟩)
  exact⟨.ref h'.objs.size,_,I2,rfl,q _ (I1.hok.fresh (aF9 _))⟩
 ·obtain⟨its,r',pl,hz⟩:=I.tuple hq
  exact call_tuple_same pl ⟨.ref p,H,I,rfl,q⟩
noncomputable def Kt(K:W.Frag)(T:String)(x:V)(H:Hp):Prop:=match x with
  | .str _=>T = "str"
  | .int _=>T = "int"
  | .ref p=>(T = "list" /\ ∃xs,dG K H p xs)\/(T = "tuple" /\ ∃xs,ck K H p xs) \/
      (T = "dict" /\ ((∃kvs,H p=some (.dK kvs))\/∃kvs,H p=some (.dT kvs)))\/(T = "set" /\ ∃S n,H p=some (.set S n))
  | _=>False
theorem Ac{T:String}{x:V}{v:Value}(I:aq X pins σ H s)(r:bO x v)(ty:Kt X.K T x H) :
  s.TypeIs v T/\∀a,v=.ref a->∃ob,s.heap.get? a=some ob/\ob.dict=none:=by
 cases x with
 | str z =>
  obtain⟨t,rfl⟩:=r
  cases (show T = "str" from ty)
  exact⟨typeIs_str s z t,λ_ e=>nomatch e⟩
 | int i =>
  obtain⟨t,rfl⟩:=r
  cases (show T = "int" from ty)
  exact⟨typeIs_int s i t,λ_ e=>nomatch e⟩
 | ref p =>
  cases r
  rcases ty with⟨rfl,xs,hq⟩|⟨rfl,xs,hk⟩|⟨rfl,hk⟩|⟨rfl,S,n,hk⟩
  ·obtain⟨its,_,pl,_⟩:=I.list hq
   refine⟨pl.isList.typeIs,λa e=>?_⟩
   cases e
   obtain⟨o,n,e,c,hd,_⟩:=pl
   exact⟨o,e,hd⟩
  ·obtain⟨o,e0,hc,hd⟩:=I.tupN hk
   refine⟨⟨o,e0,hc⟩,λa e=>?_⟩
   cases e
   exact⟨o,e0,hd⟩
  ·have z:∃o,s.heap.get? p=some o/\o.ExactDict:=by
    rcases hk with⟨kvs,hk⟩|⟨kvs,hk⟩
    ·obtain⟨_,_,_,_,o,_,_,e,ex,_⟩:=I.hok p _ hk
     exact⟨o,e,ex⟩
    ·obtain⟨_,_,_,_,o,_,_,e,ex,_⟩:=I.hok p _ hk
     exact⟨o,e,ex⟩
   obtain⟨o,e,ex⟩:=z
   refine⟨⟨o,e,ex.1⟩,λa e2=>?_⟩
   cases e2
   exact⟨o,e,ex.2.1⟩
  ·obtain⟨o,_,_,_,e,ex,_⟩:=I.hok p _ hk
   refine⟨⟨o,e,ex.1⟩,λa e2=>?_⟩
   cases e2
   exact⟨o,e,ex.2.1⟩
 | _=>exact False.elim ty
noncomputable def V0(K:W.Frag)(T:String)(r:V->List V->Hp->VK->Prop)(to:TE):TE:=λσ H Q=>to σ H λx H1=>Kt K T x H1/\r x [] H1 Q
noncomputable def tBM(K:W.Frag)(T:String)(r:V->List V->Hp->VK->Prop)(to:TE)(t:TA):TE:=λσ H Q=>to σ H λx H1=>Kt K T x H1/\t σ H1 λxs H2=>r x xs H2 Q
variable{o e:Expr}{es:List Expr}{to:TE}{t:TA}{name:Str}{apos cpos:Pos}{T id:String}{r:V->List V->Hp->VK->Prop}
theorem LR(pa:PlainAttrs T)(slot:Slot T name id)(hty:typeOf (.builtin id)=pure (.type "method_descriptor"))(hm:wD X id r)(ho:PE X o to)
  (hbase:attributeBase o name X.env (eval o X.env)=eval o X.env:=by rfl) (hline:(apos.endLine==cpos.line)=true:=by rfl):PE X (.Call (.Attribute o name apos) [] [] cpos) (V0 X.K T r to):=by
 intro pins s σ H Q I h
 refine wpAny_Call_method0_late hbase hline (bu (ho pins s σ H _ I h) λv s1 ⟨x,H1,I1,r1,ty,q1⟩=>?_)
 obtain⟨h1,h2⟩:=Ac I1 r1 ty
 exact⟨T,id,pa,slot,hty,h1,h2,Calls.callWith_builtin rfl (PySem.evalArgs_none (hm pins s1 σ H1 x [] v [] Q I1 r1 .nil q1))⟩
theorem pV(pa:PlainAttrs T)(slot:Slot T name id)(hty:typeOf (.builtin id)=pure (.type "method_descriptor"))(hm:wD X id r)(ho:PE X o to)(ha:PA X (e::es) t)
  (hbase:attributeBase o name X.env (eval o X.env)=eval o X.env:=by rfl)
  (hfew:((backTo cpos (starEach (e::es) X.env)).all (λx => !x.1)&&(backToKw cpos (keywordEach [] X.env)).all (λx=>x.1.isSome)
   && decide ((e::es).length+([]:List Keyword).length+(if ([]:List Keyword).isEmpty then 0 else 1)<30))=true:=by rfl)
  (hline:(apos.endLine==cpos.line)=true:=by rfl) (hs:starEach (e::es) X.env=(false,eval e X.env)::starEach es X.env:=by rfl) (hplain:(backTo cpos (starEach es X.env)).any (·.1)=false:=by rfl) :
  PE X (.Call (.Attribute o name apos) (e::es) [] cpos) (tBM X.K T r to t):=by
 intro pins s σ H Q I h
 refine wpAny_Call_method_late hbase hfew hline rfl (bu (ho pins s σ H _ I h) λv s1 ⟨x,H1,I1,r1,ty,q1⟩=>?_)
 obtain⟨h1,h2⟩:=Ac I1 r1 ty
 refine⟨T,id,pa,slot,hty,h1,h2,?_⟩
 have hA:=ha cpos pins s1 σ H1 _ I1 q1
 rw[hs]at hA⊢
 refine Calls.callWith_builtin (by show(false || (backTo cpos (starEach es X.env)).any (·.1))=false;rw[hplain]<;>rfl) (Calls.evalArgs_plain ?_)
 exact bu hA λus s2 ⟨vs,H2,I2,r2,q2⟩=>hm pins s2 σ H2 x vs v us Q I2 r1 r2 q2
/- xs.append(e),list.index on a module's tuple .. are wD facts of 06m -/
end
noncomputable def VG(X:Cx)(id:String)(r:V->List V->Hp->VK->Prop):Prop :=
 ∀(pins:List (Addr×Obj)) (s:Shared) (σ:St) (H:Hp) (x:V) (xs:List V) (v:Value) (us:List Value) (Q:VK),aq X pins σ H s->bO x v->bi xs us->r x xs H Q ->
  wpAny (model X.prog X.w) X.A (call (.builtin id) (v::us)) (EP X pins σ Q) X.xe s
theorem bi.one:∀{x:V} {us:List Value},bi [x] us->∃u,us=[u]/\bO x u
 | _,_,.cons r .nil=>⟨_,rfl,r⟩
theorem bi.zero:∀{us:List Value},bi [] us->us=[]
 | _,.nil=>rfl
theorem bi.reverse(h:bi xs us):bi xs.reverse us.reverse:=by
 induction h with
 | nil=>exact .nil
 | cons r t ih=>rw[List.reverse_cons,List.reverse_cons];exact bi.append ih (.cons r .nil)
section
variable{X:Cx}{l b:Addr}{ys zs:List V}
theorem aq.lset{f:Array Value->Array Value}{t':Nat}(I:aq X pins σ H s)(hH:H l=some (.lst xs))
  (e:s.heap.get? l=some { cls:=.type "list", data:=.seq its.toArray n }) (hf:f its.toArray=its'.toArray) (hv:bi ys its') (hz:ys.length<=sizeLine) :
  aq X pins σ (bo H l (.lst ys)) { s with heap:=s.heap.update l (Obj.mapSeq f),toks:=t' }:=by
 have q:=PySem.IsL.update e f
 rw[hf]at q
 refine I.write (x:=l) (e:=l) (by rw[hH];exact trivial) (.inl rfl) (λb' u hb hu=>(Heap.get?_update_other s.heap (Obj.mapSeq f) (aO8 hb)).trans hu) ⟨_,q⟩ ?_
 exact⟨hz,its',_,hv,q⟩
theorem aq.lnew{t':Nat}(I:aq X pins σ H s)(hv:bi ys its)(hz:ys.length<=sizeLine) :
  aq X pins σ (bo H s.heap.objs.size (.lst ys)) { s with heap:=s.heap.push { cls:=.type "list", data:=.seq its.toArray },toks:=t' } :=
 I.laid (λ_ _ q=>aF6 _ q) (aF9 _) ⟨hz,its,0,hv,aG5 _ rfl⟩
theorem aq.fresh(I:aq X pins σ H s):H s.heap.objs.size=none:=I.hok.fresh (aF9 _)
theorem aq.lstM(I:aq X pins σ H s)(hH:H l=some (.lst xs)):xs.length<=sizeLine/\∃(its:List Value) (n:Nat),bi xs its/\xs.length=its.length/\s.heap.get? l=some { cls:=.type "list", data:=.seq its.toArray n }:=by
 obtain⟨z,its,n,r,e⟩:=I.hok l _ hH
 exact⟨z,its,n,r,r.length,e⟩
end
section
variable{X:Cx}
noncomputable def Io:V->List V->Hp->VK->Prop:=λx vs H Q => ∃l xs y,x=.ref l/\vs=[y]/\H l=some (.lst xs)/\xs.length<sizeLine/\Q .non (bo H l (.lst (xs++[y])))
theorem sY:VG X "list.append" Io:=by
 intro pins s σ H x vs v us Q I rx rv h
 obtain⟨l,xs,y,rfl,rfl,hH,hz,q⟩:=h
 cases rx
 obtain⟨u,rfl,ru⟩:=rv.one
 obtain⟨z,its,n,r,hl,e⟩:=I.lstM hH
 refine call_meets F.slot_list_append ⟨_,e,rfl⟩ F.entry_list_append (F.args_list_append_2 _ _) (PySem.list_append l its.toArray n u (by rw[aI0];omega)) ⟨e,?_⟩
 refine⟨.non,_,I.lset (its':=its++[u]) hH e (by simp) (r.append (.cons ru .nil)) ?_,rfl,q⟩
 rw[aI6,List.length_singleton]
 omega
end
section
variable{prog:Program}{w:World}{A:Around}{E:Value->Shared->Prop}
set_option maxRecDepth 100000 in
end
section
variable{X:Cx}
end
end L2
namespace Att
open PySem PySem.W PySem.Calls PyProof.Rows
variable{P:Params}{h:Heap}{l:OpenLaw}{n:Nat}
theorem qi:∀(ns:List Int) (vs:List Value),WellAll P h vs (ns.map WData.int)->IntsAre vs ns:=by
 intro ns
 induction ns with
 | nil =>
  intro vs w
  rw[aN0]at w
  cases w
  exact .nil
 | cons n ns ih =>
  intro vs w
  rw[aH8]at w
  cases w with
  | cons a b =>
   cases a
   exact .cons _ _ (ih _ b)
theorem AF(hn:l.most=some n){args:List WData}{vals:List Value}
  (hpre:l.row.toRowW.claim.pre args=true) (hwl:WellAll P h vals args) :
  ∃a vs ns,vals=[Value.ref a]/\args=[WData.list (ns.map WData.int)]/\h.get? a=some { cls:=.type "list", data:=.seq vs.toArray }/\IntsAre vs ns/\ns.length<=n:=by
 have hsh:WShape.hasAll [] args [.list .int]=true:=(pre_splitW hpre).1
 have hc:l.pre.holds [] { args:=args }=true:=(pre_splitW hpre).2
 obtain⟨d,r,rfl,h1,h2⟩:=hasAllW_cons hsh
 obtain rfl:=hasAllW_nil h2
 obtain⟨xs,rfl,h3⟩:=hasW_list h1
 obtain⟨ns,rfl⟩:=items_int h3
 have hlen:ns.length<=n:=by
  unfold OpenLaw.pre at hc
  have h4:(WTm.not (.lt (.lit (.int (n:Int))) (.len (.arg 0)))).holds [] { args:=[.list (ns.map .int)] }=true:=by
   have h4:=(holds_andW hc).1
   rw[hn]at h4
   exact h4
  have h5:=condW_of h4 (w_not (w_lt w_lit (w_len_list (w_arg rfl))))
  rw[aH3]at h5
  refine Nat.le_of_not_lt λq=>?_
  have q':(n:Int)<((ns.length:Nat):Int):=by omega
  first
   | (rw[aI4 q']at h5;exact absurd h5 (by decide))
   | (simp at h5;omega)
 cases hwl with
 | cons w1 w2 =>
  cases w2
  cases w1 with
  | list ho hall=>exact⟨_,_,ns,rfl,rfl,ho,qi ns _ hall,hlen⟩
theorem AL(l:OpenLaw)(args:List WData):l.row.toRowW.claim.post args (.bool true) args=true :=
 postW_of (r:=l.row.toRowW) (X:=(true==true))
  (show WShape.has [] (.bool true) .bool=true by first|rfl|decide|simp[WShape.has,WShape.arms,WShape.armsAll])
  (show(WTm.eq .res (.lit (.bool true))).value [] { args:=args,res:=some (.bool true),after:=args }=some (.bool (true==true))from w_eq_bool (w_res rfl) w_lit) rfl
theorem attach_call{q:Program}{loose:List Str}{XP:(Str->Option Value)->Heap->Prop}{YP:World->Heap->Prop}{d:DefRec}
  (hn:l.most=some n) (hdf:d.params.defaults=[])
  (call:∀(w:World) (s₀ s₁:Shared) (mg mb:Str->Option Value) (fa:Addr) (o:Obj) (pm cd doc:Value) (a:Addr) (vs:List Value) (ns:List Int),
   Ground q loose [] XP w s₀ mg mb s₁.heap->YP w s₁.heap ->
   s₁.heap.get? fa=some o->o.data=.func (docDef d.name d.params d.body d.scope pm cd doc)->s₁.heap.CodeRec cd d.name->mg d.name=some (.ref fa) ->
   s₁.heap.get? a=some { cls:=.type "list", data:=.seq vs.toArray }->IntsAre vs ns->ns.length<=n->s₁.gens = #[] ->
   codeAny (model l.prog w) callerA (.call (.ref fa) ⟨[.ref a],[]⟩) (λr s'=>r=.ok (.ret (.bool true))/\OldK s₁.heap s'.heap/\s'.os=s₁.os/\AllBare s'.gens) s₁) :
  WalkO q loose XP YP l.row.toRowW d [] (λf vs=>PySem.call f vs):=by
 intro w s₀ s₁ mg mb G Y fa o pm cd doc dV kV ho hd hcd hD hmg hg args vals as hpre hlay hrd hwl hlo
 obtain rfl:dV=.none:=Dflts.none hD hdf
 obtain rfl:kV=.none:=Dflts.noKw hD
 obtain⟨a,vs,ns,rfl,rfl,hobj,hints,hlen⟩:=AF hn hpre hwl
 refine enter_call (codeAny_mono (call w s₀ s₁ mg mb fa o pm cd doc a vs ns G Y ho (fd_plain hd) hcd hmg hobj hints hlen hg) λr s' hq=>?_)
 obtain⟨rfl,h2,h3,h4⟩:=hq
 exact⟨.inl ⟨.bool true,.bool true,[],rfl,λ_=>rfl,.bool true,AL l _,λ_=>⟨List.Pairwise.nil,λ_ hm=>(nomatch hm)⟩⟩,h2,h3,h4⟩
section
variable{prog:Program}{w:World}{A:Around}{E:Value->Shared->Prop}{s:Shared}{K:Frag}
end
end Att
namespace L2
open PySem PySem.Spec PyProof.Rows
variable{k:Nat}{x:Str}
theorem sP:∀{vs:List Value} {ns:List Int},IntsAre vs ns->bi (ns.map V.int) vs
 | _,_,.nil=>.nil
 | _,_,.cons n t h=>.cons ⟨t,rfl⟩ (sP h)
noncomputable def zW(H:Hp):Prop:=∀b,H b=none\/∃o xs,H b=some (.frz o (.lst xs))
theorem Dd{P:Program}{w:World}{K:W.Frag}{mg mb:Str->Option Value}{CX:jW}{fa a:Addr}{fd:FuncData}{sp:Sp}{s₁:Shared}{vs:List Value}{ns:List Int}
    (KX:K.In s₁.heap) (hns:s₁.heap.Ns mainGlobals mg) (hb:s₁.heap.Ns builtinsNs mb) (hbb:∀x:Str,x ≠ "__name__" -> mb x=bootBuiltins x) (hlim:s₁.heap.NoLimit) (hg:s₁.gens = #[])
    (ha:s₁.heap.get? a=some { cls:=.type "list", data:=.seq vs.toArray }) (hi:IntsAre vs ns) (hl:ns.length<=sizeLine) (hr:cw k callerA)
    (F:∀base:Heap,K.In base->base.Ns mainGlobals mg->bT P w K mg base CX k fa fd [x] sp) (hbind:∀(s:Shared) (u:Value),BindsTo s fd ⟨[u],[]⟩ [(x,u)])
    (hsp:∀H:Hp,zW H->dG K H a (ns.map V.int)->sp [.ref a] H (λv _=>v=.bl true) λ_ _ _=>False)
    (hCX:∀H e s',CX [] H s₁ (λ_ _ _=>False) e s'->False) :
    codeAny (model P w) callerA (.call (.ref fa) ⟨[.ref a],[]⟩) (λr s'=>r=.ok (.ret (.bool true))/\OldK s₁.heap s'.heap/\s'.os=s₁.os/\AllBare s'.gens) s₁:=by
  have rv:=sP hi
  have lenV:=hi.length
  have core:∀H:Hp,zW H->dG K H a (ns.map V.int)->fB P w H s₁.heap->(∀b,H b≠none->b=a)->(H a≠none->K.lookup a=none) ->
      codeAny (model P w) callerA (.call (.ref fa) ⟨[.ref a],[]⟩) (λr s'=>r=.ok (.ret (.bool true))/\OldK s₁.heap s'.heap/\s'.os=s₁.os/\AllBare s'.gens) s₁:=by
    intro H hO hS hok hA hK
    have base_of:∀{b:Addr} {o:Obj},s₁.heap.get? b=some o->H b=none->(lA s₁.heap H).get? b=some o:=λe n=>Dp e n
    have noA:∀{b:Addr} {o:Obj} {es:Array DictEntry} {ep:Nat},s₁.heap.get? b=some o->o.data=.dict es ep->H b=none:=λ{b o es ep} e d=>by
      cases q:H b with
      | none=>rfl
      | some u =>
        have e':b=a:=hA b (by rw[q];simp)
        subst e'
        rw[ha]at e;cases e
        have d':Data.seq vs.toArray _=Data.dict es ep:=d
        cases d'
    have nsK:∀{b:Addr} {m:Str->Option Value},s₁.heap.Ns b m->(lA s₁.heap H).Ns b m:=λ{b m} ⟨o,es,ep,e,d,r⟩=>⟨o,es,ep,base_of e (noA e d),d,r⟩
    have hKb:K.In (lA s₁.heap H):=λb o e=>base_of (KX b o e) (by
      cases q:H b with
      | none=>rfl
      | some u =>
        have e':b=a:=hA b (by rw[q];simp)
        subst e'
        rw[hK (by rw[q];simp)]at e;cases e)
    have hM:Mod K mg (lA s₁.heap H):=⟨hKb,nsK hns,⟨mb,nsK hb,hbb⟩,let ⟨mc,h1,h2⟩:=hlim;⟨mc,nsK h1,h2⟩⟩
    have e0:kC P w K mg (lA s₁.heap H) callerA [] s₁ H:=⟨rfl,hM,λb o e=>IU e,Nat.le_of_eq (Bg _ _),trivial,λb hb=>absurd (show b∈([]:List Addr)from hb) (by simp),hok,.of_eq hg⟩
    refine codeAny_mono ((F _ hKb (nsK hns)).run callerA [] s₁ H ⟨[.ref a],[]⟩ [.ref a] [.ref a] _ _ hr e0 (hbind s₁ (.ref a)) (.cons rfl .nil) (hsp H hO hS)) λr s' h=>?_
    cases r with
    | error e=>exact(hCX H e s' h).elim
    | ok fl =>
      cases fl with
      | next=>exact False.elim h
      | brk=>exact False.elim h
      | cont=>exact False.elim h
      | ret u =>
        obtain⟨v,H',os,bare,un,hok',r',q⟩:=h
        have q':v=.bl true:=q
        subst q'
        obtain rfl:u=Value.bool true:=r'
        refine⟨rfl,OldK.of_keep λb o e=>?_,os,bare⟩
        cases q:H b with
        | none=>exact un.keep b o e q (by intro z;exact absurd (show b∈([]:List Addr)from z) (by simp)) (by simp)
        | some u =>
          rcases hO b with z|⟨ob,xs,z⟩
          . rw[q]at z;cases z
          . have z2:=un.frzs b ob _ z
            obtain⟨e1,_⟩:=hok b _ z
            obtain⟨e2,_⟩:=hok' b _ z2
            rw[e]at e1;cases e1
            exact e2
  cases hk:K.lookup a with
  | some o =>
    have e:=KX a o hk
    rw[ha]at e
    cases e
    refine core (λ_=>none) (λ_=>.inl rfl) (.inr ⟨_,vs.toArray,_,hk,rfl,rfl,rfl,by rw[aI0,lenV];exact hl,by simpa using rv⟩) (λb u z=>by have z':(none:Option HO)=some u:=z;cases z') (λb z=>absurd rfl z) λz=>absurd rfl z
  | none =>
    refine core (λb=>if b=a then some (.frz { cls:=.type "list", data:=.seq vs.toArray } (.lst (ns.map V.int)))else none) (λb=>?_) (.inl (.inr ⟨{ cls:=.type "list", data:=.seq vs.toArray },if_pos rfl⟩)) (λb u z=>?_) (λb z=>?_) λ_=>hk
    . by_cases hb:b=a
      . exact .inr ⟨_,_,if_pos hb⟩
      . exact .inl (if_neg hb)
    . by_cases hb:b=a
      . have z':=(if_pos hb).symm.trans z
        cases z'
        subst hb
        exact⟨ha,by rw[aH3];exact hl,vs,_,rv,ha⟩
      . have z':=(if_neg hb).symm.trans z
        cases z'
    . by_cases hb:b=a
      . exact hb
      . exact absurd (if_neg hb) z
noncomputable abbrev KOf{K:W.Frag}{h:Heap}(_:K.In h):W.Frag:=K
theorem walk_of{l:W.OpenLaw}{n:Nat}{q:Program}{loose:List Str}{XP:(Str->Option Value)->Heap->Prop}{YP:World->Heap->Prop}{d:DefRec}{K:Params->W.Frag}{CX:World->jW}{sp:World->Sp}
  (hn:l.most=some n) (hn2:n<=sizeLine) (hdf:d.params.defaults=[]) (hr:cw k callerA)
  (hY:∀(w:World) (h:Heap),YP w h->(K w.params).In h)
  (F:∀(w:World) (mg:Str->Option Value) (fa:Addr) (h:Heap),(K w.params).In h->h.Ns mainGlobals mg->mg d.name=some (.ref fa) ->
   ∃fd:FuncData,(∀(s:Shared) (u:Value),BindsTo s fd ⟨[u],[]⟩ [(x,u)]) /\
    ∀base:Heap,(K w.params).In base->base.Ns mainGlobals mg->bT l.prog w (K w.params) mg base (CX w) k fa fd [x] (sp w))
  (hsp:∀(w:World) (H:Hp) (a:Addr) (ns:List Int),ns.length<=n->zW H->dG (K w.params) H a (ns.map V.int)->sp w [.ref a] H (λv _=>v=.bl true) λ_ _ _=>False)
  (hCX:∀(w:World) (H:Hp) (s:Shared) (e:Value) (s':Shared),CX w [] H s (λ_ _ _=>False) e s'->False) :
  W.WalkO q loose XP YP l.row.toRowW d [] (λf vs=>PySem.call f vs):=by
 refine Att.attach_call hn hdf λw s₀ s₁ mg mb fa o pm cd doc a vs ns G Y ho hd hcd hmg hobj hints hlen hg=>?_
 have KX:=hY w _ Y
 obtain⟨fd,hb,hF⟩:=F w mg fa _ KX G.T.g hmg
 exact Dd KX G.T.g G.T.b G.T.builtins G.T.nolimit hg hobj hints (aF5 hlen hn2) hr hF hb (λH hO hS=>hsp w H a ns hlen hO hS) λH e s'=>hCX w H s₁ e s'
end L2
/- THE LAST THEOREM (shape;LID,My.* are yours):
   My.Adr: a structure of the addresses that your layer names (classes,functions);My.Txt K t: a structure (Prop) of the equations over K;
   My.txt_mk:{K} {implicit addresses ..} (e1:nsIn K mainGlobals "law" = some (some (.ref f))) (e2:K.lookup f=some ⟨oc,od,.func (fnOf "law" "law" params body scope dV kV doc pm an cdv ct),sl⟩) (e3:codeIn K cdv "law" = true) ..:∃t,My.Txt K t
set_option maxRecDepth 100000 in
set_option maxHeartbeats 0 in
theorem PySem.Challenge.cw_LID_holds : PySem.Challenge.rw_LID.Holds := by
 w_on;o_law;k_head;(case hw=>w_witness2)
 k_fill
 refine L2.walk_of (l:=PySem.Challenge.rw_LID) (n:=63) (k:=40) (x := "script") (CX:=λw=>..) (sp:=λ_=>My.sp_law) rfl (by decide) rfl ⟨rfl,by decide,by decide⟩ (λw h Y=>PySem.W.kIn_of Y) ?F ?S ?C
 case F =>
  intro w mg fa h KX G hmg
  have T:∃t,My.Txt (L2.KOf KX) t:=by
   dsimp only[L2.KOf]                          -- K must stand as «<heap const> w.params» for k_is
   refine' My.txt_mk ?e1 ?e2 ?e3 ..
   (case e1=>PySem.W.k_is)                    -- in the order: a name->its address->its object->its parts
   (case e2=>PySem.W.k_is)
   ..
  obtain⟨t,T⟩:=T
  have e0:=hmg.symm.trans (PySem.W.mg_of KX G T.law)
  cases e0                                       -- fa is the law's own address
  exact⟨_,λs u=>.of_eq rfl,λbase kb nb=>My.law_fn T kb nb⟩     -- if «.of_eq rfl» comes too early: refine' ⟨_,?b,λbase kb nb=>My.law_fn T kb nb⟩;exact λs u=>.of_eq rfl
 case S=>exact λw H a ns hl hO hS=>..
 case C=>exact ..
(the tactic k_is has no namespace: write k_is) -/
namespace L2
open PySem PySem.Spec PyProof.Rows
variable{qual x:Str}{st:Stmt}{f:Addr}{fd:FuncData}{ps:List Str}{H H':Hp}{o:Option V}{u:Value}{y:V}
noncomputable def aA(s:Stmt):Arguments:=match s with
 | .FunctionDef _ a _ _ _ _ _ _ _ _=>a
 | _ => { posonlyargs:=[],args:=[],vararg:=none,kwonlyargs:=[],kw_defaults:=[],kwarg:=none,defaults:=[] }
noncomputable def ai(s:Stmt):List Stmt:=match s with
 | .FunctionDef _ _ b _ _ _ _ _ _ _=>b
 | _=>[]
noncomputable def ae(s:Stmt):Scope:=match s with
 | .FunctionDef _ _ _ _ _ _ sc _ _ _=>sc
 | _ => { kind:=.function,names:=[],isGenerator:=false,isCoroutine:=false }
noncomputable abbrev df:jW:=λ_ _ _ _ _ _=>False
noncomputable abbrev E0:XK:=λ_ _ _=>False
theorem iA{X:Cx}:gf df X E0:=λ_ _ _ _ _ _ _ h=>h.elim
structure iT(K:W.Frag)(x qual:Str)(st:Stmt)(f:Addr)(fd:FuncData):Prop where
 ex:∃(oc:Value) (od:Option Addr) (kV doc pm:Value) (an:Option Addr) (cdv ct:Value) (osl:Array (Option Value)),
  fd=W.fnOf x qual (aA st) (ai st) (ae st) .none kV doc pm an cdv ct/\K.lookup f=some ⟨oc,od,.func fd,osl⟩/\W.codeIn K cdv qual=true
 kp:W.keepIn K (.ref f)=true
section
variable{P:Program}{w:World}{K:W.Frag}{mg:Str->Option Value}{base:Heap}
theorem iT.ok{N:List Str}{k:Nat}{sp:Sp}(F:iT K x qual st f fd)(S:au N ps (ae st))(len:∀vs H Q E,sp vs H Q E->vs.length=ps.length)
  (hbody:∀(cdv:Value) (A:Around) (outer:List Env) (s:Shared) (H:Hp) (vs:List V) (Q:VK) (E:XK),cw k (A.deeper (envOfC qual (ae st) s.heap.objs.size f cdv))->sp vs H Q E ->
   ∃t,eT (iq df P w K mg base N qual (ae st) f cdv A outer s H E).nox (ai st) t/\t { nx:=λ_ H'=>Q .non H',rt:=Q } (start N vs) H):bT P w K mg base df (k+1) f fd ps sp:=by
 obtain⟨oc,od,kV,doc,pm,an,cdv,ct,osl,rfl,lk,hcd⟩:=F.ex
 refine Ub lk hcd S len λA outer s H vs Q E hr hsp=>?_
 obtain⟨t,h,q⟩:=hbody cdv A outer s H vs Q E hr hsp
 exact⟨t,h.nox,q⟩
theorem iT.binds(F:iT K x qual st f fd)
  (h:∀(kV doc pm:Value) (an:Option Addr) (cdv ct:Value) (us:List Value),us.length=ps.length->bindArgs (W.fnOf x qual (aA st) (ai st) (ae st) .none kV doc pm an cdv ct) ⟨us,[]⟩=pure (ps.zip us)):cx K fd ps []:=by
 obtain⟨oc,od,kV,doc,pm,an,cdv,ct,osl,rfl,lk,hcd⟩:=F.ex
 exact .all (h kV doc pm an cdv ct)
theorem aP{oc:Value}{od an:Option Addr}{osl:Array (Option Value)}{kV doc pm cdv ct:Value}(l:K.lookup f=some ⟨oc,od,.func (W.fnOf x qual (aA st) (ai st) (ae st) .none kV doc pm an cdv ct),osl⟩)
  (c:W.codeIn K cdv qual=true) (k:W.keepIn K (.ref f)=true):iT K x qual st f (W.fnOf x qual (aA st) (ai st) (ae st) .none kV doc pm an cdv ct):=⟨⟨oc,od,kV,doc,pm,an,cdv,ct,osl,rfl,l,c⟩,k⟩
end
section
variable{X:Cx}
end
noncomputable def aL(H H':Hp):Prop:=∀b o,H b=some o->H' b=some o
theorem aL.refl(H:Hp):aL H H:=λ_ _ h=>h
theorem aL.trans{H1 H2:Hp}(a:aL H H1)(b:aL H1 H2):aL H H2:=λc o h=>b c o (a c o h)
theorem aL.free(e:aL H H'){l:Addr}(h:H' l=Option.none):H l=Option.none:=by
 cases q:H l with
 | none=>rfl
 | some o =>
  rw[e l o q]at h
  cases h
theorem aL.seq{K:W.Frag}{a:Addr}{xs:List V}(e:aL H H')(h:dG K H a xs):dG K H' a xs:=by
 rcases h with(h|⟨o,h⟩)|h
 ·exact .inl (.inl (e _ _ h))
 ·exact .inl (.inr ⟨o,e _ _ h⟩)
 ·exact .inr h
section
variable{κ:Type}[DecidableEq κ]
noncomputable def jX(kvs:List (κ×V))(k:κ):Option V:=(kvs.find? λkv=>decide (kv.1=k)).map (·.2)
noncomputable def gG(kvs:List (κ×V))(k:κ)(v:V):List (κ×V) :=
 if (kvs.any λkv=>decide (kv.1=k))=true then kvs.map (λkv=>if kv.1=k then(kv.1,v)else kv)else kvs++[(k,v)]
noncomputable def FN(kvs:List (κ×V))(k:κ):List (κ×V):=kvs.filter λkv=>decide (kv.1≠k)
theorem le{p:κ×V}{r:List (κ×V)}{k:κ}(e:p.1=k):jX (p::r) k=some p.2:=by simp[jX,aQ0,e]
theorem lf{p:κ×V}{r:List (κ×V)}{k:κ}(e:¬ p.1=k):jX (p::r) k=jX r k:=by simp[jX,aQ0,e]
theorem uM(k:κ):∀kvs:List (κ×V),(kvs.any λkv=>decide (kv.1=k))=(jX kvs k).isSome
 | []=>rfl
 | p::r=>by
  rw[List.any_cons]
  by_cases e:p.1=k
  ·simp only[le e,aI4 e,Bool.true_or,Option.isSome_some]
  ·rw[lf e,aH6 e,Bool.false_or];exact uM k r
theorem wP(kvs:List (κ×V))(k:κ)(v:V):(gG kvs k v).length<=kvs.length+1:=by
 unfold gG
 split
 ·rw[aH3];omega
 ·rw[aI6,aG9,aQ1];omega
theorem gn.isSome_eq{u:Option Value}(r:gn o u):o.isSome=u.isSome:=by
 cases o with
 | none=>cases u with
  | none=>rfl
  | some _=>exact(show False from r).elim
 | some _=>cases u with
  | none=>exact(show False from r).elim
  | some _=>rfl
theorem gn.getD{u:Option Value}{d:V}{d':Value}(r:gn o u)(rd:bO d d'):bO (o.getD d) (u.getD d'):=by
 cases o with
 | none=>cases u with
  | none=>exact rd
  | some _=>exact(show False from r).elim
 | some _=>cases u with
  | none=>exact(show False from r).elim
  | some _=>exact r
theorem KV.val{kvs:List (κ×V)}{vs:List (κ×Value)}(r:KV kvs vs)(k:κ):gn (jX kvs k) (valueAt vs k):=by
 unfold KV at r
 induction r with
 | nil=>exact True.intro
 | @cons p q ps qs h t ih =>
  obtain⟨h1,h2⟩:=h
  by_cases e:p.1=k
  ·have e':q.1=k:=h1.symm.trans e
   have b:valueAt (q::qs) k=some q.2:=by simp[valueAt,aQ0,e']
   rw[le e,b];exact h2
  ·have e':¬ q.1=k:=λz=>e (h1.trans z)
   have b:valueAt (q::qs) k=valueAt qs k:=by simp[valueAt,aQ0,e']
   rw[lf e,b];exact ih
theorem KV.any{kvs:List (κ×V)}{vs:List (κ×Value)}(r:KV kvs vs)(k:κ):(kvs.any λkv=>decide (kv.1=k))=vs.any λkv=>decide (kv.1=k):=by
 unfold KV at r
 induction r with
 | nil=>rfl
 | cons h t ih=>rw[List.any_cons,List.any_cons,ih,h.1]
theorem KV.repl{kvs:List (κ×V)}{vs:List (κ×Value)}(r:KV kvs vs)(k:κ)(ry:bO y u) :
  KV (kvs.map λkv=>if kv.1=k then(kv.1,y)else kv) (vs.map λkv=>if kv.1=k then(kv.1,u)else kv):=by
 unfold KV at r⊢
 induction r with
 | nil=>exact .nil
 | @cons p q ps qs h t ih =>
  rw[aH8,aH8]
  refine .cons ?_ ih
  obtain⟨h1,h2⟩:=h
  by_cases e:p.1=k
  ·rw[if_pos e,if_pos (h1.symm.trans e)];exact⟨h1,ry⟩
  ·rw[if_neg e,if_neg (λz=>e (h1.trans z))];exact⟨h1,h2⟩
theorem KV.put{kvs:List (κ×V)}{vs:List (κ×Value)}(r:KV kvs vs)(k:κ)(ry:bO y u):KV (gG kvs k y) (stored vs k u):=by
 unfold gG stored
 rw[r.any k]
 by_cases e:(vs.any λkv=>decide (kv.1=k))=true
 ·rw[if_pos e,if_pos e];exact r.repl k ry
 ·rw[if_neg e,if_neg e];exact Paired.snoc r ⟨rfl,ry⟩
theorem KV.drop{kvs:List (κ×V)}{vs:List (κ×Value)}(r:KV kvs vs)(k:κ):KV (FN kvs k) (without vs k):=by
 unfold KV at r⊢
 unfold FN without
 induction r with
 | nil=>exact .nil
 | @cons p q ps qs h t ih =>
  obtain⟨h1,h2⟩:=h
  rw[List.filter_cons,List.filter_cons]
  by_cases e:p.1=k
  ·have a:¬ decide (p.1≠k)=true:=by simp[e]
   have b:¬ decide (q.1≠k)=true:=by simp[h1.symm.trans e]
   rw[if_neg a,if_neg b];exact ih
  ·have e':¬ q.1=k:=λz=>e (h1.trans z)
   have a:decide (p.1≠k)=true:=by simp[e]
   have b:decide (q.1≠k)=true:=by simp[e']
   rw[if_pos a,if_pos b];exact .cons ⟨h1,h2⟩ ih
theorem KV.length{kvs:List (κ×V)}{vs:List (κ×Value)}(r:KV kvs vs):kvs.length=vs.length:=Paired.length r
end
theorem ze{P:Program}{w:World}{k:bM}(r:bO (kV k) u):(gJ P w).is k u=true:=by
 cases k with
 | inl i=>obtain⟨t,e⟩:=(show ∃t,u=Value.int i t from r);subst e;exact wO P w i t
 | inr x=>obtain⟨t,e⟩:=(show ∃t,u=Value.str x t from r);subst e;exact wM P w x t
end L2
set_option maxHeartbeats 4000000
namespace Sp
open PySem PySem.Spec PyProof.Rows L2
variable{K:W.Frag}{H H' H0 H1:Hp}{a c e e2 elt iter tg:Expr}{vs vs':List V}{v:V}{X:Cx}{σ:L2.St}{b it r r2 t κ κ':Bool}{i j k k2 ko n n1 n2 nn:Nat}{env:Env}{sc scope:Scope}{M:Model}{A:Around}{E Q:Value->Shared->Prop}{s:Shared}{cl:List (Str×Addr)}{f g m qual s0 x:Str}{pins:List (Addr×Obj)}{N' fs ns ps:List Str}{ch fp:List Addr}{P prog:Program}{w:World}{args cs es ifs tgs:List Expr}{ap apos cp p p1 p2 p4 pos px py q tp:Pos}{base h h' h2:Heap}{op op2:CmpOp}{body els ss:List Stmt}{α β:Type}{o:List Prop}{ks:List bM}{T:String}{hi lo:Option Expr}{tu:Addr}{cdv mc old:Value}{its xs:Array Value}{st:Stmt}{mg:Str->Option Value}{outer:List Env}{fd:FuncData}{us:List Value}
inductive D where
 | non|bl (b:Bool)|int (i:Int)|str (x:Str)|dct (ks:List bM) (ds:List D)|tup (l:List D)|lst (l:List D)|typ (n:String)|sn (n:Nat)|obj (n:Str) (ns:List Str) (ds:List D)|cls (n:Str)|dcf (ks:List bM) (ls:List (List (List Int)))|dft (at0:Addr) (ks:List bM) (ts:List (List Int))
mutual
noncomputable def D.lless:D->Bool
 | .lst _=>false
 | .dct _ _=>false
 | .tup l=>aI l
 | _=>true
noncomputable def aI:List D->Bool
 | []=>true
 | d::l=>d.lless&&aI l
end
noncomputable def wG(K:W.Frag)(H:Hp)(a:Addr)(vs:List V):Bool->Prop
 | true=>H a=some (.lst vs)
 | false=>(∃o,H a=some (.frz o (.lst vs)))\/∃(o:Obj) (its:Array Value) (n:Nat),K.lookup a=some o/\o.cls=.type "list" /\ o.dict=none/\o.data=.seq its n/\its.size<=sizeLine/\bi vs its.toList
theorem wG.sq{a:Addr}:∀{b:Bool},wG K H a vs b->dG K H a vs
 | true,h=>dG.of h
 | false,.inl ⟨o,h⟩=>.inl (.inr ⟨o,h⟩)
 | false,.inr h=>.inr h
structure Gy(K:W.Frag)(C:Addr):Prop where
 ha:W.findIn K (.ref C) "__class__" = some (some (.builtin "object.__class__"))
 hn:W.specialIn K (.builtin "object.__class__") "__get__" = some (some (.builtin "getset_descriptor.__get__"))
 ht:W.takesIn K (.builtin "object.__class__")=some true
 hm:W.mroIn K C (.type "object")=some true
noncomputable def au2:List Str:=["Deed", "Turn", "HalfTurn", "Mirror"]
noncomputable def V4(m n:Str):Bool:=decide (m=n) || (decide (n = "Deed")&&(decide (m = "Turn") || decide (m = "HalfTurn") || decide (m = "Mirror")))
structure Vz(K:W.Frag)(C:Addr)(n:Str):Prop where
 all:∀m∈au2,∀Cm,W.nsIn K mainGlobals m=some (some (.ref Cm))->Gy K Cm/\W.kitOne K (.ref Cm) (.ref C)=some (V4 m n)
noncomputable abbrev bU:=Addr->Bool->Prop
noncomputable def cz(K:W.Frag)(H:Hp):List V->List (List Int)->Prop
 | [],[]=>True
 | v::vs,ns::r=>(∃a,v=.ref a/\ck K H a (ns.map V.int)/\ns≠[])/\cz K H vs r
 | _,_=>False
theorem cz.len{K:W.Frag}{H:Hp}:∀{vs:List V} {r:List (List Int)},cz K H vs r->vs.length=r.length
 | [],[],_=>rfl
 | _::_,_::_,h=>by rw[aG9,aG9,cz.len h.2]
 | [],_::_,h=>h.elim
 | _::_,[],h=>h.elim
noncomputable def wH(K:W.Frag)(H:Hp):List (List (List Int))->List V->Prop
 | [],[]=>True
 | l::ls,v::r=>(∃a o ts,v=.ref a/\H a=some (.frz o (.lst ts))/\cz K H ts l)/\wH K H ls r
 | _,_=>False
theorem cz.keep{K:W.Frag}{H H':Hp}(k:∀a vs,ck K H a vs->ck K H' a vs):∀{bs:List V} {nss:List (List Int)},cz K H bs nss->cz K H' bs nss
 | [],[],_=>trivial
 | v::bs,ns::nss,h=>let ⟨a,e,hq,hn⟩:=h.1;⟨⟨a,e,k _ _ hq,hn⟩,cz.keep k h.2⟩
 | [],_::_,h=>h.elim
 | _::_,[],h=>h.elim
theorem wH.keep{K:W.Frag}{H H':Hp}(k:∀a vs,ck K H a vs->ck K H' a vs)(f:∀a o u,H a=some (.frz o u)->H' a=some (.frz o u)):∀{ls:List (List (List Int))} {vs:List V},wH K H ls vs->wH K H' ls vs
 | [],[],_=>trivial
 | l::ls,v::vs,h=>let ⟨a,o,ts,e,h1,h2⟩:=h.1;⟨⟨a,o,ts,e,f _ _ _ h1,h2.keep k⟩,wH.keep k f h.2⟩
 | [],_::_,h=>h.elim
 | _::_,[],h=>h.elim
mutual
noncomputable def aj(K:W.Frag)(H:Hp)(P:bU):D->V->Prop
 | .non,v=>v=.non
 | .bl b,v=>v=.bl b
 | .int i,v=>v=.int i
 | .str x,v=>v=.str x
 | .dct ks ds,v=>aI ds=true/\ks.length=ds.length/\∃a vs,v=.ref a/\H a=some (.dK (ks.zip vs))/\P a true/\am K H P ds vs
 | .typ n,v=>v=.ty n
 | .dft a0 ks ts,v=>(ks.length=ts.length/\v=.ref a0)/\∃a o vs,v=.ref a/\H a=some (.frz o (.dK (ks.zip vs)))/\cz K H vs ts
 | .dcf ks ls,v=>ks.length=ls.length/\∃a o vs,v=.ref a/\H a=some (.frz o (.dK (ks.zip vs)))/\wH K H ls vs
 | .sn n,v => ∃a S,v=.ref a/\H a=some (.set S n)
 | .cls n,v => ∃C o,v=.ref C/\W.nsIn K mainGlobals n=some (some (.ref C))/\K.lookup C=some o/\o.cls=.type "type" /\ Gy K C/\Vz K C n
 | .obj n ns ds,v=>aI ds=true/\ns.length=ds.length/\∃a C dx vs,v=.ref a/\W.nsIn K mainGlobals n=some (some (.ref C))/\eV K C/\H a=some (.ins C dx (ns.zip vs))/\am K H P ds vs
 | .tup l,v => ∃a vs,v=.ref a/\ck K H a vs/\am K H P l vs
 | .lst l,v => ∃a vs b,v=.ref a/\wG K H a vs b/\P a b/\am K H P l vs
noncomputable def am(K:W.Frag)(H:Hp)(P:bU):List D->List V->Prop
 | [],vs=>vs=[]
 | d::l,vs => ∃v r,vs=v::r/\aj K H P d v/\am K H P l r
end
noncomputable def nm:HO->Prop
 | .lst _=>False
 | .dK _=>False
 | .ext _=>False
 | _=>True
structure fR(P P':bU)(H H':Hp):Prop where
 oth:∀a o,H a=some o->nm o->H' a=some o
 lst:∀a o,H a=some o->P a true->H' a=some o
 impT:∀a o,H a=some o->P a true->P' a true
 impF:∀a,P a false->P' a false
theorem fR.sq{P P':bU}(s:fR P P' H H'){a:Addr}(h:ck K H a vs):ck K H' a vs:=by
 rcases h with(h|⟨o,h⟩)|h
 ·exact .inl (.inl (s.oth _ _ h True.intro))
 ·exact .inl (.inr ⟨o,s.oth _ _ h True.intro⟩)
 ·exact .inr h
theorem fR.ls{P P':bU}(s:fR P P' H H'){a:Addr}:∀{b:Bool},wG K H a vs b->P a b->wG K H' a vs b
 | true,h,p=>s.lst a _ h p
 | false,.inl ⟨o,h⟩,_=>.inl ⟨o,s.oth _ _ h True.intro⟩
 | false,.inr h,_=>.inr h
theorem fR.imp{P P':bU}(s:fR P P' H H'){a:Addr}:∀{b:Bool},wG K H a vs b->P a b->P' a b
 | true,h,p=>s.impT a _ h p
 | false,_,p=>s.impF a p
mutual
theorem aj.mono{K:W.Frag}{P P':bU}{H H':Hp}(s:fR P P' H H'):∀{d:D} {v:V},aj K H P d v->aj K H' P' d v
 | .non,v,h=>by rw[aj]at h⊢;exact h
 | .bl b,v,h=>by rw[aj]at h⊢;exact h
 | .int i,v,h=>by rw[aj]at h⊢;exact h
 | .str x,v,h=>by rw[aj]at h⊢;exact h
 | .dct ks ds,v,h=>by
  rw[aj]at h⊢
  obtain⟨f,e0,a,vs,e,h1,p,r⟩:=h
  exact⟨f,e0,a,vs,e,s.lst _ _ h1 p,s.impT _ _ h1 p,am.mono s r⟩
 | .typ n,v,h=>by rw[aj]at h⊢;exact h
 | .dft a0 ks ts,v,h=>by
  rw[aj]at h⊢
  obtain⟨e0,a,o,vs,e,h1,r⟩:=h
  exact⟨e0,a,o,vs,e,s.oth _ _ h1 True.intro,r.keep λ_ _ z=>s.sq z⟩
 | .dcf ks ls,v,h=>by
  rw[aj]at h⊢
  obtain⟨e0,a,o,vs,e,h1,r⟩:=h
  exact⟨e0,a,o,vs,e,s.oth _ _ h1 True.intro,r.keep (λ_ _ z=>s.sq z) λ_ _ _ z=>s.oth _ _ z True.intro⟩
 | .sn n,v,h=>by
  rw[aj]at h⊢
  obtain⟨a,S,e,h⟩:=h
  exact⟨a,S,e,s.oth _ _ h True.intro⟩
 | .cls n,v,h=>by rw[aj]at h⊢;exact h
 | .obj n ns ds,v,h=>by
  rw[aj]at h⊢
  obtain⟨f,e0,a,C,dx,vs,e,h1,h2,h3,r⟩:=h
  exact⟨f,e0,a,C,dx,vs,e,h1,h2,s.oth _ _ h3 True.intro,am.mono s r⟩
 | .tup l,v,h=>by
  rw[aj]at h⊢
  obtain⟨a,vs,e,h,r⟩:=h
  exact⟨a,vs,e,s.sq h,am.mono s r⟩
 | .lst l,v,h=>by
  rw[aj]at h⊢
  obtain⟨a,vs,b,e,h,p,r⟩:=h
  exact⟨a,vs,b,e,s.ls h p,s.imp h p,am.mono s r⟩
theorem am.mono{K:W.Frag}{P P':bU}{H H':Hp}(s:fR P P' H H'):∀{l:List D} {vs:List V},am K H P l vs->am K H' P' l vs
 | [],vs,h=>by rw[am]at h⊢;exact h
 | d::l,vs,h=>by
  rw[am]at h⊢
  obtain⟨v,r,e,h1,h2⟩:=h
  exact⟨v,r,e,aj.mono s h1,am.mono s h2⟩
end
theorem fR.same{P P':bU}(s:aL H H')(i:∀a b,P a b->P' a b):fR P P' H H':=⟨λa o h _=>s a o h,λa vs h _=>s a _ h,λa _ _ p=>i a true p,λa p=>i a false p⟩
theorem aj.same{P:bU}(s:aL H H'){d:D}(h:aj K H P d v):aj K H' P d v:=h.mono (.same s λ_ _ p=>p)
theorem am.same{P:bU}(s:aL H H'){d:List D}{v:List V}(h:am K H P d v):am K H' P d v:=h.mono (.same s λ_ _ p=>p)
theorem aj.imp{P P':bU}(i:∀a b,P a b->P' a b){d:D}(h:aj K H P d v):aj K H P' d v:=h.mono (.same (aL.refl _) i)
theorem am.imp{P P':bU}(i:∀a b,P a b->P' a b){d:List D}{v:List V}(h:am K H P d v):am K H P' d v:=h.mono (.same (aL.refl _) i)
theorem aj.impH{P P':bU}(i:∀a o,H a=some o->P a true->P' a true)(j:∀a,P a false->P' a false){d:D}(h:aj K H P d v):aj K H P' d v:=h.mono ⟨λ_ _ h _=>h,λ_ _ h _=>h,i,j⟩
theorem am.impH{P P':bU}(i:∀a o,H a=some o->P a true->P' a true)(j:∀a,P a false->P' a false){d:List D}{v:List V}(h:am K H P d v):am K H P' d v:=h.mono ⟨λ_ _ h _=>h,λ_ _ h _=>h,i,j⟩
mutual
theorem aj.flat{K:W.Frag}{P:bU}(P':bU){H:Hp}:∀{d:D} {v:V},d.lless=true->aj K H P d v->aj K H P' d v
 | .non,v,_,h=>by rw[aj]at h⊢;exact h
 | .bl b,v,_,h=>by rw[aj]at h⊢;exact h
 | .int i,v,_,h=>by rw[aj]at h⊢;exact h
 | .str x,v,_,h=>by rw[aj]at h⊢;exact h
 | .dct _ _,v,f,h=>by rw[D.lless]at f;cases f
 | .typ n,v,_,h=>by rw[aj]at h⊢;exact h
 | .dcf _ _,v,_,h=>by rw[aj]at h⊢;exact h
 | .dft _ _ _,v,_,h=>by rw[aj]at h⊢;exact h
 | .sn n,v,_,h=>by rw[aj]at h⊢;exact h
 | .cls n,v,_,h=>by rw[aj]at h⊢;exact h
 | .obj n ns ds,v,_,h=>by
  rw[aj]at h⊢
  obtain⟨f,e0,a,C,dx,vs,e,h1,h2,h3,r⟩:=h
  exact⟨f,e0,a,C,dx,vs,e,h1,h2,h3,am.flat P' f r⟩
 | .tup l,v,f,h=>by
  rw[aj]at h⊢
  obtain⟨a,vs,e,h,r⟩:=h
  exact⟨a,vs,e,h,am.flat P' (by rw[D.lless]at f;exact f) r⟩
 | .lst l,v,f,h=>by rw[D.lless]at f;cases f
theorem am.flat{K:W.Frag}{P:bU}(P':bU){H:Hp}:∀{l:List D} {vs:List V},aI l=true->am K H P l vs->am K H P' l vs
 | [],vs,_,h=>by rw[am]at h⊢;exact h
 | d::l,vs,f,h=>by
  rw[am]at h⊢
  rw[aI,aH4]at f
  obtain⟨v,r,e,h1,h2⟩:=h
  exact⟨v,r,e,aj.flat P' f.1 h1,am.flat P' f.2 h2⟩
end
theorem am.length{P:bU}:∀{l:List D} {vs:List V},am K H P l vs->l.length=vs.length
 | [],vs,h=>by rw[am]at h;subst h;rfl
 | d::l,vs,h=>by
  rw[am]at h
  obtain⟨v,r,e,h1,h2⟩:=h
  subst e
  rw[aG9,aG9,h2.length]
theorem am.get{K:W.Frag}{P:bU}{H:Hp}:∀{l:List D} {vs:List V} {i:Nat} {d:D},am K H P l vs->l[i]?=some d->∃v,vs[i]?=some v/\aj K H P d v
 | [],vs,i,d,h,e=>by simp at e
 | x::l,vs,0,d,h,e=>by
  rw[am]at h
  obtain⟨v,r,rfl,h1,h2⟩:=h
  simp at e;subst e
  exact⟨v,by simp,h1⟩
 | x::l,vs,i+1,d,h,e=>by
  rw[am]at h
  obtain⟨v,r,rfl,h1,h2⟩:=h
  obtain⟨u,h3,h4⟩:=am.get (i:=i) h2 (by simpa using e)
  exact⟨u,by simpa using h3,h4⟩
theorem am.append{K:W.Frag}{P:bU}{H:Hp}:∀{l m:List D} {vs ws:List V},am K H P l vs->am K H P m ws->am K H P (l++m) (vs++ws)
 | [],m,vs,ws,h,g=>by rw[am]at h;subst h;exact g
 | d::l,m,vs,ws,h,g=>by
  rw[am]at h
  obtain⟨v,r,rfl,h1,h2⟩:=h
  show am K H P (d::(l++m)) (v::(r++ws))
  rw[am]
  exact⟨v,_,rfl,h1,am.append h2 g⟩
theorem am.one{P:bU}{d:D}(h:aj K H P d v):am K H P [d] [v]:=by
 rw[am];exact⟨v,[],rfl,h,by rw[am]⟩
theorem am.nil{P:bU}:am K H P [] []:=by rw[am]
theorem am.cons{P:bU}{d:D}{l:List D}(h:aj K H P d v)(g:am K H P l vs):am K H P (d::l) (v::vs):=by
 rw[am];exact⟨v,vs,rfl,h,g⟩
theorem am.take{K:W.Frag}{P:bU}{H:Hp}:∀{l:List D} {vs:List V} (n:Nat),am K H P l vs->am K H P (l.take n) (vs.take n)
 | [],vs,n,h=>by rw[am]at h;subst h;simp;exact am.nil
 | d::l,vs,0,h=>by simp;exact am.nil
 | d::l,vs,n+1,h=>by
  rw[am]at h
  obtain⟨v,r,rfl,h1,h2⟩:=h
  exact am.cons h1 (am.take n h2)
theorem am.drop{K:W.Frag}{P:bU}{H:Hp}:∀{l:List D} {vs:List V} (n:Nat),am K H P l vs->am K H P (l.drop n) (vs.drop n)
 | [],vs,n,h=>by rw[am]at h;subst h;simp;exact am.nil
 | d::l,vs,0,h=>h
 | d::l,vs,n+1,h=>by
  rw[am]at h
  obtain⟨v,r,rfl,h1,h2⟩:=h
  exact am.drop n h2
theorem am.mapInt{K:W.Frag}{P:bU}{H:Hp}:∀{ns:List Int} {vs:List V},am K H P (ns.map D.int) vs->vs=ns.map V.int
 | [],vs,h=>by rw[aN0,am]at h;exact h
 | n::ns,vs,h=>by
  rw[aH8,am]at h
  obtain⟨v,r,rfl,h1,h2⟩:=h
  rw[aj]at h1
  rw[h1,am.mapInt h2];rfl
theorem am.ofInts{K:W.Frag}{P:bU}{H:Hp}:∀{ns:List Int},am K H P (ns.map D.int) (ns.map V.int)
 | []=>am.nil
 | n::ns=>am.cons (by rw[aj]) am.ofInts
noncomputable abbrev Ow:=Addr->Option (Option Str)
noncomputable def Kp(ow:Ow)(H:Hp):Nat->bU
 | 0=>λa b=>b=true/\H a=none
 | 1=>λa b=>b=true->ow a=none
 | 2=>λa b=>b=true/\(ow a≠none\/H a=none)
 | _=>λ_ _=>True
noncomputable def kj:Nat->Nat->Nat
 | 0,k=>k
 | k,0=>k
 | 1,1=>1
 | 2,2=>2
 | _,_=>3
noncomputable def mF(ow:Ow)(x:Str):Bool->bU
 | true=>λa b=>b=true/\ow a=some (some x)
 | false=>λa b=>b=true->ow a=none
noncomputable def fy(ow:Ow)(H:Hp):Prop:=∀a,ow a≠none->∃o,H a=some o
theorem fy.same{ow:Ow}(o:fy ow H)(s:aL H H'):fy ow H':=λa h=>let ⟨x,e⟩:=o a h;⟨x,s a x e⟩
theorem fy.free{ow:Ow}(o:fy ow H){a:Addr}(h:H a=none):ow a=none:=by
 cases e:ow a with
 | none=>rfl
 | some x=>obtain⟨y,q⟩:=o a (by rw[e];exact(λz=>nomatch z));rw[h]at q;cases q
theorem Kp.back{ow:Ow}(s:aL H H'):∀(k:Nat) (a:Addr) (b:Bool),Kp ow H' k a b->Kp ow H k a b
 | 0,a,b,h=>⟨h.1,s.free h.2⟩
 | 1,a,b,h=>h
 | 2,a,b,h=>⟨h.1,h.2.imp id λz=>s.free z⟩
 | _+3,a,b,h=>True.intro
theorem Kp.joinL{ow:Ow}(o:fy ow H):∀(k j:Nat) (a:Addr) (b:Bool),Kp ow H k a b->Kp ow H (kj k j) a b
 | 0,0,a,b,h=>h
 | 0,1,a,b,h=>λ_=>o.free h.2
 | 0,2,a,b,h=>⟨h.1,.inr h.2⟩
 | 0,_+3,a,b,h=>True.intro
 | 1,0,a,b,h=>h
 | 1,1,a,b,h=>h
 | 1,2,a,b,h=>True.intro
 | 1,_+3,a,b,h=>True.intro
 | 2,0,a,b,h=>h
 | 2,1,a,b,h=>True.intro
 | 2,2,a,b,h=>h
 | 2,_+3,a,b,h=>True.intro
 | _+3,0,a,b,h=>True.intro
 | _+3,1,a,b,h=>True.intro
 | _+3,2,a,b,h=>True.intro
 | _+3,_+3,a,b,h=>True.intro
theorem Js:∀k j,kj k j=kj j k
 | 0,0|0,1|0,2|0,_+3|1,0|1,1|1,2|1,_+3|2,0|2,1|2,2|2,_+3|_+3,0|_+3,1|_+3,2|_+3,_+3=>rfl
theorem Kp.joinR{ow:Ow}(o:fy ow H)(k j:Nat)(a:Addr)(b:Bool)(h:Kp ow H j a b):Kp ow H (kj k j) a b:=by
 rw[Js];exact Kp.joinL o j k a b h
noncomputable abbrev al:=Str->Option (D×Bool)
structure aR(X:Cx)(ow:Ow)(H:Hp)(σ:L2.St)(ρ:al):Prop where
 get:∀x d o,ρ x=some (d,o)->∃(i:Nat) (v:V),X.N[i]?=some x/\eB X.env.scope x/\σ[i]?=some (some v)/\aj X.K H (mF ow x o) d v
 own:fy ow H
theorem aR.same{ow:Ow}{ρ:al}(e:aR X ow H σ ρ)(s:aL H H'):aR X ow H' σ ρ :=
 ⟨λx d o h=>let ⟨i,v,h1,h2,h3,h4⟩:=e.get x d o h;⟨i,v,h1,h2,h3,h4.same s⟩,e.own.same s⟩
noncomputable def tD(X:Cx)(ow:Ow)(ρ:al)(d:D)(k:Nat):TE:=λσ H Q=>aR X ow H σ ρ/\∀v H',aL H H'->aj X.K H' (Kp ow H k) d v->Q v H'
noncomputable def ED(X:Cx)(ρ:al)(e:Expr)(d:D)(k:Nat):Prop:=∀ow,PE X e (tD X ow ρ d k)
noncomputable def EL(X:Cx)(ow:Ow)(ρ:al)(b:Bool):TT:=λσ H Q=>aR X ow H σ ρ/\∀H',aL H H'->Q b H'
noncomputable def TD(X:Cx)(ρ:al)(e:Expr)(b:Bool):Prop:=∀ow,PT X e (EL X ow ρ b)
noncomputable def tAD(X:Cx)(ow:Ow)(ρ:al)(ds:List D)(k:Nat):TA:=λσ H Q=>aR X ow H σ ρ/\∀vs H',aL H H'->am X.K H' (Kp ow H k) ds vs->Q vs H'
noncomputable def AD(X:Cx)(ρ:al)(es:List Expr)(ds:List D)(k:Nat):Prop:=∀ow,PA X es (tAD X ow ρ ds k)
theorem bS{t t':TE}(h:PE X e t)(i:∀σ H Q,t' σ H Q->t σ H Q):PE X e t':=λpins s σ H Q I q=>h pins s σ H Q I (i σ H Q q)
theorem zV{t t':TT}(h:PT X e t)(i:∀σ H Q,t' σ H Q->t σ H Q):PT X e t':=λpins s σ H Q I q=>h pins s σ H Q I (i σ H Q q)
theorem Gs{e:List Expr}{t t':TA}(h:PA X e t)(i:∀σ H Q,t' σ H Q->t σ H Q):PA X e t':=λpos pins s σ H Q I q=>h pos pins s σ H Q I (i σ H Q q)
noncomputable def kn(d:D)(k:Nat):Nat:=if d.lless=true then 0 else k
theorem ED.kn{ρ:al}{d:D}(h:ED X ρ e d k):ED X ρ e d (Sp.kn d k):=by
 unfold Sp.kn
 by_cases f:d.lless=true
 ·rw[if_pos f]
  exact λow=>bS (h ow) λσ H Q ⟨E,q⟩=>⟨E,λv H' s r=>q v H' s (r.flat _ f)⟩
 ·rw[if_neg f];exact h
variable{C C' ρ ρ':al}{d y z:D}{ow ow':Ow}{ds l l':List D}
noncomputable def VL(K:W.Frag)(J:It)(ds:List D)(P:bU)(H1:Hp):Prop :=
 ∀(i:Nat) (H2:Hp),fR P P H1 H2->(∀d,ds[i]?=some d->J.go i H2/\∀x H3,J.yld i H2 x H3->aL H2 H3/\aj K H3 P d x)/\(ds.length<=i->J.stop i H2)
noncomputable def Kd(ow:Ow)(H:Hp)(k:Nat)(H1:Hp):bU:=λa b=>Kp ow H k a b/\(b=true->∃o,H1 a=some o)
noncomputable def tI(X:Cx)(ow:Ow)(ρ:al)(ds:List D)(k:Nat):TI:=λσ H R=>aR X ow H σ ρ/\∀J H1,aL H H1->VL X.K J ds (Kd ow H k H1) H1->R J H1
noncomputable def IE(X:Cx)(ρ:al)(tg iter:Expr)(ds:List D)(k:Nat):Prop:=∀ow,PI X tg iter (tI X ow ρ ds k)
noncomputable def jt(ifs:List Expr)(env:Env):Sem Bool:=forIn ifs true λc r=>if r=true then do let ok <- isTrue c env (eval c env);pure (ForInStep.yield ok)else pure (ForInStep.yield r)
noncomputable def BR(X:Cx)(ρ:al)(ifs:List Expr)(b:Bool):Prop:=∀ow (pins:List (Addr×Obj)) (s:Shared) (σ:L2.St) (H:Hp) (Q:Bool->Hp->Prop),aq X pins σ H s->EL X ow ρ b σ H Q->wpAny (model X.prog X.w) X.A (jt ifs X.env) (TP X pins σ Q) X.xe s
noncomputable def GD(X:Cx)(ρ:al)(tg:Expr)(d:D)(ρ':al):Prop:=∃g:TG,PG X tg g/\∀(ow:Ow) (v:V) (σ:L2.St) (H:Hp) (Q:L2.St->Hp->Prop),σ.length=X.N.length->aR X ow H σ ρ->aj X.K H (λa b=>b=true->ow a=none) d v->(∀σ',σ'.length=X.N.length->aR X ow H σ' ρ'->Q σ' H)->g v σ H Q
noncomputable abbrev mP(X:Cx)(scope:Scope)(cl:List (Str×Addr))(C:Addr)(N':List Str)(s:Shared)(H:Hp)(fp:List Addr):Cx :=
 { X with N:=N',s₀:=s,H₀:=H,env:=compEnvC scope cl C X.env,outer:=X.stack,stack:=X.stack,ex:=fp,fn:=λx=>decide (scope.names.lookup x=some .cell),pn:=[],xe:=λ_ _=>False }
theorem jC{env:Env}:∀(names:List (Str×NameKind)) (cs:List (Str×Addr)),(∀n,(n,NameKind.free)∈names->∃c,env.cells.lookup n=some c) ->
  ∃cl,(forIn names cs (λ(x:Str×NameKind) (r:List (Str×Addr))=>(if (x.2==NameKind.free)=true then do let a <- cellOf env x.1;pure (ForInStep.yield ((x.1,a)::r))else pure (ForInStep.yield r):Sem (ForInStep (List (Str×Addr))))))=(pure cl:Sem (List (Str×Addr))) /\
   (∀x c,cl.lookup x=some c->(env.cells.lookup x=some c/\(x,NameKind.free)∈names)\/cs.lookup x=some c)/\(∀x,(x,NameKind.free)∈names->∃c,cl.lookup x=some c)/\(∀x c,cs.lookup x=some c->∃c',cl.lookup x=some c')
 | [],cs,_=>⟨cs,rfl,λx c h=>.inr h,λx h=>(by cases h),λx c h=>⟨c,h⟩⟩
 | (n,k)::r,cs,h=>by
  have hr:∀n,(n,NameKind.free)∈r->∃c,env.cells.lookup n=some c:=λm hm=>h m (aG1 _ hm)
  by_cases hk:k=.free
  ·subst hk
   obtain⟨c,hc⟩:=h n aG0
   obtain⟨cl,e,h1,h2,h3⟩:=jC r ((n,c)::cs) hr
   refine⟨cl,?_,λx c' hx=>?_,λx hx=>?_,λx c' hx=>?_⟩
   ·rw[aO9]
    simp only[beq_self_eq_true,aP3,cellOf,hc]
    rw[pure_bind,pure_bind]
    exact e
   ·rcases h1 x c' hx with q|q
    ·exact .inl ⟨q.1,aG1 _ q.2⟩
    ·rw[aG6]at q
     split at q
     ·rename_i hb
      have:x=n:=by simpa using hb
      subst this;cases q;exact .inl ⟨hc,aG0⟩
     ·exact .inr q
   ·rcases aF8.mp hx with q|q
    ·cases q
     exact h3 n c (by simp)
    ·exact h2 x q
   ·by_cases hb:x==n
    ·exact h3 x c (by rw[aG6,hb])
    ·exact h3 x c' (by rw[aG6];simp only[hb];exact hx)
  ·obtain⟨cl,e,h1,h2,h3⟩:=jC r cs hr
   refine⟨cl,?_,λx c hx=>(h1 x c hx).imp (λq=>⟨q.1,aG1 _ q.2⟩) id,λx hx=>?_,h3⟩
   ·rw[aO9]
    have:(k==NameKind.free)=false:=by simpa using hk
    simp only[this,Bool.false_eq_true,if_false]
    rw[pure_bind]
    exact e
   ·rcases aF8.mp hx with q|q
    ·cases q;exact absurd rfl hk
    ·exact h2 x q
theorem wR(h:∀n,(n,NameKind.free)∈scope.names->∃c,env.cells.lookup n=some c) :
  ∃cl,closureFor scope env=pure cl/\(∀x c,cl.lookup x=some c->env.cells.lookup x=some c/\(x,NameKind.free)∈scope.names)/\(∀x,(x,NameKind.free)∈scope.names->∃c,cl.lookup x=some c):=by
 obtain⟨cl,e,h1,h2,_⟩:=jC scope.names [] h
 refine⟨cl,?_,λx c hx=>(h1 x c hx).resolve_right (by simp),h2⟩
 unfold closureFor
 rw[<- e,<- bind_pure (forIn scope.names _ _)]
theorem eF{env:Env}:∀{names:List (Str×NameKind)} {x:Str},names.lookup x=some .free ->
  (names.map λ(n,k)=>if (k==NameKind.free&&env.scope.kind == .function&&env.kindOf n==some .cell)then(n,NameKind.cell)else(n,k)).lookup x=some .cell \/
  (names.map λ(n,k)=>if (k==NameKind.free&&env.scope.kind == .function&&env.kindOf n==some .cell)then(n,NameKind.cell)else(n,k)).lookup x=some .free
 | [],_,h=>by simp at h
 | (n,k)::r,x,h=>by
  have ih:=@eF env r x
  show List.lookup x ((if (k==NameKind.free&&env.scope.kind == .function&&env.kindOf n==some .cell)=true then(n,NameKind.cell)else(n,k))::_)=_\/List.lookup x ((if (k==NameKind.free&&env.scope.kind == .function&&env.kindOf n==some .cell)=true then(n,NameKind.cell)else(n,k))::_)=_
  cases hx:x==n with
  | true =>
   simp only[aG6,hx]at h
   cases h
   by_cases hc:(NameKind.free==NameKind.free&&env.scope.kind == .function&&env.kindOf n==some .cell)=true
   ·rw[if_pos hc];simp[aG6,hx]
   ·rw[if_neg hc];simp[aG6,hx]
  | false =>
   simp only[aG6,hx]at h
   by_cases hc:(k==NameKind.free&&env.scope.kind == .function&&env.kindOf n==some .cell)=true
   ·rw[if_pos hc];simp only[aG6,hx];exact ih h
   ·rw[if_neg hc];simp only[aG6,hx];exact ih h
theorem im{env:Env}:∀{names:List (Str×NameKind)} {x:Str} {k:NameKind},(names.map λ(n,k)=>if (k==NameKind.free&&env.scope.kind == .function&&env.kindOf n==some .cell)then(n,NameKind.cell)else(n,k)).lookup x=some k ->
  names.lookup x=some k\/(k=.cell/\names.lookup x=some .free)
 | [],_,_,h=>by simp at h
 | (n,j)::r,x,k,h=>by
  have ih:=@im env r x k
  replace h:List.lookup x ((if (j==NameKind.free&&env.scope.kind == .function&&env.kindOf n==some .cell)=true then(n,NameKind.cell)else(n,j))::_)=some k:=h
  cases hx:x==n with
  | true =>
   simp only[aG6,hx]
   by_cases hc:(j==NameKind.free&&env.scope.kind == .function&&env.kindOf n==some .cell)=true
   ·rw[if_pos hc]at h
    simp only[aG6,hx]at h
    cases h
    have:j=.free:=by
     have:=(aH4 _ _).mp ((aH4 _ _).mp hc).1
     simpa using this.1
    exact .inr ⟨rfl,by rw[this]⟩
   ·rw[if_neg hc]at h
    simp only[aG6,hx]at h
    exact .inl h
  | false =>
   simp only[aG6,hx]
   by_cases hc:(j==NameKind.free&&env.scope.kind == .function&&env.kindOf n==some .cell)=true
   ·rw[if_pos hc]at h;simp only[aG6,hx]at h;exact ih h
   ·rw[if_neg hc]at h;simp only[aG6,hx]at h;exact ih h
structure iU(env:Env)(scope:Scope)(N':List Str):Prop where
 kind:scope.kind=.function
 nn:(scope.names.map (·.1)).Nodup
 names:∀y∈scope.names,y.2=.local->scope.names.lookup y.1=some .local
 nd:N'.Nodup
 fr:∀n,(n,NameKind.free)∈scope.names->env.kindOf n=some .cell\/env.kindOf n=some .free
theorem kL:∀{names:List (Str×NameKind)} {x:Str} {k:NameKind},(names.map (·.1)).Nodup->(x,k)∈names->names.lookup x=some k
 | [],_,_,_,h=>by cases h
 | (n,j)::r,x,k,nd,h=>by
  rw[aH8,aP9]at nd
  rcases aF8.mp h with e|h'
  ·cases e;simp
  ·have hx:(x==n)=false:=by
    cases q:x==n with
    | false=>rfl
    | true =>
     have:x=n:=by simpa using q
     subst this
     have hm:x∈r.map (·.1):=aK0.mpr ⟨(x,k),h',rfl⟩
     exact absurd hm nd.1
   rw[aG6,hx]
   exact kL nd.2 h'
theorem qJ:∀(names:List (Str×NameKind)) (n:Nat) (acc:List (Str×Addr)) {x:Str} {c:Addr},(cellsFrom n names acc).lookup x=some c->acc.lookup x=some c\/(n<=c/\(x,NameKind.cell)∈names)
 | [],_,_,_,_,h=>.inl h
 | (y,k)::r,n,acc,x,c,h=>by
  unfold cellsFrom at h
  split at h
  ·rename_i hk
   have hk:k=.cell:=by simpa using hk
   subst hk
   rcases qJ r (n+1) ((y,n)::acc) h with q|⟨q1,q2⟩
   ·rw[aG6]at q
    split at q
    ·rename_i hb
     have:x=y:=by simpa using hb
     subst this
     cases q
     exact .inr ⟨aF9 _,aG0⟩
    ·exact .inl q
   ·exact .inr ⟨by omega,aG1 _ q2⟩
  ·rcases qJ r n acc h with q|⟨q1,q2⟩
   ·exact .inl q
   ·exact .inr ⟨q1,aG1 _ q2⟩
theorem wf:∀(names:List (Str×NameKind)) (n:Nat) (acc:List (Str×Addr)),(∀x y c,acc.lookup x=some c->acc.lookup y=some c->x=y)->(∀x c,acc.lookup x=some c->c<n) ->
  ∀x y c,(cellsFrom n names acc).lookup x=some c->(cellsFrom n names acc).lookup y=some c->x=y
 | [],_,_,h,_,x,y,c,a,b=>h x y c a b
 | (z,k)::r,n,acc,h,hb,x,y,c,a,b=>by
  unfold cellsFrom at a b
  split at a
  ·rename_i hk
   rw[if_pos hk]at b
   refine wf r (n+1) ((z,n)::acc) (λu v d p q=>?_) (λu d p=>?_) x y c a b
   ·rw[aG6]at p q
    split at p
    ·rename_i e1
     split at q
     ·rename_i e2
      rw[show u=z by simpa using e1,show v=z by simpa using e2]
     ·cases p;exact absurd (hb v _ q) (aJ7 _)
    ·split at q
     ·cases q;exact absurd (hb u _ p) (aJ7 _)
     ·exact h u v d p q
   ·rw[aG6]at p
    split at p
    ·cases p;exact aJ1 _
    ·exact Nat.lt_succ_of_lt (hb u d p)
  ·rename_i hk
   rw[if_neg hk]at b
   exact wf r n acc h hb x y c a b
theorem sv:∀(names:List (Str×NameKind)) (h:Heap) (acc:List (Str×Addr)),(∀x c,acc.lookup x=some c->∃v,h.IsCell c v)->∀x c,(cellsFrom h.objs.size names acc).lookup x=some c->∃v,(pushCells h names).IsCell c v
 | [],_,_,h,x,c,a=>h x c a
 | (z,k)::r,h,acc,hc,x,c,a=>by
  unfold cellsFrom at a
  unfold pushCells
  split at a
  ·rename_i hk
   rw[if_pos hk]
   have:=sv r (h.push { cls:=.type "cell", data:=.cell none }) ((z,h.objs.size)::acc) (λu d p=>?_) x c
   ·rw[aL2]at this
    exact this a
   ·rw[aG6]at p
    split at p
    ·cases p;exact⟨none,_,aG5 _ rfl,rfl⟩
    ·obtain⟨v,q⟩:=hc u d p
     exact⟨v,q.keeps λb o e=>aF6 _ e⟩
  ·rename_i hk
   rw[if_neg hk]
   exact sv r h acc hc x c a
theorem Aa{globals:Addr}{Q:Env->Shared->Prop}(hcl:∀x c,cl.lookup x=some c->∃v,s.heap.IsCell c v)
  (h:∀h',h'.Ns s.heap.objs.size (λ_=>none)->(∀b o,s.heap.get? b=some o->h'.get? b=some o)->(∀x c,(cellsFrom (s.heap.objs.size+1) scope.names cl).lookup x=some c->∃v,h'.IsCell c v) ->
   Q (newEnv scope s.heap.objs.size globals (cellsFrom (s.heap.objs.size+1) scope.names cl) qual none .none (some env) builtinsNs) { s with heap:=h',toks:=s.toks+0 }) :
  wpAny M A (newFunctionEnv scope globals cl [] qual none .none (some env)) Q E s:=by
 simp only[newFunctionEnv,Option.isSome_some,aP3]
 refine aF4 (wpAny_alloc ?_)
 refine aF4 (wpAny_layCells _ (λname kind cells=>by cases hkc:kind==NameKind.cell<;>simp[hkc]) _ _ _ _ ?_)
 rw[show({ s with heap:=s.heap.push { cls:=.type "dict", data:=.dict #[] } }:Shared).heap.objs.size=s.heap.objs.size+1 from aL2 ..]
 rw[List.forIn_nil]
 refine aF4 (aG3 (aG3 ?_))
 refine h _ ((Heap.Ns.new s.heap (.type "dict")).keeps (pushCells_keeps _ _)) (λb o e=>pushCells_keeps _ _ b o (aF6 _ e)) λx c hc=>?_
 have:=sv scope.names (s.heap.push { cls:=.type "dict", data:=.dict #[] }) cl (λu d p=>by
  obtain⟨v,q⟩:=hcl u d p
  exact⟨v,q.keeps λb o e=>aF6 _ e⟩) x c
 rw[aL2]at this
 exact this hc
structure n5(X:Cx)(scope:Scope)(cl:List (Str×Addr))(n:Nat):Prop where
 k1:∀x c,cl.lookup x=some c->X.env.cells.lookup x=some c\/(n<c/\scope.names.lookup x=some .cell)
 k2:∀x,scope.names.lookup x=some .free\/scope.names.lookup x=some .cell->∃c,cl.lookup x=some c
 k4:∀x y c,cl.lookup x=some c->cl.lookup y=some c->x=y
 k5:∀x c,scope.names.lookup x=some .cell->cl.lookup x=some c->n<=c
variable{X:Cx}
theorem DY(I:aq X pins σ H s)(S:iU X.env scope N')
  (h1:∀x c,cl.lookup x=some c->X.env.cells.lookup x=some c/\(x,NameKind.free)∈scope.names) (h2:∀x,(x,NameKind.free)∈scope.names->∃c,cl.lookup x=some c) :
  n5 X scope (cellsFrom (s.heap.objs.size+1) scope.names cl) s.heap.objs.size where
 k1:=λx c h=>by
  rcases qJ _ _ _ h with q|⟨q1,q2⟩
  ·exact .inl (h1 x c q).1
  ·exact .inr ⟨q1,kL S.nn q2⟩
 k2:=λx h=>by
  refine Option.isSome_iff_exists.mp (W.cellsFrom_some scope.names _ cl ?_)
  rcases h with h|h
  ·obtain⟨c,hc⟩:=h2 x (aH0 h)
   exact .inr (by rw[hc];rfl)
  ·exact .inl h
 k4:=wf scope.names _ cl (λx y c a b=>I.ok.inj x y c (h1 x c a).1 (h1 y c b).1) λx c a=>by
  obtain⟨v,hv⟩:=I.cell x c (h1 x c a).1
  exact Nat.lt_succ_of_lt hv.lt
 k5:=λx c hx h=>by
  rcases qJ _ _ _ h with q|⟨q1,q2⟩
  ·rw[kL S.nn (h1 x c q).2]at hx;cases hx
  ·omega
theorem RN{C:Addr}(I:aq X pins σ H s)(S:iU X.env scope N')
  (hC:s.heap.objs.size<=C) (k:n5 X scope cl s.heap.objs.size)
  (hf:∀b∈fp,iw X pins H b) (hfC:∀b∈fp,b<s.heap.objs.size):(mP X scope cl C N' s H fp).Ok where
 mod:=I.ok.mod
 kind:=by show(relabel scope X.env).kind=_;exact S.kind
 glob:=I.ok.glob
 blt:=I.ok.blt
 above:=hC
 inj:=k.k4
 has:=λx hx=>by
  have hx:(relabel scope X.env).names.lookup x=some .cell\/(relabel scope X.env).names.lookup x=some .free:=hx
  rcases hx with hx|hx
  ·rcases im hx with q|⟨_,q⟩
   ·exact k.k2 x (.inr q)
   ·exact k.k2 x (.inl q)
  ·rcases im hx with q|⟨q,_⟩
   ·exact k.k2 x (.inl q)
   ·cases q
 cab:=λx c h hc=>k.k5 x c (aM4 h) hc
 hd:=I.ok.hd
 frames:=I.ok.frames
 stk:=.inl rfl
 exf:=λb hb=>⟨by have:=hfC b hb;intro z;subst z;show False;exact absurd (aG7 this hC) (aJ7 _),λx c h=>by
  rcases k.k1 x c h with q|⟨q,_⟩
  ·exact(hf b hb).2.2.2.2.1 x c q
  ·have:=hfC b hb
   intro z;subst z;exact absurd (aK1 q this) (aJ7 _)⟩
 bs:=I.bs
 bsz:=aF5 I.ok.bsz I.sz
 noex:=λb o e hb=>by
  rcases(hf b hb).2.2.2.1 with q|q
  ·exact I.ok.noex b o e q
  ·exact absurd (aG7 (aG2 e) (aF5 I.ok.bsz q)) (aJ7 _)
 exfs:=λb hb z=>by
  rcases aF8.mp (I.stkSub b z)with q|q
  ·exact(hf b hb).2.1 q
  ·exact(hf b hb).2.2.1 q
 funs:=I.stack
 frf:=I.stkFree
noncomputable def oJ(X:Cx)(scope:Scope)(N':List Str)(σ:L2.St):L2.St:=N'.map λx=>if scope.names.lookup x=some .free then(σ[X.N.idxOf x]?).join else none
theorem Nh{s1:Shared}{m:Str->Option Value}(I:aq X pins σ H s)(S:iU X.env scope N')
  (k:n5 X scope cl s.heap.objs.size) (k6:∀x c,cl.lookup x=some c->∃v,s1.heap.IsCell c v)
  (hf:∀b∈fp,iw X pins H b) (hfC:∀b∈fp,b<s.heap.objs.size)
  (es:∃h t,s1 = { s with heap:=h,toks:=t }) (hns:s1.heap.Ns s.heap.objs.size m) (hk:∀b o,s.heap.get? b=some o->s1.heap.get? b=some o) :
  aq (mP X scope cl s.heap.objs.size N' s H fp) [] (oJ X scope N' σ) H s1:=by
 obtain⟨h',t,rfl⟩:=es
 have I1:aq X pins σ H { s with heap:=h',toks:=t }:=I.kept hk
 refine⟨RN I S (aF9 _) k hf hfC,rfl,I.bare,Un.kept hk,⟨m,hns,λi x v e1 e2 e3=>?_⟩,k6,I.hok.fresh (aF9 _),λx c h=>(k.k1 x c h).elim (λq=>I.freeC x c q) λq=>I.hok.fresh (aP2 q.1),λp hp=>absurd (show p∈([]:List (Addr×Obj))from hp) (by simp),I1.hok,?_⟩
 ·have hN:N'[i]?=some x:=e1
  unfold oJ at e2
  rw[aL7,hN]at e2
  simp only[Option.map_some,Option.some.injEq]at e2
  split at e2
  ·rename_i hfr
   have hj:σ[X.N.idxOf x]?=some (some v):=by
    cases q:σ[X.N.idxOf x]? with
    | none=>rw[q]at e2;cases e2
    | some y=>rw[q]at e2;rw[show y=some v from e2]
   have hlt:X.N.idxOf x<X.N.length:=by rw[<- I.len];exact(aI3.mp hj).1
   have hx:X.N[X.N.idxOf x]?=some x:=by
    rw[aH7 hlt,aP0 hlt]
   have kf:=S.fr x (aH0 hfr)
   have vis:eB X.env.scope x:=.inr (kf.imp id id)
   obtain⟨m1,hn1,hl1⟩:=I1.loc
   obtain⟨u,r,l⟩:=hl1 _ x v hx hj vis
   refine⟨u,r,.inr ⟨?_,?_⟩⟩
   ·exact eF hfr
   ·rcases l with⟨hk',_⟩|⟨_,c,hc,hcell⟩
    ·rcases kf with q|q<;>rw[q]at hk'<;>cases hk'
    ·obtain⟨c',hc'⟩:=k.k2 x (.inl hfr)
     have:c'=c:=by
      rcases k.k1 x c' hc' with this|⟨_,this⟩
      ·rw[hc]at this;exact(aK6 this).symm
      ·rw[hfr]at this;cases this
     subst this
     exact⟨c',hc',hcell⟩
  ·cases e2
 ·unfold oJ;simp
noncomputable def flt(scope:Scope)(ρ:al):al:=λx=>if scope.names.lookup x=some .free then ρ x else none
theorem lF{y:D×Bool}(h:flt scope ρ x=some y):ρ x=some y/\scope.names.lookup x=some .free:=by
 unfold flt at h
 split at h
 ·rename_i e;exact⟨h,e⟩
 ·cases h
theorem NH{C:Addr}(E:aR X ow H σ ρ)(hN:X.N.Nodup)
  (hsub:∀x d o,flt scope ρ x=some (d,o)->x∈N') :
  aR (mP X scope cl C N' s H0 fp) ow H (oJ X scope N' σ) (flt scope ρ):=by
 refine⟨λx d o h=>?_,E.own⟩
 obtain⟨h1,h2⟩:=lF h
 obtain⟨i,v,e1,e2,e3,e4⟩:=E.get x d o h1
 have hx:x∈N':=hsub x d o h
 have hi:X.N.idxOf x=i:=by
  have hm:x∈X.N:=aK2 e1
  have hlt:=List.idxOf_lt_length_iff.mpr hm
  exact oN hN (by rw[aH7 hlt,aP0 hlt]) e1
 refine⟨N'.idxOf x,v,?_,?_,?_,e4⟩
 ·have hlt:=List.idxOf_lt_length_iff.mpr hx
  show N'[N'.idxOf x]?=some x
  rw[aH7 hlt,aP0 hlt]
 ·exact .inr (eF h2)
 ·have hlt:=List.idxOf_lt_length_iff.mpr hx
  unfold oJ
  rw[aL7,aH7 hlt,aP0 hlt]
  simp only[Option.map_some]
  rw[if_pos h2,hi,e3];rfl
variable{X:Cx}
theorem Bo{R:Result->Shared->Prop}{target:Expr}{it acc:Value}(J:Nat->Shared->Prop)
    (turn:∀n s,J n s->wpAny (model prog w) A (pyNext it) (λr s₁=>match r with
      | none=>R (.ok .next) s₁
      | some v=>wpAny (model prog w) A (letOwnedTupleGo target it v) (λ_ s₁=>wpAny (model prog w) A (assign target env v) (λ_ s₂ =>
          wpAny (model prog w) A (jt ifs env) (λok s₃ =>
            if ok=true then wpAny (model prog w) A (eval elt env) (λx s₄ =>
              wpAny (model prog w) A (call (.builtin "list.append") [acc,x]) (λ_ s₅ => ∃m,m<n/\J m s₅) (λ_ _=>False) s₄) (λ_ _=>False) s₃
            else ∃m,m<n/\J m s₃) (λ_ _=>False) s₂) (λ_ _=>False) s₁) (λ_ _=>False) s₁) (λ_ _=>False) s)
    (n:Nat) (h:J n s):codeAny (model prog w) A (.compLoop (.ListComp elt [⟨target,iter,ifs,0⟩] scope pos) 0 it acc env) R s:=by
  refine codeAny_loop rfl J (λn s hI=>?_) n h
  show wpAny _ A ((compTurn (.ListComp elt [⟨target,iter,ifs,0⟩] scope pos) 0 it acc env).onRaise (λx=>do noteFrame x env;theTreesLotGoes x)) _ _ s
  refine wpAny_noted ?_
  rw[compTurn_list]
  refine aF4 (wpAny_standAt (aF4 (aM7 (turn n s hI) (λr s₁ h₁=>?_) λ_ _ h'=>h'.elim)))
  cases r with
  | none=>exact aG3 h₁
  | some v =>
    refine aF4 (aM7 h₁ (λ_ s₁' h₁'=>?_) λ_ _ h'=>h'.elim)
    refine aF4 (aM7 h₁' (λ_ s₂ h₂=>aF4 (aM7 h₂ (λok s₃ h₃=>?_) λ_ _ h'=>h'.elim)) λ_ _ h'=>h'.elim)
    cases ok with
    | false=>exact aG3 ⟨rfl,h₃⟩
    | true =>
      exact aF4 (aF4 (aM7 h₃ (λx s₄ h₄=>aF4 (aM7 h₄ (λ_ s₅ h₅=>aG3 (aG3 ⟨rfl,h₅⟩)) λ_ _ h'=>h'.elim)) λ_ _ h'=>h'.elim))
noncomputable def nW(X:Cx)(ρ:al)(tg:Expr)(ifs:List Expr)(elt:Expr)(k:Nat)(d:D)(r:Option D):Prop :=
 ∃ρ' b,GD X ρ tg d ρ'/\(∀x y,ρ x=some y->ρ' x=some y)/\BR X ρ' ifs b/\match r with|some d'=>b=true/\ED X ρ' elt d' k|none=>b=false
theorem iJ(o:fy ow H){a:Addr}:∀{k:Nat},k<=1->Kp ow H k a true->ow a=none
 | 0,_,p=>o.free p.2
 | 1,_,p=>p rfl
 | _+2,h,_=>absurd h (by omega)
theorem Jr{H9:Hp}{D:Addr}{x:HO}(sm:aL H H9)(hD:H9 D=some x){a:Addr}:∀{k:Nat},k<=1->Kp (λa=>if a=D then some none else ow a) H9 k a b->Kp ow H k a b/\(b=true->a≠D)
 | 0,_,p=>⟨⟨p.1,sm.free p.2⟩,λ_ z=>by subst z;have:=p.2;rw[hD]at this;cases this⟩
 | 1,_,p=>by
  have p:b=true->(if a=D then some none else ow a)=none:=p
  refine⟨λhb=>?_,λhb hz=>?_⟩
  ·have p:=p hb
   by_cases hz:a=D
   ·rw[if_pos hz]at p;cases p
   ·rw[if_neg hz]at p;exact p
  ·have p:=p hb
   rw[if_pos hz]at p;cases p
 | _+2,h,_=>absurd h (by omega)
theorem A5{D:Addr}(o:fy ow H)(hD:H D=none):∀{k:Nat},k<=1->Kp ow H k D true
 | 0,_=>⟨rfl,hD⟩
 | 1,_=>λ_=>o.free hD
 | _+2,h=>absurd h (by omega)
theorem qf:∀{l:List D} {i:Nat} {d:D},aI l=true->l[i]?=some d->d.lless=true
 | [],_,_,_,h=>by simp at h
 | x::l,0,d,f,h=>by
  rw[aI,aH4]at f
  simp at h;subst h;exact f.1
 | x::l,i+1,d,f,h=>by
  rw[aI,aH4]at f
  exact qf (i:=i) f.2 (by simpa using h)
structure nZ(X:Cx)(pins:List (Addr×Obj))(σ:L2.St)(H5:Hp)(s6:Shared)(C:Addr)(m6:Str->Option Value):Prop where
 inv:aq X pins σ H5 s6
 ns:s6.heap.Ns C m6
 free:H5 C=none
 loc:C≠X.env.locals
 old:X.s₀.heap.objs.size<=C
 cell:∀x c,X.env.cells.lookup x=some c->c≠C
 pin:∀p∈X.pn++pins,p.1≠C
 fs:C∉X.fs
theorem tG{use:Option (Value->Sem Unit)}{Q':Value->Shared->Prop}{pos2:Pos}{f:D->Option D}
  (hcalm:X.calm=true) (hN:X.N.Nodup) (hk:aI ds=true\/k<=1) (hko:ko<=1) (hlen:ds.length<sizeLine) (S:iU X.env scope N') (hsub:∀x d o,flt scope ρ x=some (d,o)->x∈N')
  (hi:IE X ρ tg iter ds k)
  (turn:∀cl C s H fp,∀d∈ds,nW (mP X scope cl C N' s H fp) (flt scope ρ) tg ifs elt ko d (f d))
  (hs:∀x,foldedSetIterable iter X.env x=pure x) (I:aq X pins σ H s) (E:aR X ow H σ ρ)
  (fin:∀D C s6 H5 m6,nZ X pins σ H5 s6 C m6->aL H H5->aj X.K H5 (Kp ow H ko) (.lst (ds.filterMap f)) (.ref D)->compPost (model X.prog X.w) X.A X.xe use Q' (.ref D) C (.ok .next) s6) :
  wpAny (model X.prog X.w) X.A (comprehension (.ListComp elt [⟨tg,iter,ifs,0⟩] scope pos) scope X.env pos2 (newList []) false (eval iter X.env) use) Q' X.xe s:=by
 obtain⟨cl,hclos,h1,h2⟩:=wR (env:=X.env) (scope:=scope) λn hn=>I.ok.has n (S.fr n hn)
 refine wpAny_comprehension_free rfl hs hclos S.kind S.names ?_
 refine bu (hi ow pins s σ H (λJ H1=>aL H H1/\VL X.K J ds (Kd ow H k H1) H1) I ⟨E,λJ H1 a b=>⟨a,b⟩⟩) λv s1 h1'=>bu h1' λitv s2 h2'=>?_
 obtain⟨it,fp,tn,J,H2,rfl,I2,T,st2,f2,s12,itd⟩:=h2'
 have hD2:H2 s2.heap.objs.size=none:=I2.hok.fresh (aF9 _)
 refine aM3 (Aa (λx c hc=>(I2.cell x c (h1 x c hc).1).imp λv q=>q.keeps λb o e=>aF6 _ e) λh₁ hns₁ kp0 k60=>?_)
 have I3:aq X pins σ (bo H2 s2.heap.objs.size (.lst [])) { s2 with heap:=s2.heap.push { cls:=.type "list", dict:=none,data:=.seq ([]:List Value).toArray } } :=
  I2.laid (t':=s2.toks) (λb u e=>aF6 _ e) (aF9 _) ⟨aH5 _,[],0,.nil,aG5 _ rfl⟩
 generalize hD:s2.heap.objs.size=D at *
 generalize hs3:({ s2 with heap:=s2.heap.push { cls:=.type "list", dict:=none,data:=.seq ([]:List Value).toArray } }:Shared)=s3 at *
 have hsz3:s3.heap.objs.size=D+1:=by rw[<- hs3];show(s2.heap.push _).objs.size=_;rw[aL2,hD]
 have f3:∀b∈fp,iw X pins (bo H2 D (.lst [])) b:=λb hb=>by
  obtain⟨g0,g⟩:=f2 b hb
  obtain⟨o,e,_⟩:=T.obj _ _ st2 b hb
  have hlt:=aG2 e
  rw[hD]at hlt
  exact⟨by rw[aK (aJ0 hlt)];exact g0,g⟩
 have fl3:∀b∈fp,b<s3.heap.objs.size:=λb hb=>by
  obtain⟨o,e,_⟩:=T.obj _ _ st2 b hb
  have hlt:=aG2 e
  rw[hD]at hlt
  rw[hsz3];exact Nat.lt_succ_of_lt hlt
 have kp:∀b o,s3.heap.get? b=some o->h₁.get? b=some o:=kp0
 have kc:n5 X scope (cellsFrom (s3.heap.objs.size+1) scope.names cl) s3.heap.objs.size:=DY I3 S h1 h2
 generalize hcl':cellsFrom (s3.heap.objs.size+1) scope.names cl=cl' at *
 have I4:=Nh (s1:={ s3 with heap:=h₁,toks:=s3.toks+0 }) (N':=N') I3 S kc k60 f3 fl3 ⟨_,_,rfl⟩ hns₁ kp
 have sH2:∀vs,aL H2 (bo H2 D (.lst vs)):=λvs b o e=>by rw[aK (cu e hD2)];exact e
 let ow':Ow:=λa=>if a=D then some none else ow a
 have ow'D:ow' D=some none:=if_pos rfl
 have ow'n:∀a,a≠D->ow' a=ow a:=λa h=>if_neg h
 have own':∀{H':Hp} (vs:List V),H' D=some (.lst vs)->aL H2 H'->fy ow' H':=λ{H'} vs hd sm a ha=>by
  by_cases hz:a=D
  ·subst hz;exact⟨_,hd⟩
  ·rw[ow'n a hz]at ha
   obtain⟨o,e⟩:=(E.same s12).own a ha
   exact⟨o,sm a o e⟩
 have E4:aR (mP X scope cl' s3.heap.objs.size N' s3 (bo H2 D (.lst [])) fp) ow' (bo H2 D (.lst [])) (oJ X scope N' σ) (flt scope ρ):=by
  have E3:=NH (scope:=scope) (cl:=cl') (C:=s3.heap.objs.size) (N':=N') (s:=s3) (fp:=fp) (H0:=bo H2 D (.lst [])) (E.same s12) hN hsub
  refine⟨λx d o h=>?_,own' [] aU (sH2 [])⟩
  obtain⟨i,v,e1,e2,e3,e4⟩:=E3.get x d o h
  refine⟨i,v,e1,e2,e3,aj.same (sH2 []) (e4.impH (λa ob ha p=>?_) λa p=>?_)⟩
  ·have hz:a≠D:=cu ha hD2
   cases o with
   | true=>exact⟨p.1,(ow'n a hz).trans p.2⟩
   | false=>exact λ_=>(ow'n a hz).trans (p rfl)
  ·cases o with
   | true=>cases p.1
   | false=>exact λz=>(by cases z)
 generalize hX':mP X scope cl' s3.heap.objs.size N' s3 (bo H2 D (.lst [])) fp=X' at *
 have turn':∀d∈ds,nW X' (flt scope ρ) tg ifs elt ko d (f d):=λd hd=>by rw[<- hX'];exact turn _ _ _ _ _ d hd
 have eK:X'.K=X.K:=by rw[<- hX']
 have eP:X'.prog=X.prog:=by rw[<- hX']
 have eW:X'.w=X.w:=by rw[<- hX']
 have eA:X'.A=X.A:=by rw[<- hX']
 have eE:X'.env=compEnvC scope cl' s3.heap.objs.size X.env:=by rw[<- hX']
 have eX:X'.xe=λ_ _=>False:=by rw[<- hX']
 have eC:X'.calm=true:=by rw[<- hX'];exact hcalm
 have stat:∀{H':Hp},(∀b∈fp,H' b=none)->∀b∈fp,iw X' [] H' b:=λhn b hb=>by
  rw[<- hX']
  refine⟨hn b hb,?_,?_,.inl hb,λx c h=>(kc.k1 x c h).elim (λq=>(f3 b hb).2.2.2.2.1 x c q) (λq z=>by subst z;exact absurd (aK1 q.1 (fl3 _ hb)) (aJ7 _)),λp hp=>absurd (show p∈([]:List (Addr×Obj))from hp) (by simp)⟩
  ·show b≠s3.heap.objs.size
   exact aJ0 (fl3 b hb)
  ·intro z
   rcases aF8.mp (I3.stkSub b z)with q|q
   ·exact(f3 b hb).2.1 q
   ·exact(f3 b hb).2.2.1 q
 let Pe:bU:=λa b=>Kp ow H ko a b/\(b=true->a≠D)
 have loop:codeAny (model X.prog X.w) X.A (.compLoop (.ListComp elt [⟨tg,iter,ifs,0⟩] scope pos) 0 (.ref it) (.ref D) (compEnvC scope cl' s3.heap.objs.size X.env)) (compPost (model X.prog X.w) X.A X.xe use Q' (.ref D) s3.heap.objs.size) { s3 with heap:=h₁,toks:=s3.toks+0 }:=by
  refine Bo (λn s' => ∃(i:Nat) (σ':L2.St) (H':Hp) (vs:List V),aq X' [] σ' H' s'/\tn i s'.heap/\(∀b∈fp,H' b=none)/\aR X' ow' H' σ' (flt scope ρ)/\H' D=some (.lst vs)/\aL H2 H' /\
   am X.K H' Pe ((ds.take i).filterMap f) vs/\i<=ds.length/\n=ds.length-i) ?_ ds.length
   ⟨0,oJ X scope N' σ,bo H2 D (.lst []),[],I4,?_,λb hb=>(f3 b hb).1,E4,aU,sH2 [],?_,aH5 _,rfl⟩
  ·rintro n s5 ⟨i,σ5,H5,vs,I5,st5,fr5,E5,hD5,sm5,rp5,hi5,rfl⟩
   have stay:fR (Kd ow H k H2) (Kd ow H k H2) H2 H5:=.same sm5 λ_ _ p=>p
   have itd5:=itd i H5 stay
   by_cases hlt:i<ds.length
   ·obtain⟨go,yl⟩:=itd5.1 ds[i] (by simp[hlt])
    have Ti:=T.item X' eP eW eK eC i [] s5 σ5 H5 (λ_ _=>False) I5 (stat fr5) st5 go
    rw[eA]at Ti
    refine bu Ti λr s6 ⟨u,hr,h6⟩=>?_
    subst hr
    refine bu h6 λ_ s7 ⟨x,H7,I7,r7,y7,st7,fr7⟩=>?_
    obtain⟨sm7,rx7⟩:=yl x H7 y7
    obtain⟨ρ',b,⟨g,hg,hgd⟩,hext,hts,hel⟩:=turn' ds[i] (List.getElem_mem hlt)
    have rx7':aj X'.K H7 (λa b=>b=true->ow' a=none) ds[i] x:=by
     rw[eK]
     rcases hk with hk|hk
     ·exact rx7.flat _ (qf hk (aH7 hlt))
     refine rx7.impH (λa o ha p _=>?_) λa _ z=>(by cases z)
     obtain⟨p,p2⟩:=p
     obtain⟨o2,ho2⟩:=p2 rfl
     show ow' a=none
     rw[ow'n a (cu ho2 hD2)]
     exact iJ E.own hk p
    have E7:=E5.same sm7
    have I7':=I7.pinned (stat fr7) (T.obj _ _ st7)
    have hg':=hg _ s7 σ5 H7 x u (λσ' H'=>aR X' ow' H' σ' ρ'/\H7=H') I7' r7 (hgd ow' x σ5 H7 _ I7.len E7 rx7' λσ' _ e=>⟨e,rfl⟩)
    rw[eP,eW,eA,eE,eX]at hg'
    refine bu hg' λ_ s8 ⟨σ8,H8,I8,E8,eH8⟩=>?_
    subst eH8
    have ht':=hts ow' _ s8 σ8 H7 (λc H'=>c=b/\aL H7 H') I8 ⟨E8,λH' sm=>⟨rfl,sm⟩⟩
    rw[eP,eW,eA,eE,eX]at ht'
    refine bu ht' λc s9 ⟨H9,I9,ec,sm9⟩=>?_
    subst ec
    have back:∀{H':Hp} {σ':L2.St} {s':Shared},aq X' ([]++mD fp s7.heap) σ' H' s'->aq X' [] σ' H' s'/\tn (i+1) s'.heap/\∀b∈fp,H' b=none:=λ{H' σ' s'} J7=>by
     refine⟨J7.unpinned,T.keep _ _ _ st7 λb hb o e=>(J7.pin (b,o) (aI9 _ (aI9 _ (i9 hb e)))).1,λb hb=>?_⟩
     obtain⟨o,e,d⟩:=T.obj _ _ st7 b hb
     exact(J7.pin (b,o) (aI9 _ (aI9 _ (i9 hb e)))).2.1
    have envf:∀{H':Hp} {σ':L2.St},aR X' ow' H' σ' ρ'->aR X' ow' H' σ' (flt scope ρ):=λ{H' σ'} e=>⟨λx d o h=>e.get x d o (hext x _ h),e.own⟩
    have tk:(ds.take (i+1)).filterMap f=(ds.take i).filterMap f++(f ds[i]).toList:=by
     rw[List.take_add_one]
     simp only[aH7 hlt,Option.toList_some,List.filterMap_append]
     congr 1
    have sm59:aL H5 H9:=sm7.trans sm9
    cases hc:c with
    | false =>
     rw[if_neg aH9]
     subst hc
     obtain⟨I9',st9,fr9⟩:=back I9
     have fn:f ds[i]=none:=by
      cases hf:f ds[i]with
      | none=>rfl
      | some d'=>rw[hf]at hel;cases hel.1
     refine⟨ds.length-(i+1),by omega,i+1,σ8,H9,vs,I9',st9,fr9,envf (E8.same sm9),sm59 _ _ hD5,sm5.trans sm59,?_,hlt,rfl⟩
     rw[tk,fn,Option.toList_none,aK7]
     exact rp5.same sm59
    | true =>
     rw[if_pos rfl]
     subst hc
     obtain⟨d',fs,hed⟩:∃d',f ds[i]=some d'/\ED X' ρ' elt d' ko:=by
      cases hf:f ds[i]with
      | none=>rw[hf]at hel;cases hel
      | some d'=>rw[hf]at hel;exact⟨d',rfl,hel.2⟩
     have he':=hed ow' _ s9 σ8 H9 (λv H'=>aL H9 H'/\aj X'.K H' (Kp ow' H9 ko) d' v) I9 ⟨E8.same sm9,λv H' a r=>⟨a,r⟩⟩
     rw[eP,eW,eA,eE,eX]at he'
     refine bu he' λy s10 ⟨v10,H10,I10,r10,sm10,rp10⟩=>?_
     have sm510:=sm59.trans sm10
     have hD10:=sm510 _ _ hD5
     have hlv:vs.length<sizeLine:=by
      rw[<- rp5.length]
      refine aI1 (List.length_filterMap_le _ _) ?_
      rw[aP6];omega
     have ha':=sY (X:=X') _ s10 σ8 H10 (.ref D) [v10] (.ref D) [y] (λw H'=>bo H10 D (.lst (vs++[v10]))=H') I10 rfl (.cons r10 .nil) ⟨D,vs,v10,rfl,rfl,hD10,hlv,rfl⟩
     rw[eP,eW,eA,eX]at ha'
     refine bu ha' λ_ s11 ⟨w11,H11,I11,_,eH11⟩=>?_
     subst eH11
     obtain⟨I11',st11,fr11⟩:=back I11
     have s2D:∀a o,H2 a=some o->a≠D:=λa o e=>cu e hD2
     have stD:fR Pe Pe H10 (bo H10 D (.lst (vs++[v10]))):=⟨λa o h hn=>by rw[aK (λz=>by subst z;rw[hD10]at h;cases h;exact hn)];exact h,λa ws h p=>by rw[aK (p.2 rfl)];exact h,λ_ _ _ p=>p,λ_ p=>p⟩
     refine⟨ds.length-(i+1),by omega,i+1,σ8,_,vs++[v10],I11',st11,fr11,?_,aU,?_,?_,hlt,rfl⟩
     ·have E10:=envf ((E8.same sm9).same sm10)
      refine⟨λx d o h=>?_,own' _ aU (λa o e=>by rw[aK (s2D a o e)];exact(sm5.trans sm510) a o e)⟩
      obtain⟨i',v',e1,e2,e3,e4⟩:=E10.get x d o h
      refine⟨i',v',e1,e2,e3,e4.mono ⟨λa o h hn=>by rw[aK (λz=>by subst z;rw[hD10]at h;cases h;exact hn)];exact h,λa ws h p=>?_,λ_ _ _ p=>p,λ_ p=>p⟩⟩
      have hz:a≠D:=by
       intro z;subst z
       cases o with
       | true=>have:=p.2;rw[ow'D]at this;cases this
       | false=>have:ow' a=none:=p rfl;rw[ow'D]at this;cases this
      rw[aK hz];exact h
     ·intro a o e
      rw[aK (s2D a o e)]
      exact(sm5.trans sm510) a o e
     ·rw[tk,fs,Option.toList_some]
      refine((rp5.same sm510).mono stD).append (am.one (aj.mono stD ?_))
      rw[eK]at rp10
      have sH9:aL H H9:=s12.trans (sm5.trans sm59)
      exact rp10.imp λa b p=>Jr sH9 (sm59 _ _ hD5) hko p
   ·have hstop:=itd5.2 (by omega)
    have Td:=T.done X' eP eW eK eC i [] s5 σ5 H5 (λ_ _=>False) I5 (stat fr5) st5 hstop
    rw[eA]at Td
    refine bu Td λr s6 ⟨hr,I6⟩=>?_
    subst hr
    have ei:i=ds.length:=by omega
    subst ei
    rw[List.take_length]at rp5
    have hC:X'.env.locals=s3.heap.objs.size:=by rw[eE];rfl
    obtain⟨m6,hn6,_⟩:=I6.loc
    rw[hC]at hn6
    have hfree:H5 s3.heap.objs.size=none:=by have:=I6.free;rw[hC]at this;exact this
    have IX:aq X pins σ H5 s6:=by
     have b6:=I6.base
     have o6:=I6.os
     have k6:=I6.hok
     have g6:=I6.bare
     rw[<- hX']at b6 o6 k6
     exact I3.call' o6 b6 k6 g6 λb hb=>⟨(f3 b hb).2.2.2.1,(f3 b hb).2.1,(f3 b hb).2.2.2.2.1,(f3 b hb).2.2.2.2.2⟩
    have hHD:H D=none:=s12.free hD2
    refine fin D _ s6 H5 m6 ⟨IX,hn6,hfree,aL1 I3.lt,I3.sz,λx c hc z=>?_,λp hp z=>?_,I3.nofs (aF9 _)⟩ (s12.trans sm5) ?_
    ·obtain⟨v,hv⟩:=I3.cell x c hc
     have:=hv.lt
     rw[z]at this;exact absurd this (aJ7 _)
    ·have:=aG2 (I3.pin p hp).1
     rw[z]at this;exact absurd this (aJ7 _)
    ·rw[aj]
     exact⟨D,vs,true,rfl,hD5,A5 E.own hHD hko,rp5.imp λ_ _ p=>p.1⟩
  ·exact T.keep 0 s2.heap h₁ st2 λb hb o e=>kp b o (by rw[<- hs3];exact aF6 _ e)
  ·exact am.nil
 exact codeAny_compStart_list loop (T.self _ 0 _ _ _ (T.keep 0 s2.heap h₁ st2 λb hb o e=>kp b o (by rw[<- hs3];exact aF6 _ e)) loop)
theorem nZ.done{H5:Hp}{s6:Shared}{C:Addr}{m6:Str->Option Value}(e:nZ X pins σ H5 s6 C m6)(sb:Heap.SameBut C s6.heap h'):aq X pins σ H5 { s6 with heap:=h' } :=
 e.inv.turned (t':=s6.toks) (it:=C) (λb o hb e=>sb.extBut b o hb e) e.free e.loc (.inr e.old) e.cell e.pin
theorem JU{f:D->Option D}
  (hcalm:X.calm=true) (hN:X.N.Nodup) (hk:aI ds=true\/k<=1) (hko:ko<=1) (hlen:ds.length<sizeLine) (S:iU X.env scope N') (hsub:∀x d o,flt scope ρ x=some (d,o)->x∈N')
  (hi:IE X ρ tg iter ds k)
  (turn:∀cl C s H fp,∀d∈ds,nW (mP X scope cl C N' s H fp) (flt scope ρ) tg ifs elt ko d (f d))
  (hs:∀x,foldedSetIterable iter X.env x=pure x:=by intro _;rfl) :
  ED X ρ (.ListComp elt [⟨tg,iter,ifs,0⟩] scope pos) (.lst (ds.filterMap f)) ko:=by
 intro ow pins s σ H Q I ⟨E,q⟩
 rw[eval_ListComp]
 refine tG hcalm hN hk hko hlen S hsub hi turn hs I E λD C s6 H5 m6 ce sm rp=>?_
 exact⟨m6,ce.ns,λh' sb=>⟨.ref D,H5,ce.done sb,rfl,q (.ref D) H5 sm rp⟩⟩
theorem Iw{D0:jL}{spos:Pos}{f:D->Option D}
  (hcalm:X.calm=true) (hN:X.N.Nodup) (hk:aI ds=true\/k<=1) (hko:ko<=1) (hlen:ds.length<sizeLine) (S:iU X.env scope N') (hsub:∀x d o,flt scope ρ x=some (d,o)->x∈N')
  (hi:IE X ρ tg iter ds k)
  (turn:∀cl C s H fp,∀d∈ds,nW (mP X scope cl C N' s H fp) (flt scope ρ) tg ifs elt ko d (f d))
  (hs:∀x,foldedSetIterable iter X.env x=pure x) (I:aq X pins σ H s) (E:aR X ow H σ ρ)
  (hsw:swapsWith (.ListComp elt [⟨tg,iter,ifs,0⟩] scope pos) (some (.Name x px)) spos.line X.env=pure true)
  (hx:X.N[i]?=some x) (hl:ym X.env.scope x) (hf:X.fn x=true\/X.env.scope.names.lookup x=some .local)
  (q:∀v H',aL H H'->aj X.K H' (Kp ow H ko) (.lst (ds.filterMap f)) v->D0.nx (σ.set i (some v)) H') :
  wpAny (model X.prog X.w) X.A (exec (.Assign [.Name x px] (.ListComp elt [⟨tg,iter,ifs,0⟩] scope pos) spos) X.env) (SP X pins D0) X.xe s:=by
 rw[exec_Assign_Name_used _ _ _ _ hsw]
 refine aF4 (wpAny_standAt (aF4 ?_))
 show wpAny _ X.A (do let _ <- comprehension (.ListComp elt [⟨tg,iter,ifs,0⟩] scope pos) scope X.env _ (newList []) false (eval iter X.env) (some (assign (.Name x px) X.env))) _ _ s
 refine aF4 (aM7 (tG (use:=some (assign (.Name x px) X.env)) (Q':=λ_ s'=>SP X pins D0 .next s') hcalm hN hk hko hlen S hsub hi turn hs I E λD C s6 H5 m6 ce sm rp=>?_) (λ_ s' hq=>aG3 (aG3 hq)) λ_ _ e=>e)
 obtain⟨o,es,ep,ho,hd,hrest⟩:=id ce.ns
 have Ip:aq X (pins++[(C,o)]) σ H5 s6:=ce.inv.pins_of λp hp=>by
  rcases aL9.mp hp with z|z
  ·exact ce.inv.pin p (aI9 _ z)
  ·have e:p=(C,o):=by simpa using z
   subst e
   exact⟨ho,ce.free,ce.loc,ce.fs,λv z=>by rw[hd]at z;cases z⟩
 show wpAny _ X.A (assign (.Name x px) X.env (.ref D)) _ _ _
 refine bu (il (i:=i) hN hx hl hf (pins++[(C,o)]) s6 σ H5 (.ref D) (.ref D) (λσ' H'=>σ.set i (some (.ref D))=σ'/\H5=H') Ip rfl ⟨rfl,rfl⟩) λ_ s7 ⟨σ7,H7,I7,e1,e2⟩=>?_
 subst e1 e2
 have pC:=(I7.pin (C,o) (aI9 _ (aI9 _ (by simp)))).1
 refine⟨m6,⟨o,es,ep,pC,hd,hrest⟩,λh' sb=>?_⟩
 have ce':nZ X pins (σ.set i (some (.ref D))) H5 s7 C m6:=⟨I7.unpinned,⟨o,es,ep,pC,hd,hrest⟩,ce.free,ce.loc,ce.old,ce.cell,ce.pin,ce.fs⟩
 exact⟨_,H5,ce'.done sb,q (.ref D) H5 sm rp⟩
mutual
noncomputable def D.py:D->PyData
 | .non=>.none
 | .bl b=>.bool b
 | .int i=>.int i
 | .str x=>.str x
 | .dct _ _=>.dict []
 | .typ _=>.dict []
 | .dcf _ _=>.dict []
 | .dft _ _ _=>.dict []
 | .sn _=>.dict []
 | .obj _ _ _=>.dict []
 | .cls _=>.dict []
 | .tup l=>.tuple (d9 l)
 | .lst l=>.list (d9 l)
noncomputable def d9:List D->List PyData
 | []=>[]
 | d::l=>d.py::d9 l
end
inductive Rs(α:Type) where
 | ok (a:α) (l:List Prop)
 | st
noncomputable def aT:List Prop->Prop
 | []=>True
 | p::l=>p/\aT l
noncomputable def Rs.bnd{α β:Type}(r:Rs α)(f:α->Rs β):Rs β :=
 match r with
 | .st=>.st
 | .ok a l=>match f a with
  | .st=>.st
  | .ok b m=>.ok b (l++m)
noncomputable def ofO{α:Type}:Option α->Rs α
 | some a=>.ok a []
 | none=>.st
noncomputable def gd(b:Bool):List Prop->List Prop
 | []=>[]
 | m=>[b=true->aT m]
noncomputable abbrev R1:=Rs (D×Nat)
noncomputable def mk(d:D)(k:Nat):R1:=.ok (d,kn d k) []
structure Fx where
 fn:Str->Option (List D->Rs D)
 con:Str->Option D
 blt:Str->Option (List D->R1)
 itr:Str->Option (List D->Nat->R1)
 mth:Str->Option (D->List D->R1)
 mtt:Str->Option (List D->List D->Nat->Rs (List D))
 slf:D->Option Int->Option Int->R1:=λ_ _ _=>.st
 fld:Str->Str->Bool:=λ_ _=>false
 omt:Str->Str->Option (List D->Rs D):=λ_ _=>none
noncomputable def FS:Const->Option D
 | .none=>some .non
 | .bool b=>some (.bl b)
 | .int i=>some (.int i)
 | .str x=>some (.str x)
 | _=>none
noncomputable def bW:Nat:=2 ^ 9000
noncomputable def dH(a b:Int):Prop:=a.natAbs<2 ^ 64\/b.natAbs<2 ^ 64\/(a.natAbs<bW/\b.natAbs<bW)\/(Builtin.Int.intBits a<=2 ^ 22/\Builtin.Int.intBits b<=2 ^ 22)
noncomputable def fU(b:Int):Prop:=b≠0/\b.natAbs<bW
noncomputable def yM(a b:Int):Prop:=0<=b/\b<=1000/\a.natAbs<2 ^ 64
noncomputable def cq:Nat:=40000
noncomputable def D1(op:Operator)(a b:Int):R1 :=
 match op with
 | .Add=>.ok (.int (a+b),0) []
 | .Sub=>.ok (.int (a-b),0) []
 | .Mult=>.ok (.int (a*b),0) [dH a b]
 | .FloorDiv=>.ok (.int (a.fdiv b),0) [fU b]
 | .Mod=>.ok (.int (a.fmod b),0) [b≠0]
 | .Pow=>.ok (.int (a ^ b.toNat),0) [yM a b]
 | _=>.st
noncomputable def ul:Operator->Bool
 | .Add=>true
 | _=>false
noncomputable def sx(op:Operator)(x y:D)(k j:Nat):R1 :=
 match x,y with
 | .int a,.int b=>D1 op a b
 | .str a,.str b=>if ul op=true then .ok (.str (a++b),0) [a.length+b.length<=cq]else .st
 | .tup a,.tup b=>if ul op=true then .ok (.tup (a++b),kn (.tup (a++b)) (kj k j)) [a.length+b.length<=cq]else .st
 | .lst a,.lst b=>if ul op=true then .ok (.lst (a++b),0) [aI (a++b)=true,a.length+b.length<=cq]else .st
 | _,_=>.st
noncomputable def Ab(op:UnaryOp)(x:D):Option D :=
 match op,x with
 | .USub,.int a=>some (.int (-a))
 | .Not,.bl b=>some (.bl (!b))
 | _,_=>none
noncomputable def fP(x y:D):Bool:=SeqAt.shaped x.py&&SeqAt.shaped y.py
noncomputable def eqD(x y:D):Bool:=PyData.eqv x.py y.py
noncomputable def fk:List D->Option (List Int)
 | []=>some []
 | .int i::l=>(fk l).map (i :: ·)
 | _::_=>none
noncomputable def vC(x:D)(l:List D):Rs Bool:=.ok (l.any λy=>eqD y x) [fP (.tup l) x=true]
noncomputable def D.isNon:D->Bool
 | .non=>true
 | _=>false
noncomputable def gD:D->Option (List D)
 | .tup l=>some l
 | .lst l=>some l
 | _=>none
noncomputable def ir(op:CmpOp)(a b:Int):Option Bool :=
 match op with
 | .Lt=>some (decide (a<b))
 | .LtE=>some (decide (a<=b))
 | .Gt=>some (decide (b<a))
 | .GtE=>some (decide (b<=a))
 | _=>none
noncomputable def yR(op:CmpOp)(x y:D):Option Bool :=
 match x,y with
 | .int a,.int b=>ir op a b
 | _,_=>none
noncomputable def Rs.nt:Rs Bool->Rs Bool
 | .ok b l=>.ok (!b) l
 | .st=>.st
noncomputable def zc:D->Option bM
 | .int i=>some (.inl i)
 | .str x=>some (.inr x)
 | _=>none
noncomputable def fO(ks:List bM)(k:bM):Bool:=ks.any λj=>decide (j=k)
noncomputable def lK(ks:List bM)(k:bM):List bM:=cond (fO ks k) ks (ks++[k])
noncomputable def g8{α:Type}(ks:List bM)(ds:List α)(k:bM)(d:α):List α:=cond (fO ks k) (List.zipWith (λj e=>if j=k then d else e) ks ds) (ds++[d])
noncomputable def FC(x y:D):Rs Bool :=
 match y with
 | .tup l=>vC x l
 | .lst l=>vC x l
 | .dct _ _=>.st
 | .dft _ ks _=>(match zc x with|some k=>.ok (fO ks k) []|none=>.st)
 | .str b=>(match x with | .str a=>.ok (Txt.contains b a) []|_=>.st)
 | _=>.st
noncomputable def fQ(op:CmpOp)(x y:D):Rs Bool :=
 match op with
 | .Eq=>.ok (eqD x y) [fP x y=true]
 | .NotEq=>.ok (!eqD x y) [fP x y=true]
 | .In=>FC x y
 | .NotIn=>(FC x y).nt
 | .Is=>(match y with | .non=>.ok x.isNon []|_=>.st)
 | .IsNot=>(match y with | .non=>.ok (!x.isNon) []|_=>.st)
 | op=>ofO (yR op x y)
noncomputable def yp(x:Str):Option String :=
 if x = "int" then some "int" else if x = "bool" then some "bool" else if x = "str" then some "str" else if x = "tuple" then some "tuple" else if x = "list" then some "list" else none
noncomputable def dj:List D->Option (List Bool)
 | []=>some []
 | .bl i::l=>(dj l).map (i :: ·)
 | _::_=>none
noncomputable def iQ:List Str:=["len", "tuple", "list", "abs", "all", "sum", "isinstance", "set", "int", "bool", "str", "range", "zip", "enumerate", "any", "sorted", "min", "max", "reversed"]
noncomputable def iK:Expr->Bool
 | .Tuple .. => true
 | _=>false
noncomputable def gF(e tg:Expr):Bool :=
 match e with
 | .Call (.Name f _) _ _ _=>if f = "enumerate" \/ f = "zip" then iK tg else true
 | _=>true
noncomputable def sgs(x:Str):List D:=x.cps.toList.map λc=>.str ⟨#[c]⟩
noncomputable def items:D->Option (List D)
 | .lst l=>some l
 | .tup l=>some l
 | .str x=>if (x.cps.all λc=>decide (c<128))=true then some (sgs x)else none
 | _=>none
noncomputable def bF(ρ:al)(x:Str)(y:D×Bool):al:=λz=>if z=x then some y else ρ z
noncomputable def eI(sc:Scope)(x:Str):Bool:=sc.names.lookup x==some .local || sc.names.lookup x==some .cell
noncomputable def bL(sc:Scope):List Expr->List D->al->Option al
 | [],[],ρ=>some ρ
 | .Name x _::es,d::ds,ρ=>if eI sc x=true then bL sc es ds (bF ρ x (d,false))else none
 | _,_,_=>none
noncomputable def cI(sc:Scope)(tg:Expr)(d:D)(ρ:al):Option al :=
 match tg with
 | .Name x _=>if eI sc x=true then some (bF ρ x (d,false))else none
 | .Tuple es _ _=>(match d with | .tup ds=>bL sc es ds ρ|_=>none)
 | _=>none
noncomputable def qR(sc scope:Scope):Bool :=
 decide (scope.kind=.function)&&scope.names.all (λy=>decide (y.2 ≠ .local) || decide (scope.names.lookup y.1=some .local)) &&
 scope.names.all (λy=>decide (y.2 ≠ .free) || eI sc y.1&&decide (sc.names.lookup y.1=some .cell) || decide (sc.names.lookup y.1=some .free))&&decide ((scope.names.map (·.1)).Nodup)
noncomputable def iC(step:D->Rs (Option (D×Nat))):List D->Rs (List D×Nat)
 | []=>.ok ([],0) []
 | d::l=>(step d).bnd λr=>(iC step l).bnd λq=>match r with
  | none=>.ok q []
  | some p=>.ok (p.1::q.1,kj p.2 q.2) []
noncomputable def vF(x:D)(i:Int)(k:Nat):R1 :=
 match gD x with
 | some l=>(match atI l i with|some d=>mk d k|none=>.st)
 | none=>.st
noncomputable def Ni(p:D×Nat)(f:Int->R1):R1 :=
 match p.1 with
 | .int j=>f j
 | _=>.st
noncomputable def Fg:List bM->List (List (List Int))->bM->Option (List (List Int))
 | j::ks,l::ls,k=>if j=k then some l else Fg ks ls k
 | _,_,_=>none
noncomputable def kM:List bM->List (List Int)->bM->Option (List Int)
 | j::ks,l::ls,k=>if j=k then some l else kM ks ls k
 | _,_,_=>none
noncomputable def oG(p q:D×Nat):R1 :=
 match p.1 with
 | .dct _ _=>.st
 | .dft _ ks ts=>(match zc q.1 with|some k=>(match kM ks ts k with|some ns=>.ok (.tup (ns.map D.int),0) []|none=>.st)|none=>.st)
 | .dcf ks ls=>(match zc q.1 with|some k=>(match Fg ks ls k with|some l=>.ok (.lst (l.map λns=>.tup (ns.map D.int)),1) []|none=>.st)|none=>.st)
 | x=>Ni q λj=>vF x j p.2
noncomputable def mT(l:List D)(lo hi:Option Int):List D:=(l.drop (HT.sIx l.length 0 lo)).take (HT.sIx l.length l.length hi-HT.sIx l.length 0 lo)
noncomputable def N0(l:List D)(lo hi:Option Int):Bool:=!(decide (HT.sIx l.length 0 lo=0)&&decide (HT.sIx l.length l.length hi=l.length))
noncomputable def vc(x:D)(lo hi:Option Int):R1 :=
 match x with
 | .tup l=>.ok (.tup (mT l lo hi),0) [aI l=true,N0 l lo hi=true]
 | .lst l=>.ok (.lst (mT l lo hi),0) [aI l=true]
 | _=>.st
noncomputable def fH(x:Str):Bool:=decide ((x==("__debug__" : Str))=false)&&decide ((x==("__classdict__" : Str))=false)
noncomputable def zI(b:Bool)(r:Rs Bool):Rs Bool :=
 match r with
 | .ok c m=>.ok (b&&c) (gd b m)
 | .st=>match b with|false=>.ok false []|true=>.st
noncomputable def EZ(b:Bool)(r:Rs Bool):Rs Bool :=
 match r with
 | .ok c m=>.ok (b || c) (gd (!b) m)
 | .st=>match b with|true=>.ok true []|false=>.st
mutual
noncomputable def rR(b:Bool):D->D->D
 | .int x,.int y=>.int (cond b x y)
 | .bl x,.bl y=>.bl (cond b x y)
 | .tup x,.tup y=>if x.length=y.length then .tup (mJ b x y)else cond b (.tup x) (.tup y)
 | x,y=>cond b x y
noncomputable def mJ(b:Bool):List D->List D->List D
 | x::l,y::m=>rR b x y::mJ b l m
 | l,m=>cond b l m
end
noncomputable def A8(t:Bool)(k j:Nat):Nat:=if k=j then k else cond t k j
noncomputable def FE(b:Bool)(r s:R1):R1 :=
 match r with
 | .st=>(match b with|true=>.st|false=>s)
 | .ok p m=>match s with
  | .st=>(match b with|true=>.ok p m|false=>.st)
  | .ok q n=>.ok (rR b p.1 q.1,A8 b p.2 q.2) (gd b m++gd (!b) n)
noncomputable def lr(Φ:Fx)(x:Str)(sc:Scope)(ρ:al):R1 :=
 if fH x=true then
  (if sc.names.lookup x=some .globalImplicit then(match Φ.con x with|some d=>.ok (d,0) []|none=>match yp x with|some T=>.ok (.typ T,0) []|none=>.st)
  else match ρ x with
   | some p=>mk p.1 (cond p.2 2 1)
   | none=>.st)
 else .st
noncomputable def lL(Φ:Fx)(f:Str)(it:Bool)(ds:List D)(k:Nat):R1 :=
 match Φ.fn f with
 | some F=>(F ds).bnd λd=>.ok (d,0) []
 | none=>match (if it=true then Φ.itr f else none)with
  | some B=>B ds k
  | none=>match Φ.blt f with
   | some B=>B ds
   | none=>.st
noncomputable def jE{α:Type}(p:D×Nat)(f:Bool->Rs α):Rs α :=
 match p.1 with
 | .bl j=>f j
 | _=>.st
noncomputable def Nz(Φ:Fx)(x:D)(f:Str):R1 :=
 match x with
 | .obj n ns ds=>if Φ.fld n f=true then(match (ns.zip ds).lookup f with|some d=>.ok (d,0) []|none=>.st)else .st
 | _=>.st
noncomputable def g9:Expr->Bool
 | .Call (.Name _ _) [] [] _=>false
 | _=>true
noncomputable def yX(Φ:Fx)(a:Expr)(m:Str)(x:D)(ds:List D):R1 :=
 match x with
 | .obj n ns es=>if ns.contains m=false/\g9 a=true/\ds.length<29 then(match Φ.omt n m with|some F=>(F (.obj n ns es::ds)).bnd λd=>.ok (d,0) []|none=>.st)else .st
 | x=>if g9 a=true then(match Φ.mth m with|some M=>M x ds|none=>.st)else .st
noncomputable def Oa(op op2:CmpOp)(x y z:D):R1 :=
 match x,y,z with
 | .int a,.int b,.int c=>(match ir op a b,ir op2 b c with|some r,some r2=>.ok (.bl (r&&r2),0) []|_,_=>.st)
 | _,_,_=>.st
mutual
noncomputable def aH(Φ:Fx):Expr->Bool->Scope->al->R1
  | .Constant c _ _,_,_,_=>(match FS c with|some d=>.ok (d,0) []|none=>.st)
  | .Name x _,_,sc,ρ=>lr Φ x sc ρ
  | .BinOp a op b _,_,sc,ρ=>(aH Φ a false sc ρ).bnd λp=>(aH Φ b false sc ρ).bnd λq=>sx op p.1 q.1 p.2 q.2
  | .UnaryOp op a _,_,sc,ρ=>(aH Φ a false sc ρ).bnd λp=>(match Ab op p.1 with|some d=>.ok (d,0) []|none=>.st)
  | .BoolOp op es _,_,sc,ρ=>if es.isEmpty=true then .st else(fv Φ op es sc ρ).bnd λb=>.ok (.bl b,0) []
  | .Compare a [op] [b] _,_,sc,ρ=>(aH Φ a false sc ρ).bnd λp=>(aH Φ b false sc ρ).bnd λq=>(fQ op p.1 q.1).bnd λr=>.ok (.bl r,0) []
  | .Compare a [op,op2] [b,c] _,_,sc,ρ=>(aH Φ a false sc ρ).bnd λp=>(aH Φ b false sc ρ).bnd λq=>(aH Φ c false sc ρ).bnd λt=>Oa op op2 p.1 q.1 t.1
  | .IfExp c a b _,_,sc,ρ=>(aH Φ c false sc ρ).bnd λp=>jE p λt=>FE t (aH Φ a false sc ρ) (aH Φ b false sc ρ)
  | .Tuple es _ _,_,sc,ρ=>(cZ Φ es sc ρ).bnd λp=>if p.1.length<=cq then mk (.tup p.1) p.2 else .st
  | .List es _,_,sc,ρ=>(cZ Φ es sc ρ).bnd λp=>if p.1.length<=cq/\p.2<=1 then .ok (.lst p.1,p.2) []else .st
  | .Subscript a (.Slice lo hi none _) _,_,sc,ρ=>(aH Φ a false sc ρ).bnd λp=>(mS Φ lo sc ρ).bnd λl=>(mS Φ hi sc ρ).bnd λh=>Φ.slf p.1 l h
  | .Subscript a i _,_,sc,ρ=>(aH Φ a false sc ρ).bnd λp=>(aH Φ i false sc ρ).bnd λq=>oG p q
  | .Call (.Name f _) args [] _,it,sc,ρ =>
    if sc.names.lookup f=some .globalImplicit then(cZ Φ args sc ρ).bnd λp=>lL Φ f it p.1 p.2
    else .st
  | .Attribute (.Name x _) f _,_,sc,ρ=>(lr Φ x sc ρ).bnd λp=>Nz Φ p.1 f
  | .Call (.Attribute a m ap) args [] cp,_,sc,ρ=>if (ap.endLine==cp.line)=true then(aH Φ a false sc ρ).bnd λp=>(cZ Φ args sc ρ).bnd λq=>yX Φ a m p.1 q.1 else .st
  | .ListComp elt [⟨tg,iter,ifs,0⟩] scope _,_,sc,ρ =>
    if qR sc scope=true then(aH Φ iter true sc ρ).bnd λp=>(match items p.1 with
      | some ds=>if gF iter tg=true then
          (Rs.ok () [ds.length<=cq,aI ds=true\/p.2<=1]).bnd λ_=>(iC (λd=>match cI scope tg d (flt scope ρ)with
            | none=>.st
            | some ρ'=>(fv Φ .And ifs scope ρ').bnd λb=>cond b ((aH Φ elt false scope ρ').bnd λr=>.ok (some r) []) (.ok none [])) ds).bnd λq=>if q.2<=1 then .ok (.lst q.1,q.2) []else .st
        else .st
      | none=>.st)
    else .st
  | _,_,_,_=>.st
noncomputable def cZ(Φ:Fx):List Expr->Scope->al->Rs (List D×Nat)
 | [],_,_=>.ok ([],0) []
 | e::es,sc,ρ=>(aH Φ e false sc ρ).bnd λp=>(cZ Φ es sc ρ).bnd λq=>.ok (p.1::q.1,kj p.2 q.2) []
noncomputable def fv(Φ:Fx):BoolOp->List Expr->Scope->al->Rs Bool
 | .And,[],_,_=>.ok true []
 | .Or,[],_,_=>.ok false []
 | .And,e::es,sc,ρ=>(aH Φ e false sc ρ).bnd λp=>jE p λb=>zI b (fv Φ .And es sc ρ)
 | .Or,e::es,sc,ρ=>(aH Φ e false sc ρ).bnd λp=>jE p λb=>EZ b (fv Φ .Or es sc ρ)
noncomputable def mS(Φ:Fx):Option Expr->Scope->al->Rs (Option Int)
 | none,_,_=>.ok none []
 | some e,sc,ρ=>(aH Φ e false sc ρ).bnd λp=>(match p.1 with | .int i=>.ok (some i) []|_=>.st)
end
theorem se{Φ:Fx}{op:BoolOp}:aH Φ (.BoolOp op es p) it sc ρ=(if es.isEmpty=true then .st else(fv Φ op es sc ρ).bnd λb=>.ok (.bl b,0) []):=rfl
theorem jv{Φ:Fx}{p:Pos}:aH Φ (.Call (.Name f p) args [] q) it sc ρ=(if sc.names.lookup f=some .globalImplicit then(cZ Φ args sc ρ).bnd λp=>lL Φ f it p.1 p.2 else .st):=rfl
theorem lI{Φ:Fx}:aH Φ (.Call (.Attribute a m ap) args [] cp) it sc ρ=(if (ap.endLine==cp.line)=true then(aH Φ a false sc ρ).bnd λp=>(cZ Φ args sc ρ).bnd λq=>yX Φ a m p.1 q.1 else .st):=rfl
theorem r9{Φ:Fx}{q:Pos}:aH Φ (.ListComp elt [⟨tg,iter,ifs,0⟩] scope q) it sc ρ=(if qR sc scope=true then(aH Φ iter true sc ρ).bnd λp=>(match items p.1 with
      | some ds=>if gF iter tg=true then
          (Rs.ok () [ds.length<=cq,aI ds=true\/p.2<=1]).bnd λ_=>(iC (λd=>match cI scope tg d (flt scope ρ)with
            | none=>.st
            | some ρ'=>(fv Φ .And ifs scope ρ').bnd λb=>cond b ((aH Φ elt false scope ρ').bnd λr=>.ok (some r) []) (.ok none [])) ds).bnd λq=>if q.2<=1 then .ok (.lst q.1,q.2) []else .st
        else .st
      | none=>.st)
    else .st):=rfl
variable{Φ:Fx}{F:List D->Rs D}{B:List D->R1}{test:al->Rs Bool}{sf:D->Option Int->Option Int->R1}
inductive Fl where
 | nx (ρ:al)|rt (d:D)|bk (ρ:al)|ct (ρ:al)
noncomputable def qg:Expr->Bool
 | .ListComp .. => true
 | .SetComp .. => true
 | .DictComp .. => true
 | _=>false
noncomputable def yG(l:List D)(i:Int)(d:D):Option (List D):=(ixN l.length i).map λj=>l.set j d
noncomputable def lV(f:al->Rs Fl):Fl->Rs Fl
 | .nx ρ=>f ρ
 | .ct ρ=>f ρ
 | .bk ρ=>.ok (.nx ρ) []
 | .rt d=>.ok (.rt d) []
noncomputable def e9(bind:D->al->Option al)(body:al->Rs Fl):List D->al->Rs Fl
 | [],ρ=>.ok (.nx ρ) []
 | d::l,ρ=>match bind d ρ with
  | none=>.st
  | some ρ1=>(body ρ1).bnd (lV (e9 bind body l))
noncomputable def ol(test:al->Rs Bool)(body:al->Rs Fl):Nat->al->Rs Fl
 | 0,_=>.st
 | n+1,ρ=>(test ρ).bnd λb=>cond b ((body ρ).bnd (lV (ol test body n))) (.ok (.nx ρ) [])
noncomputable def demX(x:Str)(ρ:al):al:=λy=>if y=x then(ρ y).map λp=>(p.1,false)else ρ y
noncomputable def demA(x:Str)(ρ:al):al:=λy=>if y=x then(ρ y).map λp=>(p.1,p.2&&p.1.lless)else ρ y
noncomputable def demL:List Expr->al->al
 | [],ρ=>ρ
 | .Name x _::es,ρ=>demL es (demA x ρ)
 | .Subscript (.Name x _) _ _::es,ρ=>demL es (demA x ρ)
 | _::es,ρ=>demL es ρ
noncomputable def demote(e:Expr)(ρ:al):al :=
 match e with
 | .Name x _=>demX x ρ
 | .Subscript (.Name x _) _ _=>demX x ρ
 | .Call _ args _ _=>demL args ρ
 | _=>ρ
noncomputable def rN(sc:Scope)(x:Str)(p:D×Nat)(ρ:al):Rs Fl :=
 if eI sc x=true then
  match p.2 with
  | 0=>.ok (.nx (bF ρ x (p.1,true))) []
  | 1=>.ok (.nx (bF ρ x (p.1,false))) []
  | _=>.st
 else .st
noncomputable def yQ(ρ:al)(x:Str)(f:List D->Rs Fl):Rs Fl :=
 match ρ x with
 | some (.lst l,true)=>if fH x=true then f l else .st
 | _=>.st
noncomputable def pW(sc:Scope)(x y:Str)(px py:Pos)(a b:Expr):Bool :=
 sc.names.lookup x==some .local&&sc.names.lookup y==some .local&&(px.line==py.line) && !decide (x=y) && !([a,b].all (foldedForSure 8)) && !([a,b].all (constantsAlone 8))
noncomputable def nP(Φ:Fx)(es:List Expr)(e:Expr)(sc:Scope)(ρ:al):Rs Fl :=
  match es,e with
  | [.Name x px,.Name y py],.Tuple [a,b] _ _=>if pW sc x y px py a b=true then(cZ Φ [a,b] sc ρ).bnd λp=>(match p.1 with
      | [u,v]=>if aI [u,v]=true\/p.2<=1 then .ok (.nx (bF (bF ρ x (u,false)) y (v,false))) []else .st
      | _=>.st)else .st
  | _,_=>.st
noncomputable def wj(sc:Scope)(es:List Expr)(e:Expr):Bool :=
 match es,e with
 | [.Name x _,.Name _ _],.Tuple [_,_] _ _=>sc.names.lookup x==some .cell
 | _,_=>false
noncomputable def pH(sc:Scope)(es:List Expr)(e:Expr):Bool:=iK e && !wj sc es e
noncomputable def vw(sc:Scope)(es:List Expr)(p:D×Nat):Bool :=
 match es,p.1,p.2 with
 | [.Name x _,.Name y _],.tup [d1,d2],0=>d1.lless && !d2.lless && !decide (x=y)&&eI sc x&&eI sc y
 | _,_,_=>false
noncomputable def yK(es:List Expr)(p:D×Nat)(ρ:al):al :=
 match es,p.1 with
 | [.Name x _,.Name y _],.tup [d1,d2]=>bF (bF ρ y (d2,true)) x (d1,false)
 | _,_=>ρ
noncomputable def V5(_:Expr):Bool:=true
noncomputable def yA(ρ:al)(x:Str)(i d:D):Rs Fl :=
 match ρ x with
 | some (.lst l,true)=>(match i with | .int j=>if fH x=true then(match yG l j d with|some l'=>.ok (.nx (bF ρ x (.lst l',true))) [aI l=true,d.lless=true]|none=>.st)else .st|_=>.st)
 | some (.dct _ _,true)=>.st
 | _=>.st
noncomputable def qA(Φ:Fx)(tgs:List Expr)(e:Expr)(sc:Scope)(ρ:al):Rs Fl :=
  match tgs with
  | [.Name x _]=>(aH Φ e false sc ρ).bnd λp=>rN sc x p ρ
  | [.Tuple es _ _]=>if pH sc es e=true then nP Φ es e sc ρ else(aH Φ e false sc ρ).bnd λp=>if vw sc es p=true then .ok (.nx (yK es p ρ)) []else(match gD p.1 with
      | some ds=>if aI ds=true\/p.2<=1 then(match bL sc es ds ρ with|some ρ'=>.ok (.nx ρ') []|none=>.st)else .st
      | none=>.st)
  | [.Subscript (.Name x _) i _]=>if V5 e=true then(aH Φ e false sc ρ).bnd λp=>(aH Φ i false sc ρ).bnd λq=>yA ρ x q.1 p.1
    else .st
  | _=>.st
noncomputable def qz(Φ:Fx)(e:Expr)(sc:Scope)(ρ:al):Rs Fl :=
  match e with
  | .Call (.Attribute (.Name x _) m ap) args [] cp=>if (ap.endLine==cp.line)=true then(cZ Φ args sc ρ).bnd λp=>(match Φ.mtt m with
      | some M=>yQ ρ x λl=>(M l p.1 p.2).bnd λl'=>.ok (.nx (bF ρ x (.lst l',true))) []
      | none=>.st)else .st
  | .Call (.Name f p) args ks cp=>(aH Φ (.Call (.Name f p) args ks cp) false sc ρ).bnd λ_=>.ok (.nx ρ) []
  | _=>.st
noncomputable def gZ(ρ:al):al:=λy=>(ρ y).map λp=>(p.1,false)
noncomputable def Fb:Expr->Bool
 | .ListComp elt _ _ _=>qg elt
 | _=>false
noncomputable def ui:Expr->Bool
 | .Tuple es _ _=>es.any Fb
 | e=>Fb e
noncomputable def vi(e:Expr)(ρ:al):al:=cond (ui e) (gZ ρ) ρ
noncomputable def yJ(p:D×Nat):Rs Fl:=if p.2=0\/p.2=2 then .ok (.rt p.1) []else .st
mutual
noncomputable def ga(Φ:Fx):Stmt->Scope->al->Rs Fl
  | .Return (some e) _,sc,ρ=>(aH Φ e false sc (vi e ρ)).bnd yJ
  | .Return none _,_,_=>.ok (.rt .non) []
  | .Pass _,_,ρ=>.ok (.nx ρ) []
  | .Break _,_,ρ=>.ok (.bk ρ) []
  | .Continue _,_,ρ=>.ok (.ct ρ) []
  | .Assign tgs e _,sc,ρ=>qA Φ tgs e sc ρ
  | .Expr e _,sc,ρ=>qz Φ e sc ρ
  | .If c a b _,sc,ρ=>(aH Φ c false sc ρ).bnd λp=>jE p λt=>cond t (aF Φ a sc ρ) (aF Φ b sc ρ)
  | .For tg it body els _,sc,ρ=>if els.isEmpty=true then(aH Φ it true sc (demote it ρ)).bnd λp=>(match items p.1 with
      | some ds=>if p.2<=1/\gF it tg=true then e9 (cI sc tg) (aF Φ body sc) ds (demote it ρ)else .st
      | none=>.st)
    else .st
  | .While c body els _,sc,ρ=>if els.isEmpty=true then ol (λρ=>(aH Φ c false sc ρ).bnd λp=>jE p λb=>.ok b []) (aF Φ body sc) cq ρ else .st
  | _,_,_=>.st
noncomputable def aF(Φ:Fx):List Stmt->Scope->al->Rs Fl
 | [],_,ρ=>.ok (.nx ρ) []
 | s::ss,sc,ρ=>(ga Φ s sc ρ).bnd fun
  | .nx ρ'=>aF Φ ss sc ρ'
  | f=>.ok f []
end
theorem rY{it:Expr}:ga Φ (.For tg it body els q) sc ρ=(if els.isEmpty=true then(aH Φ it true sc (demote it ρ)).bnd λp=>(match items p.1 with
      | some ds=>if p.2<=1/\gF it tg=true then e9 (cI sc tg) (aF Φ body sc) ds (demote it ρ)else .st
      | none=>.st)
    else .st):=rfl
theorem vV{ρ:al}:ga Φ (.While c body els q) sc ρ=(if els.isEmpty=true then ol (λρ=>(aH Φ c false sc ρ).bnd λp=>jE p λb=>.ok b []) (aF Φ body sc) cq ρ else .st):=rfl
noncomputable def de:List Str->List D->al
 | p::ps,d::ds=>λz=>if z=p then some (d,false)else de ps ds z
 | _,_=>λ_=>none
noncomputable def bH(Φ:Fx)(sc:Scope)(ps:List Str)(body:List Stmt)(ds:List D):Rs D :=
 if ds.length=ps.length then(aF Φ body sc (de ps ds)).bnd fun
  | .rt d=>.ok d []
  | .nx _=>.ok .non []
  | _=>.st
 else .st
noncomputable def D5(ds:List D):R1 :=
 match ds with
 | [.sn n]=>.ok (.int n,0) []
 | [x]=>(match gD x with|some l=>.ok (.int l.length,0) []|none=>.st)
 | _=>.st
noncomputable def qS(ds:List D):R1 :=
 match ds with
 | [x]=>(match gD x with|some l=>.ok (.tup l,0) [aI l=true]|none=>.st)
 | _=>.st
noncomputable def Ea(ds:List D):R1 :=
 match ds with
 | [.int i]=>.ok (.int (if i<0 then -i else i),0) []
 | _=>.st
noncomputable def iW(ds:List D):R1 :=
 match ds with
 | [.lst l]=>(match dj l with|some bs=>.ok (.bl (bs.all id),0) []|none=>.st)
 | _=>.st
noncomputable def D9(ds:List D):R1 :=
 match ds with
 | [.lst l]=>(match dj l with|some bs=>.ok (.bl (bs.any id),0) []|none=>.st)
 | _=>.st
noncomputable def D2(ds:List D):R1 :=
 match ds with
 | [.lst l]=>(match fk l with|some ns=>.ok (.int ns.sum,0) []|none=>.st)
 | _=>.st
noncomputable def D7(ds:List D):R1 :=
 match ds with
 | [.int i]=>.ok (.int i,0) []
 | [.bl b]=>.ok (.int (cond b 1 0),0) []
 | _=>.st
noncomputable def lN(ds:List D):R1 :=
 match ds with
 | [.int i]=>.ok (.str (toString i),0) [i.natAbs<2 ^ 1900]
 | _=>.st
noncomputable def vL(ds:List D)(_:Nat):R1 :=
 match ds with
 | [.int j]=>.ok (.lst ((List.range j.toNat).map λi=>.int (i:Nat)),0) [-4611686018427387904<=j,j<=cq]
 | [.int i,.int j]=>.ok (.lst ((List.range (j-i).toNat).map λm=>.int (i+(m:Nat))),0) [-4611686018427387904<=i,i<=4611686018427387000,-4611686018427387904<=j,j-i<=800]
 | _=>.st
noncomputable def zq:Nat->List D->List D
 | _,[]=>[]
 | n,x::xs=>.tup [.int (n:Nat),x]::zq (n+1) xs
theorem x9:∀(l:List D) (n:Nat),zq n l=l.mapIdx λi x=>.tup [.int ((n+i:Nat):Int),x]
 | [],_=>rfl
 | x::l,n=>by
  rw[zq,x9 l (n+1),List.mapIdx_cons]
  simp only[Nat.add_zero]
  congr 1
  congr 1
  funext i y
  rw[show n+1+i=n+(i+1) by omega]
noncomputable def zk(ds:List D)(k:Nat):R1 :=
 match ds with
 | [.lst a]=>.ok (.lst (zq 0 a),k) [aI a=true]
 | _=>.st
noncomputable def zj(ds:List D)(k:Nat):R1 :=
 match ds with
 | [x,y]=>(match gD x,gD y with|some a,some b=>.ok (.lst (List.zipWith (λx y=>.tup [x,y]) a b),k) [aI a=true,aI b=true]|_,_=>.st)
 | _=>.st
noncomputable def rS(l ds:List D)(k:Nat):Rs (List D) :=
 match ds with
 | [d]=>.ok (l++[d]) [d.lless=true\/k=0,l.length<cq]
 | _=>.st
noncomputable def Tb(l:List (Str×(List D->Rs D)))(c:List (Str×D))(b:List (Str×(List D->R1)))(i:List (Str×(List D->Nat->R1)))(m:List (Str×(D->List D->R1)))(t:List (Str×(List D->List D->Nat->Rs (List D))))(sf:D->Option Int->Option Int->R1):Fx :=
 { slf:=sf,fn:=λg=>l.lookup g,con:=λx=>c.lookup x,blt:=λx=>b.lookup x,itr:=λx=>i.lookup x,mth:=λx=>m.lookup x,mtt:=λx=>t.lookup x }
noncomputable def mZ(l:List (Str×(List D->Rs D)))(c:List (Str×D))(b:List (Str×(List D->R1)))(i:List (Str×(List D->Nat->R1)))(m:List (Str×(D->List D->R1)))(t:List (Str×(List D->List D->Nat->Rs (List D))))(sf:D->Option Int->Option Int->R1)(fl:List (Str×List Str))(om:List (Str×List (Str×(List D->Rs D)))):Fx :=
  { slf:=sf,fn:=λg=>l.lookup g,con:=λx=>c.lookup x,blt:=λx=>b.lookup x,itr:=λx=>i.lookup x,mth:=λx=>m.lookup x,mtt:=λx=>t.lookup x
    fld:=λn f=>match fl.lookup n with|some fs=>fs.contains f|none=>false
    omt:=λn x=>match om.lookup n with|some ms=>ms.lookup x|none=>none }
variable{fl:Fl}{bodyF:al->Rs Fl}
variable{X:Cx}
theorem nI{k:Int}(h:k.natAbs<2 ^ n):Builtin.Int.intBits k<=n:=by
 unfold Builtin.Int.intBits
 split
 ·exact aH5 _
 ·rename_i h0
  have:k.natAbs.log2<n:=by
   rcases aL3 k.natAbs with h1|hp
   ·exact absurd (by simpa using h1) (by simpa using h0)
   ·exact(Nat.log2_lt (aL1 hp)).mpr h
  omega
theorem fc:∀{l m:List Prop},aT (l++m)↔aT l/\aT m
 | [],m=>by simp[aT]
 | p::l,m=>by
  show p/\aT (l++m)↔(p/\aT l)/\aT m
  rw[fc,and_assoc]
theorem bw{r:Rs α}{f:α->Rs β}{b:β}{l:List Prop}(h:r.bnd f=.ok b l)(hp:aT l):∃a l1 l2,r=.ok a l1/\aT l1/\f a=.ok b l2/\aT l2:=by
 unfold Rs.bnd at h
 split at h
 ·cases h
 ·rename_i a l1
  split at h
  ·cases h
  ·rename_i b' m e
   cases h
   obtain⟨h1,h2⟩:=fc.mp hp
   exact⟨a,l1,m,rfl,h1,e,h2⟩
theorem qk{m:List Prop}(h:aT (gd b m))(hb:b=true):aT m:=by
 cases m with
 | nil=>exact True.intro
 | cons p l=>exact h.1 hb
theorem S0{a b:Int}(h:Builtin.Int.intBits a<=2 ^ 22)(g:Builtin.Int.intBits b<=2 ^ 22):IntMulOk a b:=by
 have h':Builtin.Int.intTooBig (Builtin.Int.intBits a+Builtin.Int.intBits b)=false:=by
  unfold Builtin.Int.intTooBig bitsLine;exact aH6 (by omega)
 unfold IntMulOk;rw[h'];simp
theorem C2{a b:Int}(h:dH a b):IntMulOk a b:=by
 rcases h with h|h|⟨h,g⟩|⟨h,g⟩
 ·exact .of_left (nI h)
 ·exact .of_right (nI h)
 ·exact IntMulOk.of_bits (aF5 (nI h) (by decide)) (aF5 (nI g) (by decide))
 ·exact S0 h g
theorem IQ:eG X (binaryOp .Mult) (rI (λi j=>dH i j) λi j=>.int (i*j)):=E9 λ_ _ _ _ _ _ _ hc q=>mul_int q (C2 hc)
theorem CW:eG X (binaryOp .FloorDiv) (rI (λ_ j=>j≠0/\j.natAbs<bW) λi j=>.int (i.fdiv j)):=E9 λi j _ _ _ _ _ hc q=>floordiv_int hc.1 q (.inl (PyProof.noPylong_of_log2 (by
 rcases aL3 j.natAbs with h1|hp
 ·exact absurd (by simpa using h1) hc.1
 ·exact(Nat.log2_lt (aL1 hp)).mpr hc.2)))
mutual
theorem eZ{pins:List (Addr×Obj)}{σ:L2.St}{H:Hp}{s:Shared}(I:aq X pins σ H s){P:bU}:∀{d:D} {v:V} {u:Value},d.py.canLay0=true->aj X.K H P d v->bO v u->∃as,Reads s.heap u d.py as
 | .non,v,u,_,h,r=>by
  rw[aj]at h;subst h;cases (show u=Value.none from r);rw[D.py];exact⟨_,.none⟩
 | .bl b,v,u,_,h,r=>by rw[aj]at h;subst h;cases (show u=Value.bool b from r);rw[D.py];exact⟨_,.bool b⟩
 | .int i,v,u,_,h,r=>by rw[aj]at h;subst h;obtain⟨t,e⟩:=(show ∃t,u=Value.int i t from r);subst e;rw[D.py];exact⟨_,.int i t⟩
 | .str x,v,u,_,h,r=>by rw[aj]at h;subst h;obtain⟨t,e⟩:=(show ∃t,u=Value.str x t from r);subst e;rw[D.py];exact⟨_,.str x t⟩
 | .dct _ _,v,u,c,h,r=>by rw[D.py]at c;simp[PyData.canLay0]at c
 | .typ _,v,u,c,h,r=>by rw[D.py]at c;simp[PyData.canLay0]at c
 | .dcf _ _,v,u,c,h,r=>by rw[D.py]at c;simp[PyData.canLay0]at c
 | .dft _ _ _,v,u,c,h,r=>by rw[D.py]at c;simp[PyData.canLay0]at c
 | .sn _,v,u,c,h,r=>by rw[D.py]at c;simp[PyData.canLay0]at c
 | .obj _ _ _,v,u,c,h,r=>by rw[D.py]at c;simp[PyData.canLay0]at c
 | .cls _,v,u,c,h,r=>by rw[D.py]at c;simp[PyData.canLay0]at c
 | .tup l,v,u,c,h,r=>by
  rw[aj]at h
  obtain⟨a,vs,rfl,h,q⟩:=h
  cases (show u=Value.ref a from r)
  obtain⟨its,rv,ht,_⟩:=I.tuple h
  obtain⟨o,e1,e2,n,e3⟩:=ht
  rw[D.py]at c⊢
  obtain⟨as,ra⟩:=mz I (by simpa [PyData.canLay0]using c) q rv
  exact⟨as,.tuple e1 e2 e3 (by simpa using ra)⟩
 | .lst l,v,u,c,h,r=>by
  rw[aj]at h
  obtain⟨a,vs,b,rfl,h,_,q⟩:=h
  cases (show u=Value.ref a from r)
  have hs:dG X.K H a vs:=h.sq
  obtain⟨its,rv,ht,_⟩:=I.list hs
  obtain⟨o,n,e1,e2,_,e3⟩:=ht
  rw[D.py]at c⊢
  obtain⟨as,ra⟩:=mz I (by simpa [PyData.canLay0]using c) q rv
  exact⟨_,.list e1 e2 e3 (by simpa using ra)⟩
theorem mz{pins:List (Addr×Obj)}{σ:L2.St}{H:Hp}{s:Shared}(I:aq X pins σ H s){P:bU}:∀{l:List D} {vs:List V} {us:List Value},PyData.canLayAll0 (d9 l)=true->am X.K H P l vs->bi vs us->∃as,ReadsAll s.heap us (d9 l) as
 | [],vs,us,_,h,r=>by rw[am]at h;subst h;cases r;rw[d9];exact⟨_,.nil⟩
 | d::l,vs,us,c,h,r=>by
  rw[am]at h
  obtain⟨v,vr,rfl,h1,h2⟩:=h
  cases r with
  | cons r1 r2 =>
   rw[d9,PyData.canLayAll0,aH4]at c
   obtain⟨as,ra⟩:=eZ I c.1 h1 r1
   obtain⟨bs,rb⟩:=mz I c.2 h2 r2
   rw[d9]
   exact⟨_,.cons ra rb⟩
end
noncomputable def Gu(X:Cx)(f:Value->Value->Sem Value)(x y z:D)(k j l:Nat):Prop :=
 ∃r:R2,eG X f r/\∀ow H0 H2 v u (Q:VK),fy ow H0->aL H0 H2->aj X.K H2 (Kp ow H0 k) x v->aj X.K H2 (Kp ow H0 j) y u->(∀w H',aL H2 H'->aj X.K H' (Kp ow H0 l) z w->Q w H')->r v u H2 Q
theorem er{p:Addr}{o:HO}(h:H p=none):aL H (bo H p o):=λb x e=>by rw[aK (cu e h)];exact e
theorem aj.kn(h:aj K H (Kp ow H0 k) d v):aj K H (Kp ow H0 (Sp.kn d k)) d v:=by
 unfold Sp.kn
 by_cases f:d.lless=true
 ·rw[if_pos f];exact h.flat _ f
 ·rw[if_neg f];exact h
theorem io:cq<=sizeLine:=by rw[aO1];decide
theorem sZ:cq<sizeLine:=by rw[aO1];decide
theorem nF{f:Value->Value->Sem Value}{a b:Int}{g:Int->Int->Int}{C:Int->Int->Prop}(h:eG X f (rI C λi j=>.int (g i j)))(hc:C a b):Gu X f (.int a) (.int b) (.int (g a b)) k j 0 :=
 ⟨_,h,λow H0 H2 v u Q o s rx ry q=>by
  rw[aj]at rx ry;subst rx ry
  exact⟨a,b,rfl,rfl,hc,q _ _ (aL.refl _) (by rw[aj])⟩⟩
theorem vx{f:Value->Value->Sem Value}{a b:Int}{g:Int->Int->Int}(h:eG X f (ou λi j=>.int (g i j))):Gu X f (.int a) (.int b) (.int (g a b)) k j 0 :=
 ⟨_,h,λow H0 H2 v u Q o s rx ry q=>by
  rw[aj]at rx ry;subst rx ry
  exact⟨a,b,rfl,rfl,q _ _ (aL.refl _) (by rw[aj])⟩⟩
theorem lW:∀{a b:List D},aI (a++b)=(aI a&&aI b)
 | [],b=>by simp[aI]
 | x::a,b=>by rw[List.cons_append,aI,aI,lW,Bool.and_assoc]
theorem J3{op:Operator}{a b:Int}{l:Nat}(h:D1 op a b=.ok (z,l) o)(hp:aT o):Gu X (binaryOp op) (.int a) (.int b) z k j l:=by
 unfold D1 at h
 split at h
 ·cases h;exact vx L5
 ·cases h;exact vx LZ
 ·cases h;exact nF IQ hp.1
 ·cases h;exact nF CW hp.1
 ·cases h;exact nF IR hp.1
 ·cases h
  have c:yM a b:=hp.1
  exact nF L3 ⟨c.1,by have:=c.2.1;omega,c.2.2⟩
 ·cases h
theorem oP{op:Operator}(h:ul op=true):op=.Add:=by cases op<;>first|rfl|cases h
theorem CY:eG X (binaryOp .Add) (λx y H Q => ∃a b ys,x=.ref a/\y=.ref b/\ck X.K H a []/\ck X.K H b ys/\Q (.ref b) H):=by
 intro pins s σ H x y v u Q I rx ry h
 obtain⟨a,b,ys,rfl,rfl,ha,hb,q⟩:=h
 cases rx
 cases ry
 obtain⟨its,r1,p1,_⟩:=I.tuple ha
 obtain⟨its2,r2,p2,_⟩:=I.tuple hb
 cases r1
 obtain⟨⟨cls,dd,data,sl⟩,ho,hc,n,hd⟩:=id p1
 obtain⟨⟨cls2,dd2,data2,sl2⟩,ho2,hc2,n2,hd2⟩:=id p2
 simp only at hc hd hc2 hd2
 subst hc hd hc2 hd2
 exact concat_meets ⟨_,ho,rfl⟩ ⟨_,ho2,rfl⟩ noFill_tuple_add seq_tuple_add PySem.F.slot_tuple_add PySem.F.entry_tuple_add (PySem.F.args_tuple_add_2 _ _)
  (tuple_addW0 a b _ its2.toArray n n2 dd dd2 sl sl2 (by rfl)) ⟨ho,ho2,⟨.ref b,H,I,rfl,q⟩⟩
theorem IT:eG X (binaryOp .Add) (λx y H Q => ∃l b xs zs,x=.ref l/\y=.ref b/\dG X.K H l xs/\dG X.K H b zs/\xs.length+zs.length<=sizeLine/\∀p,H p=none->Q (.ref p) (bo H p (.lst (xs++zs)))):=by
 intro pins s σ H x y v u Q I rx ry h
 obtain⟨l,b,xs,zs,rfl,rfl,hH,hB,hz,q⟩:=h
 cases rx
 cases ry
 obtain⟨its,r,⟨⟨cls,dd,data,sl⟩,n,ho,hc,_,hd⟩,z⟩:=I.list hH
 obtain⟨its2,r2,⟨⟨cls2,dd2,data2,sl2⟩,n2,ho2,hc2,_,hd2⟩,z2⟩:=I.list hB
 simp only at hc hd hc2 hd2
 subst hc hd hc2 hd2
 have l1:=r.length
 have l2:=r2.length
 refine concat_meets ⟨_,ho,rfl⟩ ⟨_,ho2,rfl⟩ noFill_list_add seq_list_add PySem.F.slot_list_add PySem.F.entry_list_add (PySem.F.args_list_add_2 _ _) (list_addW l b its.toArray its2.toArray n n2 dd dd2 sl sl2 (by rw[aI0,aI0];omega)) ⟨ho,ho2,?_⟩
 have ea:its.toArray++its2.toArray=(its++its2).toArray:=by simp
 rw[ea]
 exact⟨.ref _,_,I.lnew (t':=s.toks) (r.append r2) (by rw[aI6];omega),rfl,q _ I.fresh⟩
theorem OV{op:Operator}{x:D}{l:Nat}(h:sx op x y k j=.ok (z,l) o)(hp:aT o):Gu X (binaryOp op) x y z k j l:=by
 unfold sx at h
 split at h
 ·exact J3 h hp
 ·rename_i a b
  split at h
  ·rename_i c;cases h
   cases oP c
   refine⟨_,yT,λow H0 H2 v u Q o s rx ry q=>?_⟩
   rw[aj]at rx ry;subst rx ry
   exact⟨a,b,rfl,rfl,aF5 hp.1 io,q _ _ (aL.refl _) (by rw[aj])⟩
  ·cases h
 ·rename_i a b
  split at h
  ·rename_i c
   cases oP c
   cases h
   cases a with
   | nil =>
    refine⟨_,CY,λow H0 H2 v u Q o s rx ry q=>?_⟩
    rw[aj]at rx ry
    obtain⟨pa,va,rfl,ha,ra⟩:=rx
    obtain⟨pb,vb,rfl,hb,rb⟩:=ry
    have rb':=rb.imp (Kp.joinR o k j)
    cases ra
    refine⟨pa,pb,vb,rfl,rfl,ha,hb,q _ _ (aL.refl _) (aj.kn ?_)⟩
    rw[aj]
    exact⟨pb,vb,rfl,hb,rb'⟩
   | cons a0 a =>
    refine⟨_,IS,λow H0 H2 v u Q o s rx ry q=>?_⟩
    rw[aj]at rx ry
    obtain⟨pa,va,rfl,ha,ra⟩:=rx
    obtain⟨pb,vb,rfl,hb,rb⟩:=ry
    have ra':=ra.imp (Kp.joinL o k j)
    have rb':=rb.imp (Kp.joinR o k j)
    have la:=ra.length
    have lb:=rb.length
    refine⟨pa,pb,va,vb,rfl,rfl,ha,hb,?_,?_,λe=>?_,λe p hp'=>?_⟩
    ·intro e;subst e;cases la
    ·rw[<- la,<- lb];exact aF5 hp.1 io
    ·subst e
     have:b=[]:=aN6.mp lb
     subst this
     refine q _ _ (aL.refl _) (aj.kn ?_)
     rw[aj]
     exact⟨pa,va,rfl,ha,by rw[aK7];exact ra'⟩
    ·have sm:=er (o:=HO.tup (va++vb)) hp'
     refine q _ _ sm (aj.kn ?_)
     rw[aj]
     exact⟨p,_,rfl,ck.of aU,(ra'.same sm).append (rb'.same sm)⟩
  ·cases h
 ·rename_i a b
  split at h
  ·rename_i c;cases h
   cases oP c
   refine⟨_,IT,λow H0 H2 v u Q o s rx ry q=>?_⟩
   rw[aj]at rx ry
   obtain⟨pa,va,b1,rfl,ha,qa,ra⟩:=rx
   obtain⟨pb,vb,b2,rfl,hb,qb,rb⟩:=ry
   have la:=ra.length
   have lb:=rb.length
   have fl:=hp.1
   rw[lW,aH4]at fl
   refine⟨pa,pb,va,vb,rfl,rfl,ha.sq,hb.sq,by rw[<- la,<- lb];exact aF5 hp.2.1 io,λp hp'=>?_⟩
   have sm:=er (o:=HO.lst (va++vb)) hp'
   refine q _ _ sm ?_
   rw[aj]
   exact⟨p,_,true,rfl,aU,⟨rfl,s.free hp'⟩,((ra.flat _ fl.1).same sm).append ((rb.flat _ fl.2).same sm)⟩
  ·cases h
 ·cases h
theorem mO:∀{l:List D} {ns:List Int},fk l=some ns->l=ns.map D.int
 | [],ns,h=>by rw[fk]at h;cases h;rfl
 | .int i::l,ns,h=>by
  rw[fk]at h
  cases e:fk l with
  | none=>rw[e]at h;cases h
  | some m=>rw[e]at h;cases h;rw[mO e];rfl
 | .non::l,ns,h=>by rw[fk]at h<;>first|cases h|(intro z;intro e;cases e)
 | .bl _::l,ns,h=>by rw[fk]at h<;>first|cases h|(intro z;intro e;cases e)
 | .str _::l,ns,h=>by rw[fk]at h<;>first|cases h|(intro z;intro e;cases e)
 | .dct _ _::l,ns,h=>by rw[fk]at h<;>first|cases h|(intro z;intro e;cases e)
 | .typ _::l,ns,h=>by cases h
 | .dcf _ _::l,ns,h=>by cases h
 | .dft _ _ _::l,ns,h=>by cases h
 | .sn _::l,ns,h=>by cases h
 | .obj _ _ _::l,ns,h=>by cases h
 | .cls _::l,ns,h=>by cases h
 | .tup _::l,ns,h=>by rw[fk]at h<;>first|cases h|(intro z;intro e;cases e)
 | .lst _::l,ns,h=>by rw[fk]at h<;>first|cases h|(intro z;intro e;cases e)
theorem lM:∀{l:List D} {ns:List Bool},dj l=some ns->l=ns.map D.bl
 | [],ns,h=>by rw[dj]at h;cases h;rfl
 | .bl i::l,ns,h=>by
  rw[dj]at h
  cases e:dj l with
  | none=>rw[e]at h;cases h
  | some m=>rw[e]at h;cases h;rw[lM e];rfl
 | .non::l,ns,h=>by rw[dj]at h<;>first|cases h|(intro z;intro e;cases e)
 | .int _::l,ns,h=>by rw[dj]at h<;>first|cases h|(intro z;intro e;cases e)
 | .str _::l,ns,h=>by rw[dj]at h<;>first|cases h|(intro z;intro e;cases e)
 | .dct _ _::l,ns,h=>by rw[dj]at h<;>first|cases h|(intro z;intro e;cases e)
 | .typ _::l,ns,h=>by cases h
 | .dcf _ _::l,ns,h=>by cases h
 | .dft _ _ _::l,ns,h=>by cases h
 | .sn _::l,ns,h=>by cases h
 | .obj _ _ _::l,ns,h=>by cases h
 | .cls _::l,ns,h=>by cases h
 | .tup _::l,ns,h=>by rw[dj]at h<;>first|cases h|(intro z;intro e;cases e)
 | .lst _::l,ns,h=>by rw[dj]at h<;>first|cases h|(intro z;intro e;cases e)
noncomputable def kD(X:Cx)(op:CmpOp)(x y:D)(r:Bool):Prop:=∀(P P':bU),eG X (compareOp op) (λv u H Q=>aj X.K H P x v/\aj X.K H P' y u/\Q (.bl r) H)
theorem mW{x:D}:∀{l:List D},((d9 l).any λy=>PyData.eqv y x.py)=l.any λy=>eqD y x
 | []=>by rw[d9];rfl
 | y::l=>by rw[d9,List.any_cons,List.any_cons,mW];rfl
theorem nS{a b:Int}{g:Int->Int->Bool}(h:eG X (compareOp op) (ou λi j=>.bl (g i j))):kD X op (.int a) (.int b) (g a b):=λP P' pins s σ H v u xv yu Q I rx ry ⟨h1,h2,q⟩=>by
 rw[aj]at h1 h2;subst h1 h2
 exact h pins s σ H _ _ xv yu Q I rx ry ⟨a,b,rfl,rfl,q⟩
theorem Jo(h:SeqAt.shaped (D.tup l).py=true):PyData.canLayAll0 (d9 l)=true:=by
 have:=aL6 h
 rw[D.py]at this
 simpa [PyData.canLay0]using this
theorem xL{x:D}(hu:X.A.units+70<cLine)(h:vC x l=.ok r o)(hp:aT o):kD X .In x (.tup l) r/\kD X .In x (.lst l) r/\kD X .NotIn x (.tup l) (!r)/\kD X .NotIn x (.lst l) (!r):=by
 unfold vC at h
 cases h
 ·have c:=hp.1
  unfold fP at c
  rw[aH4]at c
  have c1:=Jo c.1
  have c2:=aL6 c.2
  have dx:=SeqAt.depth_of_shaped c.2
  have hm:min (PyData.depthAll (d9 l)) x.py.depth<=64:=aF5 (Nat.min_le_right _ _) dx
  have ct:(D.tup l).py.canLay0=true:=aL6 c.1
  have cl:(D.lst l).py.canLay0=true:=by rw[D.py];simpa [PyData.canLay0]using c1
  have et:(D.tup l).py=.tuple (d9 l):=by rw[D.py]
  have el:(D.lst l).py=.list (d9 l):=by rw[D.py]
  refine⟨?_,?_,?_,?_⟩<;>intro P P' pins s σ H v u xv yu Q I rx ry ⟨h1,h2,q⟩<;>obtain⟨as,r1⟩:=eZ I c2 h1 rx
  ·obtain⟨bs,r2⟩:=eZ I ct h2 ry
   rw[et]at r2
   exact SeqAt.in_tuple_reads r2 r1 c1 c2 (by omega) ⟨.bl _,H,I,rfl,by rw[mW];exact q⟩
  ·obtain⟨bs,r2⟩:=eZ I cl h2 ry
   rw[el]at r2
   exact SeqAt.in_list_reads r2 r1 c1 c2 (by omega) ⟨.bl _,H,I,rfl,by rw[mW];exact q⟩
  ·obtain⟨bs,r2⟩:=eZ I ct h2 ry
   rw[et]at r2
   exact SeqAt.notIn_tuple_reads r2 r1 c1 c2 (by omega) ⟨.bl _,H,I,rfl,by rw[mW];exact q⟩
  ·obtain⟨bs,r2⟩:=eZ I cl h2 ry
   rw[el]at r2
   exact SeqAt.notIn_list_reads r2 r1 c1 c2 (by omega) ⟨.bl _,H,I,rfl,by rw[mW];exact q⟩
theorem Mv{r:Rs Bool}(h:r.nt=.ok b o):r=.ok (!b) o:=by
 cases r with
 | st=>cases h
 | ok c l=>cases h;simp
theorem xI{P:bU}{x:D}(h:aj X.K H P x v):decide (v=.non)=x.isNon:=by
 cases x with
 | non=>rw[aj]at h;subst h;rfl
 | bl _=>rw[aj]at h;subst h;rfl
 | int _=>rw[aj]at h;subst h;rfl
 | str _=>rw[aj]at h;subst h;rfl
 | dct _ _=>rw[aj]at h;obtain⟨_,_,a,_,rfl,_⟩:=h;rfl
 | typ _=>rw[aj]at h;subst h;rfl
 | dcf _ _=>rw[aj]at h;obtain⟨_,a,_,_,rfl,_⟩:=h;rfl
 | dft _ _ _=>rw[aj]at h;obtain⟨_,a,_,_,rfl,_⟩:=h;rfl
 | sn _=>rw[aj]at h;obtain⟨a,_,rfl,_⟩:=h;rfl
 | obj _ _ _=>rw[aj]at h;obtain⟨_,_,a,_,_,_,rfl,_⟩:=h;rfl
 | cls _=>rw[aj]at h;obtain⟨_,_,rfl,_⟩:=h;rfl
 | tup _=>rw[aj]at h;obtain⟨a,_,rfl,_⟩:=h;rfl
 | lst _=>rw[aj]at h;obtain⟨a,_,_,rfl,_⟩:=h;rfl
theorem ik(h:gD d=some l):d=.tup l\/d=.lst l:=by
 unfold gD at h
 split at h
 ·cases h;exact .inl rfl
 ·cases h;exact .inr rfl
 ·cases h
theorem J1{a b:Int}(h:ir op a b=some r):kD X op (.int a) (.int b) r:=by
 unfold ir at h
 split at h
 ·cases h;exact nS RJ
 ·cases h;exact nS RK
 ·cases h;exact nS RL
 ·cases h;exact nS RM
 ·cases h
theorem LY{x:D}(hu:X.A.units+70<cLine)(h:yR op x y=some r):kD X op x y r:=by
 unfold yR at h
 split at h
 ·exact J1 h
 ·cases h
theorem oO{P:bU}{k:bM}(e:zc d=some k)(h:aj X.K H P d v):v=kV k:=by
 cases d<;>first|(cases e;done)|(rw[aj]at h;subst h;injection e with e;subst e;rfl)
theorem xj{k:bM}:∀{vs:List V},ks.length=vs.length->((ks.zip vs).any λp=>decide (p.1=k))=fO ks k:=by
 induction ks with
 | nil=>intro vs _;rfl
 | cons j ks ih =>
  intro vs h
  cases vs with
  | nil=>cases h
  | cons v vs =>
   show(decide (j=k) || (ks.zip vs).any _)=(decide (j=k) || fO ks k)
   rw[ih (by simpa using h)]
theorem FA{x:D}(hu:X.A.units+70<cLine)(h:FC x y=.ok r o)(hp:aT o):kD X .In x y r/\kD X .NotIn x y (!r):=by
 unfold FC at h
 split at h
 ·have m:=xL hu h hp;exact⟨m.1,m.2.2.1⟩
 ·have m:=xL hu h hp;exact⟨m.2.1,m.2.2.2⟩
 ·cases h
 ·rename_i a0 ks ds
  split at h
  ·rename_i k e
   cases h
   have key:∀{P P':bU} {pins:List (Addr×Obj)} {s:Shared} {σ:L2.St} {H:Hp} {v u:V} {xv yu:Value},aq X pins σ H s->bO v xv->bO u yu->aj X.K H P x v->aj X.K H P' (.dft a0 ks ds) u->∃a vs,yu=.ref a/\(gJ X.prog X.w).is k xv=true/\(a==sysModules)=false/\s.heap.DictOf (gJ X.prog X.w) a vs/\(valueAt vs k).isSome=fO ks k:=λ{P P' pins s σ H v u xv yu} I rx ry h1 h2=>by
    have hk:=oO e h1
    subst hk
    rw[aj]at h2
    obtain⟨e0,a,o0,vs,rfl,ha,rl⟩:=h2
    obtain⟨_,z,hd,ws,rel,dd⟩:=(show dn X.prog X.w H s.heap a (.frz o0 (.dK (ks.zip vs)))from I.hok a _ ha)
    refine⟨a,ws,ry,ze rx,hd,dd,?_⟩
    rw[<- (rel.val k).isSome_eq,<- uM,xj (e0.1.trans rl.len.symm)]
   refine⟨?_,?_⟩<;>intro P P' pins s σ H v u xv yu Q I rx ry ⟨h1,h2,q⟩<;>obtain⟨a,vs,rfl,kk,hd,dd,ev⟩:=key I rx ry h1 h2
   ·refine wpAny_in_of kk hd dd.mapOf ?_
    rw[ev]
    exact⟨.bl _,H,I.tok _,rfl,q⟩
   ·refine wpAny_notIn_of kk hd dd.mapOf ?_
    rw[ev]
    exact⟨.bl _,H,I.tok _,rfl,q⟩
  ·cases h
 ·rename_i b
  split at h
  ·rename_i a
   cases h
   refine⟨?_,?_⟩<;>intro P P' pins s σ H v u xv yu Q I rx ry ⟨h1,h2,q⟩<;>(rw[aj]at h1 h2;subst h1 h2;obtain⟨t,rfl⟩:=rx;obtain⟨t',rfl⟩:=ry)
   ·exact SB.contains ⟨.bl _,H,I,rfl,q⟩
   ·exact SB.notContains ⟨.bl _,H,I,rfl,q⟩
  ·cases h
 ·cases h
theorem jB{x:D}(hu:X.A.units+70<cLine)(h:fQ op x y=.ok r o)(hp:aT o):kD X op x y r:=by
 unfold fQ at h
 split at h
 ·cases h
  have c:=hp.1
  unfold fP at c
  rw[aH4]at c
  intro P P' pins s σ H v u xv yu Q I rx ry ⟨h1,h2,q⟩
  obtain⟨as,r1⟩:=eZ I (aL6 c.1) h1 rx
  obtain⟨bs,r2⟩:=eZ I (aL6 c.2) h2 ry
  exact eq_dataH r1 r2 c.1 c.2 (by omega) ⟨.bl _,H,I,rfl,q⟩
 ·cases h
  have c:=hp.1
  unfold fP at c
  rw[aH4]at c
  intro P P' pins s σ H v u xv yu Q I rx ry ⟨h1,h2,q⟩
  obtain⟨as,r1⟩:=eZ I (aL6 c.1) h1 rx
  obtain⟨bs,r2⟩:=eZ I (aL6 c.2) h2 ry
  exact ne_dataH r1 r2 c.1 c.2 (by omega) ⟨.bl _,H,I,rfl,q⟩
 ·exact(FA hu h hp).1
 ·have:=(FA hu (Mv h) hp).2;rw[Bool.not_not]at this;exact this
 ·split at h
  ·cases h
   intro P P' pins s σ H v u xv yu Q I rx ry ⟨h1,h2,q⟩
   rw[aj]at h2
   subst h2
   exact L4 pins s σ H v _ xv yu Q I rx ry ⟨rfl,by rw[xI h1];exact q⟩
  ·cases h
 ·split at h
  ·cases h
   intro P P' pins s σ H v u xv yu Q I rx ry ⟨h1,h2,q⟩
   rw[aj]at h2
   subst h2
   refine IP pins s σ H v _ xv yu Q I rx ry ⟨rfl,?_⟩
   rw[xI h1]
   exact q
  ·cases h
 ·cases e:yR op x y with
  | none=>rw[e]at h;cases h
  | some b=>rw[e]at h;cases h;exact LY hu e
variable{X:Cx}
noncomputable def D.ty:D->String
 | .non => "NoneType"
 | .bl _ => "bool"
 | .int _ => "int"
 | .str _ => "str"
 | .dct _ _ => "dict"
 | .tup _ => "tuple"
 | .lst _ => "list"
 | .typ _ => "type"
 | .dcf _ _ => "dict"
 | .dft _ _ _ => "dict"
 | .sn _ => "set"
 | .obj _ _ _ => "object"
 | .cls _ => "type"
noncomputable def lT(X:Cx)(f:Value)(ds:List D)(z:D)(l:Nat):Prop :=
 ∃r:List V->Hp->VK->Prop,fe X f r/\∀ow H0 H2 vs (P:bU) (Q:VK),fy ow H0->aL H0 H2->am X.K H2 P ds vs->(∀w H',aL H2 H'->aj X.K H' (Kp ow H0 l) z w->Q w H')->r vs H2 Q
theorem am.only{P:bU}(h:am K H P [d] vs):∃v,vs=[v]/\aj K H P d v:=by
 rw[am]at h
 obtain⟨v,r,rfl,h1,h2⟩:=h
 rw[am]at h2;subst h2
 exact⟨v,rfl,h1⟩
theorem jN{P:bU}(h:aj X.K H P (.lst l) v):∃a vs,v=.ref a/\dG X.K H a vs/\am X.K H P l vs:=by
 rw[aj]at h
 obtain⟨a,vs,b,rfl,h,_,q⟩:=h
 exact⟨a,vs,rfl,h.sq,q⟩
theorem jh{P:bU}(h:aj X.K H P (.tup l) v):∃a vs,v=.ref a/\ck X.K H a vs/\am X.K H P l vs:=by
 rw[aj]at h;exact h
theorem A4:lT X (.builtin "len") [.tup l] (.int l.length) 0/\lT X (.builtin "len") [.lst l] (.int l.length) 0:=by
 constructor
 ·refine⟨_,mV,λow H0 H2 vs P Q o s rx q=>?_⟩
  obtain⟨v,rfl,ry⟩:=rx.only
  obtain⟨a,ws,rfl,hs,rl⟩:=jh ry
  exact⟨a,ws,rfl,.inr hs,by rw[<- rl.length];exact q _ _ (aL.refl _) (by rw[aj])⟩
 ·refine⟨_,mV,λow H0 H2 vs P Q o s rx q=>?_⟩
  obtain⟨v,rfl,ry⟩:=rx.only
  obtain⟨a,ws,rfl,hs,rl⟩:=jN ry
  exact⟨a,ws,rfl,.inl hs,by rw[<- rl.length];exact q _ _ (aL.refl _) (by rw[aj])⟩
theorem uS(f:aI l=true):lT X (.type "tuple") [.lst l] (.tup l) 0/\lT X (.type "tuple") [.tup l] (.tup l) 0:=by
 constructor
 ·refine⟨_,lX,λow H0 H2 vs P Q o s rx q=>?_⟩
  obtain⟨v,rfl,ry⟩:=rx.only
  obtain⟨a,ws,rfl,hs,rl⟩:=jN ry
  refine⟨a,ws,rfl,.inl ⟨hs,λp hp=>?_⟩⟩
  have sm:=er (o:=HO.tup ws) hp
  refine q _ _ sm ?_
  rw[aj]
  exact⟨p,ws,rfl,ck.of aU,(rl.flat _ f).same sm⟩
 ·refine⟨_,lX,λow H0 H2 vs P Q o s rx q=>?_⟩
  obtain⟨v,rfl,ry⟩:=rx.only
  obtain⟨a,ws,rfl,hs,rl⟩:=jh ry
  refine⟨a,ws,rfl,.inr ⟨hs,q _ _ (aL.refl _) ?_⟩⟩
  rw[aj]
  exact⟨a,ws,rfl,hs,rl.flat _ f⟩
theorem Pg{i:Int}:lT X (.builtin "abs") [.int i] (.int (if i<0 then -i else i)) 0:=by
 refine⟨_,DZ,λow H0 H2 vs P Q o s rx q=>?_⟩
 obtain⟨v,rfl,ry⟩:=rx.only
 rw[aj]at ry;subst ry
 exact⟨i,rfl,q _ _ (aL.refl _) (by rw[aj])⟩
theorem am.mapBl{K:W.Frag}{P:bU}{H:Hp}:∀{ns:List Bool} {vs:List V},am K H P (ns.map D.bl) vs->vs=ns.map V.bl
 | [],vs,h=>by rw[aN0,am]at h;exact h
 | n::ns,vs,h=>by
  rw[aH8,am]at h
  obtain⟨v,r,rfl,h1,h2⟩:=h
  rw[aj]at h1
  rw[h1,am.mapBl h2];rfl
theorem rC:∀{bs:List Bool} {us:List Value},bi (bs.map V.bl) us->us=bs.map Value.bool
 | [],us,h=>by cases h;rfl
 | b::bs,us,h=>by
  cases h with
  | cons h1 h2=>rw[show _=Value.bool b from h1,rC h2];rfl
theorem uL:∀{ns:List Int} {us:List Value},bi (ns.map V.int) us->(∀v,v∈us->∃a t,v=Value.int a t)/\numsOf us=ns
 | [],us,h=>by cases h;exact⟨λ_ h=>(by cases h),rfl⟩
 | n::ns,us,h=>by
  cases h with
  | cons h1 h2 =>
   obtain⟨t,rfl⟩:=(show ∃t,_=Value.int n t from h1)
   obtain⟨i1,i2⟩:=uL h2
   refine⟨λv hv=>?_,by simp only[numsOf];rw[i2]⟩
   rcases aF8.mp hv with rfl|hv
   ·exact⟨_,_,rfl⟩
   ·exact i1 v hv
theorem By(hc:X.calm=true):fe X (.builtin "sum") (λxs H Q => ∃(p:Addr) (ns:List Int),xs=[.ref p]/\dG X.K H p (ns.map V.int)/\Q (.int ns.sum) H):=by
 intro pins s σ H xs us Q I r h
 obtain⟨p,ns,rfl,hq,q⟩:=h
 obtain⟨u,rfl,rx⟩:=d7 r
 cases rx
 obtain⟨its,rv,pl,hz⟩:=I.list hq
 obtain⟨hall,hnum⟩:=uL rv
 obtain⟨xs,e⟩:=AllInts.items (vs:=its.toArray) (λv hv=>hall v (by simpa using hv))
 have hl:=pl.isList
 rw[e]at hl
 refine sum_intListG (I.ok.hd hc) hl λh' tk t' hk=>?_
 refine⟨.int ns.sum,H,I.kept hk,⟨t',?_⟩,q⟩
 congr 1
 rw[preSum_eq,List.take_of_length_le (by simp),<- nums_intItems,<- e]
 simp[hnum]
theorem BF(hc:X.calm=true):fe X (.builtin "all") (λxs H Q => ∃(p:Addr) (bs:List Bool),xs=[.ref p]/\dG X.K H p (bs.map V.bl)/\Q (.bl (bs.all id)) H):=by
 intro pins s σ H xs us Q I r h
 obtain⟨p,bs,rfl,hq,q⟩:=h
 obtain⟨u,rfl,rx⟩:=d7 r
 cases rx
 obtain⟨its,rv,pl,hz⟩:=I.list hq
 have ei:=rC rv
 subst ei
 have hl:=pl.isList
 have hlt:p<s.heap.objs.size:=by obtain⟨_,e,_⟩:=hl;exact aG2 e
 refine call_all_walk (aL0 hl ?_)
 refine⟨_,_,_,_,_,_,λi=>bs.getD i true,rfl,Walks.list (A:=X.A.in1) (by exact I.ok.hd hc) _ p (aJ0 hlt) (bs.map Value.bool).toArray,⟨⟨_,aG5 _ rfl,rfl,rfl⟩,hl.push _⟩,?_,λh' tk hk=>?_⟩
 ·intro i v s' Q' E' hP hQ
  have hP:((bs.map Value.bool).toArray)[i]?=some v:=hP
  simp only[List.getElem?_toArray,aL7]at hP
  cases e:bs[i]? with
  | none=>rw[e]at hP;cases hP
  | some b =>
   rw[e]at hP;cases hP
   refine aK5 ?_
   have:bs.getD i true=b:=by rw[aJ2,e];rfl
   rw[<- this];exact hQ
 ·have:((List.range (bs.map Value.bool).toArray.size).all λi=>bs.getD i true)=bs.all id:=by
   simp only[aI0,aH3]
   rw[aN1,aM1,aM1]
   constructor
   ·intro h x hx
    obtain⟨i,hi,rfl⟩:=List.mem_iff_getElem.mp hx
    have:=h i (aN8.mpr hi)
    rw[aJ2,aH7 hi]at this
    exact this
   ·intro h i hi
    have hi:=aN8.mp hi
    rw[aJ2,aH7 hi]
    exact h _ (List.getElem_mem hi)
  rw[this]
  refine⟨.bl _,H,I.kept (λb o e=>hk b o (λhm=>?_) (aF6 _ e)),rfl,q⟩
  have hb:b=s.heap.objs.size:=by simpa using hm
  subst hb
  exact absurd (aG2 e) (aJ7 _)
theorem BE(hc:X.calm=true):fe X (.builtin "any") (λxs H Q => ∃(p:Addr) (bs:List Bool),xs=[.ref p]/\dG X.K H p (bs.map V.bl)/\Q (.bl (bs.any id)) H):=by
 intro pins s σ H xs us Q I r h
 obtain⟨p,bs,rfl,hq,q⟩:=h
 obtain⟨u,rfl,rx⟩:=d7 r
 cases rx
 obtain⟨its,rv,pl,hz⟩:=I.list hq
 have ei:=rC rv
 subst ei
 have hl:=pl.isList
 have hlt:p<s.heap.objs.size:=by obtain⟨_,e,_⟩:=hl;exact aG2 e
 refine call_any_walk (aL0 hl ?_)
 refine⟨_,_,_,_,_,_,λi=>bs.getD i false,rfl,Walks.list (A:=X.A.in1) (by exact I.ok.hd hc) _ p (aJ0 hlt) (bs.map Value.bool).toArray,⟨⟨_,aG5 _ rfl,rfl,rfl⟩,hl.push _⟩,?_,λh' tk hk=>?_⟩
 ·intro i v s' Q' E' hP hQ
  have hP:((bs.map Value.bool).toArray)[i]?=some v:=hP
  simp only[List.getElem?_toArray,aL7]at hP
  cases e:bs[i]? with
  | none=>rw[e]at hP;cases hP
  | some b =>
   rw[e]at hP;cases hP
   refine aK5 ?_
   have:bs.getD i false=b:=by rw[aJ2,e];rfl
   rw[<- this];exact hQ
 ·have:((List.range (bs.map Value.bool).toArray.size).any λi=>bs.getD i false)=bs.any id:=by
   simp only[aI0,aH3]
   rw[aN1,aP7,aP7]
   constructor
   ·rintro⟨i,hi,h⟩
    have hi:=aN8.mp hi
    rw[aJ2,aH7 hi]at h
    exact⟨_,List.getElem_mem hi,h⟩
   ·rintro⟨x,hx,h⟩
    obtain⟨i,hi,rfl⟩:=List.mem_iff_getElem.mp hx
    exact⟨i,aN8.mpr hi,by rw[aJ2,aH7 hi];exact h⟩
  rw[this]
  refine⟨.bl _,H,I.kept (λb o e=>hk b o (λhm=>?_) (aF6 _ e)),rfl,q⟩
  have hb:b=s.heap.objs.size:=by simpa using hm
  subst hb
  exact absurd (aG2 e) (aJ7 _)
theorem BA:fe X (.builtin "len") (λxs H Q => ∃(p:Addr) (S:Int->Bool) (n:Nat),xs=[.ref p]/\H p=some (.set S n)/\Q (.int n) H):=by
 intro pins s σ H xs us Q I r h
 obtain⟨p,S,n,rfl,hp,q⟩:=h
 obtain⟨u,rfl,rx⟩:=d7 r
 cases rx
 obtain⟨o,es,ep,t,h1,h2,h3,_,_,h4,h5,rfl⟩:=(show s.heap.SetOf (intKind X.prog X.w) p S n from I.hok p _ hp)
 exact call_len_set h1 h2 h3 h5 (by unfold scanBound at h4;omega) ⟨.int _,H,I.tok _,⟨_,rfl⟩,q⟩
noncomputable def ff(f:Str)(B:List D->R1):Prop:=f∈iQ/\f ≠ "__name__" /\ (f==("__debug__" : Str))=false/\(B []=.st)/\∀(X:Cx) (ds:List D) (z:D) (l:Nat) (o:List Prop),X.calm=true->B ds=.ok (z,l) o->aT o ->
 ((∃id,bootBuiltins f=some (.builtin id)/\lT X (.builtin id) ds z l)\/∃T,bootBuiltins f=some (.type T)/\lT X (.type T) ds z l)
theorem J9:ff "len" D5:=by
 refine⟨by decide +kernel,by decide +kernel,by decide +kernel,rfl,λX ds z l o hc h _=>.inl ⟨"len", by decide +kernel,?_⟩⟩
 unfold D5 at h
 split at h
 ·cases h
  refine⟨_,BA,λow H0 H2 vs P Q o s rx q=>?_⟩
  obtain⟨v,rfl,ry⟩:=rx.only
  rw[aj]at ry
  obtain⟨a,S,rfl,ha⟩:=ry
  exact⟨a,S,_,rfl,ha,q _ _ (aL.refl _) (by rw[aj])⟩
 ·split at h
  ·rename_i m e
   cases h
   rcases ik e with rfl|rfl
   ·exact A4.1
   ·exact A4.2
  ·cases h
 ·cases h
theorem BJ:ff "tuple" qS:=by
 refine⟨by decide +kernel,by decide +kernel,by decide +kernel,rfl,λX ds z l o hc h hp=>.inr ⟨"tuple", by decide +kernel,?_⟩⟩
 unfold qS at h
 split at h
 ·split at h
  ·rename_i m e
   cases h
   have c:=hp.1
   rcases ik e with rfl|rfl
   ·exact(uS c).2
   ·exact(uS c).1
  ·cases h
 ·cases h
theorem Ke:ff "abs" Ea:=by
 refine⟨by decide +kernel,by decide +kernel,by decide +kernel,rfl,λX ds z l o hc h _=>.inl ⟨"abs", by decide +kernel,?_⟩⟩
 unfold Ea at h
 split at h
 ·cases h;exact Pg
 ·cases h
theorem Kc:ff "all" iW:=by
 refine⟨by decide +kernel,by decide +kernel,by decide +kernel,rfl,λX ds z l o hc h _=>.inl ⟨"all", by decide +kernel,?_⟩⟩
 unfold iW at h
 split at h
 ·split at h
  ·rename_i bs e
   cases h
   cases lM e
   refine⟨_,BF hc,λow H0 H2 vs P Q o s rx q=>?_⟩
   obtain⟨v,rfl,ry⟩:=rx.only
   obtain⟨a,ws,rfl,hs,rl⟩:=jN ry
   exact⟨a,bs,rfl,by rw[<- rl.mapBl];exact hs,q _ _ (aL.refl _) (by rw[aj])⟩
  ·cases h
 ·cases h
theorem Kb:ff "any" D9:=by
 refine⟨by decide +kernel,by decide +kernel,by decide +kernel,rfl,λX ds z l o hc h _=>.inl ⟨"any", by decide +kernel,?_⟩⟩
 unfold D9 at h
 split at h
 ·split at h
  ·rename_i bs e
   cases h
   cases lM e
   refine⟨_,BE hc,λow H0 H2 vs P Q o s rx q=>?_⟩
   obtain⟨v,rfl,ry⟩:=rx.only
   obtain⟨a,ws,rfl,hs,rl⟩:=jN ry
   exact⟨a,bs,rfl,by rw[<- rl.mapBl];exact hs,q _ _ (aL.refl _) (by rw[aj])⟩
  ·cases h
 ·cases h
theorem J5:ff "sum" D2:=by
 refine⟨by decide +kernel,by decide +kernel,by decide +kernel,rfl,λX ds z l o hc h _=>.inl ⟨"sum", by decide +kernel,?_⟩⟩
 unfold D2 at h
 split at h
 ·split at h
  ·rename_i bs e
   cases h
   cases mO e
   refine⟨_,By hc,λow H0 H2 vs P Q o s rx q=>?_⟩
   obtain⟨v,rfl,ry⟩:=rx.only
   obtain⟨a,ws,rfl,hs,rl⟩:=jN ry
   exact⟨a,bs,rfl,by rw[<- rl.mapInt];exact hs,q _ _ (aL.refl _) (by rw[aj])⟩
  ·cases h
 ·cases h
theorem Jv(b:Bool):(if b=true then(1:Int)else 0)=cond b 1 0:=by cases b<;>rfl
theorem Ka:ff "int" D7:=by
 refine⟨by decide +kernel,by decide +kernel,by decide +kernel,rfl,λX ds z l o hc h hp=>.inr ⟨"int", by decide +kernel,?_⟩⟩
 unfold D7 at h
 split at h
 ·cases h
  refine⟨_,tJ,λow H0 H2 vs P Q o s rx q=>?_⟩
  obtain⟨v,rfl,ry⟩:=rx.only
  rw[aj]at ry;subst ry
  exact .inl ⟨_,rfl,q _ _ (aL.refl _) (by rw[aj])⟩
 ·cases h
  refine⟨_,tJ,λow H0 H2 vs P Q o s rx q=>?_⟩
  obtain⟨v,rfl,ry⟩:=rx.only
  rw[aj]at ry;subst ry
  exact .inr ⟨_,rfl,q _ _ (aL.refl _) (by rw[aj,Jv])⟩
 ·cases h
theorem J6:ff "str" lN:=by
 refine⟨by decide +kernel,by decide +kernel,by decide +kernel,rfl,λX ds z l o hc h hp=>.inr ⟨"str", by decide +kernel,?_⟩⟩
 unfold lN at h
 split at h
 ·rename_i i
  cases h
  refine⟨_,wk,λow H0 H2 vs P Q o s rx q=>?_⟩
  obtain⟨v,rfl,ry⟩:=rx.only
  rw[aj]at ry;subst ry
  refine⟨_,rfl,?_,q _ _ (aL.refl _) (by rw[aj])⟩
  rcases aL3 i.natAbs with z|z
  ·rw[z];decide
  ·exact aG7 ((Nat.log2_lt (aL1 z)).mpr hp.1) (by decide)
 ·cases h
noncomputable def jO(K:W.Frag)(F:List D->Rs D):Sp:=λvs H Q _ => ∃ds r l,am K H (λ_ _=>True) ds vs/\F ds=.ok r l/\aT l/\∀v H',aL H H'->aj K H' (λa b=>b=true/\H a=none) r v->Q v H'
noncomputable def Gz(X:Cx)(g:Str)(F:List D->Rs D):Prop:=∃k f fd ps,bT X.prog X.w X.K X.mg X.base df k f fd ps (jO X.K F)/\cw k X.A/\X.mg g=some (.ref f)/\W.keepIn X.K (.ref f)=true/\cx X.K fd ps []/\(g==("__debug__" : Str))=false
noncomputable def Ax(K:W.Frag)(n:Str)(F:List D->Rs D):Sp:=λvs H Q _ => ∃x ws C dx ds r l,vs=.ref x::ws/\H x=some (.ins C dx [])/\W.nsIn K mainGlobals n=some (some (.ref C))/\eV K C/\am K H (λ_ _=>True) ds ws/\F ds=.ok r l/\aT l/\r.lless=true /\
 ∀H',(∀a o,a≠x->H a=some o->H' a=some o)->aj K H' (λ_ _=>True) r (.ref x)->Q .non H'
noncomputable def Pq(X:Cx)(g:Str)(F:List D->Rs D):Prop:=∃k C f fd ps,(∀ds r l,F ds=.ok r l->r.lless=true)/\Mk X.K C f/\bT X.prog X.w X.K X.mg X.base df k f fd ps (Ax X.K g F)/\cw (k+1) X.A/\X.mg g=some (.ref C)/\W.nsIn X.K mainGlobals g=some (some (.ref C))/\eV X.K C/\cx X.K fd ps []/\(g==("__debug__" : Str))=false
noncomputable def aE0(X:Cx)(g:Str)(F:List D->Rs D):Prop:=Gz X g F\/Pq X g F
noncomputable def Ps(X:Cx)(n m:Str)(F:List D->Rs D):Prop:=∃k C f fd ps,W.nsIn X.K mainGlobals n=some (some (.ref C))/\eV X.K C/\jJ X.K C m f/\bT X.prog X.w X.K X.mg X.base df k f fd ps (jO X.K F)/\cw k X.A/\cx X.K fd ps []
noncomputable def nY(f:Str)(B:List D->Nat->R1):Prop:=f∈iQ/\∀(X:Cx) (ρ:al) (p pos:Pos) (args:List Expr) (ds:List D) (k:Nat) (d:D) (j:Nat) (l:List D) (tg:Expr) (o:List Prop),X.calm=true->Gl X f->X.mg f=none->AD X ρ args ds k ->
 (∀e∈args,∀x p,e ≠ .Starred x p)->args.length=ds.length->B ds k=.ok (d,j) o->aT o->items d=some l->gF (.Call (.Name f p) args [] pos) tg=true->IE X ρ tg (.Call (.Name f p) args [] pos) l j
noncomputable def lS(m:Str)(M:D->List D->R1):Prop:=∀(X:Cx) (ρ:al) (a:Expr) (args:List Expr) (ap cp:Pos) (x:D) (k:Nat) (ds:List D) (j:Nat) (z:D) (l:Nat) (o:List Prop),X.calm=true->X.A.units+70<cLine->ED X ρ a x k->AD X ρ args ds j ->
 (∀e∈args,∀x p,e ≠ .Starred x p)->args.length=ds.length->(ap.endLine==cp.line)=true->g9 a=true->M x ds=.ok (z,l) o->aT o->ED X ρ (.Call (.Attribute a m ap) args [] cp) z l
noncomputable def rq(m:Str)(M:List D->List D->Nat->Rs (List D)):Prop:=∀X:Cx,X.calm=true->∃(id:String) (r:V->List V->Hp->VK->Prop),Slot "list" m id/\typeOf (.builtin id)=pure (.type "method_descriptor")/\VG X id r /\
 ∀(ow:Ow) (H0 H:Hp) (l ds l':List D) (j:Nat) (o:List Prop) (a:Addr) (vs ws:List V),M l ds j=.ok l' o->aT o->ds.length<29/\(∀(P:bU) (Q:VK),(∀b c,Kp ow H0 0 b c->P b c)->fy ow H0->aL H0 H->H a=some (.lst vs)->am X.K H P l vs->am X.K H (Kp ow H0 j) ds ws ->
  (∀vs' w,am X.K H P l' vs'->Q w (bo H a (.lst vs')))->r (.ref a) ws H Q)
noncomputable def tOD(X:Cx)(ow:Ow)(ρ:al)(o:Option Int):TO:=λσ H Q=>aR X ow H σ ρ/\∀H',aL H H'->Q o H'
noncomputable def OD(X:Cx)(ρ:al)(e:Option Expr)(o:Option Int):Prop:=∀ow,PO X e (tOD X ow ρ o)
noncomputable def rg(F:D->Option Int->Option Int->R1):Prop:=∀(X:Cx) (ρ:al) (a:Expr) (lo hi:Option Expr) (p2 pos:Pos) (x z:D) (l h:Option Int) (k j:Nat) (o:List Prop),ED X ρ a x k->OD X ρ lo l->OD X ρ hi h->F x l h=.ok (z,j) o->aT o->ED X ρ (.Subscript a (.Slice lo hi none p2) pos) z j
structure bA(Φ:Fx)(X:Cx)(sc:Scope):Prop where
 calm:X.calm=true
 nd:X.N.Nodup
 gl:∀x,sc.names.lookup x=some .globalImplicit->Gl X x
 kc:∀x,(sc.names.lookup x=some .cell\/sc.names.lookup x=some .free)->X.env.kindOf x=some .cell\/X.env.kindOf x=some .free
 lc:∀x,sc.names.lookup x=some .local->X.env.scope.names.lookup x=some .local
 cc:∀x,sc.names.lookup x=some .cell->X.env.scope.names.lookup x=some .cell
 fn:∀g F,Φ.fn g=some F->aE0 X g F
 con:∀x d,Φ.con x=some d->∃v u,X.mg x=some u/\bO v u/\∀H P,aj X.K H P d v
 blt:∀f B,Φ.blt f=some B->ff f B
 itr:∀f B,Φ.itr f=some B->nY f B
 mth:∀m M,Φ.mth m=some M->lS m M
 mtt:∀m M,Φ.mtt m=some M->rq m M
 slf:rg Φ.slf
 fld:∀n f,Φ.fld n f=true->∀C,W.nsIn X.K mainGlobals n=some (some (.ref C))->cr X.K C f
 omt:∀n m F,Φ.omt n m=some F->Ps X n m F
 bl:∀f∈iQ,X.mg f=none
 room:X.A.units+70<cLine
 ns:∀x,eI sc x=true->x∈X.N
 ft:∀x,sc.names.lookup x=some .cell->X.fn x=true
variable{X:Cx}
theorem dw(h:fH x=true):(x==("__debug__" : Str))=false/\(x==("__classdict__" : Str))=false:=by
 unfold fH at h
 rw[aH4]at h
 exact⟨aM4 h.1,aM4 h.2⟩
theorem JP{o:Bool}(h:ρ x=some (d,o))(hx:fH x=true):ED X ρ (.Name x pos) d (kn d (cond o 2 1)):=by
 refine ED.kn λow pins s σ H Q I ⟨E,q⟩=>?_
 obtain⟨i,v,e1,e2,e3,e4⟩:=E.get x d o h
 refine gU (i:=i) e1 e2 (dw hx).1 (dw hx).2 pins s σ H Q I ⟨v,e3,q v H (aL.refl _) (e4.imp λa b p=>?_)⟩
 cases o with
 | true=>exact⟨p.1,.inl (by rw[p.2];exact(λz=>nomatch z))⟩
 | false=>exact p
theorem NM(G:bA Φ X sc)(h:Φ.con x=some d)(hg:sc.names.lookup x=some .globalImplicit)(hx:fH x=true):ED X ρ (.Name x pos) d 0:=by
 obtain⟨v,u,h1,h2,h3⟩:=G.con x d h
 exact λow=>bS (xD (G.gl x hg) h1 h2 (dw hx).1) λσ H Q ⟨E,q⟩=>q v H (aL.refl _) (h3 H _)
theorem GP(h:yp x=some T):bootBuiltins x=some (.type T)/\x ≠ "__name__" /\ (x==("__debug__" : Str))=false/\x∈iQ:=by
 unfold yp at h
 split at h
 ·rename_i e;subst e;cases h;exact⟨by decide +kernel,by decide +kernel,by decide +kernel,by decide +kernel⟩
 split at h
 ·rename_i e;subst e;cases h;exact⟨by decide +kernel,by decide +kernel,by decide +kernel,by decide +kernel⟩
 split at h
 ·rename_i e;subst e;cases h;exact⟨by decide +kernel,by decide +kernel,by decide +kernel,by decide +kernel⟩
 split at h
 ·rename_i e;subst e;cases h;exact⟨by decide +kernel,by decide +kernel,by decide +kernel,by decide +kernel⟩
 split at h
 ·rename_i e;subst e;cases h;exact⟨by decide +kernel,by decide +kernel,by decide +kernel,by decide +kernel⟩
 ·cases h
theorem NI(G:bA Φ X sc)(h:yp x=some T)(hg:sc.names.lookup x=some .globalImplicit):ED X ρ (.Name x pos) (.typ T) 0:=by
 obtain⟨h1,h2,h3,h4⟩:=GP h
 exact λow=>bS (IO (v:=.ty T) (G.gl x hg) (G.bl x h4) h1 rfl h2 h3) λσ H Q ⟨E,q⟩=>q _ H (aL.refl _) (by rw[aj])
theorem NL{c:Const}(h:FS c=some d):ED X ρ (.Constant c n pos) d 0:=by
 intro ow
 unfold FS at h
 split at h
 ·cases h;exact bS LO λσ H Q ⟨E,q⟩=>q _ H (aL.refl _) (by rw[aj])
 ·cases h;exact bS RI λσ H Q ⟨E,q⟩=>q _ H (aL.refl _) (by rw[aj])
 ·cases h;exact bS LP λσ H Q ⟨E,q⟩=>q _ H (aL.refl _) (by rw[aj])
 ·cases h;exact bS LL λσ H Q ⟨E,q⟩=>q _ H (aL.refl _) (by rw[aj])
 ·cases h
theorem NP{b:Expr}{op:Operator}{x:D}{l:Nat}(ha:ED X ρ a x k)(hb:ED X ρ b y j)(h:sx op x y k j=.ok (z,l) o)(hp:aT o):ED X ρ (.BinOp a op b pos) z l:=by
 obtain⟨r,h1,h2⟩:=OV (X:=X) h hp
 refine λow=>bS (RH h1 (ha ow) (hb ow)) λσ H Q ⟨E,q⟩=>⟨E,λv H1 s1 r1=>⟨E.same s1,λu H2 s2 r2=>?_⟩⟩
 exact h2 ow H H2 v u Q E.own (s1.trans s2) (r1.same s2) (r2.imp (Kp.back s1 j)) λw H' s3 r3=>q w H' ((s1.trans s2).trans s3) r3
theorem Um{op:UnaryOp}{x:D}(ha:ED X ρ a x k)(h:Ab op x=some z):ED X ρ (.UnaryOp op a pos) z 0:=by
 unfold Ab at h
 split at h
 ·cases h
  refine λow=>bS (RG Ks (ha ow)) λσ H Q ⟨E,q⟩=>⟨E,λv H1 s1 r1=>?_⟩
  rw[aj]at r1;subst r1
  exact⟨_,rfl,q _ H1 s1 (by rw[aj])⟩
 ·cases h
  refine λow=>bS (LN (ha ow)) λσ H Q ⟨E,q⟩=>⟨E,λv H1 s1 r1=>?_⟩
  rw[aj]at r1;subst r1
  exact⟨_,rfl,q _ H1 s1 (by rw[aj])⟩
 ·cases h
theorem NN{b:Expr}{x:D}(hu:X.A.units+70<cLine)(ha:ED X ρ a x k)(hb:ED X ρ b y j)(h:fQ op x y=.ok r o)(hp:aT o)(hm:behindInMarks op b=false):ED X ρ (.Compare a [op] [b] pos) (.bl r) 0:=by
 have c:=jB hu h hp
 intro ow pins s σ H Q I ⟨E,q⟩
 refine wpAny_Compare1 (VE (ha ow) (hb ow) I (R:=λv u H2=>aL H H2/\aj X.K H2 (λ_ _=>True) x v/\aj X.K H2 (λ_ _=>True) y u) ⟨E,λv H1 s1 r1=>⟨E.same s1,λu H2 s2 r2=>⟨s1.trans s2,(r1.imp λ_ _ _=>True.intro).same s2,r2.imp λ_ _ _=>True.intro⟩⟩⟩ λv u s2 x y H2 I2 rx ry ⟨sm,r1,r2⟩=>?_) hm
 exact c _ _ pins s2 σ H2 x y v u Q I2 rx ry ⟨r1,r2,q _ H2 sm (by rw[aj])⟩
theorem J2{x:D}{r:D×Nat}{l:List Prop}(h:Oa op op2 x y z=.ok r l):∃a b c r1 r2,x=.int a/\y=.int b/\z=.int c/\ir op a b=some r1/\ir op2 b c=some r2/\r=(.bl (r1&&r2),0):=by
 unfold Oa at h
 split at h
 ·split at h
  ·rename_i h1 h2;cases h;exact⟨_,_,_,_,_,rfl,rfl,rfl,h1,h2,rfl⟩
  ·cases h
 ·cases h
theorem qI{a b:Int}(h:ir op a b=some r):fQ op (.int a) (.int b)=.ok r []:=by
 unfold ir at h
 split at h<;>first|(cases h;rfl)|cases h
theorem DS{b:Expr}{x y z:Int}(hu:X.A.units+70<cLine)(ha:ED X ρ a (.int x) k)(hb:ED X ρ b (.int y) j)(hc:ED X ρ c (.int z) i)(h:ir op x y=some r)(h2:ir op2 y z=some r2)(hm:behindInMarks op2 c=false):ED X ρ (.Compare a [op,op2] [b,c] pos) (.bl (r&&r2)) 0:=by
 have c1:=jB (X:=X) hu (qI h) (show aT []from True.intro)
 have c2:=jB (X:=X) hu (qI h2) (show aT []from True.intro)
 refine λow=>bS (CQ (c1 (λ_ _=>True) (λ_ _=>True)) (c2 (λ_ _=>True) (λ_ _=>True)) (ha ow) (hb ow) (hc ow) hm) λσ H Q ⟨E,q⟩=>⟨E,λv H1 s1 r1=>⟨E.same s1,λu H2 s2 r2=>?_⟩⟩
 rw[aj]at r1 r2
 subst r1 r2
 refine⟨by rw[aj],by rw[aj],r,rfl,?_⟩
 cases r with
 | false=>exact q _ H2 (s1.trans s2) (by rw[aj];rfl)
 | true =>
  rw[if_pos rfl]
  refine⟨(E.same s1).same s2,λw H3 s3 r3=>?_⟩
  rw[aj]at r3
  subst r3
  exact⟨by rw[aj],by rw[aj],q _ H3 ((s1.trans s2).trans s3) (by rw[aj];rfl)⟩
theorem P4(h:ED X ρ e (.bl b) k)(he:∀whole,isTrue e X.env whole=(do let v <- whole;standAt e.pos;holding [v] (truthy v))):TD X ρ e b :=
 λow=>zV (Lw (h ow) he) λσ H Q ⟨E,q⟩=>⟨E,λv H1 s1 r1=>by rw[aj]at r1;exact⟨b,r1,q H1 s1⟩⟩
theorem mX:AD X ρ [] [] 0:=λow=>Gs LV λσ H Q ⟨E,q⟩=>q [] H (aL.refl _) am.nil
theorem gN(h1:ED X ρ e d k)(h2:AD X ρ es ds j)(hs:starEach (e::es) X.env=(false,eval e X.env)::starEach es X.env):AD X ρ (e::es) (d::ds) (kj k j) :=
 λow=>Gs (xF (h1 ow) (h2 ow) hs) λσ H Q ⟨E,q⟩=>⟨E,λv H1 s1 r1=>⟨E.same s1,λvs H2 s2 r2=>q _ H2 (s1.trans s2) (am.cons ((r1.imp (Kp.joinL E.own k j)).same s2) (r2.imp λa b p=>Kp.joinR E.own k j a b (Kp.back s1 j a b p)))⟩⟩
theorem v6(h:AD X ρ es ds k)(hl:ds.length<=cq):ED X ρ (.Tuple es n pos) (.tup ds) (kn (.tup ds) k):=by
 refine ED.kn λow=>bS (LK (h ow)) λσ H Q ⟨E,q⟩=>⟨E,λvs H1 s1 r1=>⟨by rw[<- r1.length];exact aF5 hl io,λp hp=>?_⟩⟩
 have sm:=er (o:=HO.tup vs) hp
 refine q _ _ (s1.trans sm) ?_
 rw[aj]
 exact⟨p,vs,rfl,ck.of aU,r1.same sm⟩
theorem JS(h:AD X ρ es ds k)(hk:k<=1)(hl:ds.length<=cq):ED X ρ (.List es pos) (.lst ds) k:=by
 refine λow=>bS (AQ (h ow)) λσ H Q ⟨E,q⟩=>⟨E,λvs H1 s1 r1=>⟨by rw[<- r1.length];exact aF5 hl io,λp hp=>?_⟩⟩
 have sm:=er (o:=HO.lst vs) hp
 refine q _ _ (s1.trans sm) ?_
 rw[aj]
 exact⟨p,vs,true,rfl,aU,A5 E.own (s1.free hp) hk,r1.same sm⟩
theorem FM{b:Expr}(hc:TD X ρ c t)(h:if t=true then ED X ρ a d k else ED X ρ b d k):ED X ρ (.IfExp c a b pos) d k:=by
 cases t with
 | true =>
  intro ow pins s σ H Q I ⟨E,q⟩
  refine PyProof.Rows.IfExp_ (bu (hc ow pins s σ H (λt H1=>t=true/\aL H H1) I ⟨E,λH1 s1=>⟨rfl,s1⟩⟩) λt s1 ⟨H1,I1,e1,s1'⟩=>?_)
  subst e1
  exact h ow pins s1 σ H1 Q I1 ⟨E.same s1',λv H2 s2 r2=>q v H2 (s1'.trans s2) (r2.imp (Kp.back s1' k))⟩
 | false =>
  intro ow pins s σ H Q I ⟨E,q⟩
  refine PyProof.Rows.IfExp_ (bu (hc ow pins s σ H (λt H1=>t=false/\aL H H1) I ⟨E,λH1 s1=>⟨rfl,s1⟩⟩) λt s1 ⟨H1,I1,e1,s1'⟩=>?_)
  subst e1
  exact h ow pins s1 σ H1 Q I1 ⟨E.same s1',λv H2 s2 r2=>q v H2 (s1'.trans s2) (r2.imp (Kp.back s1' k))⟩
variable{X:Cx}
theorem am.atI{P:bU}{i:Int}(h:am K H P l vs)(e:L2.atI l i=some d):∃v,L2.atI vs i=some v/\aj K H P d v:=by
 unfold L2.atI at e⊢
 rw[<- h.length]
 cases q:ixN l.length i with
 | none=>rw[q]at e;cases e
 | some j=>rw[q]at e;exact h.get e
theorem Uo{b:Expr}{x:D}{i:Int}{l:Nat}(ha:ED X ρ a x k)(hb:ED X ρ b (.int i) j)(hs:nX b)(h:vF x i k=.ok (z,l) o):ED X ρ (.Subscript a b pos) z l:=by
 unfold vF at h
 split at h
 ·rename_i m e0
  split at h
  ·rename_i d e
   unfold mk at h
   cases h
   rcases ik e0 with rfl|rfl
   ·refine ED.kn λow=>bS (uf Nf (ha ow) (hb ow) hs) λσ H Q ⟨E,q⟩=>⟨E,λv H1 s1 r1=>⟨E.same s1,λu H2 s2 r2=>?_⟩⟩
    obtain⟨p,vs,rfl,hq,rl⟩:=jh (r1.same s2)
    rw[aj]at r2;subst r2
    obtain⟨w,h1,h2⟩:=rl.atI e
    exact⟨p,vs,i,w,rfl,rfl,hq,h1,q w H2 (s1.trans s2) h2⟩
   ·refine ED.kn λow=>bS (uf Ju (ha ow) (hb ow) hs) λσ H Q ⟨E,q⟩=>⟨E,λv H1 s1 r1=>⟨E.same s1,λu H2 s2 r2=>?_⟩⟩
    obtain⟨p,vs,rfl,hq,rl⟩:=jN (r1.same s2)
    rw[aj]at r2;subst r2
    obtain⟨w,h1,h2⟩:=rl.atI e
    exact⟨p,vs,i,w,rfl,rfl,hq,h1,q w H2 (s1.trans s2) h2⟩
  ·cases h
 ·cases h
theorem xP{K:W.Frag}{H:Hp}{k:bM}{l:List (List Int)}:∀{ks:List bM} {ls:List (List (List Int))} {vs:List V},wH K H ls vs->Fg ks ls k=some l->∃a o ts,jX (ks.zip vs) k=some (.ref a)/\H a=some (.frz o (.lst ts))/\cz K H ts l
 | [],_,_,_,h=>by cases h
 | _::_,[],_,_,h=>by cases h
 | j::ks,l'::ls,v::vs,f,h=>by
  rw[Fg]at h
  rw[List.zip_cons_cons]
  by_cases e:j=k
  ·rw[if_pos e]at h
   cases h
   obtain⟨a,o,ts,rfl,h1,h2⟩:=f.1
   exact⟨a,o,ts,le e,h1,h2⟩
  ·rw[if_neg e]at h
   rw[lf e]
   exact xP f.2 h
 | _::_,_::_,[],f,_=>f.elim
theorem xO{K:W.Frag}{H:Hp}{k:bM}{l:List Int}:∀{ks:List bM} {ls:List (List Int)} {vs:List V},cz K H vs ls->kM ks ls k=some l->∃a,jX (ks.zip vs) k=some (.ref a)/\ck K H a (l.map V.int)
 | [],_,_,_,h=>by cases h
 | _::_,[],_,_,h=>by cases h
 | j::ks,l'::ls,v::vs,f,h=>by
  rw[kM]at h
  rw[List.zip_cons_cons]
  by_cases e:j=k
  ·rw[if_pos e]at h
   cases h
   obtain⟨a,rfl,h1,_⟩:=f.1
   exact⟨a,le e,h1⟩
  ·rw[if_neg e]at h
   rw[lf e]
   exact xO f.2 h
 | _::_,_::_,[],f,_=>f.elim
theorem vj{K:W.Frag}{P:bU}{H:Hp}:∀{bs:List V} {nss:List (List Int)},cz K H bs nss->am K H P (nss.map λns=>.tup (ns.map D.int)) bs
 | [],[],_=>am.nil
 | v::bs,ns::nss,h=>by
  obtain⟨a,rfl,hq,_⟩:=h.1
  exact am.cons (by rw[aj];exact⟨a,_,rfl,hq,am.ofInts⟩) (vj h.2)
 | [],_::_,h=>h.elim
 | _::_,[],h=>h.elim
theorem dAt{a:Addr}{o:Obj}{kvs:List (bM×V)}(I:aq X pins σ H s)(ha:H a=some (.frz o (.dK kvs))):s.heap.get? a=some o/\(a==sysModules)=false/\kvs.length<=sizeLine/\∃vs,KV kvs vs/\s.heap.DictOf (gJ X.prog X.w) a vs:=by
 obtain⟨e,z,hd,vs,rel,dd⟩:=(show dn X.prog X.w H s.heap a (.frz o (.dK kvs))from I.hok a _ ha)
 exact⟨e,hd,z,vs,rel,dd⟩
theorem Bb:Gw X (λx y H Q => ∃p o kvs k v,x=.ref p/\y=kV k/\H p=some (.frz o (.dK kvs))/\jX kvs k=some v/\Q v H):=by
 intro value slice pins s σ H x y v u Q I rx ry h hs
 obtain⟨p,o,kvs,k,z,rfl,rfl,hq,he,q⟩:=h
 cases rx
 obtain⟨_,hd,_,vs,rel,dd⟩:=dAt I hq
 obtain⟨w,hw,rw'⟩:=gn.some_of (v:=z) (o:=valueAt vs k) (by rw[<- he];exact rel.val k)
 exact subscriptTail_builtinR (x:=w) dd.typeIs PySem.F.slot_dict_getitem.lookup (wpAny_getItem_of (Q:=λr s'=>r=w/\EP X pins σ Q r s') (ze ry) dd.mapOf hw ⟨rfl,z,H,I.tok _,rw',q⟩) hs
theorem NJ{b:Expr}{p q r:D×Nat}(ha:ED X ρ a p.1 p.2)(hb:ED X ρ b q.1 q.2)(hs:nX b)(h:oG p q=.ok r o):ED X ρ (.Subscript a b pos) r.1 r.2:=by
 obtain⟨z,k⟩:=p
 unfold oG at h
 split at h
 ·cases h
 ·rename_i a0 ks ts e0
  have e0:z=_:=e0
  subst e0
  split at h
  ·rename_i key e
   split at h
   ·rename_i ns e2
    cases h
    refine λow=>bS (uf Bb (ha ow) (hb ow) hs) λσ H Q ⟨E,qq⟩=>⟨E,λv H1 s1 r1=>⟨E.same s1,λu H2 s2 r2=>?_⟩⟩
    have r1':=r1.same s2
    rw[aj]at r1'
    obtain⟨e0,a,o,vs,rfl,hq,fz⟩:=r1'
    have hk:=oO (X:=X) e r2
    obtain⟨la,g1,g2⟩:=xO fz e2
    refine⟨a,o,_,key,.ref la,rfl,hk,hq,g1,qq _ H2 (s1.trans s2) ?_⟩
    rw[aj]
    exact⟨la,_,rfl,g2,am.ofInts⟩
   ·cases h
  ·cases h
 ·rename_i ks ls e0
  have e0:z=_:=e0
  subst e0
  split at h
  ·rename_i key e
   split at h
   ·rename_i l e2
    cases h
    refine λow=>bS (uf Bb (ha ow) (hb ow) hs) λσ H Q ⟨E,qq⟩=>⟨E,λv H1 s1 r1=>⟨E.same s1,λu H2 s2 r2=>?_⟩⟩
    have r1':=r1.same s2
    rw[aj]at r1'
    obtain⟨e0,a,o,vs,rfl,hq,fz⟩:=r1'
    have hk:=oO (X:=X) e r2
    obtain⟨la,oo,ts,g1,g2,g3⟩:=xP fz e2
    refine⟨a,o,_,key,.ref la,rfl,hk,hq,g1,qq _ H2 (s1.trans s2) ?_⟩
    rw[aj]
    exact⟨la,ts,false,rfl,.inl ⟨oo,g2⟩,λz=>(by cases z),vj g3⟩
   ·cases h
  ·cases h
 ·unfold Ni at h
  split at h
  ·rename_i j hj
   rw[hj]at hb
   exact Uo ha hb hs h
  ·cases h
theorem Gr{e:Option Expr}{t t':TO}(h:PO X e t)(i:∀σ H Q,t' σ H Q->t σ H Q):PO X e t':=λpins s σ H Q I q=>h pins s σ H Q I (i σ H Q q)
theorem IW:OD X ρ none none:=λow=>Gr IA λσ H Q ⟨E,q⟩=>q H (aL.refl _)
theorem IV{i:Int}(h:ED X ρ e (.int i) k):OD X ρ (some e) (some i):=λow=>Gr (Iz (h ow)) λσ H Q ⟨E,q⟩=>⟨E,λv H1 s1 r1=>by rw[aj]at r1;exact⟨i,r1,q H1 s1⟩⟩
theorem am.cut{P:bU}{lo hi:Option Int}(h:am K H P l vs):am K H P (mT l lo hi) (kh vs lo hi):=by
 unfold mT kh
 rw[<- h.length]
 exact(h.drop _).take _
theorem ke:∀{l:List D} {n:Nat},aI l=true->aI (l.take n)=true
 | [],n,h=>by simp[aI]
 | d::l,0,h=>by simp[aI]
 | d::l,n+1,h=>by
  rw[aI,aH4]at h
  rw[List.take_succ_cons,aI,aH4];exact⟨h.1,ke h.2⟩
theorem kg:∀{l:List D} {n:Nat},aI l=true->aI (l.drop n)=true
 | [],n,h=>by simp[aI]
 | d::l,0,h=>h
 | d::l,n+1,h=>by
  rw[aI,aH4]at h
  exact kg (n:=n) h.2
theorem DQ{x:D}{l h:Option Int}(ha:ED X ρ a x k)(hl:OD X ρ lo l)(hh:OD X ρ hi h)(e:vc x l h=.ok (z,j) o)(hp:aT o):ED X ρ (.Subscript a (.Slice lo hi none p2) pos) z j:=by
 unfold vc at e
 split at e
 ·rename_i m
  ·cases e
   have c:aI m=true /\ ¬ (HT.sIx m.length 0 l=0/\HT.sIx m.length m.length h=m.length):=⟨hp.1,by have hx:=hp.2.1;unfold N0 at hx;intro z;rw[aI4 z.1,aI4 z.2]at hx;cases hx⟩
   refine λow=>bS (oM K2 (ha ow) (hl ow) (hh ow)) λσ H Q ⟨E,q⟩=>⟨E,λv H1 s1 r1=>⟨E.same s1,λH2 s2=>⟨(E.same s1).same s2,λH3 s3=>?_⟩⟩⟩
   have s13:=s2.trans s3
   obtain⟨p,vs,rfl,hq,rl⟩:=jh (r1.same s13)
   refine⟨p,vs,rfl,hq,by rw[<- rl.length];exact c.2,λp' hp'=>?_⟩
   have sm:=er (o:=HO.tup (kh vs l h)) hp'
   refine q _ _ ((s1.trans s13).trans sm) ?_
   rw[aj]
   exact⟨p',_,rfl,ck.of aU,am.flat _ (by unfold mT;exact ke (kg c.1)) (rl.cut.same sm)⟩
 ·rename_i m
  ·cases e
   have c:aI m=true:=hp.1
   refine λow=>bS (oM HY (ha ow) (hl ow) (hh ow)) λσ H Q ⟨E,q⟩=>⟨E,λv H1 s1 r1=>⟨E.same s1,λH2 s2=>⟨(E.same s1).same s2,λH3 s3=>?_⟩⟩⟩
   have s13:=s2.trans s3
   obtain⟨p,vs,rfl,hq,rl⟩:=jN (r1.same s13)
   refine⟨p,vs,rfl,hq,λp' hp'=>?_⟩
   have sm:=er (o:=HO.lst (kh vs l h)) hp'
   refine q _ _ ((s1.trans s13).trans sm) ?_
   rw[aj]
   exact⟨p',_,true,rfl,aU,⟨rfl,(s1.trans s13).free hp'⟩,am.flat _ (by unfold mT;exact ke (kg c)) (rl.cut.same sm)⟩
 ·cases e
theorem dP{env:Env}{pos:Pos}:∀{es:List Expr},(∀e∈es,∀x p,e ≠ .Starred x p)->(backTo pos (starEach es env)).any (·.1)=false
 | [],_=>rfl
 | e::es,h=>by
  have ih:=dP (env:=env) (es:=es) (pos:=pos) λx hx=>h x (aG1 _ hx)
  have he:=h e aG0
  cases e<;>first|exact absurd rfl (he _ _)|exact ih
theorem bC(h:∀x p,e ≠ .Starred x p):starEach (e::es) env=(false,eval e env)::starEach es env:=by
 cases e<;>first|exact absurd rfl (h _ _)|rfl
theorem DT{r:D}(G:bA Φ X sc)(hf:Gz X f F)(hg:sc.names.lookup f=some .globalImplicit)
  (ha:AD X ρ args ds k) (hst:∀e∈args,∀x p,e ≠ .Starred x p) (hnil:args=[]->ds=[]) (h:F ds=.ok r o) (hp:aT o):ED X ρ (.Call (.Name f p) args [] pos) r 0:=by
 obtain⟨n,fa,fd,ps,hF,hr,hm,hk,hb,hd⟩:=hf
 intro ow
 cases args with
 | nil =>
  refine bS (CT hF hr (G.gl f hg) hm hk hb .nil iA hd) λσ H Q ⟨E,q⟩=>?_
  have hds:=hnil rfl
  subst hds
  exact⟨[],r,o,am.nil,h,hp,λv H' s1 r1=>q v H' s1 r1⟩
 | cons e es =>
  refine bS (IN hF hr (G.gl f hg) hm hk hb .nil iA (ha ow) hd (bC (hst e aG0)) (dP λx hx=>hst x (aG1 _ hx))) λσ H Q ⟨E,q⟩=>⟨E,λvs H1 s1 r1=>?_⟩
  refine⟨ds,r,o,by rw[aK7];exact r1.imp λ_ _ _=>True.intro,h,hp,λv H' s2 r2=>q v H' (s1.trans s2) (r2.imp λa b p=>⟨p.1,s1.free p.2⟩)⟩
theorem mw{x dx C:Addr}(hx:H x=none)(hd:H dx=none):aL H (bo (bo H dx (.own x)) x (.ins C dx [])):=λa o h=>by
 rw[aK (λz=>by subst z;rw[hx]at h;cases h),aK (λz=>by subst z;rw[hd]at h;cases h)]
 exact h
theorem JR{r:D}(G:bA Φ X sc)(hf:Pq X f F)(hg:sc.names.lookup f=some .globalImplicit)
  (ha:AD X ρ args ds k) (hst:∀e∈args,∀x p,e ≠ .Starred x p) (hnil:args=[]->ds=[]) (h:F ds=.ok r o) (hp:aT o):ED X ρ (.Call (.Name f p) args [] pos) r 0:=by
 obtain⟨n,C,fa,fd,ps,hfl,hM,hF,hr,hm,hns,hc,hb,hd⟩:=hf
 have hl:=hfl ds r o h
 intro ow
 cases args with
 | nil =>
  refine bS (vq hM hF hr (G.gl f hg) hm hb .nil iA hd) λσ H Q ⟨E,q⟩=>?_
  have hds:=hnil rfl
  subst hds
  intro x dx hx hdx ne
  refine⟨x,[],C,dx,[],r,o,rfl,aU,hns,hc,am.nil,h,hp,hl,λH' kp rr=>⟨rfl,q _ H' (λa ob ha=>?_) (rr.flat _ hl)⟩⟩
  exact kp a ob (λz=>by subst z;rw[hx]at ha;cases ha) (mw hx hdx a ob ha)
 | cons e es =>
  refine bS (IM hM hF hr (G.gl f hg) hm hb .nil iA (ha ow) hd (bC (hst e aG0)) (dP λx hx=>hst x (aG1 _ hx))) λσ H Q ⟨E,q⟩=>⟨E,λvs H1 s1 r1=>?_⟩
  intro x dx hx hdx ne
  refine⟨x,vs++[],C,dx,ds,r,o,rfl,aU,hns,hc,by rw[aK7];exact(r1.same (mw hx hdx)).imp λ_ _ _=>True.intro,h,hp,hl,λH' kp rr=>⟨rfl,q _ H' (s1.trans λa ob ha=>?_) (rr.flat _ hl)⟩⟩
  exact kp a ob (λz=>by subst z;rw[hx]at ha;cases ha) (mw hx hdx a ob ha)
theorem JV{r:D}(G:bA Φ X sc)(hf:Φ.fn f=some F)(hg:sc.names.lookup f=some .globalImplicit)
  (ha:AD X ρ args ds k) (hst:∀e∈args,∀x p,e ≠ .Starred x p) (hnil:args=[]->ds=[]) (h:F ds=.ok r o) (hp:aT o):ED X ρ (.Call (.Name f p) args [] pos) r 0:=by
 rcases G.fn f F hf with z|z
 ·exact DT G z hg ha hst hnil h hp
 ·exact JR G z hg ha hst hnil h hp
theorem um{o:Expr}{name:Str}(hb:attributeBase o name env (eval o env)=eval o env)(hf:methodCallForm (args.length+([]:List Keyword).length) (backTo pos (starEach args env)) (backToKw pos (keywordEach [] env))=true)
  (hl:(apos.endLine==pos.line)=true):eval (.Call (.Attribute o name apos) args [] pos) env=(do
   let ov <- eval o env
   standAt apos.atName
   let (f,first) <- holding [ov] (getMethod ov name (do return (<- importBound o env).getD true))
   callWith pos f first (backTo pos (starEach args env)) (backToKw pos (keywordEach [] env))):=by
 show(do
  let ov <- attributeBase o name env (eval o env)
  standAt apos.atName
  methodCall o name apos pos env ov (args.length+([]:List Keyword).length) (backTo pos (starEach args env)) (backToKw pos (keywordEach [] env)))=_
 rw[hb]
 unfold methodCall calleeOf methodCallPos
 rw[hf,hl]
 rfl
theorem base_of{t:Sem Value}(h:g9 a=true):attributeBase a m env t=t:=by
 unfold attributeBase
 split
 ·cases h
 ·rfl
theorem iO(hst:∀e∈args,∀x p,e ≠ .Starred x p)(hn:args.length<29):methodCallForm (args.length+([]:List Keyword).length) (backTo pos (starEach args env)) (backToKw pos (keywordEach [] env))=true:=by
 unfold methodCallForm
 have e1:(backTo pos (starEach args env)).all (λx => !x.1)=true:=by
  have:=dP (env:=env) (pos:=pos) hst
  rw[aM1]
  intro x hx
  have h2:¬ (backTo pos (starEach args env)).any (·.1)=true:=by rw[this];exact aH9
  cases hb:x.1 with
  | false=>rfl
  | true=>exact absurd (aP7.mpr ⟨x,hx,hb⟩) h2
 rw[e1]
 show(true&&true&&decide (args.length+0+0<30))=true
 simp;omega
theorem uJ:ns.contains m=false->(ns.zip vs).lookup m=none:=by
 induction ns generalizing vs with
 | nil=>intro _;rfl
 | cons a ns ih =>
  intro h
  cases vs with
  | nil=>rfl
  | cons v vs =>
   rw[List.contains_cons,Bool.or_eq_false_iff]at h
   show List.lookup m ((a,v)::ns.zip vs)=none
   rw[aG6,h.1]
   exact ih h.2
theorem JQ{n:Str}{es:List D}{r:D}(G:bA Φ X sc)(hf:Φ.omt n m=some F)(he:ED X ρ a (.obj n ns es) j)
  (ha:AD X ρ args ds k) (hst:∀e∈args,∀x p,e ≠ .Starred x p) (hlen:args.length=ds.length) (hn:ns.contains m=false) (hb:g9 a=true) (hfew:ds.length<29) (hl:(ap.endLine==pos.line)=true) (h:F (.obj n ns es::ds)=.ok r o) (hp:aT o):ED X ρ (.Call (.Attribute a m ap) args [] pos) r 0:=by
 obtain⟨kk,C,fa,fd,ps,hns,hc,hm,hF,hr,hbd⟩:=G.omt n m F hf
 intro ow
 have ht:=um (o:=a) (name:=m) (apos:=ap) (pos:=pos) (args:=args) (env:=X.env) (base_of hb) (iO hst (by omega)) hl
 cases args with
 | nil =>
  refine bS (CN (he ow) hc hm hF hr hbd .nil iA ht) λσ H Q ⟨E,q⟩=>⟨E,λv H1 s1 r1=>?_⟩
  have hds:ds=[]:=aN6.mp hlen.symm
  subst hds
  have r0:=r1
  rw[aj]at r1
  obtain⟨f,e0,x,C',dx,vs,rfl,h1,h2,h3,r2⟩:=r1
  rw[hns]at h1;cases h1
  refine⟨x,dx,_,rfl,h3,uJ hn,[.obj n ns es],r,o,am.one (r0.imp λ_ _ _=>True.intro),h,hp,λv H' s2 r2=>q v H' (s1.trans s2) (r2.imp λa b p=>⟨p.1,s1.free p.2⟩)⟩
 | cons e es' =>
  refine bS (xC (he ow) hc hm hF hr hbd .nil iA (ha ow) (bC (hst e aG0)) (dP λx hx=>hst x (aG1 _ hx)) ht) λσ H Q ⟨E,q⟩=>⟨E,λv H1 s1 r1=>?_⟩
  have r0:=r1
  rw[aj]at r1
  obtain⟨f,e0,x,C',dx,vs,rfl,h1,h2,h3,r2⟩:=r1
  rw[hns]at h1;cases h1
  refine⟨x,dx,_,rfl,h3,uJ hn,E.same s1,λws H2 s2 rw2=>?_⟩
  refine⟨.obj n ns es::ds,r,o,by rw[aK7];exact am.cons ((r0.same s2).imp λ_ _ _=>True.intro) (rw2.imp λ_ _ _=>True.intro),h,hp,λv H' s3 r3=>q v H' ((s1.trans s2).trans s3) (r3.imp λa b p=>⟨p.1,s1.free (s2.free p.2)⟩)⟩
theorem uK{K:W.Frag}{H:Hp}{P:bU}{f:Str}{d:D}:∀{ns:List Str} {ds:List D} {vs:List V},am K H P ds vs->(ns.zip ds).lookup f=some d->∃v,(ns.zip vs).lookup f=some v/\aj K H P d v/\(aI ds=true->d.lless=true)
 | [],ds,vs,_,h=>by cases h
 | a::ns,[],vs,_,h=>by cases h
 | a::ns,e::ds,vs,r,h=>by
  rw[am]at r
  obtain⟨v,ws,rfl,r1,r2⟩:=r
  replace h:List.lookup f ((a,e)::ns.zip ds)=some d:=h
  show ∃u,List.lookup f ((a,v)::ns.zip ws)=some u/\_
  rw[aG6]at h⊢
  cases hb:f==a with
  | true =>
   rw[hb]at h;cases h
   exact⟨v,rfl,r1,λz=>by rw[aI,aH4]at z;exact z.1⟩
  | false =>
   rw[hb]at h
   obtain⟨u,u1,u2,u3⟩:=uK r2 h
   exact⟨u,u1,u2,λz=>by rw[aI,aH4]at z;exact u3 z.2⟩
theorem NK{n:Str}(G:bA Φ X sc)(hf:Φ.fld n f=true)(he:ED X ρ a (.obj n ns ds) j)(hb:g9 a=true)(h:(ns.zip ds).lookup f=some d):ED X ρ (.Attribute a f pos) d 0:=by
 intro ow
 refine bS (AR (he ow) (base_of hb)) λσ H Q ⟨E,q⟩=>⟨E,λv H1 s1 r1=>?_⟩
 rw[aj]at r1
 obtain⟨fl,e0,x,C,dx,vs,rfl,h1,h2,h3,r2⟩:=r1
 obtain⟨u,u1,u2,u3⟩:=uK r2 h
 exact⟨x,C,dx,_,u,rfl,h3,h2,G.fld n f hf C h1,u1,q u H1 s1 (u2.flat _ (u3 fl))⟩
theorem NO{l:Nat}(G:bA Φ X sc)(hB:ff f B)(hg:sc.names.lookup f=some .globalImplicit)
  (ha:AD X ρ (e::es) ds k) (hst:∀x∈e::es,∀y p,x ≠ .Starred y p) (h:B ds=.ok (z,l) o) (hp:aT o):ED X ρ (.Call (.Name f p) (e::es) [] pos) z l:=by
 obtain⟨h3,h1,h2,_,h4⟩:=hB
 have h4:=h4 X ds z l o G.calm h hp
 intro ow
 have n1:=bC (env:=X.env) (es:=es) (hst e aG0)
 have n2:(backTo pos (starEach es X.env)).any (·.1)=false:=dP λx hx=>hst x (aG1 _ hx)
 rcases h4 with⟨id,e1,r,e2,e3⟩|⟨T,e1,r,e2,e3⟩
 ·refine bS (CS e2 (G.gl f hg) (G.bl f h3) e1 (ha ow) h1 h2 n1 n2) λσ H Q ⟨E,q⟩=>⟨E,λvs H1 s1 r1=>?_⟩
  exact e3 ow H H1 vs _ Q E.own s1 r1 λw H' s2 r2=>q w H' (s1.trans s2) r2
 ·refine bS (AS e2 (G.gl f hg) (G.bl f h3) e1 (ha ow) h1 h2 n1 n2) λσ H Q ⟨E,q⟩=>⟨E,λvs H1 s1 r1=>?_⟩
  exact e3 ow H H1 vs _ Q E.own s1 r1 λw H' s2 r2=>q w H' (s1.trans s2) r2
theorem Jy(h:ED X ρ e (.lst l) k):IE X ρ tg e l k:=by
 intro ow pins s σ H R I ⟨E,q⟩
 refine IH (tg:=tg) (h ow) pins s σ H R I ⟨E,λv H1 s1 r1=>?_⟩
 rw[aj]at r1
 obtain⟨a,vs,b,rfl,hl,hp,rl⟩:=r1
 have rl':am X.K H1 (Kd ow H k H1) l vs:=rl.impH (λa o ho p=>⟨p,λ_=>⟨o,ho⟩⟩) λa p=>⟨p,λz=>(by cases z)⟩
 have hp':Kd ow H k H1 a b:=⟨hp,λhb=>by subst hb;exact⟨_,hl⟩⟩
 have sq:∀{H2:Hp},wG X.K H2 a vs b->dG X.K H2 a vs:=λ{H2} h=>h.sq
 refine⟨a,rfl,⟨vs,sq hl⟩,q _ H1 s1 λi H2 st=>⟨λd hd=>?_,λhle=>?_⟩⟩
 ·have h2:=sq (st.ls hl hp')
  obtain⟨w,hw,rw'⟩:=rl'.get hd
  refine⟨⟨vs,w,h2,hw⟩,λx H3 ⟨e3,y3⟩=>?_⟩
  subst e3
  have:=y3 vs h2
  rw[hw]at this;cases this
  exact⟨aL.refl _,rw'.mono st⟩
 ·exact⟨vs,sq (st.ls hl hp'),by rw[<- rl.length];exact hle⟩
theorem Nl(h:ED X ρ e (.tup l) k):IE X ρ tg e l k:=by
 intro ow pins s σ H R I ⟨E,q⟩
 refine LI (tg:=tg) (h ow) pins s σ H R I ⟨E,λv H1 s1 r1=>?_⟩
 rw[aj]at r1
 obtain⟨a,vs,rfl,hl,rl⟩:=r1
 have rl':am X.K H1 (Kd ow H k H1) l vs:=rl.impH (λa o ho p=>⟨p,λ_=>⟨o,ho⟩⟩) λa p=>⟨p,λz=>(by cases z)⟩
 refine⟨a,rfl,⟨vs,hl⟩,q _ H1 s1 λi H2 st=>⟨λd hd=>?_,λhle=>?_⟩⟩
 ·have h2:=st.sq hl
  obtain⟨w,hw,rw'⟩:=rl'.get hd
  refine⟨⟨vs,w,h2,hw⟩,λx H3 ⟨e3,y3⟩=>?_⟩
  subst e3
  have:=y3 vs h2
  rw[hw]at this;cases this
  exact⟨aL.refl _,rw'.mono st⟩
 ·exact⟨vs,st.sq hl,by rw[<- rl.length];exact hle⟩
noncomputable def VJ(x:Str):It:=⟨λi _=>i<x.cps.size,λi H v H'=>H'=H/\∃c,x.cps[i]?=some c/\v=.str ⟨#[c]⟩,λi _=>x.cps.size<=i⟩
theorem BX(x:Str)(t:Tok)(it:Addr):Turn P w K tg (VJ x) [it] it (λi h=>h.IsStrIter it "str_ascii_iterator" x t i) where
 mem:=by simp
 obj:=λi h st b hb=>by
  have e:b=it:=by simpa using hb
  subst e
  obtain⟨o,e,c,d⟩:=st
  exact⟨o,e,λv z=>by rw[d]at z;cases z⟩
 keep:=λi h h' st k=>by
  obtain⟨o,e,c,d⟩:=st
  exact⟨o,k it (by simp) o e,c,d⟩
 item:=by
  intro X hP hw hK hc i pins s σ H E I hf st hg
  subst hP hw hK
  obtain⟨f0,f1,f2,f3,f4,f5⟩:=hf it (by simp)
  have hx:x.cps[i]?=some x.cps[i]:=Array.getElem?_eq_getElem hg
  refine wpAny_pyNext_ascii_item st hx λh' st' sb=>?_
  have I1:aq X pins σ H { s with heap:=h',toks:=s.toks+1 }:=I.turned (t':=s.toks+1) (λb o hb e=>(sb.2 b hb).trans e) f0 f1 f3 f4 f5
  obtain⟨o,e,c,d⟩:=id st'
  exact⟨_,rfl,uq (s:={ s with heap:=h',toks:=s.toks+1 }) e c d (by decide) ⟨.str ⟨#[x.cps[i]]⟩,H,I1,⟨_,rfl⟩,⟨rfl,_,hx,rfl⟩,st',λb hb=>(hf b hb).1⟩⟩
 done:=by
  intro X hP hw hK hc i pins s σ H E I hf st hg
  subst hP hw hK
  obtain⟨f0,f1,f2,f3,f4,f5⟩:=hf it (by simp)
  exact wpAny_pyNext_ascii_end (I.ok.hd hc) st (Array.getElem?_eq_none hg) λh' eb=>⟨rfl,I.turned (t':=s.toks) (λb o hb e=>eb b o hb e) f0 f1 f3 f4 f5⟩
 self:=λ_ _ _ _ _ st h=>wpAny_pyIter_striter_ascii st h
theorem Nm(h:ED X ρ e (.str x) k)(ha:(x.cps.all λc=>decide (c<128))=true):IE X ρ tg e (sgs x) k:=by
 intro ow pins s σ H R I ⟨E,q⟩
 refine bu (h ow pins s σ H _ I ⟨E,λv H1 s1 r1=>(show(λv H1=>aL H H1/\aj X.K H1 (Kp ow H k) (.str x) v) v H1 from⟨s1,r1⟩)⟩) λv s1 ⟨y,H1,I1,rel,sm,rp⟩=>?_
 rw[aj]at rp;subst rp
 obtain⟨t,rfl⟩:=rel
 have ty:strIterType x = "str_ascii_iterator" := if_pos ha
 refine wpAny_pyIter_strU ?_
 rw[ty]
 refine⟨s1.heap.objs.size,[s1.heap.objs.size],_,VJ x,H1,rfl,I1.kept (t':=s1.toks) λb o e=>aF6 _ e,BX x t _,⟨_,aG5 _ rfl,rfl,rfl⟩,λb hb=>?_,q _ H1 sm λi H2 st=>⟨λd hd=>?_,λhle=>?_⟩⟩
 ·have e:b=s1.heap.objs.size:=by simpa using hb
  subst e
  exact I1.fpOk (aF9 _) (I1.hok.fresh (aF9 _))
 ·unfold sgs at hd
  rw[aL7]at hd
  cases hc:x.cps.toList[i]? with
  | none=>rw[hc]at hd;cases hd
  | some c =>
   rw[hc]at hd;cases hd
   have hi:i<x.cps.size:=by simpa using (aI3.mp hc).1
   refine⟨hi,λz H3 ⟨e3,c',e4,e5⟩=>?_⟩
   subst e3 e5
   rw[Array.getElem?_toList]at hc
   rw[hc]at e4;cases e4
   exact⟨aL.refl _,by rw[aj]⟩
 ·unfold sgs at hle
  rw[aH3,Array.length_toList]at hle
  exact hle
theorem T0(h:ED X ρ e d k)(hi:items d=some l):IE X ρ tg e l k:=by
 unfold items at hi
 split at hi
 ·cases hi;exact Jy h
 ·cases hi;exact Nl h
 ·split at hi
  ·rename_i ha;cases hi;exact Nm h ha
  ·cases hi
 ·cases hi
theorem Dl{j:Int}(hg:Gl X "range")(hm0:X.mg "range" = none)(ha:AD X ρ [a] [.int j] k)(hst:∀y p,a ≠ .Starred y p)(h1:-4611686018427387904<=j)(h2:j<=cq) :
  IE X ρ tg (.Call (.Name "range" p) [a] [] pos) ((List.range j.toNat).map λi=>.int (i:Nat)) 0:=by
 intro ow pins s σ H R I ⟨E,q⟩
 refine AN (tg:=tg) hg hm0 (ha ow) (by rw[bC hst];rfl) pins s σ H R I ⟨E,λvs H1 s1 r1=>?_⟩
 obtain⟨v,rfl,rv⟩:=r1.only
 rw[aj]at rv;subst rv
 have hm:(cq:Int)<2 ^ 62:=by decide
 refine⟨j,rfl,h1,by omega,q _ H1 s1 λi H2 st=>⟨λd hd=>?_,λhle=>?_⟩⟩
 ·rw[aL7]at hd
  cases e:(List.range j.toNat)[i]? with
  | none=>rw[e]at hd;cases hd
  | some n =>
   rw[e]at hd;cases hd
   obtain⟨hi,hn⟩:=aI3.mp e
   rw[List.getElem_range]at hn
   subst hn
   rw[List.length_range]at hi
   refine⟨hi,λx H3 ⟨e3,y3⟩=>?_⟩
   subst e3 y3
   exact⟨aL.refl _,by rw[aj,Int.zero_add]⟩
 ·rw[aH3,List.length_range]at hle
  exact hle
theorem Be{b:Expr}{j0 j:Int}(hg:Gl X "range")(hm0:X.mg "range" = none)(ha:AD X ρ [a,b] [.int j0,.int j] k)(hst:∀y p,a ≠ .Starred y p)(hst2:∀y p,b ≠ .Starred y p)(h1:-4611686018427387904<=j0)(h2:j0<=4611686018427387000)(h3:-4611686018427387904<=j)(h4:j-j0<=800) :
  IE X ρ tg (.Call (.Name "range" p) [a,b] [] pos) ((List.range (j-j0).toNat).map λi=>.int (j0+(i:Nat))) 0:=by
 intro ow pins s σ H R I ⟨E,q⟩
 refine AM (tg:=tg) hg hm0 (ha ow) (by rw[bC hst,bC hst2];rfl) (by rw[bC hst2];rfl) pins s σ H R I ⟨E,λvs H1 s1 r1=>?_⟩
 rw[am]at r1
 obtain⟨v1,r,rfl,r2,r3⟩:=r1
 rw[am]at r3
 obtain⟨v2,r',rfl,r4,r5⟩:=r3
 rw[am]at r5
 rw[aj]at r2 r4
 subst r2 r4 r5
 refine⟨j0,j,rfl,⟨h1,by omega,h3,by omega⟩,q _ H1 s1 λi H2 st=>⟨λd hd=>?_,λhle=>?_⟩⟩
 ·rw[aL7]at hd
  cases e:(List.range (j-j0).toNat)[i]? with
  | none=>rw[e]at hd;cases hd
  | some n =>
   rw[e]at hd;cases hd
   obtain⟨hi,hn⟩:=aI3.mp e
   rw[List.getElem_range]at hn
   subst hn
   rw[List.length_range]at hi
   refine⟨hi,λx H3 ⟨e3,y3⟩=>?_⟩
   subst e3 y3
   exact⟨aL.refl _,by rw[aj]⟩
 ·rw[aH3,List.length_range]at hle
  exact hle
theorem Bf:nY "range" vL:=by
 refine⟨by decide +kernel,λX ρ p pos args ds k d j l tg o hc hg hm ha hst hlen h hp hl ht=>?_⟩
 unfold vL at h
 split at h
 ·rename_i n
  cases h
  cases hl
  match args,hlen,ha,hst with
  | [a],_,ha,hst=>exact Dl hg hm ha (hst a aG0) hp.1 hp.2.1
 ·rename_i m n
  cases h
  cases hl
  match args,hlen,ha,hst with
  | [a,b],_,ha,hst=>exact Be hg hm ha (hst a aG0) (hst b (aG1 _ aG0)) hp.1 hp.2.1 hp.2.2.1 hp.2.2.2.1
 ·cases h
open AutoSeq1 (wpAny_loadPart')
section
variable{prog:Program}{w:World}{A:Around}{E:Value->Shared->Prop}{s:Shared}
theorem Hh{it:Addr}{vs:Array Value}{x:Value}(hIt:s.heap.IsTupleIter it tu i)(hT:s.heap.IsTuple tu vs)(hx:vs[i]?=some x)
  (go:∀h1,h1.IsTupleIter it tu (i+1)->Heap.SameBut it s.heap h1->Q x { s with heap:=h1 }):wpAny (model prog w) A (Builtin.SmallTypes.nextOf (.ref it)) Q E s:=by
 have key:=wpAny_pyNext_tuple_item (prog:=prog) (w:=w) (A:=A) (E:=E) (Q:=λr s1 => ∃v,r=some v/\Q v s1) hIt hT hx (λh1 a b=>⟨x,rfl,go h1 a b⟩)
 obtain⟨o,ho,hc,hd⟩:=id hIt
 obtain⟨ot,hot,_,nt,hdt⟩:=hT
 unfold Builtin.SmallTypes.nextOf
 refine aF4 (aL4 (name:=Str.ofString "__next__") hIt.typeIs F.slot_tuple_iterator_next (aN9 F.slot_tuple_iterator_next hIt.typeIs F.entry_tuple_iterator_next ?_ (F.args_tuple_iterator_next_1 _)))
 show wpAny _ _ (field (.ref it) 0 >>= _) _ _ s
 refine aF4 (aJ4 ho hd (x:=.ref tu) rfl ?_)
 show wpAny _ _ (if (Value.ref tu==Value.none)=true then _ else _) _ _ s
 rw[if_neg (show ¬ ((Value.ref tu==Value.none)=true)from aH9)]
 show wpAny _ _ (field (.ref it) 1 >>= _) _ _ s
 refine aF4 (aJ4 ho hd (x:=Value.int (i:Int) 0) rfl ?_)
 show wpAny _ _ (seqItems? (.ref tu) >>= _) _ _ s
 refine aF4 (aO0 hot hdt ?_)
 simp only[Int.toNat_natCast,hx]
 refine aF4 (wpAny_setField ho hd (by simp) (aG3 ⟨x,rfl,aG3 (go _ ?_ (Heap.SameBut.update ..))⟩))
 refine⟨_,Heap.get?_update_self _ ho (Obj.isFreed_of_fields (Obj.data_mapFields hd _)),(Obj.cls_mapFields ..).trans hc,?_⟩
 rw[Obj.data_mapFields hd];simp[rawInt]
theorem Kw{it:Addr}{vs:Array Value}(hh:A.handled=none)(hIt:s.heap.IsTupleIter it tu i)(hT:s.heap.IsTuple tu vs)(hx:vs[i]?=none)
  (go:∀h1 x,Heap.ExtBut it s.heap h1->(∃o,h1.get? x=some o/\o.cls=.type "StopIteration")->E (.ref x) { s with heap:=h1 }):wpAny (model prog w) A (Builtin.SmallTypes.nextOf (.ref it)) Q E s:=by
 obtain⟨o,ho,hc,hd⟩:=id hIt
 obtain⟨ot,hot,_,nt,hdt⟩:=hT
 unfold Builtin.SmallTypes.nextOf
 refine aF4 (aL4 (name:=Str.ofString "__next__") hIt.typeIs F.slot_tuple_iterator_next (aN9 F.slot_tuple_iterator_next hIt.typeIs F.entry_tuple_iterator_next ?_ (F.args_tuple_iterator_next_1 _)))
 show wpAny _ _ (field (.ref it) 0 >>= _) _ _ s
 refine aF4 (aJ4 ho hd (x:=.ref tu) rfl ?_)
 show wpAny _ _ (if (Value.ref tu==Value.none)=true then _ else _) _ _ s
 rw[if_neg (show ¬ ((Value.ref tu==Value.none)=true)from aH9)]
 show wpAny _ _ (field (.ref it) 1 >>= _) _ _ s
 refine aF4 (aJ4 ho hd (x:=Value.int (i:Int) 0) rfl ?_)
 show wpAny _ _ (seqItems? (.ref tu) >>= _) _ _ s
 refine aF4 (aO0 hot hdt ?_)
 simp only[Int.toNat_natCast,hx]
 refine aF4 (wpAny_rule (aF4 (wpAny_setField ho hd (by simp) ?_)))
 show wpAny _ _ (newExc (.type "StopIteration") [] >>= _) _ _ _
 refine aF4 ?_
 simp only[newExc,newTuple]
 refine aF4 (aM3 ?_ (by size_fits))
 refine aF4 (m:=firstArgMember _ _) (wpAny_of_eq (a:=Value.none) (by first|rfl|(simp only[firstArgMember]<;>rfl)) ?_)
 refine aM3 ?_ (by size_fits)
 simp only[raiseNew]
 refine aF4 (wpAny_handled ?_)
 first|rw[show A.in1.handled=none from hh]|rw[hh]
 refine aF4 (aG3 (wpAny_throw ?_))
 exact go _ _ (((Heap.SameBut.update ..).extBut.push _).push _) ⟨_,aG5 _ rfl,rfl⟩
theorem JM{e it:Addr}{x:Value}{Kn:Heap->Prop}(isE:IsEnum s.heap e it i old)(hne:e≠it)
  (stay:∀h1 h2:Heap,Kn h1->(∀o,h1.get? it=some o->h2.get? it=some o)->Kn h2)
  (inner:∀(Q1:Value->Shared->Prop),(∀h1,Kn h1->Heap.SameBut it s.heap h1->Q1 x { s with heap:=h1 })->wpAny (model prog w) A.in1 (Builtin.SmallTypes.nextOf (.ref it)) Q1 E s)
  (go:∀h1,IsEnumOut h1 e it ((i:Int)+1) x s.heap.objs.size->Kn h1->h1.get? s.heap.objs.size=some { cls:=.type "tuple", data:=.seq #[.int i s.toks,x] }->(∀b o,b≠e->b≠it->s.heap.get? b=some o->h1.get? b=some o)->Q (.ref s.heap.objs.size) { s with heap:=h1,toks:=s.toks+1 }) :
  wpAny (model prog w) A.in1 (Builtin.«enumerate.__next__» ⟨[.ref e],[]⟩) (λfin s' => ∃v,fin=.done (.ret v)/\Q v s') E s:=by
 obtain⟨h0,gg,dd,t0,oo⟩:=s
 have elt:e<h0.objs.size:=aG2 isE
 show wpAny _ _ (field (.ref e) 2 >>= _) _ _ _
 refine aF4 (aJ4 isE rfl (x:=Value.ref it) rfl (aF4 (inner _ λh1 k1 b1=>?_)))
 have b1':Heap.SameBut it h0 h1:=b1
 have E1:IsEnum h1 e it i old:=(b1'.2 e hne).trans isE
 show wpAny _ _ (field (.ref e) 3 >>= _) _ _ ⟨h1,gg,dd,t0,oo⟩
 refine aF4 (aJ4 E1 rfl (x:=rawInt (i:Int)) rfl ?_)
 show wpAny _ _ (field (.ref e) 4 >>= _) _ _ ⟨h1,gg,dd,t0,oo⟩
 refine aF4 (aJ4 E1 rfl (x:=Value.none) rfl ?_)
 show wpAny _ _ (mkInt i >>= _) _ _ ⟨h1,gg,dd,t0,oo⟩
 refine aF4 (wpAny_mkInt ?_)
 show wpAny _ _ (setField (.ref e) 3 (rawInt ((i:Int)+1)) >>= _) _ _ ⟨h1,gg,dd,t0+1,oo⟩
 refine aF4 (aK8 E1 (by simp) λh2 E2 b2=>?_)
 have b2':Heap.SameBut e h1 h2:=b2
 have E2':IsEnum h2 e it ((i:Int)+1) old:=E2
 show wpAny _ _ (setField (.ref e) 4 .none >>= _) _ _ ⟨h2,gg,dd,t0+1,oo⟩
 refine aF4 (aK8 E2' (by simp) λh3 E3 b3=>?_)
 have b3':Heap.SameBut e h2 h3:=b3
 have E3':IsEnum h3 e it ((i:Int)+1) old:=E3
 show wpAny _ _ (newTuple [.int i t0,x] >>= _) _ _ ⟨h3,gg,dd,t0+1,oo⟩
 refine aF4 (wpAny_newTuple ?_)
 have z3:h3.objs.size=h0.objs.size:=by rw[b3'.1,b2'.1,b1'.1]
 have E4:IsEnum (h3.push { cls:=.type "tuple", data:=.seq #[.int i t0,x] }) e it ((i:Int)+1) old:=aF6 _ E3'
 have T4:(h3.push { cls:=.type "tuple", data:=.seq #[.int i t0,x] }).get? h0.objs.size=some { cls:=.type "tuple", data:=.seq #[.int i t0,x] }:=by rw[<- z3];exact aG5 _ rfl
 have K4:∀b o,b≠e->b≠it->h0.get? b=some o->(h3.push { cls:=.type "tuple", data:=.seq #[.int i t0,x] }).get? b=some o:=λb o n1 n2 q=>aF6 _ (b3'.extBut b o n1 (b2'.extBut b o n1 (b1'.extBut b o n2 q)))
 have N4:Kn (h3.push { cls:=.type "tuple", data:=.seq #[.int i t0,x] }):=stay h1 _ k1 λo q=>aF6 _ (b3'.extBut it o (aO8 hne) (b2'.extBut it o (aO8 hne) q))
 rw[z3]
 generalize h3.push { cls:=.type "tuple", data:=.seq #[.int i t0,x] }=h4 at E4 T4 K4 N4
 show wpAny _ _ (Builtin.SmallTypes.ownedTupleIsFree (.ref e) >>= _) _ _ ⟨h4,gg,dd,t0+1,oo⟩
 refine aF4 ?_
 unfold Builtin.SmallTypes.ownedTupleIsFree
 refine aF4 (aJ4 E4 rfl (x:=Value.none) rfl (aG3 ?_))
 simp only[aP3]
 refine aF4 (wpAny_rule (aF4 (aJ4 E4 rfl (x:=old) rfl ?_)))
 refine aF4 (aK8 E4 (by simp) λh5 E5 b5=>?_)
 have b5':Heap.SameBut e h4 h5:=b5
 have E5':IsEnum h5 e it ((i:Int)+1) x:=E5
 show wpAny _ _ (Builtin.SmallTypes.ownedTupleHandOut (.ref e) (.ref h0.objs.size) >>= _) _ _ ⟨h5,gg,dd,t0+1,oo⟩
 refine aF4 ?_
 unfold Builtin.SmallTypes.ownedTupleHandOut
 refine aF4 (aK8 E5' (by simp) λh6 E6 b6=>?_)
 have b6':Heap.SameBut e h5 h6:=b6
 have E6':IsEnumOut h6 e it ((i:Int)+1) x h0.objs.size:=E6
 refine aK8 E6' (by simp) λh7 E7 b7=>?_
 have b7':Heap.SameBut e h6 h7:=b7
 have E7':IsEnumOut h7 e it ((i:Int)+1) x h0.objs.size:=E7
 have far:∀b o,b≠e->h4.get? b=some o->h7.get? b=some o:=λb o n1 q=>b7'.extBut b o n1 (b6'.extBut b o n1 (b5'.extBut b o n1 q))
 refine aF4 (wpAny_letGo (aG3 ⟨_,rfl,go h7 E7' ?_ (far _ _ (aL1 elt) T4) λb o n1 n2 q=>far b o n1 (K4 b o n1 n2 q)⟩))
 exact stay h4 h7 N4 λo q=>far it o (aO8 hne) q
end
variable{X:Cx}
theorem tj{t2:Nat}{p:Addr}{o:HO}(I:aq X pins σ H s)
  (k:∀b u,b∉ch->s.heap.get? b=some u->h2.get? b=some u) (hp:s.heap.objs.size<=p) (hn:∀b∈ch,iw X pins H b) (new:dn X.prog X.w (bo H p o) h2 p o):aq X pins σ (bo H p o) { s with heap:=h2,toks:=t2 }:=by
 have hH:H p=none:=I.hok.fresh hp
 have tr:∀b u,H b=some u->b∉ch:=λb u e z=>by rw[(hn b z).1]at e;cases e
 have un:Un (kS X.stack) ch H (bo H p o) s.heap h2:=by
  refine⟨λb ob e n _ c=>k b ob c e,λb ob e n _ c=>⟨ob.slots,k b ob c e⟩,λb ob e n c=>?_,λb ob e c=>⟨ob,k b ob c e⟩,λb xs e=>?_,λb ob u e=>?_,λb ps e=>⟨#[],?_⟩⟩
  ·rw[aK (aJ0 (aG7 (aG2 e) hp))];exact n
  ·rw[aK (cu e hH)];exact e
  ·rw[aK (cu e hH)];exact e
  ·rw[aK (cu e hH),e];simp
 refine I.call (g':=s.gens) (d':=s.drawn) un (λb u e=>?_) I.bare λb hb=>⟨(hn b hb).2.2.2.1,(hn b hb).2.1,(hn b hb).2.2.2.2.1,(hn b hb).2.2.2.2.2⟩
 by_cases hb:b=p
 ·subst hb;rw[aU]at e;cases e;exact new
 ·rw[aK hb]at e
  refine(I.hok b u e).stay (λc v hc q=>k c v ?_ q) (λc q=>by rw[aK (cu q hH)];exact q) λc xs q=>by rw[aK (cu q hH)];exact q
  rcases hc with z|z
  ·rw[z];exact tr b u e
  ·exact tr c _ z
theorem tf(h:iK tg=true):∃es n p,tg=.Tuple es n p:=by
 cases tg<;>first|exact⟨_,_,_,rfl⟩|cases h
open AutoSeq1 (wpAny_loadPart')
structure Wk(prog:Program)(w:World)(i l:Addr)(P:Nat->Heap->Prop)(g:Nat->Option Value):Prop where
 stay:∀k (h h':Heap),P k h->(∀c o,c=i\/c=l->h.get? c=some o->h'.get? c=some o)->P k h'
 here:∀k (h:Heap),P k h->∃o,h.get? i=some o/\∀v,o.data≠Data.cell v
 item:∀(A:Around) (E:Value->Shared->Prop) (s:Shared) (k:Nat) (x:Value) (Q:Value->Shared->Prop),P k s.heap->g k=some x->(∀h1,P (k+1) h1->Heap.SameBut i s.heap h1->Q x { s with heap:=h1 })->wpAny (model prog w) A (Builtin.SmallTypes.nextOf (.ref i)) Q E s
 done:∀(A:Around) (E:Value->Shared->Prop) (s:Shared) (k:Nat) (Q:Value->Shared->Prop),A.handled=none->P k s.heap->g k=none->(∀h1 x,Heap.ExtBut i s.heap h1->(∃o,h1.get? x=some o/\o.cls=.type "StopIteration")->E (.ref x) { s with heap:=h1 })->wpAny (model prog w) A (Builtin.SmallTypes.nextOf (.ref i)) Q E s
theorem Kq{i l:Addr}(ne:l≠i):Wk prog w i l (λk h=>h.IsTupleIter i l k/\h.IsTuple l xs) (λk=>xs[k]?) where
 stay:=λk h h' p q=>⟨p.1.at λo e=>q i o (.inl rfl) e,p.2.at λo e=>q l o (.inr rfl) e⟩
 here:=λk h p=>let ⟨o,e,_,d⟩:=p.1;⟨o,e,λv z=>by rw[d]at z;cases z⟩
 item:=λA E s k x Q p hx q=>Hh p.1 p.2 hx λh1 a b=>q h1 ⟨a,p.2.extBut b.extBut ne⟩ b
 done:=λA E s k Q hh p hx q=>Kw hh p.1 p.2 hx q
theorem Kr{i l:Addr}(ne:l≠i):Wk prog w i l (λk h=>h.IsListIter i l k/\h.IsList l xs) (λk=>xs[k]?) where
 stay:=λk h h' p q=>⟨p.1.at λo e=>q i o (.inl rfl) e,p.2.at λo e=>q l o (.inr rfl) e⟩
 here:=λk h p=>let ⟨o,e,_,d⟩:=p.1;⟨o,e,λv z=>by rw[d]at z;cases z⟩
 item:=λA E s k x Q p hx q=>wpAny_nextOf_list_item p.1 p.2 hx λh1 a b=>q h1 ⟨a,p.2.extBut b.extBut ne⟩ b
 done:=λA E s k Q hh p hx q=>wpAny_nextOf_list_end hh p.1 p.2 hx q
section
variable{prog:Program}{w:World}{A:Around}{E:Value->Shared->Prop}{s:Shared}
variable{z TI TO i1 i2 l1 l2:Addr}{k1 k2:Nat}{P1 P2:Nat->Heap->Prop}{g1 g2:Nat->Option Value}{x y a b:Value}
structure Zs(z TI TO i1 i2 l1 l2:Addr)(P1 P2:Nat->Heap->Prop)(k:Nat)(h:Heap):Prop where
 ap:ZipApart z TI TO i1 i2 l1 l2
 rd:IsZip h z TI TO .none
 ins:IsPair h TI (.ref i1) (.ref i2)
 out:∃a b,IsPair h TO a b
 fst:P1 k h
 snd:P2 k h
theorem Zs.item(W1:Wk prog w i1 l1 P1 g1)(W2:Wk prog w i2 l2 P2 g2)(S:Zs z TI TO i1 i2 l1 l2 P1 P2 k s.heap)(hx:g1 k=some x)(hy:g2 k=some y)
  (go:∀h1,(∀h2,IsZip h2 z TI TO .none->Heap.SameBut z h1 h2->Zs z TI TO i1 i2 l1 l2 P1 P2 (k+1) h2)->IsZip h1 z TI TO (rawInt s.heap.objs.size)->IsPair h1 s.heap.objs.size x y->(∀c o,c∉[z,TO,i1,i2]->s.heap.get? c=some o->h1.get? c=some o)->Q (.ref s.heap.objs.size) { s with heap:=h1 }) :
  wpAny (model prog w) A (Builtin.«zip.__next__» ⟨[.ref z],[]⟩) (λfin s' => ∃v,fin=.done (.ret v)/\Q v s') E s:=by
 obtain⟨D,isZ,pI,⟨a,b,pO⟩,p1,p2⟩:=S
 obtain⟨h0,gg,dd,t0,oo⟩:=s
 show wpAny _ _ (field (.ref z) 2 >>= _) _ _ ⟨h0,gg,dd,t0,oo⟩
 refine aF4 (aJ4 isZ rfl (x:=Value.bool false) rfl ?_)
 show wpAny _ _ (field (.ref z) 3 >>= _) _ _ ⟨h0,gg,dd,t0,oo⟩
 refine aF4 (aJ4 isZ rfl (x:=Value.ref TI) rfl (aF4 (aO0 pI rfl ?_)))
 show wpAny _ _ (Builtin.SmallTypes.ownedTupleIsFree (.ref z) >>= _) _ _ ⟨h0,gg,dd,t0,oo⟩
 unfold Builtin.SmallTypes.ownedTupleIsFree
 refine aF4 (aF4 (aJ4 isZ rfl (x:=Value.none) rfl (aG3 ?_)))
 simp only[aP3]
 refine aF4 (wpAny_rule (aF4 (aJ4 isZ rfl (x:=Value.ref TO) rfl (aF4 (aK8 isZ (by simp) λq1 Z1 m1=>?_)))))
 have Z1:IsZip q1 z TI TO .ellipsis:=Z1
 have m1:Heap.SameBut z h0 q1:=m1
 simp only[List.zipIdx_cons,List.zipIdx_nil,aO9,List.forIn_nil]
 refine aF4 (aF4 (aF4 (wpAny_onRaise ?_)))
 show wpAny _ _ (Builtin.SmallTypes.nextOf (.ref i1) >>= _) _ _ ⟨q1,gg,dd,t0,oo⟩
 have e1:∀c o,c≠z->h0.get? c=some o->q1.get? c=some o:=λc o n u=>m1.extBut c o n u
 refine aF4 (W1.item _ _ _ k x _ (W1.stay k _ _ p1 λc o hc u=>e1 c o (by rcases hc with rfl|rfl;exact D.i1z;exact D.l1z) u) hx λq2 p1' m2=>aG3 ?_)
 have m2:Heap.SameBut i1 q1 q2:=m2
 have e2:∀c o,c≠z->c≠i1->h0.get? c=some o->q2.get? c=some o:=λc o n n' u=>m2.extBut c o n' (e1 c o n u)
 have O2:IsPair q2 TO a b:=e2 _ _ D.TOz D.TOi1 pO
 refine aF4 (aO0 O2 rfl (aF4 (wpAny_updateSeq_pair O2 λq3 O3 m3=>aF4 (wpAny_letGo (aG3 ?_)))))
 have O3:IsPair q3 TO x b:=O3
 have m3:Heap.SameBut TO q2 q3:=m3
 have e3:∀c o,c≠z->c≠i1->c≠TO->h0.get? c=some o->q3.get? c=some o:=λc o n n' n'' u=>m3.extBut c o n'' (e2 c o n n' u)
 refine aF4 (aF4 (wpAny_onRaise ?_))
 show wpAny _ _ (Builtin.SmallTypes.nextOf (.ref i2) >>= _) _ _ ⟨q3,gg,dd,t0,oo⟩
 refine aF4 (W2.item _ _ _ k y _ (W2.stay k _ _ p2 λc o hc u=>by
  rcases hc with rfl|rfl
  ·exact e3 c o D.i2z D.i12.symm D.TOi2.symm u
  ·exact e3 c o D.l2z D.l2i1 D.l2TO u) hy λq4 p2' m4=>aG3 ?_)
 have m4:Heap.SameBut i2 q3 q4:=m4
 have O4:IsPair q4 TO x b:=m4.extBut _ _ D.TOi2 O3
 refine aF4 (aO0 O4 rfl (aF4 (wpAny_updateSeq_pair O4 λq5 O5 m5=>aF4 (wpAny_letGo (aG3 (aG3 ?_))))))
 have O5:IsPair q5 TO x y:=O5
 have m5:Heap.SameBut TO q4 q5:=m5
 refine aF4 (aO0 O5 rfl (aF4 (wpAny_newTuple ?_)))
 have sz:q5.objs.size=h0.objs.size:=by rw[m5.1,m4.1,m3.1,m2.1,m1.1]
 have e5:∀c o,c≠z->c≠i1->c≠TO->c≠i2->h0.get? c=some o->q5.get? c=some o:=λc o n n' n'' n3 u=>m5.extBut c o n'' (m4.extBut c o n3 (e3 c o n n' n'' u))
 have Z5:IsZip q5 z TI TO .ellipsis:=m5.extBut _ _ D.TOz.symm (m4.extBut _ _ D.i2z.symm (m3.extBut _ _ D.TOz.symm (m2.extBut _ _ D.i1z.symm Z1)))
 have r1:P1 (k+1) q5:=W1.stay _ _ _ p1' λc o hc u=>by
  rcases hc with rfl|rfl
  ·exact m5.extBut c o D.TOi1.symm (m4.extBut c o D.i12 (m3.extBut c o D.TOi1.symm u))
  ·exact m5.extBut c o D.l1TO (m4.extBut c o D.l1i2 (m3.extBut c o D.l1TO u))
 have r2:P2 (k+1) q5:=W2.stay _ _ _ p2' λc o hc u=>by
  rcases hc with rfl|rfl
  ·exact m5.extBut c o D.TOi2.symm u
  ·exact m5.extBut c o D.l2TO u
 have I5:IsPair q5 TI (.ref i1) (.ref i2):=e5 _ _ D.TIz D.TIi1 D.TITO D.TIi2 pI
 have zl:z<q5.objs.size:=aG2 Z5
 show wpAny _ _ (Builtin.SmallTypes.ownedTupleHandOut (.ref z) (.ref q5.objs.size) >>= _) _ _ ⟨q5.push { cls:=.type "tuple", data:=.seq #[x,y] },gg,dd,t0,oo⟩
 unfold Builtin.SmallTypes.ownedTupleHandOut
 have Z6:IsZip (q5.push { cls:=.type "tuple", data:=.seq #[x,y] }) z TI TO .ellipsis:=aF6 _ Z5
 refine aF4 (aF4 (aK8 Z6 (by simp) λq7 Z7 m7=>?_))
 have Z7:IsZip q7 z TI TO (rawInt q5.objs.size):=Z7
 refine aK8 Z7 (by simp) λq8 Z8 m8=>?_
 have Z8:IsZip q8 z TI TO (rawInt q5.objs.size):=Z8
 have far:∀c o,c≠z->q5.get? c=some o->q8.get? c=some o:=λc o n u=>m8.extBut _ _ n (m7.extBut _ _ n (aF6 _ u))
 have T8:IsPair q8 q5.objs.size x y:=m8.extBut _ _ (aL1 zl) (m7.extBut _ _ (aL1 zl) (aG5 _ rfl))
 refine aG3 ⟨_,rfl,?_⟩
 show Q (.ref q5.objs.size) _
 rw[sz]at Z8 T8⊢
 refine go q8 (λh2 Zn mn=>⟨D,Zn,mn.extBut _ _ D.TIz (far _ _ D.TIz I5),⟨x,y,mn.extBut _ _ D.TOz (far _ _ D.TOz O5)⟩,W1.stay _ _ _ r1 λc o hc u=>?_,W2.stay _ _ _ r2 λc o hc u=>?_⟩) Z8 T8 λc o hc u=>?_
 ·have n:c≠z:=by rcases hc with rfl|rfl;exact D.i1z;exact D.l1z
  exact mn.extBut c o n (far c o n u)
 ·have n:c≠z:=by rcases hc with rfl|rfl;exact D.i2z;exact D.l2z
  exact mn.extBut c o n (far c o n u)
 ·have c1:c≠z:=λq=>hc (by simp[q])
  have c2:c≠TO:=λq=>hc (by simp[q])
  have c3:c≠i1:=λq=>hc (by simp[q])
  have c4:c≠i2:=λq=>hc (by simp[q])
  exact far c o c1 (e5 c o c1 c3 c2 c4 u)
theorem Zs.done{Q:Fin->Shared->Prop}(hh:A.handled=none)(W1:Wk prog w i1 l1 P1 g1)(W2:Wk prog w i2 l2 P2 g2)(S:Zs z TI TO i1 i2 l1 l2 P1 P2 k s.heap)(hxy:g1 k=none\/g2 k=none)
    (go:∀h1 e,(∀c o,c∉[z,TO,i1,i2]->s.heap.get? c=some o->h1.get? c=some o)->(∃o,h1.get? e=some o/\o.cls=.type "StopIteration")->E (.ref e) { s with heap:=h1 }) :
    wpAny (model prog w) A (Builtin.«zip.__next__» ⟨[.ref z],[]⟩) Q E s:=by
  obtain⟨D,isZ,pI,⟨a,b,pO⟩,p1,p2⟩:=S
  obtain⟨h0,gg,dd,t0,oo⟩:=s
  show wpAny _ _ (field (.ref z) 2 >>= _) _ _ ⟨h0,gg,dd,t0,oo⟩
  refine aF4 (aJ4 isZ rfl (x:=Value.bool false) rfl ?_)
  show wpAny _ _ (field (.ref z) 3 >>= _) _ _ ⟨h0,gg,dd,t0,oo⟩
  refine aF4 (aJ4 isZ rfl (x:=Value.ref TI) rfl (aF4 (aO0 pI rfl ?_)))
  show wpAny _ _ (Builtin.SmallTypes.ownedTupleIsFree (.ref z) >>= _) _ _ ⟨h0,gg,dd,t0,oo⟩
  unfold Builtin.SmallTypes.ownedTupleIsFree
  refine aF4 (aF4 (aJ4 isZ rfl (x:=Value.none) rfl (aG3 ?_)))
  simp only[aP3]
  refine aF4 (wpAny_rule (aF4 (aJ4 isZ rfl (x:=Value.ref TO) rfl (aF4 (aK8 isZ (by simp) λq1 Z1 m1=>?_)))))
  have Z1:IsZip q1 z TI TO .ellipsis:=Z1
  have m1:Heap.SameBut z h0 q1:=m1
  simp only[List.zipIdx_cons,List.zipIdx_nil,aO9,List.forIn_nil]
  refine aF4 (aF4 (aF4 (wpAny_onRaise ?_)))
  show wpAny _ _ (Builtin.SmallTypes.nextOf (.ref i1) >>= _) _ _ ⟨q1,gg,dd,t0,oo⟩
  have e1:∀c o,c≠z->h0.get? c=some o->q1.get? c=some o:=λc o n u=>m1.extBut c o n u
  have p1:P1 k q1:=W1.stay k _ _ p1 λc o hc u=>e1 c o (by rcases hc with rfl|rfl;exact D.i1z;exact D.l1z) u
  have nin:∀c,c∉[z,TO,i1,i2]->c≠z/\c≠TO/\c≠i1/\c≠i2:=λc hc=>⟨λq=>hc (by simp[q]),λq=>hc (by simp[q]),λq=>hc (by simp[q]),λq=>hc (by simp[q])⟩
  have last:∀(q2:Heap) (ex:Addr) (oe:Obj),IsZip q2 z TI TO .ellipsis->(∀c o,c∉[z,TO,i1,i2]->h0.get? c=some o->q2.get? c=some o)->q2.get? ex=some oe->oe.cls=.type "StopIteration" ->
      wpAny (model prog w) A (setField (.ref z) 0 .none) (λ_ s'=>E (.ref ex) s') E ⟨q2,gg,dd,t0,oo⟩:=λq2 ex oe Z2 k2 ho hc=>by
    have hez:ex≠z:=λu=>by subst u;rw[Z2]at ho;cases ho;simp at hc
    refine aK8 Z2 (by simp) λq3 _ m3=>go q3 ex (λc o hc u=>?_) ⟨oe,m3.extBut _ _ hez ho,hc⟩
    exact m3.extBut c o (nin c hc).1 (k2 c o hc u)
  cases hx:g1 k with
  | none =>
    refine aF4 (W1.done _ _ _ k _ hh p1 hx λq2 ex m2 he=>?_)
    obtain⟨oe,ho,hc⟩:=he
    have m2:Heap.ExtBut i1 q1 q2:=m2
    exact last q2 ex oe (m2 _ _ D.i1z.symm Z1) (λc o hc u=>m2 c o (nin c hc).2.2.1 (e1 c o (nin c hc).1 u)) ho hc
  | some x =>
    have hy:g2 k=none:=hxy.resolve_left (by rw[hx];exact λq=>nomatch q)
    refine aF4 (W1.item _ _ _ k x _ p1 hx λq2 p1' m2=>aG3 ?_)
    have m2:Heap.SameBut i1 q1 q2:=m2
    have e2:∀c o,c≠z->c≠i1->h0.get? c=some o->q2.get? c=some o:=λc o n n' u=>m2.extBut c o n' (e1 c o n u)
    have O2:IsPair q2 TO a b:=e2 _ _ D.TOz D.TOi1 pO
    refine aF4 (aO0 O2 rfl (aF4 (wpAny_updateSeq_pair O2 λq3 O3 m3=>aF4 (wpAny_letGo (aG3 ?_)))))
    have m3:Heap.SameBut TO q2 q3:=m3
    have e3:∀c o,c≠z->c≠i1->c≠TO->h0.get? c=some o->q3.get? c=some o:=λc o n n' n'' u=>m3.extBut c o n'' (e2 c o n n' u)
    refine aF4 (aF4 (wpAny_onRaise ?_))
    show wpAny _ _ (Builtin.SmallTypes.nextOf (.ref i2) >>= _) _ _ ⟨q3,gg,dd,t0,oo⟩
    refine aF4 (W2.done _ _ _ k _ hh (W2.stay k _ _ p2 λc o hc u=>by
      rcases hc with rfl|rfl
      . exact e3 c o D.i2z D.i12.symm D.TOi2.symm u
      . exact e3 c o D.l2z D.l2i1 D.l2TO u) hy λq4 ex m4 he=>?_)
    obtain⟨oe,ho,hc⟩:=he
    have m4:Heap.ExtBut i2 q3 q4:=m4
    exact last q4 ex oe (m4 _ _ D.i2z.symm (m3.extBut _ _ D.TOz.symm (m2.extBut _ _ D.i1z.symm Z1))) (λc o hc u=>m4 c o (nin c hc).2.2.2 (e3 c o (nin c hc).1 (nin c hc).2.2.1 (nin c hc).2.1 u)) ho hc
theorem Zs.pyItem{Q:Option Value->Shared->Prop}(W1:Wk prog w i1 l1 P1 g1)(W2:Wk prog w i2 l2 P2 g2)(S:Zs z TI TO i1 i2 l1 l2 P1 P2 k s.heap)(hx:g1 k=some x)(hy:g2 k=some y)
  (go:∀h1,(∀h2,IsZip h2 z TI TO .none->Heap.SameBut z h1 h2->Zs z TI TO i1 i2 l1 l2 P1 P2 (k+1) h2)->IsZip h1 z TI TO (rawInt s.heap.objs.size)->IsPair h1 s.heap.objs.size x y->(∀c o,c∉[z,TO,i1,i2]->s.heap.get? c=some o->h1.get? c=some o)->Q (some (.ref s.heap.objs.size)) { s with heap:=h1 }) :
  wpAny (model prog w) A (pyNext (.ref z)) Q E s:=by
 have ty:s.TypeIs (.ref z) "zip" := ⟨_,S.rd,rfl⟩
 unfold pyNext
 exact aF4 (wpAny_attempt (aL4 (name:=Str.ofString "__next__") ty F.slot_zip_next (aN9 F.slot_zip_next ty F.entry_zip_next (S.item W1 W2 hx hy λh1 a b c d=>aG3 (go h1 a b c d)) (F.args_zip_next_1 _))))
theorem Zs.pyDone{Q:Option Value->Shared->Prop}(hh:A.handled=none)(W1:Wk prog w i1 l1 P1 g1)(W2:Wk prog w i2 l2 P2 g2)(S:Zs z TI TO i1 i2 l1 l2 P1 P2 k s.heap)(hxy:g1 k=none\/g2 k=none)
  (go:∀h1,(∀c o,c∉[z,TO,i1,i2]->s.heap.get? c=some o->h1.get? c=some o)->Q none { s with heap:=h1 }):wpAny (model prog w) A (pyNext (.ref z)) Q E s:=by
 have ty:s.TypeIs (.ref z) "zip" := ⟨_,S.rd,rfl⟩
 unfold pyNext
 refine aF4 (wpAny_attempt (aL4 (name:=Str.ofString "__next__") ty F.slot_zip_next (aN9 F.slot_zip_next ty F.entry_zip_next (S.done hh W1 W2 hxy λh1 e kk he=>?_) (F.args_zip_next_1 _))))
 obtain⟨oe,ho,hc⟩:=he
 exact aF4 (wpAny_isInstance (T := "StopIteration") (b:=true) ⟨oe,ho,hc⟩ isSubtype_stop (aG3 (go h1 kk)))
end
variable{X:Cx}
theorem zg{t2:Nat}(I:aq X pins σ H s)
  (k:∀b u,b∉ch->s.heap.get? b=some u->h2.get? b=some u) (hn:∀b∈ch,iw X pins H b):aq X pins σ H { s with heap:=h2,toks:=t2 }:=by
 have tr:∀b u,H b=some u->b∉ch:=λb u e z=>by rw[(hn b z).1]at e;cases e
 have un:Un (kS X.stack) ch H H s.heap h2:=⟨λb ob e n _ c=>k b ob c e,λb ob e n _ c=>⟨ob.slots,k b ob c e⟩,λb ob e n c=>n,λb ob e c=>⟨ob,k b ob c e⟩,λb xs e=>e,λb ob u e=>e,λb ps e=>⟨#[],by rw[e];simp⟩⟩
 refine I.call (g':=s.gens) (d':=s.drawn) un (λb u e=>?_) I.bare λb hb=>⟨(hn b hb).2.2.2.1,(hn b hb).2.1,(hn b hb).2.2.2.2.1,(hn b hb).2.2.2.2.2⟩
 refine(I.hok b u e).stay (λc v hc q=>k c v ?_ q) (λc q=>q) λc xs q=>q
 rcases hc with z|z
 ·rw[z];exact tr b u e
 ·exact tr c _ z
variable{X:Cx}
noncomputable def jb(κ:Bool)(h:Heap)(i a:Addr)(k:Nat):Prop:=match κ with|true=>h.IsTupleIter i a k|false=>h.IsListIter i a k
noncomputable def ij(κ:Bool)(h:Heap)(a:Addr)(xs:Array Value):Prop:=match κ with|true=>h.IsTuple a xs|false=>h.IsList a xs
noncomputable def nh(κ:Bool)(K:W.Frag)(H:Hp)(a:Addr)(xs:List V):Prop:=match κ with|true=>ck K H a xs|false=>dG K H a xs
noncomputable def mv(κ:Bool)(l:List D):D:=match κ with|true=>.tup l|false=>.lst l
noncomputable def Ng(κ:Bool):String:=match κ with|true => "tuple_iterator" | false => "list_iterator"
theorem yn(κ:Bool){i l:Addr}(ne:l≠i):Wk prog w i l (λk h=>jb κ h i l k/\ij κ h l xs) (λk=>xs[k]?):=by
 cases κ
 ·exact Kr ne
 ·exact Kq ne
theorem jR{i a:Addr}(p:jb κ h i a k):∃o,h.get? i=some o/\∀v,o.data≠Data.cell v:=by
 cases κ
 ·obtain⟨o,e,_,d⟩:=(show h.IsListIter i a k from p);exact⟨o,e,λv z=>by rw[d]at z;cases z⟩
 ·obtain⟨o,e,_,d⟩:=(show h.IsTupleIter i a k from p);exact⟨o,e,λv z=>by rw[d]at z;cases z⟩
theorem vJ{i a:Addr}(p:jb κ h i a k)(q:∀o,h.get? i=some o->h'.get? i=some o):jb κ h' i a k:=by
 cases κ
 ·exact(show h.IsListIter i a k from p).at q
 ·exact(show h.IsTupleIter i a k from p).at q
theorem vH{a:Addr}(p:ij κ h a xs)(q:∀o,h.get? a=some o->h'.get? a=some o):ij κ h' a xs:=by
 cases κ
 ·exact(show h.IsList a xs from p).at q
 ·exact(show h.IsTuple a xs from p).at q
theorem vG{a:Addr}(p:ij κ h a xs):a<h.objs.size:=by
 cases κ
 ·obtain⟨_,e,_⟩:=(show h.IsList a xs from p);exact aG2 e
 ·obtain⟨_,e,_⟩:=(show h.IsTuple a xs from p);exact aG2 e
theorem nO{a:Addr}{xs:List V}(I:aq X pins σ H s)(h:nh κ X.K H a xs):∃its:List Value,bi xs its/\ij κ s.heap a its.toArray/\xs.length<=sizeLine:=by
 cases κ
 ·obtain⟨its,r,p,z⟩:=I.list h;exact⟨its,r,p.isList,z⟩
 ·obtain⟨its,r,p,z⟩:=I.tuple h;exact⟨its,r,p,z⟩
theorem tt{a:Addr}{xs ys:List V}(I:aq X pins σ H s)(h:nh κ X.K H a xs)(h':nh κ X.K H a ys):xs=ys:=by
 cases κ
 ·exact I.list_inj h h'
 ·exact I.tuple_inj h h'
theorem uZ(h:aj X.K H1 (Kp ow H k) (mv κ l) v):∃a vs,v=.ref a/\nh κ X.K H1 a vs/\am X.K H1 (Kp ow H k) l vs/\∀{P':bU} {H2:Hp},fR (Kd ow H k H1) P' H1 H2->nh κ X.K H2 a vs:=by
 cases κ
 ·rw[show mv false l=.lst l from rfl,aj]at h
  obtain⟨a,vs,b,rfl,hl,hp,rl⟩:=h
  have hp':Kd ow H k H1 a b:=⟨hp,λhb=>by subst hb;exact⟨_,hl⟩⟩
  exact⟨a,vs,rfl,hl.sq,rl,λst=>(st.ls hl hp').sq⟩
 ·rw[show mv true l=.tup l from rfl,aj]at h
  obtain⟨a,vs,rfl,hl,rl⟩:=h
  exact⟨a,vs,rfl,hl,rl,λst=>st.sq hl⟩
noncomputable abbrev Er(κ:Bool)(h:Heap)(a:Addr):Heap:=h.push { cls:=.type (Ng κ),data:=.fields #[.ref a,.int 0 0] }
noncomputable abbrev Ep(κ κ':Bool)(h:Heap)(a b:Addr):Heap:=(Er κ h a).push { cls:=.type (Ng κ'),data:=.fields #[.ref b,.int 0 0] }
noncomputable abbrev Eo(κ κ':Bool)(h:Heap)(a b:Addr):Heap:=(Ep κ κ' h a b).push { cls:=.type "tuple", data:=.seq #[.ref h.objs.size,.ref (Er κ h a).objs.size] }
noncomputable abbrev sM(κ κ':Bool)(h:Heap)(a b:Addr):Heap:=(Eo κ κ' h a b).push { cls:=.type "tuple", data:=.seq #[.none,.none] }
noncomputable abbrev me(κ κ':Bool)(h:Heap)(a b:Addr):Heap:=(sM κ κ' h a b).push { cls:=.type "zip", data:=.fields #[.none,.bool false,.bool false,.ref (Ep κ κ' h a b).objs.size,.ref (Eo κ κ' h a b).objs.size] }
theorem ma(a b:Addr)(xs ys:Array Value) :
  Meets (Builtin.«zip.__new__» ⟨[.type "zip", .ref a,.ref b],[]⟩) (λ_ R s=>s.heap.IsList a xs/\s.heap.IsList b ys/\R (.ok (.ret (.ref (sM false false s.heap a b).objs.size))) { s with heap:=me false false s.heap a b }) :=
 .of_wp λpg wd AA RR st hh=>by
  obtain⟨hp0,gg,dd,tk0,oo⟩:=st;obtain⟨ha,hb,hh⟩:=hh
  have hsub0:=sub_zip
  have T1:Heap.IsList (Shared.heap ⟨hp0,gg,dd,tk0,oo⟩) a xs:=ha
  have T2:Heap.IsList (Shared.heap ⟨hp0.push { cls:=.type "list_iterator", data:=.fields #[.ref a,.int 0 0] },gg,dd,tk0,oo⟩) b ys:=hb.at λo e=>aF6 _ e
  wp_walk using aL0 T1,aL0 T2
  exact⟨_,rfl,hh⟩
theorem n8(a b:Addr)(xs ys:Array Value) :
  Meets (Builtin.«zip.__new__» ⟨[.type "zip", .ref a,.ref b],[]⟩) (λ_ R s=>s.heap.IsList a xs/\s.heap.IsTuple b ys/\R (.ok (.ret (.ref (sM false true s.heap a b).objs.size))) { s with heap:=me false true s.heap a b }) :=
 .of_wp λpg wd AA RR st hh=>by
  obtain⟨hp0,gg,dd,tk0,oo⟩:=st;obtain⟨ha,hb,hh⟩:=hh
  have hsub0:=sub_zip
  have T1:Heap.IsList (Shared.heap ⟨hp0,gg,dd,tk0,oo⟩) a xs:=ha
  have T2:Heap.IsTuple (Shared.heap ⟨hp0.push { cls:=.type "list_iterator", data:=.fields #[.ref a,.int 0 0] },gg,dd,tk0,oo⟩) b ys:=hb.at λo e=>aF6 _ e
  wp_walk using aL0 T1,aO2 T2
  exact⟨_,rfl,hh⟩
theorem n6(a b:Addr)(xs ys:Array Value) :
  Meets (Builtin.«zip.__new__» ⟨[.type "zip", .ref a,.ref b],[]⟩) (λ_ R s=>s.heap.IsTuple a xs/\s.heap.IsList b ys/\R (.ok (.ret (.ref (sM true false s.heap a b).objs.size))) { s with heap:=me true false s.heap a b }) :=
 .of_wp λpg wd AA RR st hh=>by
  obtain⟨hp0,gg,dd,tk0,oo⟩:=st;obtain⟨ha,hb,hh⟩:=hh
  have hsub0:=sub_zip
  have T1:Heap.IsTuple (Shared.heap ⟨hp0,gg,dd,tk0,oo⟩) a xs:=ha
  have T2:Heap.IsList (Shared.heap ⟨hp0.push { cls:=.type "tuple_iterator", data:=.fields #[.ref a,.int 0 0] },gg,dd,tk0,oo⟩) b ys:=hb.at λo e=>aF6 _ e
  wp_walk using aO2 T1,aL0 T2
  exact⟨_,rfl,hh⟩
theorem oE(a b:Addr)(xs ys:Array Value) :
  Meets (Builtin.«zip.__new__» ⟨[.type "zip", .ref a,.ref b],[]⟩) (λ_ R s=>s.heap.IsTuple a xs/\s.heap.IsTuple b ys/\R (.ok (.ret (.ref (sM true true s.heap a b).objs.size))) { s with heap:=me true true s.heap a b }) :=
 .of_wp λpg wd AA RR st hh=>by
  obtain⟨hp0,gg,dd,tk0,oo⟩:=st;obtain⟨ha,hb,hh⟩:=hh
  have hsub0:=sub_zip
  have T1:Heap.IsTuple (Shared.heap ⟨hp0,gg,dd,tk0,oo⟩) a xs:=ha
  have T2:Heap.IsTuple (Shared.heap ⟨hp0.push { cls:=.type "tuple_iterator", data:=.fields #[.ref a,.int 0 0] },gg,dd,tk0,oo⟩) b ys:=hb.at λo e=>aF6 _ e
  wp_walk using aO2 T1,aO2 T2
  exact⟨_,rfl,hh⟩
theorem Km(κ κ':Bool)(a b:Addr)(xs ys:Array Value) :
  Meets (Builtin.«zip.__new__» ⟨[.type "zip", .ref a,.ref b],[]⟩) (λ_ R s=>ij κ s.heap a xs/\ij κ' s.heap b ys/\R (.ok (.ret (.ref (sM κ κ' s.heap a b).objs.size))) { s with heap:=me κ κ' s.heap a b }):=by
 cases κ<;>cases κ'
 ·exact ma a b xs ys
 ·exact n8 a b xs ys
 ·exact n6 a b xs ys
 ·exact oE a b xs ys
theorem vI{i a:Addr}(e:h.get? i=some { cls:=.type (Ng κ),data:=.fields #[.ref a,.int 0 0] }):jb κ h i a 0:=by
 cases κ
 ·exact⟨_,e,rfl,rfl⟩
 ·exact⟨_,e,rfl,rfl⟩
theorem BV{a b:Addr}{ys:Array Value}(ha:ij κ s.heap a xs)(hb:ij κ' s.heap b ys)
  (go:∀h1,Zs (s.heap.objs.size+4) (s.heap.objs.size+2) (s.heap.objs.size+3) s.heap.objs.size (s.heap.objs.size+1) a b (λk h=>jb κ h s.heap.objs.size a k/\ij κ h a xs) (λk h=>jb κ' h (s.heap.objs.size+1) b k/\ij κ' h b ys) 0 h1->(∀c o,s.heap.get? c=some o->h1.get? c=some o)->Q (.ref (s.heap.objs.size+4)) { s with heap:=h1 }) :
  wpAny (model prog w) A (call (.type "zip") [.ref a,.ref b]) Q E s:=by
 refine callType_new F.called_zip (by decide) (F.typeCall_zip_2 _ _) (F.newCall_zip_2 _ _) (λob=>F.args_object_init_3 ob _ _) F.entry_zip_new (Km κ κ' a b xs ys) ⟨ha,hb,?_⟩
 have s1:(Er κ s.heap a).objs.size=s.heap.objs.size+1:=aL2 ..
 have s2:(Ep κ κ' s.heap a b).objs.size=s.heap.objs.size+2:=by rw[aL2,s1]
 have s3:(Eo κ κ' s.heap a b).objs.size=s.heap.objs.size+3:=by rw[aL2,s2]
 have s4:(sM κ κ' s.heap a b).objs.size=s.heap.objs.size+4:=by rw[aL2,s3]
 have r5:(me κ κ' s.heap a b).get? (sM κ κ' s.heap a b).objs.size=some _:=aG5 _ rfl
 have r4:(me κ κ' s.heap a b).get? (Eo κ κ' s.heap a b).objs.size=some _:=aF6 _ (aG5 _ rfl)
 have r3:(me κ κ' s.heap a b).get? (Ep κ κ' s.heap a b).objs.size=some _:=aF6 _ (aF6 _ (aG5 _ rfl))
 have r2:(me κ κ' s.heap a b).get? (Er κ s.heap a).objs.size=some _:=aF6 _ (aF6 _ (aF6 _ (aG5 _ rfl)))
 have r1:(me κ κ' s.heap a b).get? s.heap.objs.size=some _:=aF6 _ (aF6 _ (aF6 _ (aF6 _ (aG5 _ rfl))))
 have up:∀c o,s.heap.get? c=some o->(me κ κ' s.heap a b).get? c=some o:=λc o e=>aF6 _ (aF6 _ (aF6 _ (aF6 _ (aF6 _ e))))
 have la:a<s.heap.objs.size:=vG ha
 have lb:b<s.heap.objs.size:=vG hb
 rw[s2,s3,s4]at r5
 rw[s1,s2]at r3
 rw[s3]at r4
 rw[s1]at r2
 show _/\_
 rw[s4]
 have ne:∀{m n:Nat},m<n->m≠n:=λh=>aJ0 h
 refine⟨⟨_,r5,rfl⟩,go _ ⟨?_,r5,r3,⟨_,_,r4⟩,⟨vI r1,vH ha λo e=>up _ _ e⟩,⟨vI r2,vH hb λo e=>up _ _ e⟩⟩ up⟩
 generalize s.heap.objs.size=n at la lb
 have la':(a:Nat)<n:=la
 have lb':(b:Nat)<n:=lb
 constructor<;>first|exact ne (by omega)|exact(ne (by omega)).symm|exact ne (aG7 la (by omega))|exact ne (aG7 lb (by omega))|exact ne la|exact ne lb
noncomputable def aD8(κ κ':Bool)(K:W.Frag)(a b:Addr):It :=
 ⟨λi H => ∃xs ys x y,nh κ K H a xs/\xs[i]?=some x/\nh κ' K H b ys/\ys[i]?=some y,λi H x H' => ∃p u v,x=.ref p/\H p=none/\H'=bo H p (.tup [u,v])/\(∀xs,nh κ K H a xs->xs[i]?=some u)/\∀ys,nh κ' K H b ys->ys[i]?=some v,λi H => ∃xs ys,nh κ K H a xs/\nh κ' K H b ys/\(xs.length<=i\/ys.length<=i)⟩
theorem Ae(κ κ':Bool)(a b z TI TO i1 i2:Addr)(D:ZipApart z TI TO i1 i2 a b) :
  L2.Turn P w K (.Tuple es n1 pos) (aD8 κ κ' K a b) [z,TI,TO,i1,i2] z (λi h=>IsZip h z TI TO .none/\IsPair h TI (.ref i1) (.ref i2)/\(∃u v,IsPair h TO u v)/\jb κ h i1 a i/\jb κ' h i2 b i) where
 mem:=by simp
 obj:=λi h st c hc=>by
  obtain⟨q1,q2,⟨u,v,q3⟩,q4,q5⟩:=st
  obtain⟨o4,q4,d4⟩:=jR q4
  obtain⟨o5,q5,d5⟩:=jR q5
  simp only[aF8,aG4,aI7]at hc
  rcases hc with rfl|rfl|rfl|rfl|rfl
  ·exact⟨_,q1,λv e=>by have e':Data.fields _=Data.cell v:=e;cases e'⟩
  ·exact⟨_,q2,λv e=>by have e':Data.seq _ _=Data.cell v:=e;cases e'⟩
  ·exact⟨_,q3,λv e=>by have e':Data.seq _ _=Data.cell v:=e;cases e'⟩
  ·exact⟨_,q4,d4⟩
  ·exact⟨_,q5,d5⟩
 keep:=λi h h' ⟨q1,q2,⟨u,v,q3⟩,q4,q5⟩ k=>⟨k _ (by simp) _ q1,k _ (by simp) _ q2,⟨u,v,k _ (by simp) _ q3⟩,vJ q4 λo e=>k _ (by simp) o e,vJ q5 λo e=>k _ (by simp) o e⟩
 item:=by
  intro Y hP hw hK hc i pins s σ H E I hf st hg
  subst hP hw hK
  obtain⟨xs,ys,x,y,hq,hx,hr,hy⟩:=hg
  obtain⟨its,rv,p1,hz⟩:=nO I hq
  obtain⟨jts,rw',p2,hz'⟩:=nO I hr
  obtain⟨u,hu,ru⟩:=rv.get hx
  obtain⟨v,hv,rv'⟩:=rw'.get hy
  obtain⟨q1,q2,q3,q4,q5⟩:=st
  have zlt:z<s.heap.objs.size:=aG2 q1
  refine Zs.pyItem (yn κ (i:=i1) (l:=a) (xs:=its.toArray) D.l1i1) (yn κ' (i:=i2) (l:=b) (xs:=jts.toArray) D.l2i2) ⟨D,q1,q2,q3,⟨q4,p1⟩,⟨q5,p2⟩⟩ (x:=u) (y:=v) (by simpa using hu) (by simpa using hv) λh1 lV zo t1 k1=>?_
  refine⟨_,rfl,wpAny_letOwnedTupleGo_zip zo λh2 z2 m2=>?_⟩
  have m2:Heap.SameBut z h1 h2:=m2
  have N:=lV h2 z2 m2
  have k2:∀c o,c∉[z,TI,TO,i1,i2]->s.heap.get? c=some o->h2.get? c=some o:=λc o nc q=>by
   have n1:c≠z:=λe=>nc (by simp[e])
   refine m2.extBut c o n1 (k1 c o (λe=>nc ?_) q)
   simp only[aF8,aG4,aI7]at e⊢
   rcases e with e|e|e|e<;>simp[e]
  have t2:h2.get? s.heap.objs.size=some { cls:=.type "tuple", data:=.seq #[u,v] }:=m2.extBut _ _ (aL1 zlt) t1
  have hn0:H s.heap.objs.size=none:=I.hok.fresh (aF9 _)
  refine⟨.ref s.heap.objs.size,bo H s.heap.objs.size (.tup [x,y]),tj (s:=s) (h2:=h2) (t2:=s.toks) I k2 (aF9 _) hf ?_,rfl,⟨_,x,y,rfl,hn0,rfl,λws hw=>by rw[tt I hw hq];exact hx,λws hw=>by rw[tt I hw hr];exact hy⟩,⟨N.rd,N.ins,N.out,N.fst.1,N.snd.1⟩,λc hc=>?_⟩
  ·exact⟨by show 2<=sizeLine;decide,[u,v],.cons ru (.cons rv' .nil),⟨_,t2,rfl,_,rfl⟩,_,t2,rfl⟩
  ·have hb':=hf c hc
   have lt:c<s.heap.objs.size:=by
    obtain⟨u',v',q3⟩:=q3
    obtain⟨o4,q4,_⟩:=jR q4
    obtain⟨o5,q5,_⟩:=jR q5
    simp only[aF8,aG4,aI7]at hc
    rcases hc with rfl|rfl|rfl|rfl|rfl
    ·exact zlt
    ·exact aG2 q2
    ·exact aG2 q3
    ·exact aG2 q4
    ·exact aG2 q5
   rw[aK (aJ0 lt)];exact hb'.1
 done:=by
  intro Y hP hw hK hc i pins s σ H E I hf st hg
  subst hP hw hK
  obtain⟨xs,ys,hq,hr,hl⟩:=hg
  obtain⟨its,rv,p1,hz⟩:=nO I hq
  obtain⟨jts,rw',p2,hz'⟩:=nO I hr
  obtain⟨q1,q2,q3,q4,q5⟩:=st
  have l1:=rv.length
  have l2:=rw'.length
  refine Zs.pyDone (I.ok.hd hc) (yn κ (i:=i1) (l:=a) (xs:=its.toArray) D.l1i1) (yn κ' (i:=i2) (l:=b) (xs:=jts.toArray) D.l2i2) ⟨D,q1,q2,q3,⟨q4,p1⟩,⟨q5,p2⟩⟩ ?_ λh1 k1=>⟨rfl,zg (s:=s) (t2:=s.toks) (ch:=[z,TI,TO,i1,i2]) I (λc o nc q=>k1 c o (λe=>nc ?_) q) hf⟩
  ·rcases hl with hl|hl
   ·exact .inl (by simp;omega)
   ·exact .inr (by simp;omega)
  ·simp only[aF8,aG4,aI7]at e⊢
   rcases e with e|e|e|e<;>simp[e]
 self:=λ_ _ _ _ _ st h=>wpAny_pyIter_zip st.1 h
theorem Jx{b:Expr}{m:List D}(hg:Gl X "zip")(hm0:X.mg "zip" = none)(ha:AD X ρ [a,b] [mv κ l,mv κ' m] k)(hst:∀e∈[a,b],∀y p,e ≠ .Starred y p)(hf:aI l=true)(hm:aI m=true) :
  IE X ρ (.Tuple es n1 tp) (.Call (.Name "zip" p) [a,b] [] pos) (List.zipWith (λx y=>.tup [x,y]) l m) k:=by
 intro ow pins s σ H R I ⟨E,q⟩
 have n1':=bC (env:=X.env) (es:=[b]) (hst a (by simp))
 have n2':(backTo pos (starEach [b] X.env)).any (·.1)=false:=dP λx hx=>hst x (by simp at hx;simp[hx])
 refine Call_ (jm I hg hm0 (show bootBuiltins "zip" = some (.type "zip") by decide +kernel) (aM5 (bu (ha ow pos pins s σ H (λvs H1=>aL H H1/\am X.K H1 (Kp ow H k) [mv κ l,mv κ' m] vs) I ⟨E,λvs H1 s1 r1=>⟨s1,r1⟩⟩) λus s1 ⟨vs,H1,I1,rv,sm,rp⟩=>?_) n1' n2') (by decide +kernel) (by decide +kernel))
 rw[am]at rp
 obtain⟨v1,vr,rfl,rp1,rp2⟩:=rp
 obtain⟨v2,rfl,rp3⟩:=rp2.only
 obtain⟨ta,xs,rfl,hq,rl,hk1⟩:=uZ rp1
 obtain⟨tb,ys,rfl,hr,rm,hk2⟩:=uZ rp3
 obtain⟨u1,u2,rfl,ru1,ru2⟩:=Es rv
 cases (show u1=Value.ref ta from ru1)
 cases (show u2=Value.ref tb from ru2)
 obtain⟨its,rvs,pt,hz⟩:=nO I1 hq
 obtain⟨jts,rvs',pt',hz'⟩:=nO I1 hr
 refine BV (κ:=κ) (κ':=κ') pt pt' λh2 Z k2=>?_
 refine wpAny_pyIter_zip Z.rd ?_
 have I2:aq X pins σ H1 { s1 with heap:=h2 }:=I1.kept (t':=s1.toks) k2
 have fr:∀j,iw X pins H1 (s1.heap.objs.size+j):=λj=>I1.fpOk (Nat.le_add_right _ _) (I1.hok.fresh (Nat.le_add_right _ _))
 refine⟨s1.heap.objs.size+4,[s1.heap.objs.size+4,s1.heap.objs.size+2,s1.heap.objs.size+3,s1.heap.objs.size,s1.heap.objs.size+1],_,_,H1,rfl,I2,Ae κ κ' ta tb _ _ _ _ _ Z.ap,⟨Z.rd,Z.ins,Z.out,Z.fst.1,Z.snd.1⟩,λc hc=>?_,q _ H1 sm ?_⟩
 ·simp only[aF8,aG4,aI7]at hc
  rcases hc with rfl|rfl|rfl|rfl|rfl
  ·exact fr 4
  ·exact fr 2
  ·exact fr 3
  ·exact fr 0
  ·exact fr 1
 ·intro i H2 st
  have rl':am X.K H1 (Kd ow H k H1) l xs:=rl.flat _ hf
  have rm':am X.K H1 (Kd ow H k H1) m ys:=rm.flat _ hm
  refine⟨λd hd=>?_,λhle=>?_⟩
  ·rw[List.getElem?_zipWith]at hd
   cases e:l[i]? with
   | none=>rw[e]at hd;cases hd
   | some x =>
    cases e':m[i]? with
    | none=>rw[e,e']at hd;cases hd
    | some y =>
     rw[e,e']at hd;cases hd
     obtain⟨u,hu,ru⟩:=rl'.get e
     obtain⟨v,hv,rv⟩:=rm'.get e'
     refine⟨⟨xs,ys,u,v,hk1 st,hu,hk2 st,hv⟩,λx' H3 ⟨p',u',v',e1,e2,e3,e4,e5⟩=>?_⟩
     have c1:=e4 xs (hk1 st)
     have c2:=e5 ys (hk2 st)
     rw[hu]at c1;cases c1
     rw[hv]at c2;cases c2
     subst e1 e3
     have sm3:=er (o:=HO.tup [u,v]) e2
     refine⟨sm3,?_⟩
     rw[aj]
     exact⟨p',_,rfl,ck.of aU,am.cons ((ru.mono st).same sm3) (am.one ((rv.mono st).same sm3))⟩
  ·rw[List.length_zipWith]at hle
   have l1:=rl.length
   have l2:=rm.length
   exact⟨xs,ys,hk1 st,hk2 st,by omega⟩
theorem xw{x:D}(h:gD x=some l):∃κ,x=mv κ l:=by
 rcases ik h with rfl|rfl
 ·exact⟨true,rfl⟩
 ·exact⟨false,rfl⟩
theorem Jz:nY "zip" zj:=by
 refine⟨by decide +kernel,λX ρ p pos args ds k d j l tg o hc hg hm ha hst hlen h hp hl ht=>?_⟩
 have ht2:iK tg=true:=by simpa [gF]using ht
 obtain⟨es,n1,tp,rfl⟩:=tf ht2
 unfold zj at h
 split at h
 ·split at h
  ·rename_i x y _ a b e1 e2
   cases h
   cases hl
   obtain⟨κ,rfl⟩:=xw e1
   obtain⟨κ',rfl⟩:=xw e2
   match args,hlen,ha,hst with
   | [a',b'],_,ha,hst=>exact Jx hg hm ha hst hp.1 hp.2.1
  ·cases h
 ·cases h
open AutoSeq1 (wpAny_loadPart')
variable{X:Cx}
theorem JN(tu:Addr)(vs:Array Value)(n:Nat)(dc:Option Addr)(so:Array (Option Value)) :
  Meets (Builtin.«enumerate.__new__» ⟨[.type "enumerate", .ref tu],[]⟩) (λ_ R st=>st.heap.get? tu=some { cls:=.type "list", dict:=dc,data:=.seq vs n,slots:=so } /\
   R (.ok (.ret (.ref (st.heap.push { cls:=.type "list_iterator", data:=.fields #[.ref tu,.int 0 0] }).objs.size)))
    { st with heap:=(st.heap.push { cls:=.type "list_iterator", data:=.fields #[.ref tu,.int 0 0] }).push { cls:=.type "enumerate", data:=.fields #[.none,.bool false,.ref st.heap.objs.size,rawInt 0,.none,.none] } }) :=
 .of_wp λpg wd AA RR st hh=>by
  obtain⟨hp0,gg,dd,tk0,oo⟩:=st;obtain⟨htu,hh⟩:=hh
  have hsub0:=sub_enumerate
  have hTT:Heap.IsList (Shared.heap ⟨hp0,gg,dd,tk0,oo⟩) tu vs:=⟨_,htu,rfl,n,rfl⟩
  wp_walk using aM0 htu
  refine wpAny_stack_any λstk0=>aG3 ?_
  split
  ·rename_i c0 _ _ _ _ _
   cases (c0==Value.type "enumerate")
   ·wp_walk using aM0 htu,aL0 hTT
    exact⟨_,rfl,hh⟩
   ·wp_walk using aM0 htu,aL0 hTT
    exact⟨_,rfl,hh⟩
  ·wp_walk using aM0 htu,aL0 hTT
   exact⟨_,rfl,hh⟩
section
variable{prog:Program}{w:World}{A:Around}{E:Value->Shared->Prop}{s:Shared}
theorem DP{vs:Array Value}(hT:s.heap.IsList tu vs)
  (go:∀h1,IsEnum h1 (s.heap.objs.size+1) s.heap.objs.size 0 .none->h1.IsListIter s.heap.objs.size tu 0->h1.objs.size=s.heap.objs.size+2->(∀b o,s.heap.get? b=some o->h1.get? b=some o)->Q (.ref (s.heap.objs.size+1)) { s with heap:=h1 }) :
  wpAny (model prog w) A (call (.type "enumerate") [.ref tu]) Q E s:=by
 obtain⟨⟨cc,dc,dt,so⟩,htu,hcc,n,hdd⟩:=hT
 replace hcc:cc=.type "list" := hcc
 replace hdd:dt=.seq vs n:=hdd
 subst hcc hdd
 refine callType_new F.called_enumerate (by decide) (F.typeCall_enumerate_1 _) (F.newCall_enumerate_1 _) (λob=>F.args_object_init_2 ob _) F.entry_enumerate_new (JN tu vs n dc so) ⟨htu,?_⟩
 have sz:(s.heap.push { cls:=.type "list_iterator", data:=.fields #[.ref tu,.int 0 0] }).objs.size=s.heap.objs.size+1:=aL2 ..
 show _/\_
 rw[sz]
 have isE:IsEnum ((s.heap.push { cls:=.type "list_iterator", data:=.fields #[.ref tu,.int 0 0] }).push { cls:=.type "enumerate", data:=.fields #[.none,.bool false,.ref s.heap.objs.size,rawInt 0,.none,.none] }) (s.heap.objs.size+1) s.heap.objs.size 0 .none:=by
  have q:=aG5 (s.heap.push { cls:=.type "list_iterator", data:=.fields #[.ref tu,.int 0 0] }) (o:={ cls:=.type "enumerate", data:=.fields #[.none,.bool false,.ref s.heap.objs.size,rawInt 0,.none,.none] }) rfl
  rw[sz]at q;exact q
 refine⟨⟨_,isE,rfl⟩,go _ isE ⟨_,aF6 _ (aG5 _ rfl),rfl,rfl⟩ (by rw[aL2,sz]) λb o z=>aF6 _ (aF6 _ z)⟩
theorem DO{e it:Addr}{vs:Array Value}{x:Value}{Q:Option Value->Shared->Prop}(isE:IsEnum s.heap e it i old)(hIt:s.heap.IsListIter it tu i)(hT:s.heap.IsList tu vs)(hx:vs[i]?=some x)(hne:e≠it)
  (go:∀h1,IsEnumOut h1 e it ((i:Int)+1) x s.heap.objs.size->h1.IsListIter it tu (i+1)->h1.get? s.heap.objs.size=some { cls:=.type "tuple", data:=.seq #[.int i s.toks,x] }->(∀b o,b≠e->b≠it->s.heap.get? b=some o->h1.get? b=some o)->Q (some (.ref s.heap.objs.size)) { s with heap:=h1,toks:=s.toks+1 }) :
  wpAny (model prog w) A (pyNext (.ref e)) Q E s:=by
 have tyE:s.TypeIs (.ref e) "enumerate" := ⟨_,isE,rfl⟩
 unfold pyNext
 refine aF4 (wpAny_attempt (aL4 (name:=Str.ofString "__next__") tyE F.slot_enumerate_next (aN9 F.slot_enumerate_next tyE F.entry_enumerate_next ?_ (F.args_enumerate_next_1 _))))
 exact JM (Kn:=λh1=>h1.IsListIter it tu (i+1)) isE hne (λh1 h2 k hk=>k.at hk) (λQ1 q1=>wpAny_nextOf_list_item hIt hT hx q1) λh1 a b c d=>aG3 (go h1 a b c d)
theorem JO{e it:Addr}{vs:Array Value}{Q:Option Value->Shared->Prop}(hh:A.handled=none)(isE:IsEnum s.heap e it i old)(hIt:s.heap.IsListIter it tu i)(hT:s.heap.IsList tu vs)(hx:vs[i]?=none)
  (go:∀h1,Heap.ExtBut it s.heap h1->Q none { s with heap:=h1 }):wpAny (model prog w) A (pyNext (.ref e)) Q E s:=by
 have tyE:s.TypeIs (.ref e) "enumerate" := ⟨_,isE,rfl⟩
 unfold pyNext
 refine aF4 (wpAny_attempt (aL4 (name:=Str.ofString "__next__") tyE F.slot_enumerate_next (aN9 F.slot_enumerate_next tyE F.entry_enumerate_next ?_ (F.args_enumerate_next_1 _))))
 show wpAny _ _ (field (.ref e) 2 >>= _) _ _ _
 refine aF4 (aJ4 isE rfl (x:=Value.ref it) rfl (aF4 (wpAny_nextOf_list_end hh hIt hT hx λh1 xx eb hx'=>?_)))
 obtain⟨o,ho,hc⟩:=hx'
 exact aF4 (wpAny_isInstance (T := "StopIteration") (b:=true) ⟨o,ho,hc⟩ isSubtype_stop (aG3 (go _ eb)))
end
noncomputable def aD9(K:W.Frag)(a:Addr):It :=
 ⟨λi H => ∃xs x,dG K H a xs/\xs[i]?=some x,λi H x H' => ∃p v,x=.ref p/\H p=none/\H'=bo H p (.tup [.int (i:Nat),v])/\∀xs,dG K H a xs->xs[i]?=some v,λi H => ∃xs,dG K H a xs/\xs.length<=i⟩
theorem yt(a e it:Addr)(hne:e≠it) :
  L2.Turn P w K (.Tuple es n1 pos) (aD9 K a) [e,it] e (λi h=>(∃old,IsEnum h e it ((i:Nat):Int) old)/\h.IsListIter it a i) where
 mem:=by simp
 obj:=λi h st b hb=>by
  obtain⟨⟨old,q⟩,o,q2,c,d⟩:=st
  rcases aF8.mp hb with rfl|hb
  ·exact⟨_,q,λv z=>by have z':Data.fields _=Data.cell v:=z;cases z'⟩
  ·have eb:b=it:=by simpa using hb
   subst eb
   exact⟨o,q2,λv z=>by rw[d]at z;cases z⟩
 keep:=λi h h' st k=>⟨let ⟨old,q⟩:=st.1;⟨old,k e (by simp) _ q⟩,st.2.at λo q=>k it (by simp) o q⟩
 item:=by
  intro Y hP hw hK hc i pins s σ H E I hf st hg
  subst hP hw hK
  obtain⟨xs,x,hq,hx⟩:=hg
  obtain⟨its,rv,p,hz⟩:=I.list hq
  obtain⟨u,hu,ru⟩:=rv.get hx
  obtain⟨⟨old,isE⟩,hIt⟩:=st
  refine DO isE hIt (show s.heap.IsList a its.toArray from p.isList) (x:=u) (by simpa using hu) hne λh1 eo it1 t1 k1=>?_
  refine⟨_,rfl,wpAny_letOwnedTupleGo_enum eo λh2 e2 sb2=>?_⟩
  have sb2':Heap.SameBut e h1 h2:=sb2
  have elt:e<s.heap.objs.size:=aG2 isE
  have k2:∀b o,b∉[e,it]->s.heap.get? b=some o->h2.get? b=some o:=λb o nb q=>by
   have n1:b≠e:=λz=>nb (by simp[z])
   have n2:b≠it:=λz=>nb (by simp[z])
   exact sb2'.extBut b o n1 (k1 b o n1 n2 q)
  have t2:h2.get? s.heap.objs.size=some { cls:=.type "tuple", data:=.seq #[.int i s.toks,u] }:=sb2'.extBut _ _ (aL1 elt) t1
  have hn0:H s.heap.objs.size=none:=I.hok.fresh (aF9 _)
  refine⟨.ref s.heap.objs.size,bo H s.heap.objs.size (.tup [.int (i:Nat),x]),tj (s:=s) (h2:=h2) (t2:=s.toks+1) I k2 (aF9 _) hf ?_,rfl,⟨_,x,rfl,hn0,rfl,λys hy=>by rw[I.list_inj hy hq];exact hx⟩,⟨⟨u,?_⟩,it1.at λo q=>sb2'.extBut it o (aO8 hne) q⟩,λb hb=>?_⟩
  ·exact⟨by show 2<=sizeLine;decide,[.int i s.toks,u],.cons ⟨_,rfl⟩ (.cons ru .nil),⟨_,t2,rfl,_,rfl⟩,_,t2,rfl⟩
  ·have q:=e2
   rw[show((i:Nat):Int)+1=((i+1:Nat):Int) by omega]at q
   exact q
  ·have hb':=hf b hb
   have lt:b<s.heap.objs.size:=by
    rcases aF8.mp hb with rfl|hb
    ·exact elt
    ·have eb:b=it:=by simpa using hb
     subst eb
     obtain⟨o,q,_⟩:=hIt
     exact aG2 q
   rw[aK (aJ0 lt)];exact hb'.1
 done:=by
  intro Y hP hw hK hc i pins s σ H E I hf st hg
  subst hP hw hK
  obtain⟨xs,hq,hx⟩:=hg
  obtain⟨its,rv,p,hz⟩:=I.list hq
  obtain⟨⟨old,isE⟩,hIt⟩:=st
  obtain⟨f0,f1,f2,f3,f4,f5⟩:=hf it (by simp)
  have hl:=rv.length
  exact JO (I.ok.hd hc) isE hIt (show s.heap.IsList a its.toArray from p.isList) (by simp;omega) λh1 eb=>⟨rfl,I.turned (t':=s.toks) (λb o hb q=>eb b o hb q) f0 f1 f3 f4 f5⟩
 self:=λ_ _ _ _ _ st h=>let ⟨old,q⟩:=st.1;wpAny_pyIter_enum q h
theorem Dm(hg:Gl X "enumerate")(hm0:X.mg "enumerate" = none)(ha:AD X ρ [a] [.lst l] k)(hst:∀y p,a ≠ .Starred y p)(hf:aI l=true) :
  IE X ρ (.Tuple es n1 tp) (.Call (.Name "enumerate" p) [a] [] pos) (l.mapIdx λi x=>.tup [.int (i:Nat),x]) k:=by
 intro ow pins s σ H R I ⟨E,q⟩
 refine Call_ (jm I hg hm0 (show bootBuiltins "enumerate" = some (.type "enumerate") by decide +kernel) (aM5 (bu (ha ow pos pins s σ H (λvs H1=>aL H H1/\am X.K H1 (Kp ow H k) [.lst l] vs) I ⟨E,λvs H1 s1 r1=>⟨s1,r1⟩⟩) λus s1 ⟨vs,H1,I1,rv,sm,rp⟩=>?_) (bC hst) rfl) (by decide +kernel) (by decide +kernel))
 obtain⟨v,rfl,rv1⟩:=rp.only
 obtain⟨ta,xs,rfl,hq,rl,hk1⟩:=uZ (κ:=false) rv1
 replace hq:dG X.K H1 ta xs:=hq
 obtain⟨u,rfl,ru⟩:=d7 rv
 cases (show u=Value.ref ta from ru)
 obtain⟨its,rvs,pt,hz⟩:=I1.list hq
 refine DP (show s1.heap.IsList ta its.toArray from pt.isList) λh2 isE hIt sz k2=>?_
 refine wpAny_pyIter_enum isE ?_
 have I2:aq X pins σ H1 { s1 with heap:=h2 }:=I1.kept (t':=s1.toks) k2
 have f0:H1 s1.heap.objs.size=none:=I1.hok.fresh (aF9 _)
 have f1:H1 (s1.heap.objs.size+1)=none:=I1.hok.fresh (Nat.le_succ _)
 refine⟨s1.heap.objs.size+1,[s1.heap.objs.size+1,s1.heap.objs.size],_,_,H1,rfl,I2,yt ta _ _ (aL1 (aJ1 _)),⟨⟨_,isE⟩,hIt⟩,λb hb=>?_,q _ H1 sm ?_⟩
 ·rcases aF8.mp hb with rfl|hb
  ·exact I1.fpOk (Nat.le_succ _) f1
  ·have eb:b=s1.heap.objs.size:=by simpa using hb
   subst eb
   exact I1.fpOk (aF9 _) f0
 ·intro i H2 st
  have rl':am X.K H1 (Kd ow H k H1) l xs:=rl.flat _ hf
  refine⟨λd hd=>?_,λhle=>?_⟩
  ·rw[List.getElem?_mapIdx]at hd
   cases e:l[i]? with
   | none=>rw[e]at hd;cases hd
   | some x =>
    rw[e]at hd;cases hd
    obtain⟨y,hy,ry⟩:=rl'.get e
    refine⟨⟨xs,y,hk1 st,hy⟩,λx' H3 ⟨p',v',e1,e2,e3,e4⟩=>?_⟩
    have hv:=e4 xs (hk1 st)
    rw[hy]at hv;cases hv
    subst e1 e3
    have sm3:=er (o:=HO.tup [.int (i:Nat),y]) e2
    refine⟨sm3,?_⟩
    rw[aj]
    exact⟨p',_,rfl,ck.of aU,am.cons (by rw[aj]) (am.one ((ry.mono st).same sm3))⟩
  ·rw[List.length_mapIdx]at hle
   exact⟨xs,hk1 st,by rw[<- rl.length];exact hle⟩
theorem Dn:nY "enumerate" zk:=by
 refine⟨by decide +kernel,λX ρ p pos args ds k d j l tg o hc hg hm ha hst hlen h hp hl ht=>?_⟩
 unfold zk at h
 have ht2:iK tg=true:=by simpa [gF]using ht
 obtain⟨es,n1,tp,rfl⟩:=tf ht2
 split at h
 ·cases h
  cases hl
  match args,hlen,ha,hst with
  | [a'],_,ha,hst=>rw[x9];simp only[Nat.zero_add];exact Dm hg hm ha (hst a' aG0) hp.1
 ·cases h
open PySem.W (KasT kas_sort kas_ask KatLex KatTups kat_sorted kat_kind kat_lt kat_cons kat_nil kat_go kat_yes kat_no kat_one KasFin)
section
variable{prog:Program}{w:World}{A:Around}{E:Value->Shared->Prop}{s:Shared}
end
theorem cz.length:∀{vs:List V} {r:List (List Int)},cz K H vs r->vs.length=r.length
 | [],[],_=>rfl
 | v::vs,ns::r,h=>by rw[aG9,aG9,h.2.length]
 | [],_::_,h=>h.elim
 | _::_,[],h=>h.elim
theorem cz.get{K:W.Frag}{H:Hp}:∀{vs:List V} {r:List (List Int)} {i:Nat},cz K H vs r->i<vs.length->∃a,vs[i]?=some (.ref a)/\ck K H a ((r.getD i []).map V.int)/\r.getD i []≠[]
 | [],_,_,_,h=>by cases h
 | v::vs,[],_,h,_=>h.elim
 | v::vs,ns::r,0,h,_=>by
  obtain⟨a,e,h1,h2⟩:=h.1
  exact⟨a,by rw[e];rfl,h1,h2⟩
 | v::vs,ns::r,i+1,h,hi=>by
  obtain⟨a,h1,h2,h3⟩:=cz.get (i:=i) h.2 (by simpa using hi)
  exact⟨a,by simpa using h1,by simpa using h2,by simpa using h3⟩
variable{X:Cx}
open AutoSeq1 (wpAny_loadPart')
section
variable{prog:Program}{w:World}{A:Around}{E:Value->Shared->Prop}{s:Shared}
variable{n l1 l2 l3:Nat}{xs ys ws:Array Value}{k:Nat}{x y u:Value}{f0 f1:Value}
end
open AutoSeq1 (wpAny_loadPart')
section
variable{prog:Program}{w:World}{A:Around}{E:Value->Shared->Prop}{s:Shared}
end
section
variable{prog:Program}{w:World}{A:Around}{E:Value->Shared->Prop}{s:Shared}
end
variable{X:Cx}
theorem dr{y:D×Bool}(z:Str):bF ρ x y z=if z=x then some y else ρ z:=rfl
theorem fL{o:Bool}(hN:X.N.Nodup)(hl:σ.length=X.N.length)(E:aR X ow H σ ρ)(hi:X.N[i]?=some x)(hv:eB X.env.scope x)(r:aj X.K H (mF ow x o) d v) :
  aR X ow H (σ.set i (some v)) (bF ρ x (d,o)):=by
 have hil:i<σ.length:=by rw[hl];exact(aI3.mp hi).1
 refine⟨λy e o' h=>?_,E.own⟩
 rw[dr]at h
 by_cases hy:y=x
 ·subst hy
  rw[if_pos rfl]at h
  cases h
  exact⟨i,v,hi,hv,by rw[List.getElem?_set_self hil],r⟩
 ·rw[if_neg hy]at h
  obtain⟨j,w,e1,e2,e3,e4⟩:=E.get y e o' h
  have hij:i≠j:=by intro z;subst z;rw[hi]at e1;cases e1;exact hy rfl
  exact⟨j,w,e1,e2,by rw[aO7 hij];exact e3,e4⟩
theorem f9(G:bA Φ X sc)(h:eI sc x=true):ym X.env.scope x/\eB X.env.scope x/\(X.fn x=true\/X.env.scope.names.lookup x=some .local)/\∃i:Nat,X.N[i]?=some x:=by
 have hx:=G.ns x h
 have hlt:=List.idxOf_lt_length_iff.mpr hx
 have hi:∃i:Nat,X.N[i]?=some x:=⟨X.N.idxOf x,by rw[aH7 hlt,aP0 hlt]⟩
 unfold eI at h
 rw[Bool.or_eq_true]at h
 rcases h with h|h
 ·have h:=G.lc x (by simpa using h)
  exact⟨.inl h,.inl h,.inr h,hi⟩
 ·have h0:sc.names.lookup x=some .cell:=by simpa using h
  have h:=G.cc x h0
  exact⟨.inr h,.inr (.inl h),.inl (G.ft x h0),hi⟩
theorem mE{Φ:Fx}{sc:Scope}(G:bA Φ X sc):∀{es:List Expr} {ds:List D} {ρ ρ':al},bL sc es ds ρ=some ρ'->∃t,yk X es t/\(assignEach es X.env).length=ds.length/\(assignEach es X.env).findIdx? (·.1)=none /\
  ∀(ow:Ow) (vs:List V) (σ:L2.St) (H:Hp) (Q:L2.St->Hp->Prop),σ.length=X.N.length->aR X ow H σ ρ->am X.K H (λa b=>b=true->ow a=none) ds vs->(∀σ',σ'.length=X.N.length->aR X ow H σ' ρ'->Q σ' H)->t vs σ H Q
 | [],[],ρ,ρ',h=>by
  rw[bL]at h;cases h
  refine⟨_,rP,rfl,rfl,λow vs σ H Q hl E r q=>?_⟩
  rw[am]at r
  exact⟨r,q σ hl E⟩
 | .Name x p::es,d::ds,ρ,ρ',h=>by
  rw[bL]at h
  split at h
  ·rename_i hx
   obtain⟨t,h1,h2,h3,h4⟩:=mE G h
   obtain⟨g1,g2,g3,i,g4⟩:=f9 G hx
   refine⟨_,jk (il (i:=i) G.nd g4 g1 g3) h1 rfl,?_,?_,λow vs σ H Q hl E r q=>?_⟩
   ·show(assignEach es X.env).length+1=ds.length+1
    rw[h2]
   ·show List.findIdx? (·.1) ((false,_)::assignEach es X.env)=none
    rw[List.findIdx?_cons,h3];rfl
   ·rw[am]at r
    obtain⟨v,vr,rfl,r1,r2⟩:=r
    refine⟨v,vr,rfl,?_⟩
    exact h4 ow vr _ H Q (by rw[aJ9];exact hl) (fL G.nd hl E g4 g2 r1) r2 q
  ·cases h
 | [],_::_,ρ,ρ',h=>by simp[bL]at h
 | .Name _ _::_,[],ρ,ρ',h=>by simp[bL]at h
 | .BoolOp .. :: _,ds,ρ,ρ',h=>by cases ds<;>simp[bL]at h
 | .NamedExpr .. :: _,ds,ρ,ρ',h=>by cases ds<;>simp[bL]at h
 | .BinOp .. :: _,ds,ρ,ρ',h=>by cases ds<;>simp[bL]at h
 | .UnaryOp .. :: _,ds,ρ,ρ',h=>by cases ds<;>simp[bL]at h
 | .Lambda .. :: _,ds,ρ,ρ',h=>by cases ds<;>simp[bL]at h
 | .IfExp .. :: _,ds,ρ,ρ',h=>by cases ds<;>simp[bL]at h
 | .Dict .. :: _,ds,ρ,ρ',h=>by cases ds<;>simp[bL]at h
 | .Set .. :: _,ds,ρ,ρ',h=>by cases ds<;>simp[bL]at h
 | .ListComp .. :: _,ds,ρ,ρ',h=>by cases ds<;>simp[bL]at h
 | .SetComp .. :: _,ds,ρ,ρ',h=>by cases ds<;>simp[bL]at h
 | .DictComp .. :: _,ds,ρ,ρ',h=>by cases ds<;>simp[bL]at h
 | .GeneratorExp .. :: _,ds,ρ,ρ',h=>by cases ds<;>simp[bL]at h
 | .Await .. :: _,ds,ρ,ρ',h=>by cases ds<;>simp[bL]at h
 | .Yield .. :: _,ds,ρ,ρ',h=>by cases ds<;>simp[bL]at h
 | .YieldFrom .. :: _,ds,ρ,ρ',h=>by cases ds<;>simp[bL]at h
 | .Compare .. :: _,ds,ρ,ρ',h=>by cases ds<;>simp[bL]at h
 | .Call .. :: _,ds,ρ,ρ',h=>by cases ds<;>simp[bL]at h
 | .FormattedValue .. :: _,ds,ρ,ρ',h=>by cases ds<;>simp[bL]at h
 | .JoinedStr .. :: _,ds,ρ,ρ',h=>by cases ds<;>simp[bL]at h
 | .Constant .. :: _,ds,ρ,ρ',h=>by cases ds<;>simp[bL]at h
 | .Attribute .. :: _,ds,ρ,ρ',h=>by cases ds<;>simp[bL]at h
 | .Subscript .. :: _,ds,ρ,ρ',h=>by cases ds<;>simp[bL]at h
 | .Starred .. :: _,ds,ρ,ρ',h=>by cases ds<;>simp[bL]at h
 | .List .. :: _,ds,ρ,ρ',h=>by cases ds<;>simp[bL]at h
 | .Tuple .. :: _,ds,ρ,ρ',h=>by cases ds<;>simp[bL]at h
 | .Slice .. :: _,ds,ρ,ρ',h=>by cases ds<;>simp[bL]at h
theorem FH(G:bA Φ X sc)(h:cI sc tg d ρ=some ρ'):GD X ρ tg d ρ':=by
 unfold cI at h
 split at h
 ·split at h
  ·rename_i x p hx
   cases h
   obtain⟨g1,g2,g3,i,g4⟩:=f9 G hx
   exact⟨_,il (i:=i) G.nd g4 g1 g3,λow v σ H Q hl E r q=>q _ (by rw[aJ9];exact hl) (fL G.nd hl E g4 g2 r)⟩
  ·cases h
 ·split at h
  ·obtain⟨t,h1,h2,h3,h4⟩:=mE G h
   refine⟨_,pU (n:=_) G.calm h1 h2 h3,λow v σ H Q hl E r q=>?_⟩
   obtain⟨a,vs,rfl,hs,rl⟩:=jh r
   exact⟨a,vs,rfl,hs,rl.length.symm,h4 ow vs σ H Q hl E rl q⟩
  ·cases h
 ·cases h
theorem yv{Q:Bool->Shared->Prop}
  (h:wpAny M A (isTrue c env (eval c env)) (λb s'=>if b=true then wpAny M A (jt cs env) Q E s' else Q false s') E s):wpAny M A (jt (c::cs) env) Q E s:=by
 have no:∀(l:List Expr) (s:Shared),Q false s->wpAny M A (forIn l false λc r=>if r=true then do let ok <- isTrue c env (eval c env);pure (ForInStep.yield ok)else pure (ForInStep.yield r)) Q E s:=by
  intro l
  induction l with
  | nil=>intro s h;exact aG3 h
  | cons x l ih =>
   intro s h
   rw[aO9]
   simp only[Bool.false_eq_true,if_false]
   exact aF4 (aG3 (ih s h))
 unfold jt
 rw[aO9]
 simp only[aP3]
 refine aF4 (aF4 (aM7 h (λb s' hb=>aG3 ?_) λ_ _ x=>x))
 cases b with
 | true=>exact hb
 | false=>exact no cs s' hb
theorem Ag:BR X ρ [] true:=λow pins s σ H Q I ⟨E,q⟩=>aG3 ⟨H,I,q H (aL.refl _)⟩
theorem rD{b':Bool}(h:TD X ρ c b)(h':if b=true then BR X ρ cs b' else b'=false):BR X ρ (c::cs) b':=by
 intro ow pins s σ H Q I ⟨E,q⟩
 refine yv (bu (h ow pins s σ H (λt H1=>t=b/\aL H H1) I ⟨E,λH1 s1=>⟨rfl,s1⟩⟩) λt s1 ⟨H1,I1,e,sm⟩=>?_)
 subst e
 cases t with
 | true =>
  rw[if_pos rfl]at h' ⊢
  exact h' ow pins s1 σ H1 Q I1 ⟨E.same sm,λH2 s2=>q H2 (sm.trans s2)⟩
 | false =>
  rw[if_neg aH9]at h' ⊢
  subst h'
  exact⟨H1,I1,q H1 sm⟩
variable{X:Cx}
structure gP(X:Cx)(ρ:al)(e:Expr)(it:Bool)(d:D)(k:Nat):Prop where
 ed:it=false->ED X ρ e d k
 td:it=false->∀b,d=.bl b->TD X ρ e b
 ie:it=true->∀tg l,items d=some l->gF e tg=true->IE X ρ tg e l k
theorem gP.of(h:ED X ρ e d k)(t:∀b,d=.bl b->TD X ρ e b):gP X ρ e it d k:=⟨λ_=>h,λ_=>t,λ_ tg l hi _=>T0 h hi⟩
theorem qD{r:D×Nat}{l:List Prop}(h:aH Φ e it sc ρ=.ok r l):∀x p,e ≠ .Starred x p:=by
 intro x p z;subst z;cases h
theorem fK{Φ:Fx}{sc:Scope}{ρ:al}:∀{es:List Expr} {r:List D×Nat} {l:List Prop},cZ Φ es sc ρ=.ok r l->aT l->(∀e∈es,∀x p,e ≠ .Starred x p)/\es.length=r.1.length
 | [],r,l,h,_=>by cases h;exact⟨λe he=>(by cases he),rfl⟩
 | e::es,r,l,h,hp=>by
  obtain⟨p,l1,l2,h1,p1,h,p2⟩:=bw h hp
  obtain⟨q,l3,l4,h2,p3,h,p4⟩:=bw h p2
  cases h
  obtain⟨i1,i2⟩:=fK h2 p3
  refine⟨λe' he=>?_,by rw[aG9,aG9,i2]⟩
  rcases aF8.mp he with rfl|he
  ·exact qD h1
  ·exact i1 e' he
theorem Tv:kn d k=0\/kn d k=k:=by
 unfold kn;split
 ·exact .inl rfl
 ·exact .inr rfl
theorem BG(h:qR sc scope=true):scope.kind=.function/\(∀y∈scope.names,y.2=.local->scope.names.lookup y.1=some .local) /\
  (∀y∈scope.names,y.2=.free->sc.names.lookup y.1=some .cell\/sc.names.lookup y.1=some .free)/\(scope.names.map (·.1)).Nodup:=by
 unfold qR at h
 simp only[aH4,aM1,decide_eq_true_eq,Bool.or_eq_true]at h
 obtain⟨⟨⟨h1,h3⟩,h4⟩,h5⟩:=h
 refine⟨h1,λy hy e=>(h3 y hy).resolve_left (λz=>z e),λy hy e=>?_,h5⟩
 rcases h4 y hy with(q|q)|q
 ·exact absurd e q
 ·exact .inl q.2
 ·exact .inr q
theorem eD{env:Env}:∀{names:List (Str×NameKind)} {x:Str} {k0:NameKind},k0 ≠ .free->names.lookup x=some k0 ->
  (names.map λ(n,k)=>if (k==NameKind.free&&env.scope.kind == .function&&env.kindOf n==some .cell)then(n,NameKind.cell)else(n,k)).lookup x=some k0
 | [],_,_,_,h=>by simp at h
 | (n,k)::r,x,k0,hk,h=>by
  have ih:=@eD env r x k0 hk
  show List.lookup x ((if (k==NameKind.free&&env.scope.kind == .function&&env.kindOf n==some .cell)=true then(n,NameKind.cell)else(n,k))::_)=_
  cases hx:x==n with
  | true =>
   simp only[aG6,hx]at h
   cases h
   have:(k==NameKind.free)=false:=by simpa using hk
   simp[aG6,hx,this]
  | false =>
   simp only[aG6,hx]at h
   by_cases hc:(k==NameKind.free&&env.scope.kind == .function&&env.kindOf n==some .cell)=true
   ·rw[if_pos hc];simp only[aG6,hx];exact ih h
   ·rw[if_neg hc];simp only[aG6,hx];exact ih h
theorem qd{names:List (Str×NameKind)}:∀{x:Str} {k:NameKind},names.lookup x=some k->x∈names.map (·.1):=λ{x k} h=>aK0.mpr ⟨_,aH0 h,rfl⟩
theorem JC{C:Addr}(G:bA Φ X sc)(h:qR sc scope=true):bA Φ (mP X scope cl C (scope.names.map (·.1)) s H fp) scope:=by
 obtain⟨h1,h3,h4,h5⟩:=BG h
 refine⟨G.calm,h5,λx hx=>?_,λx hx=>?_,λx hx=>lookup_relabel_local hx,λx hx=>eD (by decide) hx,λg F hg=>G.fn g F hg,G.con,G.blt,G.itr,G.mth,G.mtt,G.slf,G.fld,G.omt,G.bl,G.room,λx hx=>?_,λx hx=>aI4 hx⟩
 ·exact eD (by decide) hx
 ·rcases hx with hx|hx
  ·exact .inl (eD (by decide) hx)
  ·exact eF hx
 ·unfold eI at hx
  rw[Bool.or_eq_true]at hx
  rcases hx with hx|hx<;>exact qd (by simpa using hx)
theorem Bn(G:bA Φ X sc)(h:qR sc scope=true):iU X.env scope (scope.names.map (·.1)):=by
 obtain⟨h1,h3,h4,h5⟩:=BG h
 exact⟨h1,h5,h3,h5,λn hn=>G.kc n (h4 (n,.free) hn rfl)⟩
theorem Tw:∀{a b:Nat},kj a b<=1->a<=kj a b/\b<=kj a b
 | 0,0,_=>by decide
 | 0,1,_=>by decide
 | 0,2,h=>absurd h (by decide)
 | 0,_+3,h=>by rw[kj]at h;omega
 | 1,0,_=>by decide
 | 1,1,_=>by decide
 | 1,2,h=>absurd h (by decide)
 | 1,_+3,h=>absurd h (by rw[kj]<;>simp)
 | 2,0,h=>absurd h (by decide)
 | 2,1,h=>absurd h (by decide)
 | 2,2,h=>absurd h (by decide)
 | 2,_+3,h=>absurd h (by rw[kj]<;>simp)
 | _+3,0,h=>by rw[kj]at h<;>simp_all<;>omega
 | _+3,1,h=>absurd h (by rw[kj]<;>simp)
 | _+3,2,h=>absurd h (by rw[kj]<;>simp)
 | _+3,_+3,h=>absurd h (by rw[kj]<;>simp)
theorem Kp.up(o:fy ow H){a:Addr}:∀{i j:Nat},i<=j->j<=1->Kp ow H i a b->Kp ow H j a b
 | 0,0,_,_,p=>p
 | 0,1,_,_,p=>λ_=>o.free p.2
 | 1,1,_,_,p=>p
 | 1,0,h,_,_=>absurd h (by omega)
 | _+2,_,h,g,_=>absurd h (by omega)
 | 0,_+2,_,g,_=>absurd g (by omega)
 | 1,_+2,_,g,_=>absurd g (by omega)
theorem ED.up(h:ED X ρ e d i)(h1:i<=j)(h2:j<=1):ED X ρ e d j:=λow=>bS (h ow) λσ H Q ⟨E,q⟩=>⟨E,λv H' s r=>q v H' s (r.imp λa b p=>Kp.up E.own h1 h2 p)⟩
noncomputable def ug(step:D->Rs (Option (D×Nat)))(d:D):Option D:=match step d with | .ok (some p) _=>some p.1|_=>none
theorem we{step:D->Rs (Option (D×Nat))}:∀{ds:List D} {r:List D×Nat} {l:List Prop},iC step ds=.ok r l->aT l ->
  (∀d∈ds,∃r l,step d=.ok r l/\aT l)/\r.1=ds.filterMap (ug step)/\(r.2<=1->∀d∈ds,∀p l,step d=.ok (some p) l->p.2<=r.2)
 | [],r,l,h,_=>by
  cases h
  exact⟨λd hd=>(by cases hd),rfl,λ_ d hd=>(by cases hd)⟩
 | d::ds,r,l,h,hp=>by
  obtain⟨x,l1,l2,h1,p1,h,p2⟩:=bw h hp
  obtain⟨q,l3,l4,h2,p3,h,p4⟩:=bw h p2
  obtain⟨i1,i2,i3⟩:=we h2 p3
  have i1':∀y∈d::ds,∃r l,step y=.ok r l/\aT l:=λy hy=>by
   rcases aF8.mp hy with rfl|hy
   ·exact⟨_,_,h1,p1⟩
   ·exact i1 y hy
  cases x with
  | none =>
   cases h
   refine⟨i1',?_,λhj x hx y i e=>?_⟩
   ·rw[List.filterMap_cons_none (by unfold ug;rw[h1])];exact i2
   ·rcases aF8.mp hx with rfl|hx
    ·rw[h1]at e;cases e
    ·exact i3 hj x hx y i e
  | some p =>
   cases h
   refine⟨i1',?_,λhj x hx y i e=>?_⟩
   ·rw[List.filterMap_cons_some (by unfold ug;rw[h1]),i2]
   ·obtain⟨a1,a2⟩:=Tw hj
    rcases aF8.mp hx with rfl|hx
    ·rw[h1]at e;cases e;exact a1
    ·exact aF5 (i3 (aF5 a2 hj) x hx y i e) a2
theorem cT(h:ED X ρ e d k)(he:∀whole,isTrue e X.env whole=(do let v <- whole;standAt e.pos;holding [v] (truthy v))):gP X ρ e it d k:=.of h λb hb=>by subst hb;exact P4 h he
theorem Kz{b:Expr}{x:D}(hu:X.A.units+70<cLine)(ha:ED X ρ a x k)(hb:ED X ρ b y j)(h:fQ op x y=.ok r o)(hp:aT o)(hm:behindInMarks op b=false):TD X ρ (.Compare a [op] [b] pos) r:=by
 have c:=jB (X:=X) hu h hp
 intro ow pins s σ H Q I ⟨E,q⟩
 refine wpAny_isTrue_Compare1 (VE (ha ow) (hb ow) I (R:=λv u H2=>aL H H2/\aj X.K H2 (λ_ _=>True) x v/\aj X.K H2 (λ_ _=>True) y u) ⟨E,λv H1 s1 r1=>⟨E.same s1,λu H2 s2 r2=>⟨s1.trans s2,(r1.imp λ_ _ _=>True.intro).same s2,r2.imp λ_ _ _=>True.intro⟩⟩⟩ λv u s2 x y H2 I2 rx ry ⟨sm,r1,r2⟩=>?_) hm
 refine bu (c _ _ pins s2 σ H2 x y v u (λw H'=>w=.bl r/\H2=H') I2 rx ry ⟨r1,r2,rfl,rfl⟩) λu' s3 ⟨w,H3,I3,r3,e1,e2⟩=>?_
 subst e1 e2
 cases (show u'=Value.bool r from r3)
 exact aK5 ⟨H2,I3,q H2 sm⟩
theorem Cl{b:Expr}{x y z:Int}(hu:X.A.units+70<cLine)(ha:ED X ρ a (.int x) k)(hb:ED X ρ b (.int y) j)(hc:ED X ρ c (.int z) i)(h:ir op x y=some r)(h2:ir op2 y z=some r2)(hm:behindInMarks op2 c=false):TD X ρ (.Compare a [op,op2] [b,c] pos) (r&&r2):=by
 have c1:=jB (X:=X) hu (qI h) (show aT []from True.intro)
 have c2:=jB (X:=X) hu (qI h2) (show aT []from True.intro)
 refine λow=>zV (CI (c1 (λ_ _=>True) (λ_ _=>True)) (c2 (λ_ _=>True) (λ_ _=>True)) (ha ow) (hb ow) (hc ow) hm) λσ H Q ⟨E,q⟩=>⟨E,λv H1 s1 r1=>⟨E.same s1,λu H2 s2 r2=>?_⟩⟩
 rw[aj]at r1 r2
 subst r1 r2
 refine⟨by rw[aj],by rw[aj],r,rfl,?_⟩
 cases r with
 | false=>exact⟨false,rfl,q H2 (s1.trans s2)⟩
 | true =>
  rw[if_pos rfl]
  refine⟨(E.same s1).same s2,λw H3 s3 r3=>?_⟩
  rw[aj]at r3
  subst r3
  exact⟨by rw[aj],by rw[aj],_,rfl,q H3 ((s1.trans s2).trans s3)⟩
theorem Ky(h:TD X ρ a b):TD X ρ (.UnaryOp .Not a pos) (!b):=λow=>zV (Lx (h ow)) λσ H Q ⟨E,q⟩=>⟨E,λH1 s1=>q H1 s1⟩
structure fM(X:Cx)(ρ:al)(op:BoolOp)(es:List Expr)(b:Bool):Prop where
 ed:es≠[]->∀pos,ED X ρ (.BoolOp op es pos) (.bl b) 0
 tw:es≠[]->∀pos ow,PW X (.BoolOp op es pos) (EL X ow ρ b)
 ts:op=.And->BR X ρ es b
theorem iD{op:BoolOp}(h:ED X ρ e (.bl b) k)(t:TD X ρ e b):fM X ρ op [e] b:=by
 have h0:ED X ρ e (.bl b) 0:=by
  have:=h.kn
  rw[show kn (.bl b) k=0 from rfl]at this
  exact this
 refine⟨λ_ pos ow=>LM (h0 ow),λ_ pos ow=>?_,λ_=>rD t (by cases b;rfl;exact Ag)⟩
 cases op with
 | And=>exact Iq (t ow)
 | Or=>exact Lv (t ow)
theorem wU(h:ED X ρ e (.bl true) k)(t:TD X ρ e true)(r:fM X ρ .And (e2::es) b):fM X ρ .And (e::e2::es) b:=by
 refine⟨λ_ pos ow=>?_,λ_ pos ow=>?_,λ_=>rD t (by rw[if_pos rfl];exact r.ts rfl)⟩
 ·refine bS (AT (h ow) (r.ed (by simp) pos ow)) λσ H Q ⟨E,q⟩=>⟨E,λv H1 s1 r1=>?_⟩
  rw[aj]at r1
  exact⟨true,r1,by rw[if_pos rfl];exact⟨E.same s1,λw H2 s2 r2=>q w H2 (s1.trans s2) (r2.imp (Kp.back s1 0))⟩⟩
 ·intro wh pins s σ H Q I hq
  exact AH (t ow) (r.tw (by simp) pos ow) wh pins s σ H Q I ⟨hq.1,λH1 s1=>by dsimp only;rw[if_pos rfl];exact⟨hq.1.same s1,λH2 s2=>hq.2 H2 (s1.trans s2)⟩⟩
theorem wm(h:ED X ρ e (.bl false) k)(t:TD X ρ e false)(ne:∀pos,∃t,PE X (.BoolOp .And (e2::es) pos) t)(nw:∀pos,∃t,PW X (.BoolOp .And (e2::es) pos) t):fM X ρ .And (e::e2::es) false:=by
 refine⟨λ_ pos ow=>?_,λ_ pos ow=>?_,λ_=>rD t (by rw[if_neg aH9])⟩
 ·obtain⟨t2,h2⟩:=ne pos
  refine bS (AT (h ow) h2) λσ H Q ⟨E,q⟩=>⟨E,λv H1 s1 r1=>?_⟩
  rw[aj]at r1
  exact⟨false,r1,by rw[if_neg aH9];exact q _ H1 s1 (by rw[aj])⟩
 ·obtain⟨t2,h2⟩:=nw pos
  intro wh pins s σ H Q I hq
  exact AH (t ow) h2 wh pins s σ H Q I ⟨hq.1,λH1 s1=>by dsimp only;rw[if_neg aH9];exact hq.2 H1 s1⟩
theorem zF(h:ED X ρ e (.bl false) k)(t:TD X ρ e false)(r:fM X ρ .Or (e2::es) b):fM X ρ .Or (e::e2::es) b:=by
 refine⟨λ_ pos ow=>?_,λ_ pos ow=>?_,λz=>by cases z⟩
 ·refine bS (EY (h ow) (r.ed (by simp) pos ow)) λσ H Q ⟨E,q⟩=>⟨E,λv H1 s1 r1=>?_⟩
  rw[aj]at r1
  exact⟨false,r1,by rw[if_neg aH9];exact⟨E.same s1,λw H2 s2 r2=>q w H2 (s1.trans s2) (r2.imp (Kp.back s1 0))⟩⟩
 ·intro wh pins s σ H Q I hq
  exact EV (t ow) (r.tw (by simp) pos ow) wh pins s σ H Q I ⟨hq.1,λH1 s1=>by dsimp only;rw[if_neg aH9];exact⟨hq.1.same s1,λH2 s2=>hq.2 H2 (s1.trans s2)⟩⟩
theorem wT(h:ED X ρ e (.bl true) k)(t:TD X ρ e true)(ne:∀pos,∃t,PE X (.BoolOp .Or (e2::es) pos) t)(nw:∀pos,∃t,PW X (.BoolOp .Or (e2::es) pos) t):fM X ρ .Or (e::e2::es) true:=by
 refine⟨λ_ pos ow=>?_,λ_ pos ow=>?_,λz=>by cases z⟩
 ·obtain⟨t2,h2⟩:=ne pos
  refine bS (EY (h ow) h2) λσ H Q ⟨E,q⟩=>⟨E,λv H1 s1 r1=>?_⟩
  rw[aj]at r1
  exact⟨true,r1,by rw[if_pos rfl];exact q _ H1 s1 (by rw[aj])⟩
 ·obtain⟨t2,h2⟩:=nw pos
  intro wh pins s σ H Q I hq
  exact EV (t ow) h2 wh pins s σ H Q I ⟨hq.1,λH1 s1=>by dsimp only;rw[if_pos rfl];exact hq.2 H1 s1⟩
theorem vp:PE X e (λ_ _ _=>False):=λ_ _ _ _ _ _ h=>h.elim
theorem vo:PW X e (λ_ _ _=>False):=λ_ _ _ _ _ _ _ h=>h.elim
theorem Gi{b:Expr}{r:D×Nat}{l:List Prop}(h:aH Φ b it sc ρ=.ok r l):behindInMarks op b=false:=by
 cases b<;>first|rfl|cases h
theorem xN{z:Str}(h:eI sc z=true)(hx:sc.names.lookup x=some .free):x≠z:=by
 intro e;subst e
 unfold eI at h
 rw[hx]at h
 revert h;decide
theorem zG:∀{es:List Expr} {ds:List D} {ρ ρ':al},bL sc es ds ρ=some ρ'->∀x y,sc.names.lookup x=some .free->ρ x=some y->ρ' x=some y:=by
 intro es
 induction es with
 | nil =>
  intro ds ρ ρ' h x y hx hl
  cases ds with
  | nil=>rw[bL]at h;cases h;exact hl
  | cons d ds=>cases h
 | cons e es ih =>
  intro ds ρ ρ' h x y hx hl
  cases ds with
  | nil=>cases e<;>cases h
  | cons d ds =>
   cases e with
   | Name z p =>
    rw[bL]at h
    split at h
    ·rename_i hz
     exact ih h x y hx (by rw[dr,if_neg (xN hz hx)];exact hl)
    ·cases h
   | _=>cases h
theorem BH(h:cI sc tg d ρ=some ρ'):∀x y,sc.names.lookup x=some .free->ρ x=some y->ρ' x=some y:=by
 intro x y hx hl
 unfold cI at h
 split at h
 ·split at h
  ·rename_i hz
   cases h
   rw[dr,if_neg (xN hz hx)];exact hl
  ·cases h
 ·split at h
  ·exact zG h x y hx hl
  ·cases h
 ·cases h
theorem tz{r:D×Nat}{l:List Prop}(h:aH Φ e it sc ρ=.ok r l)(x:Value):foldedSetIterable e env x=pure x:=by
 cases e<;>first|rfl|cases h
mutual
theorem vA:∀x y:D,rR true x y=x
 | .int _,.int _=>rfl
 | .bl _,.bl _=>rfl
 | .tup l,.tup m=>by
  show(if l.length=m.length then D.tup (mJ true l m)else cond true (.tup l) (.tup m))=.tup l
  split
  ·rename_i h;rw[AX l m h]
  ·rfl
 | .non,_=>rfl
 | .str _,_=>rfl
 | .dct _ _,_=>rfl
 | .lst _,_=>rfl
 | .typ _,_=>rfl
 | .dcf _ _,_=>rfl
 | .dft _ _ _,_=>rfl
 | .sn _,_=>rfl
 | .obj _ _ _,_=>rfl
 | .cls _,_=>rfl
 | .int _,.non=>rfl
 | .int _,.bl _=>rfl
 | .int _,.str _=>rfl
 | .int _,.dct _ _=>rfl
 | .int _,.typ _=>rfl
 | .int _,.dcf _ _=>rfl
 | .int _,.dft _ _ _=>rfl
 | .int _,.sn _=>rfl
 | .int _,.obj _ _ _=>rfl
 | .int _,.cls _=>rfl
 | .int _,.tup _=>rfl
 | .int _,.lst _=>rfl
 | .bl _,.non=>rfl
 | .bl _,.int _=>rfl
 | .bl _,.str _=>rfl
 | .bl _,.dct _ _=>rfl
 | .bl _,.typ _=>rfl
 | .bl _,.dcf _ _=>rfl
 | .bl _,.dft _ _ _=>rfl
 | .bl _,.sn _=>rfl
 | .bl _,.obj _ _ _=>rfl
 | .bl _,.cls _=>rfl
 | .bl _,.tup _=>rfl
 | .bl _,.lst _=>rfl
 | .tup _,.non=>rfl
 | .tup _,.int _=>rfl
 | .tup _,.bl _=>rfl
 | .tup _,.str _=>rfl
 | .tup _,.dct _ _=>rfl
 | .tup _,.typ _=>rfl
 | .tup _,.dcf _ _=>rfl
 | .tup _,.dft _ _ _=>rfl
 | .tup _,.sn _=>rfl
 | .tup _,.obj _ _ _=>rfl
 | .tup _,.cls _=>rfl
 | .tup _,.lst _=>rfl
theorem AX:∀l m:List D,l.length=m.length->mJ true l m=l
 | [],[],_=>rfl
 | x::l,y::m,h=>by
  show rR true x y::mJ true l m=x::l
  rw[vA x y,AX l m (by simpa using h)]
 | [],_::_,h=>by cases h
 | _::_,[],h=>by cases h
end
mutual
theorem vB:∀x y:D,rR false x y=y
 | .int _,.int _=>rfl
 | .bl _,.bl _=>rfl
 | .tup l,.tup m=>by
  show(if l.length=m.length then D.tup (mJ false l m)else cond false (.tup l) (.tup m))=.tup m
  split
  ·rename_i h;rw[AY l m h]
  ·rfl
 | .non,_=>rfl
 | .str _,_=>rfl
 | .dct _ _,_=>rfl
 | .lst _,_=>rfl
 | .typ _,_=>rfl
 | .dcf _ _,_=>rfl
 | .dft _ _ _,_=>rfl
 | .sn _,_=>rfl
 | .obj _ _ _,_=>rfl
 | .cls _,_=>rfl
 | .int _,.non=>rfl
 | .int _,.bl _=>rfl
 | .int _,.str _=>rfl
 | .int _,.dct _ _=>rfl
 | .int _,.typ _=>rfl
 | .int _,.dcf _ _=>rfl
 | .int _,.dft _ _ _=>rfl
 | .int _,.sn _=>rfl
 | .int _,.obj _ _ _=>rfl
 | .int _,.cls _=>rfl
 | .int _,.tup _=>rfl
 | .int _,.lst _=>rfl
 | .bl _,.non=>rfl
 | .bl _,.int _=>rfl
 | .bl _,.str _=>rfl
 | .bl _,.dct _ _=>rfl
 | .bl _,.typ _=>rfl
 | .bl _,.dcf _ _=>rfl
 | .bl _,.dft _ _ _=>rfl
 | .bl _,.sn _=>rfl
 | .bl _,.obj _ _ _=>rfl
 | .bl _,.cls _=>rfl
 | .bl _,.tup _=>rfl
 | .bl _,.lst _=>rfl
 | .tup _,.non=>rfl
 | .tup _,.int _=>rfl
 | .tup _,.bl _=>rfl
 | .tup _,.str _=>rfl
 | .tup _,.dct _ _=>rfl
 | .tup _,.typ _=>rfl
 | .tup _,.dcf _ _=>rfl
 | .tup _,.dft _ _ _=>rfl
 | .tup _,.sn _=>rfl
 | .tup _,.obj _ _ _=>rfl
 | .tup _,.cls _=>rfl
 | .tup _,.lst _=>rfl
theorem AY:∀l m:List D,l.length=m.length->mJ false l m=m
 | [],[],_=>rfl
 | x::l,y::m,h=>by
  show rR false x y::mJ false l m=y::m
  rw[vB x y,AY l m (by simpa using h)]
 | [],_::_,h=>by cases h
 | _::_,[],h=>by cases h
end
theorem Fo:A8 true k j=k:=by unfold A8;split<;>rfl
theorem Fp:A8 false k j=j:=by
 unfold A8;split
 ·assumption
 ·rfl
theorem xW{r s:R1}{d:D×Nat}{l:List Prop}(h:FE t r s=.ok d l)(hp:aT l):∃m,(if t=true then r else s)=.ok d m/\aT m:=by
 unfold FE at h
 split at h
 ·cases t with
  | true=>cases h
  | false=>exact⟨l,h,hp⟩
 ·rename_i p m
  split at h
  ·cases t with
   | true=>exact⟨l,h,hp⟩
   | false=>cases h
  ·rename_i q n
   cases h
   obtain⟨p1,p2⟩:=fc.mp hp
   cases t with
   | true=>exact⟨m,by rw[vA,Fo];rfl,qk p1 rfl⟩
   | false=>exact⟨n,by rw[vB,Fp];rfl,qk p2 rfl⟩
theorem nU{p:D×Nat}{f:Bool->Rs α}{a:α}{l:List Prop}(h:jE p f=.ok a l):∃b,p.1=.bl b/\f b=.ok a l:=by
 unfold jE at h
 split at h
 ·rename_i b e;exact⟨b,e,h⟩
 ·cases h
structure Ih(Φ:Fx)(n:Nat):Prop where
 e:∀(e:Expr) {it:Bool} {sc:Scope} {ρ:al} {p:D×Nat} {l:List Prop} {X:Cx},sizeOf e<n->aH Φ e it sc ρ=.ok p l->aT l->bA Φ X sc->gP X ρ e it p.1 p.2
 es:∀(es:List Expr) {sc:Scope} {ρ:al} {p:List D×Nat} {l:List Prop} {X:Cx},sizeOf es<n->cZ Φ es sc ρ=.ok p l->aT l->bA Φ X sc->AD X ρ es p.1 p.2
 b:∀(op:BoolOp) (es:List Expr) {sc:Scope} {ρ:al} {b:Bool} {l:List Prop} {X:Cx},sizeOf es<n->fv Φ op es sc ρ=.ok b l->aT l->bA Φ X sc->fM X ρ op es b
 o:∀(e:Option Expr) {sc:Scope} {ρ:al} {o:Option Int} {l:List Prop} {X:Cx},sizeOf e<n->mS Φ e sc ρ=.ok o l->aT l->bA Φ X sc->OD X ρ e o
theorem bQ{a b:Nat}(h:a<b)(hs:b<n+1):a<n:=aG7 h (Nat.le_of_lt_succ hs)
section
variable{Φ:Fx}{n:Nat}{it:Bool}{sc:Scope}{ρ:al}{r:D×Nat}{l:List Prop}{X:Cx}
theorem HR(h:lr Φ x sc ρ=.ok r l)(G:bA Φ X sc):gP X ρ (.Name x pos) it r.1 r.2:=by
 unfold lr at h
 split at h
 ·rename_i hx
  split at h
  ·rename_i hg
   split at h
   ·rename_i d hd;cases h;exact cT (NM G hd hg hx) (λ_=>rfl)
   ·split at h
    ·rename_i T hT;cases h;exact cT (NI G hT hg) (λ_=>rfl)
    ·cases h
  ·split at h
   ·rename_i p hl
    unfold mk at h;cases h
    exact cT (JP (o:=p.2) hl hx) (λ_=>rfl)
   ·cases h
 ·cases h
theorem KM(I:Ih Φ n){b:Expr}{op:Operator}(hs:sizeOf (Expr.BinOp a op b pos)<n+1)(h:aH Φ (.BinOp a op b pos) it sc ρ=.ok r l)(hp:aT l)(G:bA Φ X sc):gP X ρ (.BinOp a op b pos) it r.1 r.2:=by
 obtain⟨p,l1,l2,h1,p1,h,p2⟩:=bw (show Rs.bnd _ _=_ from h) hp
 obtain⟨q,l3,l4,h2,p3,h,p4⟩:=bw h p2
 exact cT (NP ((I.e a (bQ (by simp<;>omega) hs) h1 p1 G).ed rfl) ((I.e b (bQ (by simp<;>omega) hs) h2 p3 G).ed rfl) h p4) (λ_=>rfl)
theorem Qe(I:Ih Φ n){op:UnaryOp}(hs:sizeOf (Expr.UnaryOp op a pos)<n+1)(h:aH Φ (.UnaryOp op a pos) it sc ρ=.ok r l)(hp:aT l)(G:bA Φ X sc):gP X ρ (.UnaryOp op a pos) it r.1 r.2:=by
 obtain⟨p,l1,l2,h1,p1,h,p2⟩:=bw (show Rs.bnd _ _=_ from h) hp
 split at h
 ·rename_i z hu
  cases h
  have c:=I.e a (bQ (by simp<;>omega) hs) h1 p1 G
  refine .of (Um (c.ed rfl) hu) λb hb=>?_
  have hb:z=.bl b:=hb
  subst hb
  unfold Ab at hu
  split at hu
  ·cases hu
  ·rename_i e;cases hu;exact Ky (c.td rfl _ e)
  ·cases hu
 ·cases h
theorem KL(I:Ih Φ n){b:Expr}(hs:sizeOf (Expr.Compare a [op] [b] pos)<n+1)(h:aH Φ (.Compare a [op] [b] pos) it sc ρ=.ok r l)(hp:aT l)(G:bA Φ X sc):gP X ρ (.Compare a [op] [b] pos) it r.1 r.2:=by
 obtain⟨p,l1,l2,h1,p1,h,p2⟩:=bw (show Rs.bnd _ _=_ from h) hp
 obtain⟨q,l3,l4,h2,p3,h,p4⟩:=bw h p2
 obtain⟨z,l5,l6,hc,p5,h,p6⟩:=bw h p4
 cases h
 have ca:=(I.e a (bQ (by simp<;>omega) hs) h1 p1 G).ed rfl
 have cb:=(I.e b (bQ (by simp<;>omega) hs) h2 p3 G).ed rfl
 exact .of (NN G.room ca cb hc p5 (Gi h2)) λb' hb'=>by cases hb';exact Kz G.room ca cb hc p5 (Gi h2)
theorem Cq(I:Ih Φ n){b:Expr}(hs:sizeOf (Expr.Compare a [op,op2] [b,c] pos)<n+1)(h:aH Φ (.Compare a [op,op2] [b,c] pos) it sc ρ=.ok r l)(hp:aT l)(G:bA Φ X sc):gP X ρ (.Compare a [op,op2] [b,c] pos) it r.1 r.2:=by
 obtain⟨p,l1,l2,h1,p1,h,p2⟩:=bw (show Rs.bnd _ _=_ from h) hp
 obtain⟨q,l3,l4,h2,p3,h,p4⟩:=bw h p2
 obtain⟨t,l5,l6,h3,p5,h,p6⟩:=bw h p4
 obtain⟨x,y,z,r1,r2,e1,e2,e3,k1,k2,rfl⟩:=J2 h
 have ca:=(I.e a (bQ (by simp<;>omega) hs) h1 p1 G).ed rfl
 have cb:=(I.e b (bQ (by simp<;>omega) hs) h2 p3 G).ed rfl
 have cc:=(I.e c (bQ (by simp<;>omega) hs) h3 p5 G).ed rfl
 rw[e1]at ca
 rw[e2]at cb
 rw[e3]at cc
 exact .of (DS G.room ca cb cc k1 k2 (Gi h3)) λb' hb'=>by cases hb';exact Cl G.room ca cb cc k1 k2 (Gi h3)
theorem Qf(I:Ih Φ n){b:Expr}(hs:sizeOf (Expr.IfExp c a b pos)<n+1)(h:aH Φ (.IfExp c a b pos) it sc ρ=.ok r l)(hp:aT l)(G:bA Φ X sc):gP X ρ (.IfExp c a b pos) it r.1 r.2:=by
 obtain⟨p,l1,l2,h1,p1,h,p2⟩:=bw (show Rs.bnd _ _=_ from h) hp
 obtain⟨t,ht,h⟩:=nU h
 obtain⟨m,he,hm⟩:=xW h p2
 have hc:=(I.e c (bQ (by simp<;>omega) hs) h1 p1 G).td rfl t ht
 cases t with
 | true =>
  rw[if_pos rfl]at he
  have ha:=I.e a (bQ (by simp<;>omega) hs) he hm G
  refine .of (FM hc (by rw[if_pos rfl];exact ha.ed rfl)) λb' hb'=>?_
  intro ow pins s σ H Q I ⟨E,q⟩
  refine isTrue_IfExp (bu (hc ow pins s σ H (λt H1=>t=true/\aL H H1) I ⟨E,λH1 s1=>⟨rfl,s1⟩⟩) λt s1 ⟨H1,I1,e1,s1'⟩=>?_)
  subst e1
  exact ha.td rfl b' hb' ow pins s1 σ H1 Q I1 ⟨E.same s1',λH2 s2=>q H2 (s1'.trans s2)⟩
 | false =>
  rw[if_neg aH9]at he
  have hb:=I.e b (bQ (by simp<;>omega) hs) he hm G
  refine .of (FM hc (by rw[if_neg aH9];exact hb.ed rfl)) λb' hb'=>?_
  intro ow pins s σ H Q I ⟨E,q⟩
  refine isTrue_IfExp (bu (hc ow pins s σ H (λt H1=>t=false/\aL H H1) I ⟨E,λH1 s1=>⟨rfl,s1⟩⟩) λt s1 ⟨H1,I1,e1,s1'⟩=>?_)
  subst e1
  exact hb.td rfl b' hb' ow pins s1 σ H1 Q I1 ⟨E.same s1',λH2 s2=>q H2 (s1'.trans s2)⟩
theorem yN{r:D×Nat}{l:List Prop}(h:aH Φ e it sc ρ=.ok r l):nX e:=by
 cases e<;>first|(intro _ _;rfl)|cases h
theorem ER(I:Ih Φ n){i:Expr}(hs:sizeOf (Expr.Subscript a i pos)<n+1)(h:((aH Φ a false sc ρ).bnd λp=>(aH Φ i false sc ρ).bnd λq=>oG p q)=.ok r l)(hp:aT l)(G:bA Φ X sc):gP X ρ (.Subscript a i pos) it r.1 r.2:=by
 obtain⟨p,l1,l2,h1,p1,h,p2⟩:=bw h hp
 obtain⟨q,l3,l4,h2,p3,h,p4⟩:=bw h p2
 exact cT (NJ ((I.e a (bQ (by simp<;>omega) hs) h1 p1 G).ed rfl) ((I.e i (bQ (by simp<;>omega) hs) h2 p3 G).ed rfl) (yN h2) h) (λ_=>rfl)
theorem Cp(I:Ih Φ n)(hs:sizeOf (Expr.Subscript a (.Slice lo hi none p2) pos)<n+1)(h:aH Φ (.Subscript a (.Slice lo hi none p2) pos) it sc ρ=.ok r l)(hp:aT l)(G:bA Φ X sc):gP X ρ (.Subscript a (.Slice lo hi none p2) pos) it r.1 r.2:=by
 obtain⟨p,l1,l2,h1,p1,h,q2⟩:=bw (show Rs.bnd _ _=_ from h) hp
 obtain⟨q,l3,l4,h2,p3,h,p4⟩:=bw h q2
 obtain⟨q',l5,l6,h3,p5,h,p6⟩:=bw h p4
 exact cT (G.slf X ρ a lo hi p2 pos p.1 r.1 q q' p.2 r.2 l6 ((I.e a (bQ (by simp<;>omega) hs) h1 p1 G).ed rfl) (I.o lo (bQ (by simp<;>omega) hs) h2 p3 G) (I.o hi (bQ (by simp<;>omega) hs) h3 p5 G) h p6) (λ_=>rfl)
theorem KJ(I:Ih Φ n){i:Expr}(hs:sizeOf (Expr.Subscript a i pos)<n+1)(h:aH Φ (.Subscript a i pos) it sc ρ=.ok r l)(hp:aT l)(G:bA Φ X sc):gP X ρ (.Subscript a i pos) it r.1 r.2:=by
 cases i with
 | Slice lo hi st p2 =>
  cases st with
  | none=>exact Cp I hs h hp G
  | some e=>exact ER I hs h hp G
 | _=>exact ER I hs h hp G
theorem HS(I:Ih Φ n)(hs:sizeOf args<n)(hf:sc.names.lookup f=some .globalImplicit)(h0:((cZ Φ args sc ρ).bnd λp=>lL Φ f it p.1 p.2)=.ok r l)(hp:aT l)(G:bA Φ X sc):gP X ρ (.Call (.Name f p) args [] pos) it r.1 r.2:=by
 obtain⟨q,l1,l2,h1,p1,h,p2⟩:=bw h0 hp
 clear h0
 have ha:=I.es args hs h1 p1 G
 obtain⟨hst,hlen⟩:=fK h1 p1
 unfold lL at h
 split at h
 ·rename_i F hF
  obtain⟨d,l3,l4,h2,p3,h,p4⟩:=bw h p2
  cases h
  exact cT (JV G hF hf ha hst (λz=>by subst z;exact aN6.mp hlen.symm) h2 p3) (λ_=>rfl)
 ·split at h
  ·rename_i B hB
   split at hB
   ·rename_i hit
    have hI:=G.itr f B hB
    refine⟨λz=>(by rw[hit]at z;cases z),λz=>(by rw[hit]at z;cases z),λ_ tg l' hl ht=>?_⟩
    exact hI.2 X ρ p pos args q.1 q.2 r.1 r.2 l' tg l2 G.calm (G.gl f hf) (G.bl f hI.1) ha hst hlen h p2 hl ht
   ·cases hB
  ·split at h
   ·rename_i B hB
    have hb:=G.blt f B hB
    cases args with
    | nil =>
     have e0:q.1=[]:=aN6.mp hlen.symm
     rw[e0,hb.2.2.2.1]at h;cases h
    | cons e es=>exact cT (NO G hb hf ha hst h p2) (λ_=>rfl)
   ·cases h
theorem Cr(I:Ih Φ n)(hs:sizeOf (Expr.Call (.Name f p) args [] pos)<n+1)(h:aH Φ (.Call (.Name f p) args [] pos) it sc ρ=.ok r l)(hp:aT l)(G:bA Φ X sc):gP X ρ (.Call (.Name f p) args [] pos) it r.1 r.2:=by
 rw[jv]at h
 split at h
 ·rename_i hf
  exact HS I (bQ (by simp<;>omega) hs) hf h hp G
 ·cases h
theorem Cs(I:Ih Φ n)(hs:sizeOf (Expr.Call (.Attribute a m ap) args [] pos)<n+1)(h:aH Φ (.Call (.Attribute a m ap) args [] pos) it sc ρ=.ok r l)(hp:aT l)(G:bA Φ X sc):gP X ρ (.Call (.Attribute a m ap) args [] pos) it r.1 r.2:=by
 rw[lI]at h
 split at h
 ·rename_i hln
  obtain⟨p,l1,l2,h1,p1,h,p2⟩:=bw h hp
  obtain⟨q,l3,l4,h2,p3,h,p4⟩:=bw h p2
  obtain⟨hst,hlen⟩:=fK h2 p3
  have hea:=(I.e a (bQ (by simp<;>omega) hs) h1 p1 G).ed rfl
  have hes:=I.es args (bQ (by simp<;>omega) hs) h2 p3 G
  obtain⟨x,kx⟩:=p
  unfold yX at h
  dsimp only at h hea
  split at h
  ·rename_i n ns es
   split at h
   ·rename_i hc
    split at h
    ·rename_i F hF
     obtain⟨d,l5,l6,h3,p5,h,p6⟩:=bw h p4
     cases h
     exact cT (JQ G hF hea hes hst hlen hc.1 hc.2.1 hc.2.2 hln h3 p5) (λ_=>rfl)
    ·cases h
   ·cases h
  ·split at h
   ·rename_i hb
    split at h
    ·rename_i M hM
     exact cT (G.mth m M hM X ρ a args ap pos x kx q.1 q.2 r.1 r.2 l4 G.calm G.room hea hes hst hlen hln hb h p4) (λ_=>rfl)
    ·cases h
   ·cases h
 ·cases h
theorem GR{q:List D×Nat}{m:List Prop}(hE:∀{ρ:al} {p:D×Nat} {l:List Prop} {X:Cx},aH Φ elt false scope ρ=.ok p l->aT l->bA Φ X scope->gP X ρ elt false p.1 p.2)
    (hB:∀{ρ:al} {b:Bool} {l:List Prop} {X:Cx},fv Φ .And ifs scope ρ=.ok b l->aT l->bA Φ X scope->fM X ρ .And ifs b) (hc:qR sc scope=true) (G:bA Φ X sc)
    (h:iC (λd=>match cI scope tg d (flt scope ρ)with
            | none=>.st
            | some ρ'=>(fv Φ .And ifs scope ρ').bnd λb=>cond b ((aH Φ elt false scope ρ').bnd λr=>.ok (some r) []) (.ok none [])) ds=.ok q m) (hp:aT m) (hj:q.2<=1) :
    ∃f:D->Option D,q.1=ds.filterMap f/\∀cl C s H fp,∀d∈ds,nW (mP X scope cl C (scope.names.map (·.1)) s H fp) (flt scope ρ) tg ifs elt q.2 d (f d):=by
  generalize hst:(λd=>match cI scope tg d (flt scope ρ)with
            | none=>.st
            | some ρ'=>(fv Φ .And ifs scope ρ').bnd λb=>cond b ((aH Φ elt false scope ρ').bnd λr=>.ok (some r) []) (.ok none []):D->Rs (Option (D×Nat)))=step at h
  obtain⟨c1,c2,c3⟩:=we h hp
  refine⟨_,c2,λcl C s H fp d hd=>?_⟩
  have G':=JC (cl:=cl) (C:=C) (s:=s) (H:=H) (fp:=fp) G hc
  obtain⟨x,lx,hx,px⟩:=c1 d hd
  have c3:=c3 hj d hd
  have hs:=congrFun hst d
  unfold ug
  rw[hx]
  split at hs
  . rw[<- hs]at hx;cases hx
  . rename_i ρ' hb
    have gd:=FH G' hb
    have ext:∀x y,flt scope ρ x=some y->ρ' x=some y:=λx y hxy=>BH hb x y (lF hxy).2 hxy
    have hx0:=hx
    rw[<- hs]at hx
    obtain⟨b,l3,l4,h2,p3,hx,p4⟩:=bw hx px
    have ts:=(hB h2 p3 G').ts rfl
    cases b with
    | false =>
      cases hx
      exact⟨ρ',false,gd,ext,ts,rfl⟩
    | true =>
      rw[cond_true]at hx
      obtain⟨z,l5,l6,h3,p5,hx,p6⟩:=bw hx p4
      cases hx
      exact⟨ρ',true,gd,ext,ts,rfl,((hE h3 p5 G').ed rfl).up (c3 z lx hx0) hj⟩
theorem xo(I:Ih Φ n)(hs:sizeOf (Expr.ListComp elt [⟨tg,iter,ifs,0⟩] scope pos)<n+1)(h:aH Φ (.ListComp elt [⟨tg,iter,ifs,0⟩] scope pos) it sc ρ=.ok r l)(hp:aT l)(G:bA Φ X sc) :
  ∃ds f k,(aI ds=true\/k<=1)/\r.2<=1/\ds.length<sizeLine/\iU X.env scope (scope.names.map (·.1))/\(∀x d o,flt scope ρ x=some (d,o)->x∈scope.names.map (·.1))/\IE X ρ tg iter ds k /\
   (∀cl C s H fp,∀d∈ds,nW (mP X scope cl C (scope.names.map (·.1)) s H fp) (flt scope ρ) tg ifs elt r.2 d (f d))/\(∀x,foldedSetIterable iter X.env x=pure x)/\r.1=.lst (ds.filterMap f):=by
 rw[r9]at h
 split at h
 ·rename_i hc
  obtain⟨p,l1,l2,h1,p1,h,p2⟩:=bw h hp
  split at h
  ·rename_i ds hd
   split at h
   ·rename_i ht
    obtain⟨u0,l7,l8,h7,p7,h,p8⟩:=bw h p2
    cases h7
    have hl:=And.intro p7.1 p7.2.1
    obtain⟨q,l3,l4,h2,p3,h,p4⟩:=bw h p8
    split at h
    ·rename_i hj
     cases h
     obtain⟨f,e1,t⟩:=GR (λa b c=>I.e elt (by first|omega|(simp at *;omega)) a b c) (λa b c=>I.b .And ifs (by first|omega|(simp at *;omega)) a b c) hc G h2 p3 hj
     refine⟨ds,f,p.2,hl.2,hj,aI1 hl.1 sZ,Bn G hc,λx d o hx=>qd (lF hx).2,(I.e iter (by first|omega|(simp at *;omega)) h1 p1 G).ie rfl tg ds hd ht,t,tz h1,by rw[e1]⟩
    ·cases h
   ·cases h
  ·cases h
 ·cases h
theorem rW{gens:List Comprehension}(h:aH Φ (.ListComp elt gens scope pos) it sc ρ=.ok r l):∃tg iter ifs,gens=[⟨tg,iter,ifs,0⟩]:=by
 match gens,h with
 | [⟨tg,iter,ifs,0⟩],h=>exact⟨_,_,_,rfl⟩
 | [],h=>cases h
 | ⟨_,_,_,.ofNat (n+1)⟩::r,h=>cases r<;>cases h
 | ⟨_,_,_,.negSucc n⟩::_,h=>cases h
 | ⟨_,_,_,0⟩::_::_,h=>cases h
theorem Ug(I:Ih Φ n)(e:Expr)(hs:sizeOf e<n+1)(h:aH Φ e it sc ρ=.ok r l)(hp:aT l)(G:bA Φ X sc):gP X ρ e it r.1 r.2:=by
 cases e with
 | Constant c k p =>
  replace h:(match FS c with|some d=>.ok (d,0) []|none=>.st:R1)=.ok r l:=h
  split at h
  ·rename_i d hc;cases h;exact cT (NL hc) (λ_=>rfl)
  ·cases h
 | Name x p=>exact HR h G
 | BinOp a op b p=>exact KM I hs h hp G
 | UnaryOp op a p=>exact Qe I hs h hp G
 | BoolOp op es p =>
  rw[se]at h
  split at h
  ·cases h
  ·rename_i hne
   obtain⟨b,l1,l2,h1,p1,h,p2⟩:=bw h hp
   cases h
   have ne:es≠[]:=λz=>hne (by rw[z];rfl)
   have c:=I.b op es (bQ (by simp<;>omega) hs) h1 p1 G
   exact .of (c.ed ne p) λb' hb'=>by cases hb';exact λow=>(c.tw ne p ow).pt
 | Compare a ops bs p =>
  match ops,bs,hs,h with
  | [op],[b],hs,h=>exact KL I hs h hp G
  | [],bs,_,h=>cases h
  | [op],[],_,h=>cases h
  | [op],_::_::_,_,h=>cases h
  | [op,op2],[b,c],hs,h=>exact Cq I hs h hp G
  | [_,_],[],_,h=>cases h
  | [_,_],[_],_,h=>cases h
  | [_,_],_::_::_::_,_,h=>cases h
  | _::_::_::_,bs,_,h=>cases h
 | IfExp c a b p=>exact Qf I hs h hp G
 | Tuple es k p =>
  obtain⟨q,l1,l2,h1,p1,h,p2⟩:=bw (show Rs.bnd _ _=_ from h) hp
  split at h
  ·rename_i hl
   unfold mk at h;cases h
   exact cT (v6 (I.es es (bQ (by simp<;>omega) hs) h1 p1 G) hl) (λ_=>rfl)
  ·cases h
 | List es p =>
  obtain⟨q,l1,l2,h1,p1,h,p2⟩:=bw (show Rs.bnd _ _=_ from h) hp
  split at h
  ·rename_i hl
   cases h
   exact cT (JS (I.es es (bQ (by simp<;>omega) hs) h1 p1 G) hl.2 hl.1) (λ_=>rfl)
  ·cases h
 | Attribute a f p =>
  cases a with
  | Name x pn =>
   obtain⟨q,l1,l2,h1,p1,h,p2⟩:=bw (show Rs.bnd _ _=_ from h) hp
   have hea:=(I.e (.Name x pn) (bQ (by simp<;>omega) hs) (it:=false) h1 p1 G).ed rfl
   obtain⟨d,kd⟩:=q
   unfold Nz at h
   dsimp only at h hea
   split at h
   ·rename_i n ns ds
    split at h
    ·rename_i hf
     split at h
     ·rename_i e hl
      cases h
      exact cT (NK G hf hea rfl hl) (λ_=>rfl)
     ·cases h
    ·cases h
   ·cases h
  | _=>cases h
 | Dict ks vs p =>
  match ks,vs,h with
  | [],[],h=>cases h
  | _::_,_,h=>cases h
  | [],_::_,h=>cases h
 | Subscript a i p=>exact KJ I hs h hp G
 | Call f args kws p =>
  cases f with
  | Name f fp =>
   cases kws with
   | nil=>exact Cr I hs h hp G
   | cons _ _=>cases h
  | Attribute a m ap =>
   cases kws with
   | nil=>exact Cs I hs h hp G
   | cons _ _=>cases h
  | _=>cases h
 | ListComp elt gens scope p =>
  obtain⟨tg,iter,ifs,rfl⟩:=rW h
  obtain⟨ds,f,k,a1,a2,a3,a4,a5,a6,a7,a8,a9⟩:=xo I hs h hp G
  rw[a9]
  exact cT (JU G.calm G.nd a1 a2 a3 a4 a5 a6 a7 a8) (λ_=>rfl)
 | _=>cases h
theorem NC(I:Ih Φ n)(es:List Expr){r:List D×Nat}(hs:sizeOf es<n+1)(h:cZ Φ es sc ρ=.ok r l)(hp:aT l)(G:bA Φ X sc):AD X ρ es r.1 r.2:=by
 cases es with
 | nil=>cases h;exact mX
 | cons e es =>
  obtain⟨p,l1,l2,h1,p1,h,p2⟩:=bw (show Rs.bnd _ _=_ from h) hp
  obtain⟨q,l3,l4,h2,p3,h,p4⟩:=bw h p2
  cases h
  exact gN ((I.e e (bQ (by simp<;>omega) hs) h1 p1 G).ed rfl) (I.es es (bQ (by simp<;>omega) hs) h2 p3 G) (bC (qD h1))
theorem wr{c:Bool}{r:Rs Bool}{l:List Prop}(h:zI b r=.ok c l)(hp:aT l):(b=true/\∃m,r=.ok c m/\aT m)\/(b=false/\c=false):=by
 unfold zI at h
 split at h
 ·rename_i c' m
  cases h
  cases b with
  | true=>exact .inl ⟨rfl,m,rfl,qk hp rfl⟩
  | false=>exact .inr ⟨rfl,rfl⟩
 ·cases b with
  | true=>cases h
  | false=>cases h;exact .inr ⟨rfl,rfl⟩
theorem xG{c:Bool}{r:Rs Bool}{l:List Prop}(h:EZ b r=.ok c l)(hp:aT l):(b=false/\∃m,r=.ok c m/\aT m)\/(b=true/\c=true):=by
 unfold EZ at h
 split at h
 ·rename_i c' m
  cases h
  cases b with
  | false=>exact .inl ⟨rfl,m,rfl,qk hp rfl⟩
  | true=>exact .inr ⟨rfl,rfl⟩
 ·cases b with
  | false=>cases h
  | true=>cases h;exact .inr ⟨rfl,rfl⟩
theorem NE(I:Ih Φ n)(op:BoolOp)(es:List Expr)(hs:sizeOf es<n+1)(h:fv Φ op es sc ρ=.ok b l)(hp:aT l)(G:bA Φ X sc):fM X ρ op es b:=by
 cases es with
 | nil =>
  cases op with
  | And=>cases h;exact⟨λz=>absurd rfl z,λz=>absurd rfl z,λ_=>Ag⟩
  | Or=>cases h;exact⟨λz=>absurd rfl z,λz=>absurd rfl z,λz=>(by cases z)⟩
 | cons e es =>
  cases op with
  | And =>
   obtain⟨p,l1,l2,h1,p1,h,p2⟩:=bw (show Rs.bnd _ _=_ from h) hp
   obtain⟨b',hb,h⟩:=nU h
   have c:=I.e e (bQ (by simp<;>omega) hs) h1 p1 G
   have ce:=c.ed rfl
   rw[hb]at ce
   have ct:=c.td rfl b' hb
   rcases wr h p2 with⟨rfl,m,h,pm⟩|⟨rfl,rfl⟩
   ·cases es with
    | nil=>cases h;exact iD ce ct
    | cons e2 es=>exact wU ce ct (I.b .And (e2::es) (bQ (by simp<;>omega) hs) h pm G)
   ·cases es with
    | nil=>exact iD ce ct
    | cons e2 es=>exact wm ce ct (λpos=>⟨_,vp⟩) (λpos=>⟨_,vo⟩)
  | Or =>
   obtain⟨p,l1,l2,h1,p1,h,p2⟩:=bw (show Rs.bnd _ _=_ from h) hp
   obtain⟨b',hb,h⟩:=nU h
   have c:=I.e e (bQ (by simp<;>omega) hs) h1 p1 G
   have ce:=c.ed rfl
   rw[hb]at ce
   have ct:=c.td rfl b' hb
   rcases xG h p2 with⟨rfl,m,h,pm⟩|⟨rfl,rfl⟩
   ·cases es with
    | nil=>cases h;exact iD ce ct
    | cons e2 es=>exact zF ce ct (I.b .Or (e2::es) (bQ (by simp<;>omega) hs) h pm G)
   ·cases es with
    | nil=>exact iD ce ct
    | cons e2 es=>exact wT ce ct (λpos=>⟨_,vp⟩) (λpos=>⟨_,vo⟩)
theorem ND(I:Ih Φ n)(e:Option Expr){o:Option Int}(hs:sizeOf e<n+1)(h:mS Φ e sc ρ=.ok o l)(hp:aT l)(G:bA Φ X sc):OD X ρ e o:=by
 cases e with
 | none=>cases h;exact IW
 | some e =>
  obtain⟨p,l1,l2,h1,p1,h,p2⟩:=bw (show Rs.bnd _ _=_ from h) hp
  have c:=(I.e e (bQ (by simp<;>omega) hs) h1 p1 G).ed rfl
  split at h
  ·rename_i i hi
   cases h
   rw[hi]at c
   exact IV c
  ·cases h
end
theorem jp(Φ:Fx):∀n,Ih Φ n
 | 0=>⟨λ_ _ _ _ _ _ _ h=>absurd h (aK9 _),λ_ _ _ _ _ _ h=>absurd h (aK9 _),λ_ _ _ _ _ _ _ h=>absurd h (aK9 _),λ_ _ _ _ _ _ h=>absurd h (aK9 _)⟩
 | n+1=>⟨λe _ _ _ _ _ _ hs h hp G=>Ug (jp Φ n) e hs h hp G,λe _ _ _ _ _ hs h hp G=>NC (jp Φ n) e hs h hp G,λop e _ _ _ _ _ hs h hp G=>NE (jp Φ n) op e hs h hp G,λe _ _ _ _ _ hs h hp G=>ND (jp Φ n) e hs h hp G⟩
theorem Uh(e:Expr){p:D×Nat}{l:List Prop}(h:aH Φ e it sc ρ=.ok p l)(hp:aT l)(G:bA Φ X sc):gP X ρ e it p.1 p.2:=(jp Φ _).e e (aJ1 _) h hp G
theorem qB(es:List Expr){p:List D×Nat}{l:List Prop}(h:cZ Φ es sc ρ=.ok p l)(hp:aT l)(G:bA Φ X sc):AD X ρ es p.1 p.2:=(jp Φ _).es es (aJ1 _) h hp G
structure bJ(ow:Ow)(H:Hp)(ow':Ow)(H':Hp):Prop where
 keep:∀a o,H a=some o->(nm o\/ow a=none)->H' a=some o
 low:∀a o,H a=some o->ow a=none->ow' a=none
theorem bJ.refl(ow:Ow)(H:Hp):bJ ow H ow H:=⟨λ_ _ h _=>h,λ_ _ _ h=>h⟩
theorem bJ.same(s:aL H H'):bJ ow H ow H':=⟨λa o h _=>s a o h,λ_ _ _ h=>h⟩
theorem bJ.trans{ow1 ow2:Ow}{H2:Hp}(a:bJ ow H ow1 H1)(b:bJ ow1 H1 ow2 H2):bJ ow H ow2 H2 :=
 ⟨λx o h c=>b.keep x o (a.keep x o h c) (c.imp id λz=>a.low x o h z),λx o h z=>b.low x o (a.keep x o h (.inr z)) (a.low x o h z)⟩
noncomputable def cA(H0:Hp)(ow:Ow)(H:Hp):Prop:=∀a o,H0 a=some o->H a=some o/\ow a=none
theorem cA.keep(b:cA H0 ow H)(k:bJ ow H ow' H'):cA H0 ow' H':=λa o h=>let ⟨h1,h2⟩:=b a o h;⟨k.keep a o h1 (.inr h2),k.low a o h1 h2⟩
theorem cA.sm(b:cA H0 ow H):aL H0 H:=λa o h=>(b a o h).1
variable{X:Cx}
noncomputable def ph(X:Cx)(H0:Hp)(ow:Ow)(H:Hp)(fl:Fl)(D:jL):Prop :=
 match fl with
 | .nx ρ => ∀ow' σ' H',aR X ow' H' σ' ρ->σ'.length=X.N.length->bJ ow H ow' H'->D.nx σ' H'
 | .bk ρ => ∀ow' σ' H',aR X ow' H' σ' ρ->σ'.length=X.N.length->bJ ow H ow' H'->D.bk σ' H'
 | .ct ρ => ∀ow' σ' H',aR X ow' H' σ' ρ->σ'.length=X.N.length->bJ ow H ow' H'->D.ct σ' H'
 | .rt d => ∀v H',aL H0 H'->aj X.K H' (λa b=>b=true/\H0 a=none) d v->D.rt v H'
theorem ph.keep{D:jL}(p:ph X H0 ow H fl D)(k:bJ ow H ow' H'):ph X H0 ow' H' fl D:=by
 cases fl with
 | nx ρ=>exact λow2 σ2 H2 a b c=>p ow2 σ2 H2 a b (k.trans c)
 | bk ρ=>exact λow2 σ2 H2 a b c=>p ow2 σ2 H2 a b (k.trans c)
 | ct ρ=>exact λow2 σ2 H2 a b c=>p ow2 σ2 H2 a b (k.trans c)
 | rt d=>exact p
noncomputable def EM(X:Cx)(H0:Hp)(ρ:al)(fl:Fl):TS:=λD σ H => ∃ow,aR X ow H σ ρ/\σ.length=X.N.length/\cA H0 ow H/\ph X H0 ow H fl D
noncomputable def SD(X:Cx)(H0:Hp)(ρ:al)(st:Stmt)(fl:Fl):Prop:=PS X st (EM X H0 ρ fl)
noncomputable def fI(X:Cx)(H0:Hp)(ρ:al)(st:List Stmt)(fl:Fl):Prop:=eT X st (EM X H0 ρ fl)
theorem HV:fI X H0 ρ [] (.nx ρ):=λpins s σ H D I ⟨ow,E,hl,B,q⟩=>rO pins s σ H D I (q ow σ H E hl (bJ.refl _ _))
theorem oH{ρ1:al}(h1:SD X H0 ρ st (.nx ρ1))(h2:fI X H0 ρ1 ss fl):fI X H0 ρ (st::ss) fl:=λpins s σ H D I ⟨ow,E,hl,B,q⟩ =>
 du h1 h2 pins s σ H D I ⟨ow,E,hl,B,λow' σ' H' E' hl' k=>⟨ow',E',hl',B.keep k,q.keep k⟩⟩
theorem lh(h1:SD X H0 ρ st fl)(hf:∀ρ',fl ≠ .nx ρ'):fI X H0 ρ (st::ss) fl:=λpins s σ H D I ⟨ow,E,hl,B,q⟩ =>
 du h1 fZ pins s σ H D I ⟨ow,E,hl,B,by
  cases fl with
  | nx ρ'=>exact absurd rfl (hf ρ')
  | bk ρ'=>exact q
  | ct ρ'=>exact q
  | rt d=>exact q⟩
theorem AC(h:ED X ρ e d k)(hk:k=0\/k=2):SD X H0 ρ (.Return (some e) pos) (.rt d):=λpins s σ H D I ⟨ow,E,hl,B,q⟩ =>
 pS (h ow) pins s σ H D I ⟨E,λv H1 s1 r1=>q v H1 (B.sm.trans s1) (r1.imp λa b p=>by
  rcases hk with rfl|rfl
  ·exact⟨p.1,B.sm.free p.2⟩
  ·refine⟨p.1,p.2.elim (λz=>?_) B.sm.free⟩
   cases e0:H0 a with
   | none=>rfl
   | some o=>exact absurd (B a o e0).2 z)⟩
theorem JL(E:aR X ow H σ ρ):aR X (λ_=>none) H σ (gZ ρ):=by
 refine⟨λx d o h=>?_,λa z=>absurd rfl z⟩
 unfold gZ at h
 cases e:ρ x with
 | none=>rw[e]at h;cases h
 | some y =>
  rw[e]at h
  cases h
  obtain⟨i,v,h1,h2,h3,h4⟩:=E.get x y.1 y.2 e
  exact⟨i,v,h1,h2,h3,h4.imp λ_ _ _ _=>rfl⟩
theorem Ic(h:ED X (gZ ρ) e d k)(hk:k=0\/k=2):SD X H0 ρ (.Return (some e) pos) (.rt d):=λpins s σ H D I ⟨ow,E,hl,B,q⟩ =>
 pS (h λ_=>none) pins s σ H D I ⟨JL E,λv H1 s1 r1=>q v H1 (B.sm.trans s1) (r1.imp λa b p=>by
  rcases hk with rfl|rfl
  ·exact⟨p.1,B.sm.free p.2⟩
  ·exact⟨p.1,p.2.elim (λz=>absurd rfl z) B.sm.free⟩)⟩
theorem Ig(h:ED X ρ e d k)(hc:∃f p args ks cp,e=.Call (.Name f p) args ks cp):SD X H0 ρ (.Expr e pos) (.nx ρ):=λpins s σ H D I ⟨ow,E,hl,B,q⟩=>by
 obtain⟨f,p,args,ks,cp,rfl⟩:=hc
 exact kJ (h ow) rfl pins s σ H D I ⟨E,λv H1 s1 r1=>q ow σ H1 (E.same s1) hl (bJ.same s1)⟩
theorem Ib:SD X H0 ρ (.Return none pos) (.rt .non):=λpins s σ H D I ⟨ow,E,hl,B,q⟩=>Iu pins s σ H D I (q .non H B.sm (by rw[aj]))
theorem Id:SD X H0 ρ (.Pass pos) (.nx ρ):=λpins s σ H D I ⟨ow,E,hl,B,q⟩=>Iv pins s σ H D I (q ow σ H E hl (bJ.refl _ _))
theorem CF:SD X H0 ρ (.Break pos) (.bk ρ):=λpins s σ H D I ⟨ow,E,hl,B,q⟩=>CK pins s σ H D I (q ow σ H E hl (bJ.refl _ _))
theorem Ii:SD X H0 ρ (.Continue pos) (.ct ρ):=λpins s σ H D I ⟨ow,E,hl,B,q⟩=>wK pins s σ H D I (q ow σ H E hl (bJ.refl _ _))
theorem Q0{a b:List Stmt}(hc:TD X ρ c t)(h:if t=true then fI X H0 ρ a fl else fI X H0 ρ b fl):SD X H0 ρ (.If c a b pos) fl:=by
 cases t with
 | true =>
  intro pins s σ H D I ⟨ow,E,hl,B,q⟩
  exact ue (hc ow) h fZ pins s σ H D I ⟨E,λH1 s1=>by
   show if true=true then _ else _
   rw[if_pos rfl]
   exact⟨ow,E.same s1,hl,B.keep (bJ.same s1),q.keep (bJ.same s1)⟩⟩
 | false =>
  intro pins s σ H D I ⟨ow,E,hl,B,q⟩
  exact ue (hc ow) fZ h pins s σ H D I ⟨E,λH1 s1=>by
   show if false=true then _ else _
   rw[if_neg aH9]
   exact⟨ow,E.same s1,hl,B.keep (bJ.same s1),q.keep (bJ.same s1)⟩⟩
theorem sj(hN:X.N.Nodup)(hl:σ.length=X.N.length)(E:aR X ow H σ ρ)(sm:aL H H1)(hi:X.N[i]?=some x)(hv:eB X.env.scope x)(r:aj X.K H1 (Kp ow H 0) d v) :
  ∃ow',aR X ow' H1 (σ.set i (some v)) (bF ρ x (d,true))/\bJ ow H ow' H1:=by
 classical
 let ow':Ow:=λa=>if H a=none/\∃o,H1 a=some o then some (some x)else ow a
 have o1:∀a o,H a=some o->ow' a=ow a:=λa o h=>if_neg (λz=>by rw[h]at z;cases z.1)
 have E1:aR X ow' H1 σ ρ:=⟨λy e o h=>by
  obtain⟨j,w,e1,e2,e3,e4⟩:=E.get y e o h
  refine⟨j,w,e1,e2,e3,aj.same sm (e4.impH (λa ob ha p=>?_) λa p=>?_)⟩
  ·cases o with
   | true=>exact⟨p.1,(o1 a ob ha).trans p.2⟩
   | false=>exact λz=>(o1 a ob ha).trans (p z)
  ·cases o with
   | true=>cases p.1
   | false=>exact λz=>(by cases z),λa ha=>by
  by_cases hz:H a=none/\∃o,H1 a=some o
  ·exact hz.2
  ·have:ow' a=ow a:=if_neg hz
   rw[this]at ha
   exact(E.own.same sm) a ha⟩
 refine⟨ow',fL hN hl E1 hi hv (r.impH (λa o ha p=>⟨rfl,if_pos ⟨p.2,o,ha⟩⟩) λa p=>(by cases p.1)),λa o h _=>sm a o h,λa o h z=>(o1 a o h).trans z⟩
theorem jY{t:Option Expr}(h:qg e=false):swapsWith e t n env=pure false:=by
 cases e<;>first|rfl|cases h
theorem vf{o:Bool}(G:bA Φ X sc)(hx:eI sc x=true)(h:ED X ρ e d k)(ho:(k=0/\o=true)\/(k=1/\o=false))(hs:swapsWith e (some (.Name x p)) pos.line X.env=pure false) :
  SD X H0 ρ (.Assign [.Name x p] e pos) (.nx (bF ρ x (d,o))):=by
 obtain⟨g1,g2,g3,i,g4⟩:=f9 G hx
 intro pins s σ H D I ⟨ow,E,hl,B,q⟩
 refine AI (i:=i) G.nd g4 g1 (h ow) hs g3 pins s σ H D I ⟨E,λv H1 s1 r1=>?_⟩
 show D.nx (σ.set i (some v)) H1
 rcases ho with⟨rfl,rfl⟩|⟨rfl,rfl⟩
 ·obtain⟨ow',E',k'⟩:=sj G.nd hl E s1 g4 g2 r1
  exact q ow' _ H1 E' (by rw[aJ9];exact hl) k'
 ·exact q ow _ H1 (fL G.nd hl (E.same s1) g4 g2 r1) (by rw[aJ9];exact hl) (bJ.same s1)
theorem jM:swapsWithSole [.Tuple es n p] e k env=pure false:=by
 cases e<;>rfl
theorem sS{i:Expr}:swapsWithSole [.Subscript a i p] e k env=pure false:=by
 cases e<;>rfl
noncomputable def aj1(K:W.Frag)(n:Nat)(t:rc):TG:=λv σ H Q => ∃a xs,v=.ref a/\dG K H a xs/\xs.length=n/\t xs σ H Q
theorem LJ{t:rc}(hc:X.calm=true)(h:yk X es t)
  (hn:(assignEach es X.env).length=n) (hst:(assignEach es X.env).findIdx? (·.1)=none):PG X (.Tuple es k pos) (aj1 X.K n t):=by
 intro pins s σ H v u Q I r hw
 obtain⟨a,xs,e1,hq,hl,hw⟩:=hw
 subst e1
 cases r
 obtain⟨its,rv,pl,hz⟩:=I.list hq
 have hsz:(assignEach es X.env).length=its.toArray.size:=by simp[hn,<- hl,rv.length]
 rw[assign_Tuple]
 refine aF4 (wpAny_standAt ?_)
 unfold unpack
 rw[hst,hsz]
 refine aF4 (wpAny_holding (W.kun_itemsOf (I.ok.hd hc) pl.isList λh' hx=>?_))
 have I1:aq X pins σ H { s with heap:=h' }:=I.kept (t':=s.toks) λb o e=>hx b o (aJ0 (aG2 e)) e
 exact h pins _ σ H xs _ Q I1 (by simpa using rv) hw
theorem pN(o:fy ow H)(hf:aI ds=true\/k<=1)(r:am X.K H1 (Kp ow H k) ds vs):am X.K H1 (λa b=>b=true->ow a=none) ds vs:=by
 rcases hf with hf|hf
 ·exact r.flat _ hf
 ·exact r.imp λa b p hb=>by subst hb;exact iJ o hf p
theorem rH(G:bA Φ X sc)(ht:pH sc es e=false):swappedStores [.Tuple es n p] e X.env=pure none:=by
 unfold pH at ht
 cases hte:iK e with
 | false=>cases e<;>first|rfl|cases hte
 | true =>
  rw[hte]at ht
  have hc:wj sc es e=true:=by simpa using ht
  unfold wj at hc
  split at hc
  ·rename_i x px y py a b m q
   have k1:X.env.kindOf x=some .cell:=G.cc x (by simpa using hc)
   unfold swappedStores
   dsimp only
   split
   ·rfl
   ·split
    ·rfl
    ·rw[if_pos]
     rw[List.filterMap_cons_none (by simp[k1])]
     have:∀l:List Str,l.length<=1->(l.length != [Expr.Name x px,Expr.Name y py].length || l.eraseDups.length != l.length)=true:=λl hl=>by
      have:(l.length != [Expr.Name x px,Expr.Name y py].length)=true:=by simp;omega
      rw[this];rfl
     exact this _ (aF5 (List.length_filterMap_le _ _) (aF9 _))
  ·cases hc
theorem Le(G:bA Φ X sc)(h:ED X ρ e d k)(hd:gD d=some ds)(hf:aI ds=true\/k<=1)(hb:bL sc es ds ρ=some ρ')(ht:pH sc es e=false) :
  SD X H0 ρ (.Assign [.Tuple es n p] e pos) (.nx ρ'):=by
 obtain⟨t,h1,h2,h3,h4⟩:=mE G hb
 intro pins s σ H D I ⟨ow,E,hl,B,q⟩
 have fin:∀H1 vs,aL H H1->am X.K H1 (Kp ow H k) ds vs->t vs σ H1 D.nx:=λH1 vs s1 rl=>h4 ow vs σ H1 D.nx hl (E.same s1) (pN E.own hf rl) λσ' hl' E'=>q ow σ' H1 E' hl' (bJ.same s1)
 rcases ik hd with rfl|rfl
 ·refine mC (h ow) (pU (n:=_) G.calm h1 h2 h3) jM (rH G ht) rfl pins s σ H D I ⟨E,λv H1 s1 r1=>?_⟩
  obtain⟨a,vs,rfl,hs,rl⟩:=jh r1
  exact⟨a,vs,rfl,hs,rl.length.symm,fin H1 vs s1 rl⟩
 ·refine mC (h ow) (LJ (n:=_) G.calm h1 h2 h3) jM (rH G ht) rfl pins s σ H D I ⟨E,λv H1 s1 r1=>?_⟩
  obtain⟨a,vs,rfl,hs,rl⟩:=jN r1
  exact⟨a,vs,rfl,hs,rl.length.symm,fin H1 vs s1 rl⟩
theorem Rk{P:bU}{a b:D}(h:am K H P [a,b] vs):∃x y,vs=[x,y]/\aj K H P a x/\aj K H P b y:=by
 rw[am]at h
 obtain⟨x,r,rfl,h1,h⟩:=h
 rw[am]at h
 obtain⟨y,r,rfl,h2,h⟩:=h
 rw[am]at h
 subst h
 exact⟨x,y,rfl,h1,h2⟩
theorem Ie{pt:Pos}{p:D×Nat}(G:bA Φ X sc)(h:ED X ρ e p.1 p.2)(ho:vw sc es p=true)(ht:pH sc es e=false) :
  SD X H0 ρ (.Assign [.Tuple es n pt] e pos) (.nx (yK es p ρ)):=by
 obtain⟨d,k⟩:=p
 unfold vw at ho
 split at ho
 ·rename_i x px y py d1 d2 e0 e1
  have e0:d=_:=e0
  have e1:k=_:=e1
  subst e0 e1
  simp only[aH4,Bool.not_eq_true',decide_eq_false_iff_not]at ho
  obtain⟨⟨⟨⟨f1,_⟩,hxy⟩,hx⟩,hy⟩:=ho
  obtain⟨g1,g2,g3,i,g4⟩:=f9 G hx
  obtain⟨j1,j2,j3,j,j4⟩:=f9 G hy
  have hij:i≠j:=λz=>by subst z;rw[g4]at j4;exact hxy (aK6 j4)
  intro pins s σ H D I ⟨ow,E,hl,B,q⟩
  refine mC (h ow) (pU (n:=2) G.calm (jk (il (i:=i) G.nd g4 g1 g3) (jk (il (i:=j) G.nd j4 j1 j3) rP rfl) rfl) rfl rfl) jM (rH G ht) rfl pins s σ H D I ⟨E,λv H1 s1 r1=>?_⟩
  obtain⟨a,vs,rfl,hs,rl⟩:=jh r1
  obtain⟨v1,v2,rfl,r2,r3⟩:=Rk rl
  refine⟨a,[v1,v2],rfl,hs,rfl,v1,[v2],rfl,v2,[],rfl,rfl,?_⟩
  obtain⟨ow',E',k'⟩:=sj G.nd hl E s1 j4 j2 r3
  have hl':(σ.set j (some v2)).length=X.N.length:=by rw[aJ9];exact hl
  have E2:=fL (o:=false) G.nd hl' E' g4 g2 (r2.flat _ f1)
  rw[List.set_comm _ _ hij]
  exact q ow' _ H1 E2 (by rw[aJ9];exact hl') k'
 ·cases ho
theorem yz{y:Str}{b:Expr}(G:bA Φ X sc)(hk:X.env.scope.kind=.function)(h:pW sc x y px py a b=true)(ha:∀x p,a ≠ .Starred x p)(hb:∀x p,b ≠ .Starred x p) :
  swappedStores [.Tuple [.Name x px,.Name y py] n p] (.Tuple [a,b] n2 p2) X.env=pure (some [x,y]):=by
 unfold pW at h
 simp only[aH4,Bool.not_eq_true',aQ3,decide_eq_false_iff_not]at h
 obtain⟨⟨⟨⟨⟨h1,h2⟩,h3⟩,h4⟩,h5⟩,h6⟩:=h
 have k1:X.env.kindOf x=some .local:=G.lc x h1
 have k2:X.env.kindOf y=some .local:=G.lc y h2
 have bk:X.env.blockKind=.function:=by unfold Env.blockKind;rw[hk];rfl
 have an:∀f:Expr->Bool,(∀e,(∀x p,e ≠ .Starred x p)->f e=false) -> ¬ ([a,b].any f=true):=λf hf=>by simp[hf a ha,hf b hb]
 have fm:∀f:Expr->Option Str,f (.Name x px)=some x->f (.Name y py)=some y->[Expr.Name x px,Expr.Name y py].filterMap f=[x,y]:=λf h1 h2=>by simp[h1,h2]
 have ed:[x,y].eraseDups=[x,y]:=by
  have e1:(!(y==x))=true:=by simp;exact λz=>h4 z.symm
  rw[List.eraseDups_cons,List.filter_cons_of_pos (p:=λb => !b==x) e1,List.filter_nil]
  rfl
 unfold swappedStores
 dsimp only
 rw[bk]
 refine(if_neg (by simp)).trans ?_
 refine(if_neg (an _ λe he=>by cases e<;>first|rfl|exact absurd rfl (he _ _))).trans ?_
 rw[fm _ (by show(if (X.env.kindOf x==some NameKind.local&&px.line==px.line)=true then some x else none)=some x;rw[k1];simp) (by show(if (X.env.kindOf y==some NameKind.local&&py.line==px.line)=true then some y else none)=some y;rw[k2,h3];simp)]
 rw[ed]
 refine(if_neg (by simp)).trans ?_
 rw[h5,h6]
 rfl
theorem Lf{b:Expr}{y:Str}{u v:D}(G:bA Φ X sc)(h:AD X ρ [a,b] [u,v] k)(hf:aI [u,v]=true\/k<=1)(hp:pW sc x y px py a b=true)(ha:∀x p,a ≠ .Starred x p)(hb:∀x p,b ≠ .Starred x p) :
  SD X H0 ρ (.Assign [.Tuple [.Name x px,.Name y py] n p] (.Tuple [a,b] n2 p2) pos) (.nx (bF (bF ρ x (u,false)) y (v,false))):=by
 have hp0:=hp
 unfold pW at hp
 simp only[aH4,Bool.not_eq_true',aQ3,decide_eq_false_iff_not]at hp
 obtain⟨⟨⟨⟨⟨l1,l2⟩,_⟩,hxy⟩,_⟩,_⟩:=hp
 obtain⟨g1,g2,g3,i,g4⟩:=f9 (x:=x) G (by unfold eI;rw[l1];rfl)
 obtain⟨j1,j2,j3,j,j4⟩:=f9 (x:=y) G (by unfold eI;rw[l2];rfl)
 have hij:i≠j:=by intro z;subst z;rw[g4]at j4;cases j4;exact hxy rfl
 intro pins s σ H D I ⟨ow,E,hl,B,q⟩
 refine Ly (i:=i) (j:=j) G.calm G.nd g4 j4 hij (G.lc x l1) (G.lc y l2) (h ow) (yz G I.ok.kind hp0 ha hb) jM pins s σ H D I ⟨E,λvs H1 s1 r1=>?_⟩
 have rs:=pN E.own hf r1
 rw[am]at rs
 obtain⟨v1,r,rfl,rv1,rs⟩:=rs
 obtain⟨v2,rfl,rv2⟩:=rs.only
 refine⟨v1,v2,rfl,?_⟩
 have E1:=fL (o:=false) G.nd hl (E.same s1) g4 g2 rv1
 have hl1:(σ.set i (some v1)).length=X.N.length:=by rw[aJ9];exact hl
 exact q ow _ H1 (fL (o:=false) G.nd hl1 E1 j4 j2 rv2) (by rw[aJ9];exact hl1) (bJ.same s1)
theorem Bm{a:Addr}(E:aR X ow H1 σ ρ)(hi:X.N[i]?=some x)(hs:σ[i]?=some (some (.ref a)))
  (hv:eB X.env.scope x) (ha:H1 a=some (.lst vs)) (ho:ow a=some (some x)) (f:aI l'=true) (r:am X.K H1 (λ_ _=>True) l' vs') :
  aR X ow (bo H1 a (.lst vs')) σ (bF ρ x (.lst l',true)):=by
 have st:∀{P:bU},(P a true->False)->fR P P H1 (bo H1 a (.lst vs')):=λ{P} h=>⟨λb o hb hn=>by rw[aK (λz=>by subst z;rw[ha]at hb;cases hb;exact hn)];exact hb,λb ws hb p=>by rw[aK (λz=>by subst z;exact h p)];exact hb,λ_ _ _ p=>p,λ_ p=>p⟩
 have r':am X.K (bo H1 a (.lst vs')) (mF ow x true) l' vs':=am.flat _ f ((r.flat (λ_ _=>False) f).mono (st λz=>z))
 refine⟨λy e o h=>?_,λb hb=>?_⟩
 ·rw[dr]at h
  by_cases hy:y=x
  ·subst hy
   rw[if_pos rfl]at h
   cases h
   exact⟨i,.ref a,hi,hv,hs,by rw[aj];exact⟨a,vs',true,rfl,aU,⟨rfl,ho⟩,r'⟩⟩
  ·rw[if_neg hy]at h
   obtain⟨j,w,e1,e2,e3,e4⟩:=E.get y e o h
   refine⟨j,w,e1,e2,e3,e4.mono (st λp=>?_)⟩
   cases o with
   | true=>have:=p.2;rw[ho]at this;cases this;exact hy rfl
   | false=>have:=p rfl;rw[ho]at this;cases this
 ·by_cases hz:b=a
  ·subst hz;exact⟨_,aU⟩
  ·rw[aK hz];exact E.own b hb
theorem LW(E:aR X ow H σ ρ)(h:ρ x=some (.lst l,true)):∃(i:Nat) (a:Addr) (vs:List V),X.N[i]?=some x/\eB X.env.scope x/\σ[i]?=some (some (.ref a))/\H a=some (.lst vs)/\ow a=some (some x)/\am X.K H (λ_ _=>True) l vs:=by
 obtain⟨i,v,e1,e2,e3,e4⟩:=E.get x _ _ h
 rw[aj]at e4
 obtain⟨a,vs,b,rfl,hl,hp,rl⟩:=e4
 cases hp.1
 exact⟨i,a,vs,e1,e2,e3,hl,hp.2,rl.imp λ_ _ _=>True.intro⟩
theorem zd{a:Addr}(sm:aL H H1)(h0:H a=some (.lst vs))(ho:ow a=some (some x)):bJ ow H ow (bo H1 a (.lst vs')) :=
 ⟨λb o h c=>by
  rw[aK (λz=>by
   subst z
   rw[h0]at h;cases h
   rcases c with c|c
   ·exact c
   ·rw[ho]at c;cases c)]
  exact sm b o h,λ_ _ _ z=>z⟩
theorem jo(I:aq X pins σ H s){a:Addr}{o:Obj}(h:X.K.lookup a=some o):H a=none:=(I.bs a o (I.ok.mod.kin a o h)).2
mutual
noncomputable def D.lsz:D->Nat
 | .lst l=>1+jZ l
 | .tup l=>jZ l
 | _=>0
noncomputable def jZ:List D->Nat
 | []=>0
 | d::l=>d.lsz+jZ l
end
theorem C7(I:aq X pins σ H s){P:bU}{a:Addr}(ha:H a=some (.lst vs))(h:aj X.K H P d (.ref a)):∃l,d=.lst l:=by
 cases d with
 | lst l=>exact⟨l,rfl⟩
 | tup l =>
  rw[aj]at h
  obtain⟨a',vs',e,hs,_⟩:=h
  cases e
  rcases hs with(q|⟨o,q⟩)|⟨o,its,n,q,_⟩
  ·rw[ha]at q;cases q
  ·rw[ha]at q;cases q
  ·rw[jo I q]at ha;cases ha
 | dct _ _=>rw[aj]at h;obtain⟨_,_,a',_,e,hl,_⟩:=h;cases e;rw[ha]at hl;cases hl
 | dcf _ _=>rw[aj]at h;obtain⟨_,a',_,_,e,hl,_⟩:=h;cases e;rw[ha]at hl;cases hl
 | dft _ _ _=>rw[aj]at h;obtain⟨_,a',_,_,e,hl,_⟩:=h;cases e;rw[ha]at hl;cases hl
 | sn m=>rw[aj]at h;obtain⟨a',S,e,hl⟩:=h;cases e;rw[ha]at hl;cases hl
 | obj n ns es=>rw[aj]at h;obtain⟨_,_,a',C,dx,vs',e,_,_,hl,_⟩:=h;cases e;rw[ha]at hl;cases hl
 | cls n=>rw[aj]at h;obtain⟨C,o',e,_,hl,_⟩:=h;cases e;rw[jo I hl]at ha;cases ha
 | _=>rw[aj]at h;cases h
theorem BZ(I:aq X pins σ H s){P:bU}(hP:∀a b,P a b->b=true){a:Addr}(ha:ck X.K H a vs)(h:aj X.K H P d (.ref a)):∃l,d=.tup l/\am X.K H P l vs:=by
 have no:∀o,H a=some o->(∀xs,o ≠ .tup xs)->(∀p q,o ≠ .frz p q)->False:=λo e h1 h2=>by
  rcases ha with(q|⟨o',q⟩)|⟨o',its,n,q,_⟩
  ·rw[e]at q;cases q;exact h1 _ rfl
  ·rw[e]at q;cases q;exact h2 _ _ rfl
  ·rw[jo I q]at e;cases e
 cases d with
 | lst l =>
  rw[aj]at h
  obtain⟨a',vs',b,e,hl,p,_⟩:=h
  cases e
  cases hP _ _ p
  exact(no _ hl (λ_ z=>nomatch z) λ_ _ z=>nomatch z).elim
 | tup l =>
  rw[aj]at h
  obtain⟨a',vs',e,hs,rl⟩:=h
  cases e
  have:=I.tuple_inj ha hs
  subst this
  exact⟨l,rfl,rl⟩
 | dct _ _=>rw[aj]at h;obtain⟨_,_,a',_,e,hl,_⟩:=h;cases e;exact(no _ hl (λ_ z=>nomatch z) λ_ _ z=>nomatch z).elim
 | dft _ _ _ =>
  rw[aj]at h
  obtain⟨_,a',o2,_,e,hl,_⟩:=h
  cases e
  rcases ha with(q|⟨o',q⟩)|⟨o',its,n,q,_⟩
  ·rw[q]at hl;cases hl
  ·rw[q]at hl;cases hl
  ·rw[jo I q]at hl;cases hl
 | dcf _ _ =>
  rw[aj]at h
  obtain⟨_,a',o2,_,e,hl,_⟩:=h
  cases e
  rcases ha with(q|⟨o',q⟩)|⟨o',its,n,q,_⟩
  ·rw[q]at hl;cases hl
  ·rw[q]at hl;cases hl
  ·rw[jo I q]at hl;cases hl
 | sn m=>rw[aj]at h;obtain⟨a',S,e,hl⟩:=h;cases e;exact(no _ hl (λ_ z=>nomatch z) λ_ _ z=>nomatch z).elim
 | obj n ns es=>rw[aj]at h;obtain⟨_,_,a',C,dx,vs',e,_,_,hl,_⟩:=h;cases e;exact(no _ hl (λ_ z=>nomatch z) λ_ _ z=>nomatch z).elim
 | cls n =>
  rw[aj]at h
  obtain⟨C,o',e,_,hl,ht,_⟩:=h
  cases e
  rcases ha with(q|⟨o,q⟩)|⟨o,its,n,q,hc,_⟩
  ·rw[jo I hl]at q;cases q
  ·rw[jo I hl]at q;cases q
  ·rw[hl]at q;cases q;rw[hc]at ht;injection ht with ht;exact absurd ht (by decide)
 | _=>rw[aj]at h;cases h
mutual
theorem vk{pins:List (Addr×Obj)}{σ:L2.St}{H:Hp}{s:Shared}(I:aq X pins σ H s){P:bU}(hP:∀a b,P a b->b=true):∀(d d':D) (v:V),aj X.K H P d v->aj X.K H P d' v->d.lsz<=d'.lsz
 | .tup l,d',v,h,h'=>by
  rw[aj]at h
  obtain⟨a,vs,rfl,hs,rl⟩:=h
  obtain⟨l',rfl,rl'⟩:=BZ I hP hs h'
  rw[D.lsz,D.lsz];exact my I hP l l' vs rl rl'
 | .lst l,d',v,h,h'=>by
  rw[aj]at h
  obtain⟨a,vs,b,rfl,hs,p,rl⟩:=h
  cases hP _ _ p
  replace hs:H a=some (.lst vs):=hs
  obtain⟨l',rfl⟩:=C7 I hs h'
  rw[aj]at h'
  obtain⟨a',vs',b,e,hl,p',rl'⟩:=h'
  cases e
  cases hP _ _ p'
  replace hl:H a=some (.lst vs'):=hl
  rw[hs]at hl;cases hl
  rw[D.lsz,D.lsz]
  exact Nat.add_le_add_left (my I hP l l' vs rl rl') 1
 | .non,_,_,_,_=>aH5 _
 | .bl _,_,_,_,_=>aH5 _
 | .int _,_,_,_,_=>aH5 _
 | .str _,_,_,_,_=>aH5 _
 | .dct _ _,_,_,_,_=>aH5 _
 | .typ _,_,_,_,_=>aH5 _
 | .dcf _ _,_,_,_,_=>aH5 _
 | .dft _ _ _,_,_,_,_=>aH5 _
 | .sn _,_,_,_,_=>aH5 _
 | .obj _ _ _,_,_,_,_=>aH5 _
 | .cls _,_,_,_,_=>aH5 _
theorem my{pins:List (Addr×Obj)}{σ:L2.St}{H:Hp}{s:Shared}(I:aq X pins σ H s){P:bU}(hP:∀a b,P a b->b=true):∀(l l':List D) (vs:List V),am X.K H P l vs->am X.K H P l' vs->jZ l<=jZ l'
 | [],l',vs,h,h'=>aH5 _
 | d::l,l',vs,h,h'=>by
  rw[am]at h
  obtain⟨v,r,rfl,h1,h2⟩:=h
  cases l' with
  | nil=>rw[am]at h';cases h'
  | cons d' l' =>
   rw[am]at h'
   obtain⟨v',r',e,h1',h2'⟩:=h'
   cases e
   rw[jZ,jZ]
   exact aP4 (vk I hP d d' v h1 h1') (my I hP l l' r h2 h2')
end
mutual
theorem Ls{pins:List (Addr×Obj)}{σ:L2.St}{H:Hp}{s:Shared}(I:aq X pins σ H s){P:bU}(hP:∀a b,P a b->b=true){A:Addr}{l:List D}(hA:aj X.K H P (.lst l) (.ref A)):∀(d:D) (v:V),d.lsz<(D.lst l).lsz->aj X.K H P d v->aj X.K H (λa b=>P a b/\a≠A) d v
 | .tup m,v,hs,h=>by
  rw[aj]at h⊢
  obtain⟨a,vs,e,h1,h2⟩:=h
  exact⟨a,vs,e,h1,nD I hP hA m vs (by rw[D.lsz]at hs;exact hs) h2⟩
 | .lst m,v,hs,h=>by
  have h0:=h
  rw[aj]at h⊢
  obtain⟨a,vs,b,e,h1,p,h2⟩:=h
  refine⟨a,vs,b,e,h1,⟨p,λz=>?_⟩,nD I hP hA m vs (by rw[D.lsz]at hs;omega) h2⟩
  subst e z
  have:=vk I hP _ _ _ hA h0
  exact absurd (aG7 hs this) (aJ7 _)
 | .non,v,_,h=>by rw[aj]at h⊢;exact h
 | .bl _,v,_,h=>by rw[aj]at h⊢;exact h
 | .int _,v,_,h=>by rw[aj]at h⊢;exact h
 | .str _,v,_,h=>by rw[aj]at h⊢;exact h
 | .dct ks es,v,_,h=>by
  rw[aj]at h⊢
  obtain⟨f,e0,a,vs,e,h1,p,r⟩:=h
  refine⟨f,e0,a,vs,e,h1,⟨p,λz=>?_⟩,r.flat _ f⟩
  subst z
  rw[aj]at hA
  obtain⟨a2,vs2,b,e2,hl,p2,_⟩:=hA
  cases e2
  cases hP _ _ p2
  replace hl:H a=some (.lst vs2):=hl
  rw[h1]at hl;cases hl
 | .typ _,v,_,h=>by rw[aj]at h⊢;exact h
 | .dcf _ _,v,_,h=>by rw[aj]at h⊢;exact h
 | .dft _ _ _,v,_,h=>by rw[aj]at h⊢;exact h
 | .sn _,v,_,h=>by rw[aj]at h⊢;exact h
 | .obj n ns es,v,_,h=>h.flat _ rfl
 | .cls n,v,_,h=>h.flat _ rfl
theorem nD{pins:List (Addr×Obj)}{σ:L2.St}{H:Hp}{s:Shared}(I:aq X pins σ H s){P:bU}(hP:∀a b,P a b->b=true){A:Addr}{l:List D}(hA:aj X.K H P (.lst l) (.ref A)):∀(m:List D) (vs:List V),jZ m<(D.lst l).lsz->am X.K H P m vs->am X.K H (λa b=>P a b/\a≠A) m vs
 | [],vs,_,h=>by rw[am]at h⊢;exact h
 | d::m,vs,hs,h=>by
  rw[am]at h⊢
  obtain⟨v,r,e,h1,h2⟩:=h
  exact⟨v,r,e,Ls I hP hA d v (by rw[jZ]at hs;omega) h1,nD I hP hA m r (by rw[jZ]at hs;omega) h2⟩
end
theorem LX(I:aq X pins σ H s)(E:aR X ow H σ ρ)(h:ρ x=some (.lst l,true)):∃(i:Nat) (a:Addr) (vs:List V),X.N[i]?=some x/\eB X.env.scope x/\σ[i]?=some (some (.ref a))/\H a=some (.lst vs)/\ow a=some (some x)/\am X.K H (λb c=>mF ow x true b c/\b≠a) l vs:=by
 obtain⟨i,v,e1,e2,e3,e4⟩:=E.get x _ _ h
 have e5:=e4
 rw[aj]at e4
 obtain⟨a,vs,b,rfl,hl,hp,rl⟩:=e4
 cases hp.1
 exact⟨i,a,vs,e1,e2,e3,hl,hp.2,nD I (λ_ _ p=>p.1) e5 l vs (by rw[D.lsz];omega) rl⟩
theorem JK{a:Addr}(E:aR X ow H σ ρ)(sm:aL H H1)(hi:X.N[i]?=some x)(hs:σ[i]?=some (some (.ref a)))
  (hv:eB X.env.scope x) (h0:H a=some (.lst vs)) (ho:ow a=some (some x)) (r:am X.K H1 (λb c=>(mF ow x true b c/\b≠a)\/Kp ow H 0 b c) l' vs') :
  ∃ow',aR X ow' (bo H1 a (.lst vs')) σ (bF ρ x (.lst l',true))/\bJ ow H ow' (bo H1 a (.lst vs')):=by
 classical
 let ow':Ow:=λa=>if H a=none/\∃o,H1 a=some o then some (some x)else ow a
 have o1:∀a o,H a=some o->ow' a=ow a:=λa o h=>if_neg (λz=>by rw[h]at z;cases z.1)
 have ha:H1 a=some (.lst vs):=sm _ _ h0
 have ho':ow' a=some (some x):=(o1 a _ h0).trans ho
 have E1:aR X ow' H1 σ ρ:=⟨λy e o h=>by
  obtain⟨j,w,e1,e2,e3,e4⟩:=E.get y e o h
  refine⟨j,w,e1,e2,e3,aj.same sm (e4.impH (λa ob ha p=>?_) λa p=>?_)⟩
  ·cases o with
   | true=>exact⟨p.1,(o1 a ob ha).trans p.2⟩
   | false=>exact λz=>(o1 a ob ha).trans (p z)
  ·cases o with
   | true=>cases p.1
   | false=>exact λz=>(by cases z),λa ha=>by
  by_cases hz:H a=none/\∃o,H1 a=some o
  ·exact hz.2
  ·have:ow' a=ow a:=if_neg hz
   rw[this]at ha
   exact(E.own.same sm) a ha⟩
 have st:∀{P:bU},(P a true->False)->fR P P H1 (bo H1 a (.lst vs')):=λ{P} h=>⟨λb o hb hn=>by rw[aK (λz=>by subst z;rw[ha]at hb;cases hb;exact hn)];exact hb,λb ws hb p=>by rw[aK (λz=>by subst z;exact h p)];exact hb,λ_ _ _ p=>p,λ_ p=>p⟩
 have r1:am X.K H1 (λb c=>mF ow' x true b c/\b≠a) l' vs':=r.impH (λb o hb p=>by
  rcases p with⟨p,hne⟩|p
  ·refine⟨⟨rfl,?_⟩,hne⟩
   by_cases hz:H b=none/\∃o,H1 b=some o
   ·exact if_pos hz
   ·exact(if_neg hz).trans p.2
  ·exact⟨⟨rfl,if_pos ⟨p.2,o,hb⟩⟩,λz=>by subst z;rw[p.2]at h0;cases h0⟩) λb p=>by
  rcases p with⟨p,_⟩|p
  ·cases p.1
  ·cases p.1
 have r':am X.K (bo H1 a (.lst vs')) (mF ow' x true) l' vs':=(r1.mono (st λz=>z.2 rfl)).imp λ_ _ p=>p.1
 refine⟨ow',⟨λy e o h=>?_,λb hb=>?_⟩,λb o h c=>?_,λb o h z=>(o1 b o h).trans z⟩
 ·rw[dr]at h
  by_cases hy:y=x
  ·subst hy
   rw[if_pos rfl]at h
   cases h
   exact⟨i,.ref a,hi,hv,hs,by rw[aj];exact⟨a,vs',true,rfl,aU,⟨rfl,ho'⟩,r'⟩⟩
  ·rw[if_neg hy]at h
   obtain⟨j,w,e1,e2,e3,e4⟩:=E1.get y e o h
   refine⟨j,w,e1,e2,e3,e4.mono (st λp=>?_)⟩
   cases o with
   | true=>have:=p.2;rw[ho']at this;cases this;exact hy rfl
   | false=>have:=p rfl;rw[ho']at this;cases this
 ·by_cases hz:b=a
  ·subst hz;exact⟨_,aU⟩
  ·rw[aK hz];exact E1.own b hb
 ·rw[aK (λz=>by
   subst z
   rw[h0]at h;cases h
   rcases c with c|c
   ·exact c
   ·rw[ho]at c;cases c)]
  exact sm b o h
theorem lj{env:Env}{pos:Pos}:∀{es:List Expr},(∀e∈es,∀x p,e ≠ .Starred x p)->(backTo pos (starEach es env)).all (λx => !x.1)=true
 | [],_=>rfl
 | e::es,h=>by
  have ih:=lj (env:=env) (es:=es) (pos:=pos) λx hx=>h x (aG1 _ hx)
  have he:=h e aG0
  cases e<;>first|exact absurd rfl (he _ _)|exact ih
theorem Lg{M:List D->List D->Nat->Rs (List D)}(hcalm:X.calm=true)(hM:rq m M)(hx:ρ x=some (.lst l,true))(h:AD X ρ args ds k)(hst:∀e∈args,∀y p,e ≠ .Starred y p)(hlen:args.length=ds.length)
  (hn:fH x=true) (hln:(ap.endLine==cp.line)=true) (hm:M l ds k=.ok l' o) (hp:aT o):SD X H0 ρ (.Expr (.Call (.Attribute (.Name x p1) m ap) args [] cp) p4) (.nx (bF ρ x (.lst l',true))):=by
 obtain⟨id,r,sl,ty,mt,hr⟩:=hM X hcalm
 intro pins s σ H D I ⟨ow,E,hl,B,q⟩
 obtain⟨i,a,vs,g1,g2,g3,g4,g5,g6⟩:=LX I E hx
 have pn:PE X (.Name x p1) (mm i):=gU g1 g2 (dw hn).1 (dw hn).2
 have fin:∀(H1:Hp) (ws:List V),aL H H1->am X.K H1 (Kp ow H k) ds ws->r (.ref a) ws H1 λ_ H2=>D.nx σ H2:=λH1 ws s1 r1 =>
  (hr ow H H1 l ds l' k o a vs ws hm hp).2 (λb c=>(mF ow x true b c/\b≠a)\/Kp ow H 0 b c) _ (λ_ _ p=>.inr p) E.own s1 (s1 _ _ g4) ((g6.same s1).imp λ_ _ p=>.inl p) r1 λvs' _ rv=>by
   obtain⟨ow',E',k'⟩:=JK E s1 g1 g3 g2 g4 g5 rv
   exact q ow' σ _ E' hl k'
 have few:ds.length<29:=(hr ow H H l ds l' k o a vs vs hm hp).1
 cases args with
 | nil =>
  have e0:ds=[]:=aN6.mp hlen.symm
  refine kJ (LR PySem.F.plainAttrs_list sl ty mt pn rfl hln) rfl pins s σ H D I ⟨_,g3,.inl ⟨rfl,_,dG.of g4⟩,?_⟩
  exact fin H [] (aL.refl _) (by rw[e0];exact am.nil)
 | cons e es =>
  have hfew:((backTo cp (starEach (e::es) X.env)).all (λx => !x.1)&&(backToKw cp (keywordEach [] X.env)).all (λx=>x.1.isSome)&&decide ((e::es).length+([]:List Keyword).length+(if ([]:List Keyword).isEmpty then 0 else 1)<30))=true:=by
   rw[lj hst,hlen]
   have:decide (ds.length+0+0<30)=true:=by simp;omega
   exact this
  refine kJ (pV PySem.F.plainAttrs_list sl ty mt pn (h ow) rfl hfew hln (bC (hst e aG0)) (dP λx hx=>hst x (aG1 _ hx))) rfl pins s σ H D I ⟨_,g3,.inl ⟨rfl,_,dG.of g4⟩,E,λws H1 s1 r1=>?_⟩
  exact fin H1 ws s1 r1
theorem qe:∀{l:List D} {j:Nat} {d:D},aI l=true->d.lless=true->aI (l.set j d)=true
 | [],j,d,h,f=>by simp[aI]
 | x::l,0,d,h,f=>by
  rw[aI,aH4]at h
  rw[List.set_cons_zero,aI,aH4];exact⟨f,h.2⟩
 | x::l,j+1,d,h,f=>by
  rw[aI,aH4]at h
  rw[List.set_cons_succ,aI,aH4];exact⟨h.1,qe h.2 f⟩
theorem am.set{K:W.Frag}{P:bU}{H:Hp}{d:D}{v:V}(r:aj K H P d v):∀{l:List D} {vs:List V} (j:Nat),am K H P l vs->am K H P (l.set j d) (vs.set j v)
 | [],vs,j,h=>by rw[am]at h;subst h;simp;exact am.nil
 | x::l,vs,0,h=>by
  rw[am]at h
  obtain⟨w,u,rfl,h1,h2⟩:=h
  exact am.cons r h2
 | x::l,vs,j+1,h=>by
  rw[am]at h
  obtain⟨w,u,rfl,h1,h2⟩:=h
  exact am.cons h1 (am.set r j h2)
theorem CD{i:Expr}{j:Int}(hx:ρ x=some (.lst l,true))(h:ED X ρ e d k)(hi:ED X ρ i (.int j) k2)(f:aI l=true)(fd:d.lless=true)(hn:fH x=true)(hm:yG l j d=some l')(hsl:∀a b c p,i ≠ .Slice a b c p) :
  SD X H0 ρ (.Assign [.Subscript (.Name x p1) i p2] e pos) (.nx (bF ρ x (.lst l',true))):=by
 unfold yG at hm
 cases hj:ixN l.length j with
 | none=>rw[hj]at hm;cases hm
 | some n =>
  rw[hj]at hm;cases hm
  intro pins s σ H D I ⟨ow,E,hl,B,q⟩
  obtain⟨ix,a,vs,g1,g2,g3,g4,g5,g6⟩:=LW E hx
  have pn:PE X (.Name x p1) (mm ix):=gU g1 g2 (dw hn).1 (dw hn).2
  refine mC (h ow) (AO pn (hi ow) Cz (λv=>by cases i<;>first|rfl|exact absurd rfl (hsl _ _ _ _))) sS (by cases e<;>rfl) rfl pins s σ H D I ⟨E,λv H1 s1 r1=>?_⟩
  refine⟨_,g3,E.same s1,λu H2 s2 r2=>?_⟩
  rw[aj]at r2;subst r2
  have s12:=s1.trans s2
  refine⟨a,vs,j,n,rfl,rfl,s12 _ _ g4,by rw[<- g6.length];exact hj,?_⟩
  exact q ow σ _ (Bm (E.same s12) g1 g3 g2 (s12 _ _ g4) g5 (qe f fd) (am.set ((r1.imp λ_ _ _=>True.intro).same s2) n (g6.same s12))) hl (zd s12 g4 g5)
noncomputable def Rn:zS:=λo i v H Q => ∃p kvs k,o=.ref p/\i=kV k/\H p=some (.dK kvs)/\kvs.length<sizeLine/\Q (bo H p (.dK (gG kvs k v)))
theorem CA:El X Rn:=by
 intro pins s σ H o i v ov iv u Q I ro ri rv h
 obtain⟨p,kvs,k,rfl,rfl,hp,hz,q⟩:=h
 cases ro
 obtain⟨z,hd,vs,rel,dd⟩:=(show dn X.prog X.w H s.heap p (.dK kvs)from I.hok p _ hp)
 have hz':vs.length<=sizeLine:=by rw[<- rel.length];exact z
 have hl:(gG kvs k v).length<=sizeLine:=by have:=wP kvs k v;omega
 refine wpAny_setItem_pairs (hsz:=hz') (ze ri) dd λh' dd' hs=>?_
 have he:∃q,h'.get? p=some q:=let ⟨q,_,_,hq,_⟩:=dd';⟨q,hq⟩
 exact⟨_,I.write (x:=p) (e:=p) (by rw[hp];exact True.intro) (.inl rfl) (λb q hb z=>(hs.2 b hb).trans z) he (show dn X.prog X.w (bo H p (.dK (gG kvs k v))) h' p (.dK (gG kvs k v))from⟨hl,hd,_,rel.put k rv,dd'⟩),q⟩
theorem GM{k:bM}(h:ks.length=vs.length):(lK ks k).zip (g8 ks vs k v)=gG (ks.zip vs) k v:=by
 unfold lK g8 gG
 rw[xj h]
 cases fO ks k with
 | true =>
  rw[if_pos rfl]
  show ks.zip (List.zipWith _ ks vs)=_
  induction ks generalizing vs with
  | nil=>rfl
  | cons j ks ih =>
   cases vs with
   | nil=>cases h
   | cons w vs =>
    show(j,if j=k then v else w)::ks.zip (List.zipWith _ ks vs)=(if j=k then(j,v)else(j,w))::(ks.zip vs).map _
    rw[ih (by simpa using h)]
    split<;>rfl
 | false =>
  rw[if_neg aH9]
  show(ks++[k]).zip (vs++[v])=_
  rw[List.zip_append h];rfl
theorem y9:rq "append" rS:=λX hc=>⟨"list.append", _,PySem.F.slot_list_append,PySem.F.type_list_append,sY,λow H0 H l ds l' j o a vs ws h hp=>by
 unfold rS at h
 split at h
 ·rename_i d
  cases h
  have c:=hp.1
  refine⟨by simp,λP Q hP oi sm ha rl rd q=>?_⟩
  obtain⟨w,rfl,rw'⟩:=rd.only
  refine⟨a,vs,w,rfl,rfl,ha,?_,q _ _ (rl.append (am.one ?_))⟩
  ·rw[<- rl.length];exact aK1 hp.2.1 sZ
  ·rcases c with c|c
   ·exact rw'.flat _ c
   ·subst c;exact rw'.imp hP
 ·cases h⟩
variable{X:Cx}
theorem oV(x:Str)(E:aR X ow H σ ρ):∃ow',aR X ow' H σ (demX x ρ)/\bJ ow H ow' H:=by
 classical
 unfold demX
 let ow':Ow:=λa=>if ow a=some (some x)then none else ow a
 have o1:∀a,ow a=none->ow' a=none:=λa h=>by show(if _ then _ else _)=_;split;rfl;exact h
 refine⟨ow',⟨λy e o h=>?_,λa ha=>?_⟩,λa o h _=>h,λa o h z=>o1 a z⟩
 ·by_cases hy:y=x
  ·subst hy
   simp only[aP3]at h
   cases hd:ρ y with
   | none=>rw[hd]at h;cases h
   | some q =>
    obtain⟨d,o'⟩:=q
    rw[hd]at h
    cases h
    obtain⟨j,w,e1,e2,e3,e4⟩:=E.get y _ _ hd
    refine⟨j,w,e1,e2,e3,e4.imp λa b p z=>?_⟩
    cases o' with
    | true=>exact if_pos p.2
    | false=>exact o1 a (p z)
  ·simp only[if_neg hy]at h
   obtain⟨j,w,e1,e2,e3,e4⟩:=E.get y e o h
   refine⟨j,w,e1,e2,e3,e4.imp λa b p=>?_⟩
   cases o with
   | true=>exact⟨p.1,by show(if _ then _ else _)=_;rw[if_neg (λz=>by rw[p.2]at z;cases z;exact hy rfl)];exact p.2⟩
   | false=>exact λz=>o1 a (p z)
 ·refine E.own a λz=>ha (o1 a z)
theorem JZ(x:Str)(ρ:al):demA x ρ=ρ\/demA x ρ=demX x ρ:=by
 cases h:ρ x with
 | none=>exact .inl (funext λy=>by unfold demA;split;(rename_i e;subst e;rw[h];rfl);rfl)
 | some p =>
  cases hl:p.1.lless with
  | true=>exact .inl (funext λy=>by unfold demA;split;(rename_i e;subst e;rw[h];show some (p.1,p.2&&p.1.lless)=_;rw[hl,Bool.and_true]);rfl)
  | false=>exact .inr (funext λy=>by unfold demA demX;split;(rename_i e;subst e;rw[h];show some (p.1,p.2&&p.1.lless)=_;rw[hl,Bool.and_false];rfl);rfl)
theorem lJ:∀{es:List Expr} {ow:Ow} {H:Hp} {σ:L2.St} {ρ:al},aR X ow H σ ρ->∃ow',aR X ow' H σ (demL es ρ)/\bJ ow H ow' H
 | [],ow,H,σ,ρ,E=>⟨ow,E,bJ.refl _ _⟩
 | e::es,ow,H,σ,ρ,E=>by
  have one:∀x,∃ow',aR X ow' H σ (demL es (demA x ρ))/\bJ ow H ow' H:=λx=>by
   rcases JZ x ρ with h|h
   ·rw[h];exact lJ E
   ·rw[h]
    obtain⟨ow1,E1,k1⟩:=oV x E
    obtain⟨ow2,E2,k2⟩:=lJ (es:=es) E1
    exact⟨ow2,E2,k1.trans k2⟩
  unfold demL
  split
  ·rename_i z;cases z
  ·rename_i z;cases z;exact one _
  ·rename_i z;cases z;exact one _
  ·rename_i z;cases z;exact lJ E
theorem zp(E:aR X ow H σ ρ):∃ow',aR X ow' H σ (demote e ρ)/\bJ ow H ow' H:=by
 unfold demote
 split
 ·exact oV _ E
 ·exact oV _ E
 ·exact lJ E
 ·exact⟨ow,E,bJ.refl _ _⟩
noncomputable def af{α:Type}(r:Rs α)(a:α):Prop:=∃l,r=.ok a l/\aT l
theorem az{r:Rs α}{f:α->Rs β}{b:β}(h:af (r.bnd f) b):∃a,af r a/\af (f a) b:=by
 obtain⟨l,h,hp⟩:=h
 obtain⟨a,l1,l2,h1,p1,h2,p2⟩:=bw h hp
 exact⟨a,⟨l1,h1,p1⟩,l2,h2,p2⟩
theorem aw{a:α}(h:af (.st) a):False:=by obtain⟨l,h,_⟩:=h;cases h
theorem aQ{a b:α}{l:List Prop}(h:af (.ok a l) b):a=b:=by obtain⟨m,h,_⟩:=h;cases h;rfl
theorem Lh{bind:D->al->Option al}(hp:PassesOwn (model X.prog X.w) X.A X.env X.xe)(hcalm:X.calm=true)
  (hi:IE X (demote iter ρ) tg iter ds k) (hk:k<=1) (hg:∀d ρ ρ',bind d ρ=some ρ'->GD X ρ tg d ρ') (hb:∀ρ fl,af (bodyF ρ) fl->fI X H0 ρ body fl) (h:af (e9 bind bodyF ds (demote iter ρ)) fl)
  (hs:∀x,foldedSetIterable iter X.env x=pure x):SD X H0 ρ (.For tg iter body [] pos) fl:=by
 intro pins s σ H D0 I ⟨ow0,E0,hl,B0,q0⟩
 obtain⟨ow,E,k0⟩:=zp (e:=iter) E0
 have B:=B0.keep k0
 have q:=q0.keep k0
 have pb:eT X body (λD σ H => ∃ρ fl,af (bodyF ρ) fl/\EM X H0 ρ fl D σ H):=λpins s σ H D I ⟨ρ1,fl1,h1,h2⟩=>hb ρ1 fl1 h1 pins s σ H D I h2
 have pg:PG X tg (λv σ H Q => ∃g:TG,PG X tg g/\g v σ H Q):=λpins s σ H v u Q I r ⟨g,h1,h2⟩=>h1 pins s σ H v u Q I r h2
 refine AJ hp hcalm (hi ow) pg pb hs pins s σ H D0 I ⟨E,λJ H1 s1 itd=>?_⟩
 refine⟨λi m σ' H'=>m=ds.length-i/\i<=ds.length/\∃ow' ρ',aR X ow' H' σ' ρ'/\σ'.length=X.N.length/\cA H0 ow' H'/\bJ ow H1 ow' H'/\af (e9 bind bodyF (ds.drop i) ρ') fl,
  ⟨ds.length,by simp,aH5 _,ow,_,E.same s1,hl,B.keep (bJ.same s1),bJ.refl _ _,h⟩,?_⟩
 rintro i m σ' H' ⟨rfl,hile,ow',ρ',E',hl',B',k',hf⟩
 have q':ph X H0 ow' H' fl D0:=q.keep ((bJ.same s1).trans k')
 have st:fR (Kd ow H k H1) (Kd ow H k H1) H1 H':=⟨λa o ha hn=>k'.keep a o ha (.inl hn),λa vs ha p=>k'.keep a _ ha (.inr (iJ E.own hk p.1)),λ_ _ _ p=>p,λ_ p=>p⟩
 have it:=itd i H' st
 by_cases hlt:i<ds.length
 ·obtain⟨go,yl⟩:=it.1 ds[i] (aH7 hlt)
  have hdrop:ds.drop i=ds[i]::ds.drop (i+1):=List.drop_eq_getElem_cons hlt
  rw[hdrop,e9]at hf
  refine .inr ⟨go,λσ2 H2=>i+1<=ds.length/\∃ow2 ρ2,aR X ow2 H2 σ2 ρ2/\σ2.length=X.N.length/\cA H0 ow2 H2/\bJ ow H1 ow2 H2/\af (e9 bind bodyF (ds.drop (i+1)) ρ2) fl,λσ2 H2 n=>⟨ds.length-(i+1),by omega,rfl,n.1,n.2⟩,λx H3 y3=>?_⟩
  obtain⟨sm3,rx⟩:=yl x H3 y3
  cases hbd:bind ds[i] ρ' with
  | none=>rw[hbd]at hf;exact(aw hf).elim
  | some ρ1 =>
   rw[hbd]at hf
   dsimp only at hf
   obtain⟨g,g1,g2⟩:=hg _ _ _ hbd
   have rx':aj X.K H3 (λa b=>b=true->ow' a=none) ds[i] x:=rx.impH (λa o ha p _=>by
    obtain⟨o1,h1⟩:=p.2 rfl
    exact k'.low a o1 h1 (iJ E.own hk p.1)) λa _ z=>(by cases z)
   refine⟨g,g1,g2 ow' x σ' H3 _ hl' (E'.same sm3) rx' λσ2 hl2 E2=>?_⟩
   have k3:bJ ow' H' ow' H3:=bJ.same sm3
   obtain⟨f1,hbo,hf⟩:=az hf
   refine⟨ρ1,f1,hbo,ow',E2,hl2,B'.keep k3,?_⟩
   cases f1 with
   | nx ρ2=>exact λow2 σ3 H4 a b c=>⟨hlt,ow2,ρ2,a,b,(B'.keep k3).keep c,k'.trans (k3.trans c),hf⟩
   | ct ρ2=>exact λow2 σ3 H4 a b c=>⟨hlt,ow2,ρ2,a,b,(B'.keep k3).keep c,k'.trans (k3.trans c),hf⟩
   | bk ρ2=>cases aQ hf;exact λow2 σ3 H4 a b c=>q' ow2 σ3 H4 a b (k3.trans c)
   | rt d=>cases aQ hf;exact q'
 ·have ei:i=ds.length:=by omega
  subst ei
  rw[List.drop_length,e9]at hf
  cases aQ hf
  exact .inl ⟨it.2 (aF9 _),q' ow' σ' H' E' hl' (bJ.refl _ _)⟩
theorem CC(hp:PassesOwn (model X.prog X.w) X.A X.env X.xe)
  (hc:∀ρ b,af (test ρ) b->TD X ρ c b) (hb:∀ρ fl,af (bodyF ρ) fl->fI X H0 ρ body fl) {n0:Nat} {ρ0:al} (h:af (ol test bodyF n0 ρ0) fl):SD X H0 ρ0 (.While c body [] pos) fl:=by
 intro pins s σ H D0 I ⟨ow,E,hl,B,q⟩
 have pc:PT X c (λσ H Q => ∃ow ρ b,af (test ρ) b/\EL X ow ρ b σ H Q):=λpins s σ H Q I ⟨ow,ρ,b,h1,h2⟩=>hc ρ b h1 ow pins s σ H Q I h2
 have pb:eT X body (λD σ H => ∃ρ fl,af (bodyF ρ) fl/\EM X H0 ρ fl D σ H):=λpins s σ H D I ⟨ρ1,fl1,h1,h2⟩=>hb ρ1 fl1 h1 pins s σ H D I h2
 refine CJ hp pc pb pins s σ H D0 I ?_
 refine⟨λm σ' H' => ∃ow' ρ',aR X ow' H' σ' ρ'/\σ'.length=X.N.length/\cA H0 ow' H'/\bJ ow H ow' H'/\af (ol test bodyF m ρ') fl,⟨n0,ow,ρ0,E,hl,B,bJ.refl _ _,h⟩,?_⟩
 rintro m σ' H' ⟨ow',ρ',E',hl',B',k',hw⟩
 have q':ph X H0 ow' H' fl D0:=q.keep k'
 cases m with
 | zero=>exact(aw hw).elim
 | succ m =>
  rw[ol]at hw
  obtain⟨b,ht,hw⟩:=az hw
  refine⟨ow',ρ',b,ht,E',λH1 s1=>?_⟩
  have k1:bJ ow' H' ow' H1:=bJ.same s1
  cases b with
  | false =>
   cases aQ hw
   exact q' ow' σ' H1 (E'.same s1) hl' k1
  | true =>
   rw[cond_true]at hw
   show if true=true then _ else _
   rw[if_pos rfl]
   refine⟨λσ2 H2 => ∃ow2 ρ2,aR X ow2 H2 σ2 ρ2/\σ2.length=X.N.length/\cA H0 ow2 H2/\bJ ow H ow2 H2/\af (ol test bodyF m ρ2) fl,λσ2 H2 z=>⟨m,aJ1 _,z⟩,?_⟩
   obtain⟨f1,hbo,hw⟩:=az hw
   refine⟨ρ',f1,hbo,ow',E'.same s1,hl',B'.keep k1,?_⟩
   cases f1 with
   | nx ρ2=>exact λow2 σ3 H4 a b c=>⟨ow2,ρ2,a,b,(B'.keep k1).keep c,k'.trans (k1.trans c),hw⟩
   | ct ρ2=>exact λow2 σ3 H4 a b c=>⟨ow2,ρ2,a,b,(B'.keep k1).keep c,k'.trans (k1.trans c),hw⟩
   | bk ρ2=>cases aQ hw;exact λow2 σ3 H4 a b c=>q' ow2 σ3 H4 a b (k1.trans c)
   | rt d=>cases aQ hw;exact q'
theorem eM{p:D×Nat}(h:af (aH Φ e it sc ρ) p)(G:bA Φ X sc):gP X ρ e it p.1 p.2:=let ⟨_,h,hp⟩:=h;Uh e h hp G
theorem Bc(h:qg e=true):(∃a b c d,e=.ListComp a b c d)\/∀(Φ:Fx) (sc:Scope) (ρ:al),aH Φ e false sc ρ=.st:=by
 cases e<;>first|exact .inl ⟨_,_,_,_,rfl⟩|exact .inr λ_ _ _=>rfl|cases h
theorem sU{r:D×Nat}{o:Bool}(G:bA Φ X sc)(hx:eI sc x=true)(h:af (aH Φ e false sc ρ) r)(ho:(r.2=0/\o=true)\/(r.2=1/\o=false)) :
  SD X H0 ρ (.Assign [.Name x p] e pos) (.nx (bF ρ x (r.1,o))):=by
 by_cases hc:qg e=true
 ·rcases Bc hc with⟨elt,gens,scope,q,rfl⟩|hno
  rotate_left
  ·rw[hno]at h;exact(aw h).elim
  ·clear hc
   have hsw:∃b,swapsWith (.ListComp elt gens scope q) (some (.Name x p)) pos.line X.env=pure b:=⟨_,rfl⟩
   obtain⟨b,hsw⟩:=hsw
   cases b with
   | false=>exact vf G hx ((eM h G).ed rfl) ho hsw
   | true =>
    obtain⟨l,h,hp⟩:=h
    obtain⟨tg,iter,ifs,rfl⟩:=rW h
    obtain⟨ds,f,k1,a1,a2,a3,a4,a5,a6,a7,a8,a9⟩:=xo (jp Φ _) (aJ1 _) h hp G
    obtain⟨g1,g2,g3,i,g4⟩:=f9 G hx
    rw[a9]
    intro pins s σ H D0 I ⟨ow,E,hl,B,q⟩
    refine Iw (D0:=D0) (i:=i) G.calm G.nd a1 a2 a3 a4 a5 a6 a7 a8 I E hsw g4 g1 g3 λv H1 s1 r1=>?_
    rcases ho with⟨ho,rfl⟩|⟨ho,rfl⟩<;>rw[ho]at r1
    ·obtain⟨ow',E',k'⟩:=sj G.nd hl E s1 g4 g2 r1
     exact q ow' _ H1 E' (by rw[aJ9];exact hl) k'
    ·exact q ow _ H1 (fL G.nd hl (E.same s1) g4 g2 r1) (by rw[aJ9];exact hl) (bJ.same s1)
 ·exact vf G hx ((eM h G).ed rfl) ho (jY (by simpa using hc))
theorem wQ{r:D×Nat}(h:af (aH Φ e it sc ρ) r):∀a b c p,e ≠ .Slice a b c p:=by
 intro a b c p z;subst z;exact(aw h).elim
theorem vv{f:List D->Rs Fl}(h:af (yQ ρ x f) fl):∃l,ρ x=some (.lst l,true)/\fH x=true/\af (f l) fl:=by
 unfold yQ at h
 split at h
 ·rename_i l e
  split at h
  ·rename_i c
   exact⟨l,e,c,h⟩
  ·exact(aw h).elim
 ·exact(aw h).elim
theorem eh{a b:α}{l:List Prop}(h:af (.ok a l) b):a=b/\aT l:=by obtain⟨m,h,hp⟩:=h;cases h;exact⟨rfl,hp⟩
theorem uX{i:D}(h:af (yA ρ x i d) fl):(∃l j l',ρ x=some (.lst l,true)/\aI l=true/\fH x=true/\i=.int j/\yG l j d=some l'/\d.lless=true/\fl=.nx (bF ρ x (.lst l',true)))\/False:=by
 unfold yA at h
 split at h
 ·rename_i l e
  split at h
  ·split at h
   ·rename_i hn
    split at h
    ·rename_i l' hs
     obtain⟨h9,h1,h2,_⟩:=eh h
     exact .inl ⟨l,_,l',e,h1,hn,rfl,hs,h2,h9.symm⟩
    ·exact(aw h).elim
   ·exact(aw h).elim
  ·exact(aw h).elim
 ·exact(aw h).elim
 ·exact(aw h).elim
theorem LT(h:af (nP Φ es e sc ρ) fl)(G:bA Φ X sc):SD X H0 ρ (.Assign [.Tuple es n p] e pos) fl:=by
 unfold nP at h
 split at h
 ·split at h
  ·rename_i hp
   obtain⟨q,⟨lq,h1,hq⟩,h⟩:=az h
   split at h
   ·rename_i u v hd
    split at h
    ·rename_i hf
     cases aQ h
     obtain⟨n1,_⟩:=fK h1 hq
     have c:=qB _ h1 hq G
     rw[hd]at c
     exact Lf G c hf hp (n1 _ (by simp)) (n1 _ (by simp))
    ·exact(aw h).elim
   ·exact(aw h).elim
  ·exact(aw h).elim
 ·exact(aw h).elim
theorem O6(h:af (qA Φ tgs e sc ρ) fl)(G:bA Φ X sc):SD X H0 ρ (.Assign tgs e pos) fl:=by
 unfold qA at h
 split at h
 ·obtain⟨p,h1,h⟩:=az h
  unfold rN at h
  split at h
  ·rename_i hx
   split at h
   ·rename_i ho;cases aQ h;exact sU G hx h1 (.inl ⟨ho,rfl⟩)
   ·rename_i ho;cases aQ h;exact sU G hx h1 (.inr ⟨ho,rfl⟩)
   ·exact(aw h).elim
  ·exact(aw h).elim
 ·split at h
  ·exact LT h G
  ·rename_i ht
   have ht:=Bool.eq_false_iff.mpr ht
   obtain⟨p,h1,h⟩:=az h
   split at h
   ·rename_i ho
    cases aQ h
    exact Ie G ((eM h1 G).ed rfl) ho ht
   split at h
   ·rename_i ds hd
    split at h
    ·rename_i hf
     split at h
     ·rename_i ρ' hb
      cases aQ h
      exact Le G ((eM h1 G).ed rfl) hd hf hb ht
     ·exact(aw h).elim
    ·exact(aw h).elim
   ·exact(aw h).elim
 ·split at h
  ·rename_i hc
   obtain⟨p,h1,h⟩:=az h
   obtain⟨q,h2,h⟩:=az h
   have c2:=(eM h2 G).ed rfl
   rcases uX h with⟨l,j,l',a1,a2,a3,hj,hs,hf,rfl⟩|hF
   ·rw[hj]at c2
    exact CD a1 ((eM h1 G).ed rfl) c2 a2 hf a3 hs (wQ h2)
   ·exact hF.elim
  ·exact(aw h).elim
 ·exact(aw h).elim
theorem NB(h:af (qz Φ e sc ρ) fl)(G:bA Φ X sc):SD X H0 ρ (.Expr e pos) fl:=by
 unfold qz at h
 split at h
 ·split at h
  ·rename_i hln
   obtain⟨p,⟨lp,h1,hp1⟩,h⟩:=az h
   split at h
   ·rename_i M hM
    obtain⟨l,a1,a3,h⟩:=vv h
    obtain⟨l',⟨o,h2,hp2⟩,h⟩:=az h
    cases aQ h
    obtain⟨n1,n2⟩:=fK h1 hp1
    exact Lg G.calm (G.mtt _ M hM) a1 (qB _ h1 hp1 G) n1 n2 a3 hln h2 hp2
   ·exact(aw h).elim
  ·exact(aw h).elim
 ·obtain⟨p,h1,h⟩:=az h
  cases aQ h
  exact Ig ((eM h1 G).ed rfl) ⟨_,_,_,_,_,rfl⟩
 ·exact(aw h).elim
structure Is(Φ:Fx)(n:Nat):Prop where
 s:∀(st:Stmt) {sc:Scope} {ρ:al} {fl:Fl} {X:Cx} {H0:Hp},sizeOf st<n->af (ga Φ st sc ρ) fl->bA Φ X sc->PassesOwn (model X.prog X.w) X.A X.env X.xe->SD X H0 ρ st fl
 ss:∀(st:List Stmt) {sc:Scope} {ρ:al} {fl:Fl} {X:Cx} {H0:Hp},sizeOf st<n->af (aF Φ st sc ρ) fl->bA Φ X sc->PassesOwn (model X.prog X.w) X.A X.env X.xe->fI X H0 ρ st fl
theorem gW{p:D×Nat}{f:Bool->Rs α}{a:α}(h:af (jE p f) a):∃b,p.1=.bl b/\af (f b) a:=by
 obtain⟨l,h,hp⟩:=h
 obtain⟨b,h1,h2⟩:=nU h
 exact⟨b,h1,l,h2,hp⟩
theorem Ue(I:Is Φ n)(st:Stmt)(hs:sizeOf st<n+1)(h:af (ga Φ st sc ρ) fl)(G:bA Φ X sc)(hp:PassesOwn (model X.prog X.w) X.A X.env X.xe):SD X H0 ρ st fl:=by
 cases st with
 | Return e p =>
  cases e with
  | none=>cases aQ h;exact Ib
  | some e =>
   obtain⟨p,h1,h⟩:=az (show af (Rs.bnd _ _) fl from h)
   unfold yJ at h
   split at h
   ·rename_i hk
    cases aQ h
    unfold vi at h1
    cases hn:ui e with
    | true=>rw[hn]at h1;exact Ic ((eM h1 G).ed rfl) hk
    | false=>rw[hn]at h1;exact AC ((eM h1 G).ed rfl) hk
   ·exact(aw h).elim
 | Pass p=>cases aQ h;exact Id
 | Break p=>cases aQ h;exact CF
 | Continue p=>cases aQ h;exact Ii
 | Assign tgs e p=>exact O6 h G
 | AugAssign t op e p=>exact(aw h).elim
 | Expr e p=>exact NB h G
 | If c a b p =>
  obtain⟨p,h1,h⟩:=az (show af (Rs.bnd _ _) fl from h)
  obtain⟨t,ht,h⟩:=gW h
  refine Q0 ((eM h1 G).td rfl t ht) ?_
  cases t with
  | true=>rw[if_pos rfl];exact I.ss _ (bQ (by simp<;>omega) hs) h G hp
  | false=>rw[if_neg aH9];exact I.ss _ (bQ (by simp<;>omega) hs) h G hp
 | For tg it body els p =>
  rw[rY]at h
  split at h
  ·rename_i he
   have he:=List.isEmpty_iff.mp he
   subst he
   obtain⟨p,h1,h⟩:=az h
   split at h
   ·rename_i ds hd
    split at h
    ·rename_i hk
     obtain⟨lq,h1',_⟩:=id h1
     exact Lh hp G.calm ((eM h1 G).ie rfl _ ds hd hk.2) hk.1 (λd ρ ρ' hb=>FH G hb) (λρ1 f1 h2=>I.ss _ (bQ (by simp<;>omega) hs) h2 G hp) h (tz h1')
    ·exact(aw h).elim
   ·exact(aw h).elim
  ·exact(aw h).elim
 | While c body els p =>
  rw[vV]at h
  split at h
  ·rename_i he
   have he:=List.isEmpty_iff.mp he
   subst he
   refine CC hp (λρ b hb=>?_) (λρ1 f1 h2=>I.ss _ (bQ (by simp<;>omega) hs) h2 G hp) h
   obtain⟨p,h1,hb⟩:=az hb
   obtain⟨t,ht,hb⟩:=gW hb
   cases aQ hb
   exact(eM h1 G).td rfl _ ht
  ·exact(aw h).elim
 | _=>exact(aw h).elim
theorem NA(I:Is Φ n)(ss:List Stmt)(hs:sizeOf ss<n+1)(h:af (aF Φ ss sc ρ) fl)(G:bA Φ X sc)(hp:PassesOwn (model X.prog X.w) X.A X.env X.xe):fI X H0 ρ ss fl:=by
 cases ss with
 | nil=>cases aQ h;exact HV
 | cons s ss =>
  obtain⟨f1,h1,h⟩:=az (show af (Rs.bnd _ _) fl from h)
  have c:=I.s s (H0:=H0) (bQ (by simp<;>omega) hs) h1 G hp
  cases f1 with
  | nx ρ'=>exact oH c (I.ss ss (bQ (by simp<;>omega) hs) h G hp)
  | bk ρ'=>cases aQ h;exact lh c (λ_ z=>(by cases z))
  | ct ρ'=>cases aQ h;exact lh c (λ_ z=>(by cases z))
  | rt d=>cases aQ h;exact lh c (λ_ z=>(by cases z))
theorem kO(Φ:Fx):∀n,Is Φ n
 | 0=>⟨λ_ _ _ _ _ _ h=>absurd h (aK9 _),λ_ _ _ _ _ _ h=>absurd h (aK9 _)⟩
 | n+1=>⟨λe _ _ _ _ _ hs h G hp=>Ue (kO Φ n) e hs h G hp,λe _ _ _ _ _ hs h G hp=>NA (kO Φ n) e hs h G hp⟩
theorem kT(ss:List Stmt)(h:af (aF Φ ss sc ρ) fl)(G:bA Φ X sc)(hp:PassesOwn (model X.prog X.w) X.A X.env X.xe):fI X H0 ρ ss fl:=(kO Φ _).ss ss (aJ1 _) h G hp
noncomputable def ao(sc:Scope):List Str:=(sc.names.filter λy=>y.2 == .local || y.2 == .cell).map (·.1)
noncomputable def cg(P:Program)(w:World)(K:W.Frag)(mg:Str->Option Value)(base:Heap)(k:Nat)(g:Str)(F:List D->Rs D):Prop :=
 ∃f fd ps,bT P w K mg base df k f fd ps (jO K F)/\mg g=some (.ref f)/\W.keepIn K (.ref f)=true/\cx K fd ps []/\(g==("__debug__" : Str))=false
theorem cg.mono(h:cg P w K mg base j g F)(hjk:j<=k):cg P w K mg base k g F :=
 let ⟨f,fd,ps,h1,h2⟩:=h;⟨f,fd,ps,h1.mono hjk,h2⟩
noncomputable def wE(P:Program)(w:World)(K:W.Frag)(mg:Str->Option Value)(base:Heap)(k:Nat)(g:Str)(F:List D->Rs D):Prop :=
 ∃j C f fd ps,j+1<=k/\(∀ds r l,F ds=.ok r l->r.lless=true)/\Mk K C f/\bT P w K mg base df j f fd ps (Ax K g F)/\mg g=some (.ref C)/\W.nsIn K mainGlobals g=some (some (.ref C))/\eV K C/\cx K fd ps []/\(g==("__debug__" : Str))=false
theorem wE.mono(h:wE P w K mg base j g F)(hjk:j<=k):wE P w K mg base k g F :=
 let ⟨i,C,f,fd,ps,h0,h1⟩:=h;⟨i,C,f,fd,ps,aF5 h0 hjk,h1⟩
noncomputable def VM(P:Program)(w:World)(K:W.Frag)(mg:Str->Option Value)(base:Heap)(k:Nat)(g:Str)(F:List D->Rs D):Prop:=cg P w K mg base k g F\/wE P w K mg base k g F
noncomputable def fD(P:Program)(w:World)(K:W.Frag)(mg:Str->Option Value)(base:Heap)(k:Nat)(n m:Str)(F:List D->Rs D):Prop :=
 ∃C f fd ps,W.nsIn K mainGlobals n=some (some (.ref C))/\eV K C/\jJ K C m f/\bT P w K mg base df k f fd ps (jO K F)/\cx K fd ps []
theorem fD.mono{n:Str}(h:fD P w K mg base j n m F)(hjk:j<=k):fD P w K mg base k n m F :=
 let ⟨C,f,fd,ps,h1,h2,h3,h4,h5⟩:=h;⟨C,f,fd,ps,h1,h2,h3,h4.mono hjk,h5⟩
theorem wq:∀{ps:List Str} {ds:List D} {x:Str} {d:D} {o:Bool},de ps ds x=some (d,o)->o=false/\∃i:Nat,ps[i]?=some x/\ds[i]?=some d
 | [],ds,x,d,o,h=>by cases ds<;>cases h
 | p::ps,[],x,d,o,h=>by cases h
 | p::ps,y::ds,x,d,o,h=>by
  replace h:(if x=p then some (y,false)else de ps ds x)=some (d,o):=h
  by_cases e:x=p
  ·rw[if_pos e]at h
   cases h;subst e;exact⟨rfl,0,rfl,rfl⟩
  ·rw[if_neg e]at h
   obtain⟨h1,i,h2,h3⟩:=wq h
   exact⟨h1,i+1,by simpa using h2,by simpa using h3⟩
structure ld(P:Program)(w:World)(K:W.Frag)(mg:Str->Option Value)(base:Heap)(k:Nat)(Φ:Fx):Prop where
 fn:∀g F,Φ.fn g=some F->VM P w K mg base k g F
 con:∀x d,Φ.con x=some d->∃v u,mg x=some u/\bO v u/\∀H P,aj K H P d v
 blt:∀f B,Φ.blt f=some B->ff f B
 itr:∀f B,Φ.itr f=some B->nY f B
 mth:∀m M,Φ.mth m=some M->lS m M
 mtt:∀m M,Φ.mtt m=some M->rq m M
 slf:rg Φ.slf
 fld:∀n f,Φ.fld n f=true->∀C,W.nsIn K mainGlobals n=some (some (.ref C))->cr K C f
 omt:∀n m F,Φ.omt n m=some F->fD P w K mg base k n m F
 bl:∀n∈iQ,mg n=none
noncomputable def bR(Φ:Fx)(sc:Scope)(ps:List Str)(body:List Stmt)(F:List D->Rs D):Prop:=∀ds r,af (F ds) r->af (bH Φ sc ps body ds) r
theorem bR.self:bR Φ sc ps body (bH Φ sc ps body):=λ_ _ h=>h
theorem gL{f:Addr}{E:XK}
  (S:au (ao (ae st)) ps (ae st)) (hΦ:ld P w K mg base k Φ) (hr:cw k (A.deeper (envOfC qual (ae st) s.heap.objs.size f cdv))) :
  bA Φ (iq df P w K mg base (ao (ae st)) qual (ae st) f cdv A outer s H E).nox (ae st):=by
 have hun:=hr.un
 refine⟨rfl,S.nd,λx hx=>hx,λx hx=>hx,λx hx=>hx,λx hx=>hx,λg' F' hg=>?_,hΦ.con,hΦ.blt,hΦ.itr,hΦ.mth,hΦ.mtt,hΦ.slf,hΦ.fld,λn m F hF=>?_,hΦ.bl,?_,λx hx=>?_,λx _=>rfl⟩
 ·rcases hΦ.fn g' F' hg with z|z
  ·obtain⟨f',fd',ps',a1,a2,a3,a4,a5⟩:=z
   exact .inl ⟨k,f',fd',ps',a1,hr,a2,a3,a4,a5⟩
  ·obtain⟨j,C,f',fd',ps',a0,a1,a2,a3,a4⟩:=z
   exact .inr ⟨j,C,f',fd',ps',a1,a2,a3,hr.mono a0,a4⟩
 ·obtain⟨C,f',fd',ps',a1,a2,a3,a4,a5⟩:=hΦ.omt n m F hF
  exact⟨k,C,f',fd',ps',a1,a2,a3,a4,hr,a5⟩
 ·show(A.deeper _).units+70<cLine
  omega
 ·show x∈ao (ae st)
  unfold ao
  unfold eI at hx
  rw[Bool.or_eq_true]at hx
  rcases hx with hx|hx
  ·have hx:(ae st).names.lookup x=some .local:=by simpa using hx
   exact aK0.mpr ⟨(x,.local),List.mem_filter.mpr ⟨aH0 hx,by simp⟩,rfl⟩
  ·have hx:(ae st).names.lookup x=some .cell:=by simpa using hx
   exact aK0.mpr ⟨(x,.cell),List.mem_filter.mpr ⟨aH0 hx,by simp⟩,rfl⟩
theorem jy{f:Addr}{E:XK}
  (S:au (ao (ae st)) ps (ae st)) (h1:am K H (λ_ _=>True) ds vs) (hl:ds.length=ps.length) :
  aR (iq df P w K mg base (ao (ae st)) qual (ae st) f cdv A outer s H E).nox (λ_=>none) H (start (ao (ae st)) vs) (de ps ds)/\(start (ao (ae st)) vs).length=(ao (ae st)).length:=by
 have hpl:ps.length<=(ao (ae st)).length:=by have:=aK4 List.length S.pre;rw[aP6]at this;omega
 have hvl:vs.length=ps.length:=by rw[<- h1.length];exact hl
 refine⟨⟨λx d o hx=>?_,λa ha=>absurd rfl ha⟩,by unfold L2.start;rw[aI6,aH3,List.length_replicate];omega⟩
 obtain⟨rfl,i,i1,i2⟩:=wq hx
 obtain⟨v,i3,i4⟩:=h1.get i2
 have hi:i<ps.length:=(aI3.mp i1).1
 refine⟨i,v,?_,?_,?_,i4.imp λa b _ _=>rfl⟩
 ·show(ao (ae st))[i]?=some x
  rw[<- S.pre,List.getElem?_take_of_lt hi]at i1
  exact i1
 ·rcases S.par x (aK2 i1)with z|z
  ·exact .inl z
  ·exact .inr (.inl z)
 ·unfold L2.start
  rw[List.getElem?_append_left (by rw[aH3];omega),aL7,i3];rfl
theorem x5{f:Addr}(Fn:iT K g qual st f fd)
  (S:au (ao (ae st)) ps (ae st)) (hΦ:ld P w K mg base k Φ)
  (hrun:bR Φ (ae st) ps (ai st) F):bT P w K mg base df (k+1) f fd ps (jO K F):=by
 refine Fn.ok S (λvs H Q E h=>?_) (λcdv A outer s H vs Q E hr h=>?_)
 ·obtain⟨ds,r,l,h1,h2,hp,_⟩:=h
  have:=hrun ds r ⟨l,h2,hp⟩
  unfold bH at this
  split at this
  ·rename_i hl;rw[<- h1.length];exact hl
  ·exact(aw this).elim
 ·obtain⟨ds,r,l,h1,h2,hp,q⟩:=h
  have hr1:=hrun ds r ⟨l,h2,hp⟩
  unfold bH at hr1
  split at hr1
  ·rename_i hl
   have G:=gL (outer:=outer) (H:=H) (E:=E) S hΦ hr
   obtain⟨E0,hsl⟩:=jy (P:=P) (w:=w) (mg:=mg) (base:=base) (qual:=qual) (f:=f) (cdv:=cdv) (A:=A) (outer:=outer) (s:=s) (E:=E) S h1 hl
   have B0:cA H (λ_=>none) H:=λa o h=>⟨h,rfl⟩
   obtain⟨fl,hx,hr1⟩:=az hr1
   cases fl with
   | rt d =>
    cases aQ hr1
    exact⟨_,kT _ (H0:=H) hx G aM6,λ_=>none,E0,hsl,B0,λv H' sm rp=>q v H' sm rp⟩
   | nx ρ' =>
    cases aQ hr1
    exact⟨_,kT _ (H0:=H) hx G aM6,λ_=>none,E0,hsl,B0,λow' σ' H' _ _ kp=>q .non H' (λa o h=>kp.keep a o h (.inr rfl)) (by rw[aj])⟩
   | bk ρ'=>exact(aw hr1).elim
   | ct ρ'=>exact(aw hr1).elim
  ·exact(aw hr1).elim
noncomputable def KZ(K:W.Frag)(fs:List Str):Sp:=λvs H Q _ => ∃x ws C dx,vs=.ref x::ws/\ws.length=fs.length/\H x=some (.ins C dx [])/\eV K C/\(∀f∈fs,cr K C f)/\Q .non (bo H x (.ins C dx (fs.zip ws)))
theorem J4{f:Addr}(Fn:iT K g qual st f fd){a1 a2 a3 f1 f2 f3:Str}{p3 q1 q2 q3 q4 r1 r2 r3 r4:Pos}
  (hN:ao (ae st)=[s0,a1,a2,a3]) (S:au (ao (ae st)) [s0,a1,a2,a3] (ae st)) (hv:∀x∈[s0,a1,a2,a3],eB (ae st) x) (hok:∀x∈[s0,a1,a2,a3],fH x=true)
  (hb:ai st=[.Assign [.Attribute (.Name s0 p1) f1 p2] (.Name a1 p3) p4,.Assign [.Attribute (.Name s0 q1) f2 q2] (.Name a2 q3) q4,.Assign [.Attribute (.Name s0 r1) f3 r2] (.Name a3 r3) r4]) (h12:f1≠f2) (h13:f1≠f3) (h23:f2≠f3) :
  bT P w K mg base df 1 f fd [s0,a1,a2,a3] (KZ K [f1,f2,f3]):=by
 refine Fn.ok (k:=0) S (λvs H Q E h=>?_) (λcdv A outer s H vs Q E hr h=>?_)
 ·obtain⟨x,ws,C,dx,rfl,hl,_⟩:=h
  rw[aG9,hl];rfl
 ·obtain⟨x,ws,C,dx,rfl,hl,hx,hc,hn,q⟩:=h
  obtain⟨y1,ws,rfl⟩:∃y r,ws=y::r:=by cases ws with|nil=>cases hl|cons y r=>exact⟨y,r,rfl⟩
  obtain⟨y2,ws,rfl⟩:∃y r,ws=y::r:=by cases ws with|nil=>cases hl|cons y r=>exact⟨y,r,rfl⟩
  obtain⟨y3,ws,rfl⟩:∃y r,ws=y::r:=by cases ws with|nil=>cases hl|cons y r=>exact⟨y,r,rfl⟩
  obtain rfl:ws=[]:=by cases ws with|nil=>rfl|cons _ _=>cases hl
  have nm:∀(i:Nat) (x:Str) (p:Pos),[s0,a1,a2,a3][i]?=some x->PE (iq df P w K mg base (ao (ae st)) qual (ae st) f cdv A outer s H E).nox (.Name x p) (mm i):=λi x p hi =>
   gU (by show(ao (ae st))[i]?=some x;rw[hN];exact hi) (hv x (aK2 hi)) (dw (hok x (aK2 hi))).1 (dw (hok x (aK2 hi))).2
  rw[hb]
  refine⟨_,du (pT (nm 0 s0 p1 rfl) (nm 1 a1 p3 rfl) rfl) (du (pT (nm 0 s0 q1 rfl) (nm 2 a2 q3 rfl) rfl) (nE (pT (nm 0 s0 r1 rfl) (nm 3 a3 r3 rfl) rfl))),?_⟩
  rw[hN]
  refine⟨y1,rfl,.ref x,rfl,x,C,dx,_,rfl,hx,hc,hn f1 (by simp),by decide,?_⟩
  refine⟨y2,rfl,.ref x,rfl,x,C,dx,_,rfl,aU,hc,hn f2 (by simp),by simp[eH],?_⟩
  refine⟨y3,rfl,.ref x,rfl,x,C,dx,_,rfl,aU,hc,hn f3 (by simp),?_,?_⟩
  ·have:=iB f2 y2 (eH f1 y1 []);have:=iB f1 y1 [];simp at this;omega
  ·rw[xk,xk]
   have e:eH f3 y3 (eH f2 y2 (eH f1 y1 []))=[(f1,y1),(f2,y2),(f3,y3)]:=by simp[eH,h12,h13,h23]
   rw[e]
   exact q
theorem CP{CX:jW}{f C:Addr}{sp:Sp}{E:XK}{b:Str}{t:TA}(hg:Gl X b)(hm:X.mg b=some (.ref C))(hga:W.specialIn X.K (.ref C) "__getattribute__" = some (some (.builtin "type.__getattribute__")))
  (hrd:W.readsIn X.K C mc=true) (hfc:W.findCls X.K (.ref C) mc m=some (.val (.ref f))) (hk:W.keepIn X.K (.ref f)=true) (F:bT X.prog X.w X.K X.mg X.base CX k f fd ps sp) (hr:cw k X.A) (hb:cx X.K fd ps []) (hx:gf CX X E) (ha:PA X (e::es) t)
  (hst:starEach (e::es) X.env=(false,eval e X.env)::starEach es X.env) (hpl:(backTo pos (starEach es X.env)).any (·.1)=false) (hdb:(b==("__debug__" : Str))=false)
  (ht:eval (.Call (.Attribute (.Name b p) m apos) (e::es) [] pos) X.env=(do
   let ov <- eval (.Name b p) X.env
   standAt apos.atName
   let (f,first) <- holding [ov] (getMethod ov m (do return (<- importBound (.Name b p) X.env).getD true))
   callWith pos f first (backTo pos (starEach (e::es) X.env)) (backToKw pos (keywordEach [] X.env)))) :
  PE X (.Call (.Attribute (.Name b p) m apos) (e::es) [] pos) (yx sp [] E t):=by
 intro pins s σ H Q I h
 refine W.methodCall_KW (pl:=(do return (<- importBound (.Name b p) X.env).getD true)) (jc I hg hm ?_ hdb) ht
 refine W.method_cls I.kIn hga (W.cls_value I.kIn hrd hfc rfl ?_)
 have I':=I.tok (s.toks+1)
 refine W.callWith_K (first:=[]) (h₀:=X.base) I.ok.mod.kin hk (bu (ha pos pins _ σ H _ I' h) λus s2 ⟨vs,H2,I2,r,q2⟩=>⟨I2.kIn,?_⟩) hst hpl
 exact kI (us:=us) F hr hb .nil hx I2 r q2
mutual
noncomputable def D.noObj:D->Bool
 | .obj _ _ _=>false
 | .tup l=>iI l
 | .lst l=>iI l
 | .dct _ l=>iI l
 | _=>true
noncomputable def iI:List D->Bool
 | []=>true
 | d::l=>d.noObj&&iI l
end
mutual
theorem aj.off{K:W.Frag}{P:bU}{H H':Hp}{x C dx:Addr}{fs:List (Str×V)}(hx:H x=some (.ins C dx fs))(s:∀a o,a≠x->H a=some o->H' a=some o):∀{d:D} {v:V},d.noObj=true->aj K H P d v->aj K H' P d v
 | .non,v,_,h=>by rw[aj]at h⊢;exact h
 | .bl b,v,_,h=>by rw[aj]at h⊢;exact h
 | .int i,v,_,h=>by rw[aj]at h⊢;exact h
 | .str x,v,_,h=>by rw[aj]at h⊢;exact h
 | .dct ks es,v,f,h=>by
  rw[aj]at h⊢
  obtain⟨f0,e0,a,vs,e,h1,p,r⟩:=h
  exact⟨f0,e0,a,vs,e,s _ _ (gh h1 hx (λz=>nomatch z)) h1,p,am.off hx s (by rw[D.noObj]at f;exact f) r⟩
 | .typ n,v,_,h=>by rw[aj]at h⊢;exact h
 | .dft a0 ks es,v,f,h=>by
  rw[aj]at h⊢
  obtain⟨e0,a,o,vs,e,h1,r⟩:=h
  refine⟨e0,a,o,vs,e,s _ _ (gh h1 hx (λz=>nomatch z)) h1,r.keep λa vs h=>?_⟩
  rcases h with(h|⟨o,h⟩)|h
  ·exact .inl (.inl (s _ _ (gh h hx (λz=>nomatch z)) h))
  ·exact .inl (.inr ⟨o,s _ _ (gh h hx (λz=>nomatch z)) h⟩)
  ·exact .inr h
 | .dcf ks es,v,f,h=>by
  rw[aj]at h⊢
  obtain⟨e0,a,o,vs,e,h1,r⟩:=h
  refine⟨e0,a,o,vs,e,s _ _ (gh h1 hx (λz=>nomatch z)) h1,r.keep (λa vs h=>?_) λa o u z=>s _ _ (gh z hx (λz=>nomatch z)) z⟩
  rcases h with(h|⟨o,h⟩)|h
  ·exact .inl (.inl (s _ _ (gh h hx (λz=>nomatch z)) h))
  ·exact .inl (.inr ⟨o,s _ _ (gh h hx (λz=>nomatch z)) h⟩)
  ·exact .inr h
 | .sn n,v,_,h=>by
  rw[aj]at h⊢
  obtain⟨a,S,e,h⟩:=h
  exact⟨a,S,e,s _ _ (gh h hx (λz=>nomatch z)) h⟩
 | .obj n ns ds,v,f,h=>by rw[D.noObj]at f;cases f
 | .cls n,v,_,h=>by rw[aj]at h⊢;exact h
 | .tup l,v,f,h=>by
  rw[aj]at h⊢
  obtain⟨a,vs,e,h,r⟩:=h
  refine⟨a,vs,e,?_,am.off hx s (by rw[D.noObj]at f;exact f) r⟩
  rcases h with(h|⟨o,h⟩)|h
  ·exact .inl (.inl (s _ _ (gh h hx (λz=>nomatch z)) h))
  ·exact .inl (.inr ⟨o,s _ _ (gh h hx (λz=>nomatch z)) h⟩)
  ·exact .inr h
 | .lst l,v,f,h=>by
  rw[aj]at h⊢
  obtain⟨a,vs,b,e,h,p,r⟩:=h
  refine⟨a,vs,b,e,?_,p,am.off hx s (by rw[D.noObj]at f;exact f) r⟩
  cases b with
  | true=>exact s _ _ (gh h hx (λz=>nomatch z)) h
  | false =>
   rcases h with⟨o,h⟩|h
   ·exact .inl ⟨o,s _ _ (gh h hx (λz=>nomatch z)) h⟩
   ·exact .inr h
theorem am.off{K:W.Frag}{P:bU}{H H':Hp}{x C dx:Addr}{fs:List (Str×V)}(hx:H x=some (.ins C dx fs))(s:∀a o,a≠x->H a=some o->H' a=some o):∀{l:List D} {vs:List V},iI l=true->am K H P l vs->am K H' P l vs
 | [],vs,_,h=>by rw[am]at h⊢;exact h
 | d::l,vs,f,h=>by
  rw[am]at h⊢
  rw[iI,aH4]at f
  obtain⟨v,r,e,h1,h2⟩:=h
  exact⟨v,r,e,aj.off hx s f.1 h1,am.off hx s f.2 h2⟩
end
noncomputable def aM(s:Stmt)(j:Nat):Stmt:=(match s with | .ClassDef _ _ _ b _ _ _ _ _ _ _=>b|_=>[]).getD j (.Pass ⟨0,0,0,0⟩)
noncomputable def Dg(s:Stmt):List Expr:=match ai s with
 | [.Expr (.Call _ (_::args) _ _) _]=>args
 | _=>[]
noncomputable def jS(Φ:Fx)(sc:Scope)(ps:List Str)(args:List Expr)(n:Str)(fs:List Str)(ds:List D):Rs D :=
 if ds.length+1=ps.length then(cZ Φ args sc (de ps (.obj n [] []::ds))).bnd λq=>if q.1.length=fs.length then .ok (.obj n fs q.1) [aI q.1=true,iI q.1=true]else .st else .st
theorem Jw{f f0:Addr}{fd0:FuncData}{ps0:List Str}{n b:Str}{C0:Addr}{pb p0:Pos}(Fn:iT K g qual st f fd)
  (S:au (ao (ae st)) ps (ae st)) (hΦ:ld P w K mg base k Φ) (hF0:bT P w K mg base df k f0 fd0 ps0 (KZ K fs)) (hb0:cx K fd0 ps0 []) (hk0:W.keepIn K (.ref f0)=true)
  (hgb:(ae st).names.lookup b=some .globalImplicit) (hm:mg b=some (.ref C0)) (hga:W.specialIn K (.ref C0) "__getattribute__" = some (some (.builtin "type.__getattribute__"))) (hrd:W.readsIn K C0 mc=true) (hfc:W.findCls K (.ref C0) mc "__init__" = some (.val (.ref f0)))
  (hbody:ai st=[.Expr (.Call (.Attribute (.Name b pb) "__init__" ap) (.Name s0 p0::args) [] cp) p4]) (hs0:ps[0]?=some s0) (hok:fH s0=true) (hdb:(b==("__debug__" : Str))=false) (hln:(ap.endLine==cp.line)=true) (hfew:args.length<28)
  (hna:∀C,W.nsIn K mainGlobals n=some (some (.ref C))->∀x∈fs,cr K C x):bT P w K mg base df (k+1) f fd ps (Ax K n (jS Φ (ae st) ps args n fs)):=by
 refine Fn.ok S (λvs H Q E h=>?_) (λcdv A outer s H vs Q E hr h=>?_)
 ·obtain⟨x,ws,C,dx,ds,r,l,rfl,hx,hns,hc,r1,hF,_⟩:=h
  unfold jS at hF
  split at hF
  ·rename_i hl;rw[aG9,<- r1.length];exact hl
  ·cases hF
 ·obtain⟨x,ws,C,dx,ds,r,l,rfl,hx,hns,hc,r1,hF,hp,hl,q⟩:=h
  unfold jS at hF
  split at hF
  ·rename_i hlen
   obtain⟨qv,l1,l2,h1,p1,hF,p2⟩:=bw hF hp
   split at hF
   ·rename_i hfl
    cases hF
    have G:=gL (outer:=outer) (H:=H) (E:=E) S hΦ hr
    have r0:am K H (λ_ _=>True) (.obj n [] []::ds) (.ref x::ws):=am.cons (by rw[aj];exact⟨rfl,rfl,x,C,dx,[],rfl,hns,hc,hx,am.nil⟩) r1
    obtain⟨E0,hsl⟩:=jy (P:=P) (w:=w) (mg:=mg) (base:=base) (qual:=qual) (f:=f) (cdv:=cdv) (A:=A) (outer:=outer) (s:=s) (E:=E) S r0 hlen
    obtain⟨hst,hal⟩:=fK h1 p1
    have ad:=qB args h1 p1 G
    have hi0:(ao (ae st))[0]?=some s0:=by
     have hp0:=(aI3.mp hs0).1
     have hs1:=hs0
     rw[<- S.pre,List.getElem?_take_of_lt hp0]at hs1
     exact hs1
    have hv0:eB (ae st) s0:=by
     rcases S.par s0 (aK2 hs0)with z|z
     ·exact .inl z
     ·exact .inr (.inl z)
    have hst':∀e∈Expr.Name s0 p0::args,∀y p,e ≠ .Starred y p:=λe he=>by
     rcases aF8.mp he with rfl|he
     ·intro _ _ z;cases z
     ·exact hst e he
    rw[hbody]
    refine⟨_,nE (kJ (CP (G.gl b hgb) hm hga hrd hfc hk0 hF0 hr hb0 iA (xF (gU (i:=0) hi0 hv0 (dw hok).1 (dw hok).2) (ad (λ_=>none)) (bC λ_ _ z=>by cases z)) (bC λ_ _ z=>by cases z) (dP hst) hdb (um (base_of rfl) (iO hst' (by rw[aG9];omega)) hln)) rfl),?_⟩
    refine⟨.ref x,?_,E0,λvs H1 s1 rv=>?_⟩
    ·have hn:0<(ao (ae st)).length:=(aI3.mp hi0).1
     rfl
    ·refine⟨x,vs++[],C,dx,rfl,by rw[aK7,<- rv.length];exact hfl,s1 _ _ hx,hc,hna C hns,q _ (λa o ha h=>?_) ?_⟩
     ·rw[aK ha];exact s1 _ _ h
     ·rw[aj,aK7]
      exact⟨p2.1,hfl.symm,x,C,dx,vs,rfl,hns,hc,aU,((rv.off (s1 _ _ hx) (λa o ha h=>by rw[aK ha];exact h) p2.2.1).imp λ_ _ _=>True.intro)⟩
   ·cases hF
  ·cases hF
theorem aW{f:Addr}(Fn:iT K g qual st f fd)
  (S:au (ao (ae st)) ps (ae st)) (hm:mg g=some (.ref f)) (hb:cx K fd ps []) (hd:(g==("__debug__" : Str))=false)
  (hΦ:ld P w K mg base k Φ) (hrun:bR Φ (ae st) ps (ai st) F):cg P w K mg base (k+1) g F :=
 ⟨f,fd,ps,x5 Fn S hΦ hrun,hm,Fn.kp,hb,hd⟩
theorem av{Pr:α->Prop}{x:α}{l:List α}(h1:Pr x)(h2:∀y∈l,Pr y):∀y∈x::l,Pr y:=λy hy=>(aF8.mp hy).elim (λe=>e ▸ h1) (h2 y)
theorem ak{Pr:α->Prop}:∀y∈([]:List α),Pr y:=λy hy=>by cases hy
theorem Nn{a:Addr}{ns:List Int}(hO:zW H)(hS:dG K H a (ns.map V.int))(h:af (F [.lst (ns.map D.int)]) (.bl true)):jO K F [.ref a] H (λv _=>v=.bl true) λ_ _ _=>False:=by
 obtain⟨l,h,hp⟩:=h
 refine⟨[.lst (ns.map D.int)],.bl true,l,am.one ?_,h,hp,λv H' _ r=>by rw[aj]at r;exact r⟩
 rw[aj]
 rcases hS with(hS|hS)|hS
 ·rcases hO a with z|⟨o,xs,z⟩
  ·rw[z]at hS;cases hS
  ·rw[z]at hS;cases hS
 ·exact⟨a,_,false,rfl,.inl hS,True.intro,am.ofInts⟩
 ·exact⟨a,_,false,rfl,.inr hS,True.intro,am.ofInts⟩
noncomputable abbrev tP(P:Program)(w:World)(K:W.Frag)(mg:Str->Option Value)(base:Heap)(k:Nat):Str×(List D->Rs D)->Prop:=λp=>VM P w K mg base k p.1 p.2
noncomputable abbrev iz(mg:Str->Option Value)(K:W.Frag):Str×D->Prop:=λp => ∃v u,mg p.1=some u/\bO v u/\∀H P,aj K H P p.2 v
noncomputable abbrev i6:Str×(List D->R1)->Prop:=λp=>ff p.1 p.2
noncomputable abbrev sL:Str×(List D->Nat->R1)->Prop:=λp=>nY p.1 p.2
noncomputable abbrev pj:Str×(D->List D->R1)->Prop:=λp=>lS p.1 p.2
noncomputable abbrev zY:Str×(List D->List D->Nat->Rs (List D))->Prop:=λp=>rq p.1 p.2
theorem aV{l:List (Str×(List D->Rs D))}{c:List (Str×D)}{b:List (Str×(List D->R1))}{i:List (Str×(List D->Nat->R1))}{m:List (Str×(D->List D->R1))}{t:List (Str×(List D->List D->Nat->Rs (List D)))}
  (hl:∀p∈l,tP P w K mg base k p) (hc:∀p∈c,iz mg K p) (hb:∀p∈b,i6 p) (hi:∀p∈i,sL p) (hm:∀p∈m,pj p) (ht:∀p∈t,zY p) (hs:rg sf) (hn:∀n∈iQ,mg n=none):ld P w K mg base k (Tb l c b i m t sf) :=
 ⟨λg F h=>hl (g,F) (aH0 h),λx d h=>hc (x,d) (aH0 h),λf B h=>hb (f,B) (aH0 h),λf B h=>hi (f,B) (aH0 h),λf B h=>hm (f,B) (aH0 h),λf B h=>ht (f,B) (aH0 h),hs,(λ_ _ h=>by cases h),(λ_ _ _ h=>by cases h),hn⟩
noncomputable abbrev wI(K:W.Frag):Str×List Str->Prop:=λp => ∀f∈p.2,∀C,W.nsIn K mainGlobals p.1=some (some (.ref C))->cr K C f
noncomputable abbrev zX(P:Program)(w:World)(K:W.Frag)(mg:Str->Option Value)(base:Heap)(k:Nat):Str×List (Str×(List D->Rs D))->Prop:=λp => ∀q∈p.2,fD P w K mg base k p.1 q.1 q.2
theorem fo{l:List (Str×(List D->Rs D))}{c:List (Str×D)}{b:List (Str×(List D->R1))}{i:List (Str×(List D->Nat->R1))}{m:List (Str×(D->List D->R1))}{t:List (Str×(List D->List D->Nat->Rs (List D)))}{fl:List (Str×List Str)}{om:List (Str×List (Str×(List D->Rs D)))}
  (hl:∀p∈l,tP P w K mg base k p) (hc:∀p∈c,iz mg K p) (hb:∀p∈b,i6 p) (hi:∀p∈i,sL p) (hm:∀p∈m,pj p) (ht:∀p∈t,zY p) (hs:rg sf) (hfl:∀p∈fl,wI K p) (hom:∀p∈om,zX P w K mg base k p) (hn:∀n∈iQ,mg n=none):ld P w K mg base k (mZ l c b i m t sf fl om) :=
 ⟨λg F h=>hl (g,F) (aH0 h),λx d h=>hc (x,d) (aH0 h),λf B h=>hb (f,B) (aH0 h),λf B h=>hi (f,B) (aH0 h),λf B h=>hm (f,B) (aH0 h),λf B h=>ht (f,B) (aH0 h),hs,
  (λn f h C hC=>by
   replace h:(match fl.lookup n with|some fs=>fs.contains f|none=>false)=true:=h
   split at h
   ·rename_i fs e;exact hfl (n,fs) (aH0 e) f (List.contains_iff_mem.mp h) C hC
   ·cases h),
  (λn x F h=>by
   replace h:(match om.lookup n with|some ms=>ms.lookup x|none=>none)=some F:=h
   split at h
   ·rename_i ms e;exact hom (n,ms) (aH0 e) (x,F) (aH0 h)
   ·cases h),hn⟩
theorem lw{n:Str}{f C:Addr}(Fn:iT K g qual st f fd)
  (S:au (ao (ae st)) ps (ae st)) (hn:W.nsIn K mainGlobals n=some (some (.ref C))) (hc:eV K C) (hm:jJ K C g f) (hb:cx K fd ps [])
  (hΦ:ld P w K mg base k Φ) (hrun:bR Φ (ae st) ps (ai st) F):fD P w K mg base (k+1) n g F :=
 ⟨C,f,fd,ps,hn,hc,hm,x5 Fn S hΦ hrun,hb⟩
theorem MK{n:Str}{C f:Addr}(hF:∀ds r l,F ds=.ok r l->r.lless=true)(hM:Mk K C f)(h:bT P w K mg base df k f fd ps (Ax K n F))(hm:mg n=some (.ref C))
  (hn:W.nsIn K mainGlobals n=some (some (.ref C))) (hc:eV K C) (hb:cx K fd ps []) (hd:(n==("__debug__" : Str))=false):wE P w K mg base (k+1) n F:=⟨k,C,f,fd,ps,aF9 _,hF,hM,h,hm,hn,hc,hb,hd⟩
theorem zi{n:Str}:∀ds r l,jS Φ sc ps args n fs ds=.ok r l->r.lless=true:=λds r l h=>by
 unfold jS at h
 split at h
 ·unfold Rs.bnd at h
  split at h
  ·cases h
  ·split at h
   ·cases h
   ·rename_i e
    cases h
    dsimp only at e
    split at e
    ·cases e;rfl
    ·cases e
 ·cases h
theorem wc{c:Addr}{ss:Array (Option Value)}(hm:mg x=some (.ref c))(hl:K.lookup c=some ⟨.type "tuple", none,.seq its nn,ss⟩)(hz:its.size<=sizeLine)(hv:bi vs its.toList)
  (hr:∀H P,am K H P ds vs):iz mg K (x,.tup ds):=⟨.ref c,.ref c,hm,rfl,λH P=>by rw[aj];exact⟨c,_,rfl,.inr ⟨_,its,nn,hl,rfl,rfl,rfl,hz,hv⟩,hr H P⟩⟩
theorem fJ{c:Addr}{ss:Array (Option Value)}{ns:List Int}(hl:K.lookup c=some ⟨.type "tuple", none,.seq its nn,ss⟩)(hz:its.size<=sizeLine)(hv:bi (ns.map V.int) its.toList):∀H P,aj K H P (.tup (ns.map .int)) (.ref c) :=
 λH P=>by rw[aj];exact⟨c,_,rfl,.inr ⟨_,its,nn,hl,rfl,rfl,rfl,hz,hv⟩,am.ofInts⟩
theorem yg{y:Str}{t:Tok}(hm:mg x=some (.str y t)):iz mg K (x,.str y):=⟨.str y,.str y t,hm,⟨t,rfl⟩,λH P=>by rw[aj]⟩
theorem nR{y:Int}{t:Tok}(hm:mg x=some (.int y t)):iz mg K (x,.int y):=⟨.int y,.int y t,hm,⟨t,rfl⟩,λH P=>by rw[aj]⟩
theorem bv{r:Rs α}{a:α}{l:List Prop}(h:r=.ok a l)(hp:aT l):af r a:=⟨l,h,hp⟩
theorem af.eq{r:Rs α}{a b:α}(h:af r a)(e:a=b):af r b:=e ▸ h
theorem af.bnd{r:Rs α}{f:α->Rs β}{a:α}{b:β}(h1:af r a)(h2:af (f a) b):af (r.bnd f) b:=by
 obtain⟨l,rfl,p1⟩:=h1
 obtain⟨m,h2,p2⟩:=h2
 refine⟨l++m,?_,fc.mpr ⟨p1,p2⟩⟩
 show(match f a with | .st=>(.st:Rs β) | .ok b m=>Rs.ok b (l++m))=_
 rw[h2]
theorem af.inj{r:Rs α}{a b:α}(h:af r a)(g:af r b):a=b:=by
 obtain⟨l,h,_⟩:=h;obtain⟨m,g,_⟩:=g;rw[h]at g;cases g;rfl
section
variable{Φ:Fx}{sc:Scope}{ρ ρ':al}{fl:Fl}{ss:List Stmt}
theorem bG(h:af (aF Φ body sc (de ps ds)) (.rt d))(hl:ds.length=ps.length:=by rfl):af (bH Φ sc ps body ds) d:=by
 unfold bH;rw[if_pos hl];exact h.bnd ⟨[],rfl,True.intro⟩
theorem dh:af (aF Φ [] sc ρ) (.nx ρ):=⟨[],rfl,True.intro⟩
theorem aN{s:Stmt}(h:af (ga Φ s sc ρ) (.nx ρ'))(h2:af (aF Φ ss sc ρ') fl):af (aF Φ (s::ss) sc ρ) fl:=af.bnd h h2
theorem mq{s:Stmt}(h:af (ga Φ s sc ρ) fl)(hf:∀ρ,fl ≠ .nx ρ):af (aF Φ (s::ss) sc ρ) fl:=af.bnd h (by
 cases fl with
 | nx ρ=>exact absurd rfl (hf ρ)
 | rt d=>exact⟨[],rfl,True.intro⟩
 | bk ρ=>exact⟨[],rfl,True.intro⟩
 | ct ρ=>exact⟨[],rfl,True.intro⟩)
theorem cf{s:Stmt}(h:af (ga Φ s sc ρ) (.rt d)):af (aF Φ (s::ss) sc ρ) (.rt d):=mq h λ_ z=>by cases z
theorem uY{s:Stmt}(h:af (aF Φ (s::ss) sc ρ) fl):(∃ρ',af (ga Φ s sc ρ) (.nx ρ')/\af (aF Φ ss sc ρ') fl)\/((∀ρ,fl ≠ .nx ρ)/\af (ga Φ s sc ρ) fl):=by
 obtain⟨f,h1,h2⟩:=az (show af (Rs.bnd _ _) fl from h)
 cases f with
 | nx ρ'=>exact .inl ⟨ρ',h1,h2⟩
 | rt d=>cases aQ h2;exact .inr ⟨λ_ z=>(by cases z),h1⟩
 | bk ρ=>cases aQ h2;exact .inr ⟨λ_ z=>(by cases z),h1⟩
 | ct ρ=>cases aQ h2;exact .inr ⟨λ_ z=>(by cases z),h1⟩
theorem BK:∀{a:List Stmt} {ρ:al},af (aF Φ a sc ρ) (.nx ρ')->af (aF Φ ss sc ρ') fl->af (aF Φ (a++ss) sc ρ) fl
 | [],ρ,h,h2=>by cases aQ h;exact h2
 | s::a,ρ,h,h2=>by
  rcases uY h with⟨ρ1,h3,h4⟩|⟨h3,_⟩
  ·exact aN h3 (BK h4 h2)
  ·exact absurd rfl (h3 _)
theorem sA:∀{a:List Stmt} {ρ:al},af (aF Φ (a++ss) sc ρ) fl->(∃ρ',af (aF Φ a sc ρ) (.nx ρ')/\af (aF Φ ss sc ρ') fl)\/((∀ρ,fl ≠ .nx ρ)/\af (aF Φ a sc ρ) fl)
 | [],ρ,h=>.inl ⟨ρ,dh,h⟩
 | s::a,ρ,h=>by
  rcases uY h with⟨ρ1,h3,h4⟩|⟨h3,h4⟩
  ·rcases sA h4 with⟨ρ2,h5,h6⟩|⟨h5,h6⟩
   ·exact .inl ⟨ρ2,aN h3 h5,h6⟩
   ·exact .inr ⟨h5,aN h3 h6⟩
  ·exact .inr ⟨h3,mq h4 h3⟩
theorem bV(n:Nat)(h:af (aF Φ (ss.take n) sc ρ) (.nx ρ'))(h2:af (aF Φ (ss.drop n) sc ρ') fl):af (aF Φ ss sc ρ) fl:=by
 rw[<- List.take_append_drop n ss];exact BK h h2
theorem yB{a b:List Stmt}(hc:af (aH Φ c false sc ρ) (.bl t,k))(h1:t=true->af (aF Φ (a++ss) sc ρ) fl)(h2:t=false->af (aF Φ (b++ss) sc ρ) fl):af (aF Φ (.If c a b p::ss) sc ρ) fl:=by
 have key:∀x,af (cond t (aF Φ a sc ρ) (aF Φ b sc ρ)) x->af (ga Φ (.If c a b p) sc ρ) x:=λx hx=>af.bnd hc hx
 cases t with
 | true =>
  rcases sA (h1 rfl)with⟨ρ1,h3,h4⟩|⟨h3,h4⟩
  ·exact aN (key _ h3) h4
  ·exact mq (key _ h4) h3
 | false =>
  rcases sA (h2 rfl)with⟨ρ1,h3,h4⟩|⟨h3,h4⟩
  ·exact aN (key _ h3) h4
  ·exact mq (key _ h4) h3
theorem cy{a b:List Stmt}(hc:af (aH Φ c false sc ρ) (.bl t,k))(ht:t=true)(h1:af (aF Φ (a++ss) sc ρ) fl):af (aF Φ (.If c a b p::ss) sc ρ) fl:=yB hc (λ_=>h1) λz=>by rw[ht]at z;cases z
theorem aD{a b:List Stmt}(hc:af (aH Φ c false sc ρ) (.bl t,k))(ht:t=false)(h1:af (aF Φ (b++ss) sc ρ) fl):af (aF Φ (.If c a b p::ss) sc ρ) fl:=yB hc (λz=>by rw[ht]at z;cases z) λ_=>h1
theorem qy{it:Expr}(hi:af (aH Φ it true sc (demote it ρ)) (d,k))(hd:items d=some ds)(hk:k<=1)(ht:gF it tg=true)(h:af (e9 (cI sc tg) (aF Φ body sc) ds (demote it ρ)) fl):af (ga Φ (.For tg it body [] p) sc ρ) fl:=by
 rw[rY,if_pos (show List.isEmpty ([]:List Stmt)=true from rfl)]
 refine hi.bnd ?_
 dsimp only
 rw[hd]
 dsimp only
 rw[if_pos ⟨hk,ht⟩]
 exact h
theorem oS(h:af (ol (λρ=>(aH Φ c false sc ρ).bnd λp=>jE p λb=>.ok b []) (aF Φ body sc) cq ρ) fl):af (ga Φ (.While c body [] p) sc ρ) fl:=by
 rw[vV,if_pos (show List.isEmpty ([]:List Stmt)=true from rfl)];exact h
theorem ax{v:D}(ha:af (cZ Φ args sc ρ) (ds,k))(hv:af (F ds) v)(hF:Φ.fn f=some F:=by rfl)(hg:sc.names.lookup f=some .globalImplicit:=by rfl):af (aH Φ (.Call (.Name f p) args [] q) it sc ρ) (v,0):=by
 rw[jv,if_pos hg]
 refine ha.bnd ?_
 unfold lL
 rw[hF]
 exact hv.bnd ⟨[],rfl,True.intro⟩
theorem dN{v:D×Nat}(ha:af (cZ Φ args sc ρ) (ds,k))(hv:af (B ds) v)(hF:Φ.fn f=none:=by rfl)(hI:(if it=true then Φ.itr f else none)=none:=by rfl)(hB:Φ.blt f=some B:=by rfl)(hg:sc.names.lookup f=some .globalImplicit:=by rfl):af (aH Φ (.Call (.Name f p) args [] q) it sc ρ) v:=by
 rw[jv,if_pos hg]
 refine ha.bnd ?_
 unfold lL
 rw[hF];dsimp only
 rw[hI];dsimp only
 rw[hB];exact hv
theorem bD:af (cZ Φ [] sc ρ) ([],0):=⟨[],rfl,True.intro⟩
theorem aJ(h:af (aH Φ e false sc ρ) (d,k))(h2:af (cZ Φ es sc ρ) (ds,j)):af (cZ Φ (e::es) sc ρ) (d::ds,kj k j):=af.bnd h (af.bnd h2 ⟨[],rfl,True.intro⟩)
theorem rZ{out:List D}(hi:af (aH Φ iter true sc ρ) (d,k))(hd:items d=some ds)(hl:ds.length<=cq/\(aI ds=true\/k<=1))
    (h:af (iC (λd=>match cI scope tg d (flt scope ρ)with
            | none=>.st
            | some ρ'=>(fv Φ .And ifs scope ρ').bnd λb=>cond b ((aH Φ elt false scope ρ').bnd λr=>.ok (some r) []) (.ok none [])) ds) (out,j)) (hj:j<=1) (hc:qR sc scope=true:=by rfl) (ht:gF iter tg=true:=by rfl):af (aH Φ (.ListComp elt [⟨tg,iter,ifs,0⟩] scope p) it sc ρ) (.lst out,j):=by
  rw[r9,if_pos hc]
  refine hi.bnd ?_
  dsimp only
  rw[hd]
  dsimp only
  rw[if_pos ht]
  refine af.bnd (a:=()) ⟨_,rfl,hl.1,hl.2,True.intro⟩ ?_
  refine h.bnd ?_
  rw[if_pos hj]
  exact⟨[],rfl,True.intro⟩
theorem dY{i:Expr}{x:D}{j:Int}(ha:af (aH Φ a false sc ρ) (x,k))(hi:af (aH Φ i false sc ρ) (.int j,k2))(hx:gD x=some l)(hd:L2.atI l j=some d):af (aH Φ (.Subscript a i p) it sc ρ) (d,kn d k):=by
 have key:af ((aH Φ a false sc ρ).bnd λp=>(aH Φ i false sc ρ).bnd λq=>oG p q) (d,kn d k):=by
  refine ha.bnd (hi.bnd ?_)
  rcases ik hx with rfl|rfl
  ·show af (vF (.tup l) j k) _
   unfold vF
   rw[hx];dsimp only
   rw[hd];exact⟨[],rfl,True.intro⟩
  ·show af (vF (.lst l) j k) _
   unfold vF
   rw[hx];dsimp only
   rw[hd];exact⟨[],rfl,True.intro⟩
 cases i with
 | Slice lo hi st p2=>exact(aw hi).elim
 | _=>exact key
theorem bI(h:af (aH Φ e false sc ρ) (d,0))(hx:eI sc x=true:=by rfl):af (ga Φ (.Assign [.Name x p] e q) sc ρ) (.nx (bF ρ x (d,true))):=by
 refine af.bnd h ?_
 unfold rN
 rw[if_pos hx]
 exact⟨[],rfl,True.intro⟩
theorem bP(h:af (aH Φ e false sc ρ) (d,k))(hk:k=0\/k=2:=by exact .inl rfl)(hn:ui e=false:=by rfl):af (ga Φ (.Return (some e) q) sc ρ) (.rt d):=by
 have h:af (aH Φ e false sc (vi e ρ)) (d,k):=by unfold vi;rw[hn];exact h
 refine af.bnd h ?_
 unfold yJ
 rw[if_pos hk]
 exact⟨[],rfl,True.intro⟩
end
theorem oR{bind:D->al->Option al}{body:al->Rs Fl}(aq:List D->al->Prop)(step:∀d l ρ,aq (d::l) ρ->∃ρ1 ρ2,bind d ρ=some ρ1/\(af (body ρ1) (.nx ρ2)\/af (body ρ1) (.ct ρ2))/\aq l ρ2):∀{ds:List D} {ρ:al},aq ds ρ->∃ρ',af (e9 bind body ds ρ) (.nx ρ')/\aq [] ρ'
 | [],ρ,h=>⟨ρ,⟨[],rfl,True.intro⟩,h⟩
 | d::l,ρ,h=>by
  obtain⟨ρ1,ρ2,h1,h2,h3⟩:=step d l ρ h
  obtain⟨ρ',h4,h5⟩:=oR aq step h3
  refine⟨ρ',?_,h5⟩
  show af (match bind d ρ with|none=>(.st:Rs Fl)|some ρ1=>(body ρ1).bnd (lV (e9 bind body l))) _
  rw[h1]
  rcases h2 with h2|h2
  ·exact h2.bnd h4
  ·exact h2.bnd h4
theorem xZ{bind:D->al->Option al}{body:al->Rs Fl}(aq:List D->al->Prop)(R:D->Prop)(step:∀d l ρ,aq (d::l) ρ->∃ρ1,bind d ρ=some ρ1/\((∃ρ2,(af (body ρ1) (.nx ρ2)\/af (body ρ1) (.ct ρ2))/\aq l ρ2)\/∃r,af (body ρ1) (.rt r)/\R r)):∀{ds:List D} {ρ:al},aq ds ρ->(∃ρ',af (e9 bind body ds ρ) (.nx ρ')/\aq [] ρ')\/∃r,af (e9 bind body ds ρ) (.rt r)/\R r
 | [],ρ,h=>.inl ⟨ρ,⟨[],rfl,True.intro⟩,h⟩
 | d::l,ρ,h=>by
  obtain⟨ρ1,h1,h2⟩:=step d l ρ h
  have key:e9 bind body (d::l) ρ=(body ρ1).bnd (lV (e9 bind body l)):=by
   show(match bind d ρ with|none=>(.st:Rs Fl)|some ρ1=>(body ρ1).bnd (lV (e9 bind body l)))=_
   rw[h1]
  rw[key]
  rcases h2 with⟨ρ2,h2,h3⟩|⟨r,h2,h3⟩
  ·have go:∀x,af (e9 bind body l ρ2) x->af ((body ρ1).bnd (lV (e9 bind body l))) x:=λx hx=>by
    rcases h2 with h2|h2
    ·exact h2.bnd hx
    ·exact h2.bnd hx
   rcases xZ aq R step h3 with⟨ρ',h4,h5⟩|⟨r,h4,h5⟩
   ·exact .inl ⟨ρ',go _ h4,h5⟩
   ·exact .inr ⟨r,go _ h4,h5⟩
  ·exact .inr ⟨r,h2.bnd ⟨[],rfl,True.intro⟩,h3⟩
theorem tH{α:Type}{step:D->Rs (Option (D×Nat))}{g:α->D}{f:α->D}:∀{l:List α},(∀x∈l,af (step (g x)) (some (f x,0)))->af (iC step (l.map g)) (l.map f,0)
 | [],_=>⟨[],rfl,True.intro⟩
 | x::l,h=>af.bnd (h x aG0) (af.bnd (tH λy hy=>h y (aG1 _ hy)) ⟨[],rfl,True.intro⟩)
theorem jA{α:Type}{step:D->Rs (Option (D×Nat))}{g:α->D}{f:α->D}{c:α->Bool}:∀{l:List α},(∀x∈l,af (step (g x)) (cond (c x) (some (f x,0)) none))->af (iC step (l.map g)) ((l.filter c).map f,0)
 | [],_=>⟨[],rfl,True.intro⟩
 | x::l,h=>by
  have h1:=h x aG0
  have h2:=jA (c:=c) λy hy=>h y (aG1 _ hy)
  cases e:c x with
  | true =>
   rw[e]at h1
   rw[List.filter_cons_of_pos e]
   exact af.bnd h1 (af.bnd h2 ⟨[],rfl,True.intro⟩)
  | false =>
   rw[e]at h1
   rw[List.filter_cons_of_neg (by rw[e];decide)]
   exact af.bnd h1 (af.bnd h2 ⟨[],rfl,True.intro⟩)
theorem Jb{a b:Int}(h:a.natAbs<18446744073709551616):dH a b:=.inl h
theorem Ja{a b:Int}(h:b.natAbs<18446744073709551616):dH a b:=.inr (.inl h)
theorem di{a b:Int}(h:a.natAbs<bW)(g:b.natAbs<bW):dH a b:=.inr (.inr (.inl ⟨h,g⟩))
theorem OX(h:n<2 ^ 64):n<bW:=aG7 h (aG8 (by decide) (by decide))
theorem JX{b:Int}(h0:b≠0)(h:b.natAbs<18446744073709551616):fU b:=⟨h0,OX h⟩
theorem Kg{ns:List Int}{i:Int}(h0:0<=i)(h1:i<ns.length):L2.atI (ns.map D.int) i=some (.int (ns.getD i.toNat 0)):=by
 obtain⟨j,rfl⟩:=Int.eq_ofNat_of_zero_le h0
 have hj:j<ns.length:=by omega
 have:=sy (xs:=ns.map D.int) (j:=j) (v:=.int (ns.getD j 0)) (by simp[hj])
 simpa using this
theorem eL{y:D×Bool}:bF ρ x y x=some y:=if_pos rfl
theorem Ec:aT []:=True.intro
theorem zK{l m:List Prop}(h:aT l)(g:aT m):aT (l++m):=fc.mpr ⟨h,g⟩
theorem Eb{p:Prop}(h:p):aT [p]:=⟨h,True.intro⟩
theorem wV{p:Prop}{l:List Prop}(h:p)(g:aT l):aT (p::l):=⟨h,g⟩
theorem Iy{a b:Int}(h0:0<=b)(h1:b<=1000)(h2:a.natAbs<18446744073709551616):yM a b:=⟨h0,h1,h2⟩
variable{X:Cx}
theorem xq{Φ:Fx}{sc:Scope}{H0:Hp}{fl:Fl}{rest:List Stmt}(G:bA Φ X sc)(hp:PassesOwn (model X.prog X.w) X.A X.env X.xe):∀{pre:List Stmt} {ρ ρ1:al},af (aF Φ pre sc ρ) (.nx ρ1)->fI X H0 ρ1 rest fl->fI X H0 ρ (pre++rest) fl
 | [],ρ,ρ1,h,k=>by cases aQ h;exact k
 | st::ss,ρ,ρ1,h,k=>by
  obtain⟨f1,h1,h2⟩:=az (show af (Rs.bnd _ _) _ from h)
  cases f1 with
  | nx ρ'=>exact oH ((kO Φ _).s st (aJ1 _) h1 G hp) (xq G hp h2 k)
  | rt d=>cases aQ h2
  | bk ρ'=>cases aQ h2
  | ct ρ'=>cases aQ h2
theorem vR{f:Addr}(h:bT P w K mg base df k f fd ps (jO K F))(hm:mg g=some (.ref f))(hk:W.keepIn K (.ref f)=true)(hb:cx K fd ps [])(hd:(g==("__debug__" : Str))=false):cg P w K mg base k g F :=
 ⟨f,fd,ps,h,hm,hk,hb,hd⟩
variable{X:Cx}
theorem xz{Φ:Fx}{sc:Scope}{H0:Hp}{rest:List Stmt}{t:TS}(G:bA Φ X sc)(hp:PassesOwn (model X.prog X.w) X.A X.env X.xe)(hr:eT X rest t):∀{pre:List Stmt} {ρ ρ1:al},af (aF Φ pre sc ρ) (.nx ρ1) ->
  eT X (pre++rest) (λD σ H => ∃ow,aR X ow H σ ρ/\σ.length=X.N.length/\cA H0 ow H/\∀ow' σ' H',aR X ow' H' σ' ρ1->σ'.length=X.N.length->cA H0 ow' H'->t D σ' H')
 | [],ρ,ρ1,h=>by
  cases aQ h
  exact λpins s σ H D I ⟨ow,E,hl,B,q⟩=>hr pins s σ H D I (q ow σ H E hl B)
 | st::ss,ρ,ρ1,h=>by
  obtain⟨f1,h1,h2⟩:=az (show af (Rs.bnd _ _) _ from h)
  cases f1 with
  | nx ρ' =>
   have sd:=(kO Φ _).s st (H0:=H0) (aJ1 _) h1 G hp
   have ih:=xz (H0:=H0) G hp hr h2
   exact λpins s σ H D I ⟨ow,E,hl,B,q⟩=>du sd ih pins s σ H D I ⟨ow,E,hl,B,λow' σ' H' E' hl' k=>⟨ow',E',hl',B.keep k,q⟩⟩
  | rt d=>cases aQ h2
  | bk ρ'=>cases aQ h2
  | ct ρ'=>cases aQ h2
theorem DN(E:aR X ow H σ ρ):aR X (λ_=>none) H σ (gZ ρ):=⟨λx d o h=>by
 unfold gZ at h
 cases e:ρ x with
 | none=>rw[e]at h;cases h
 | some p =>
  rw[e]at h
  obtain⟨i,v,e1,e2,e3,e4⟩:=E.get x p.1 p.2 (by rw[e])
  cases h
  exact⟨i,v,e1,e2,e3,e4.imp λ_ _ _ _=>rfl⟩,λa ha=>absurd rfl ha⟩
noncomputable def Sub(C ρ:al):Prop:=∀x y,C x=some y->ρ x=some y
theorem Sub.refl(ρ:al):Sub ρ ρ:=λ_ _ h=>h
theorem Sub.trans{a b c:al}(h:Sub a b)(g:Sub b c):Sub a c:=λx y e=>g x y (h x y e)
theorem Sub.put(h:Sub C ρ)(x:Str)(y:D×Bool):Sub (bF C x y) (bF ρ x y):=λz w e=>by
 rw[dr]at e⊢
 by_cases hz:z=x
 ·rw[if_pos hz]at e⊢;exact e
 ·rw[if_neg hz]at e⊢;exact h z w e
theorem Sub.flt(h:Sub C ρ)(scope:Scope):Sub (flt scope C) (flt scope ρ):=λz w e=>by
 obtain⟨e1,e2⟩:=lF e
 unfold Sp.flt
 rw[if_pos e2];exact h z w e1
theorem Sub.demX(h:Sub C ρ)(x:Str):Sub (demX x C) (demX x ρ):=by
 unfold Sp.demX
 intro z w hz
 by_cases hx:z=x
 ·simp only[if_pos hx]at hz⊢
  cases hc:C z with
  | none=>rw[hc]at hz;cases hz
  | some q=>rw[hc]at hz;rw[h z q hc];exact hz
 ·simp only[if_neg hx]at hz⊢;exact h z w hz
theorem Sub.demA(h:Sub C ρ)(x:Str):Sub (demA x C) (demA x ρ):=by
 intro z w hz
 unfold Sp.demA at hz⊢
 by_cases hx:z=x
 ·simp only[if_pos hx]at hz⊢
  cases hc:C z with
  | none=>rw[hc]at hz;cases hz
  | some q=>rw[hc]at hz;rw[h z q hc];exact hz
 ·simp only[if_neg hx]at hz⊢;exact h z w hz
theorem Sub.demL:∀{es:List Expr} {C ρ:al},Sub C ρ->Sub (demL es C) (demL es ρ)
 | [],_,_,h=>h
 | e::es,C,ρ,h=>by
  cases e with
  | Name x p=>exact Sub.demL (es:=es) (h.demA x)
  | Subscript a i p =>
   cases a with
   | Name x q=>exact Sub.demL (es:=es) (h.demA x)
   | _=>exact Sub.demL (es:=es) h
  | _=>exact Sub.demL (es:=es) h
theorem Sub.demote(h:Sub C ρ)(e:Expr):Sub (demote e C) (demote e ρ):=by
 unfold Sp.demote
 split
 ·exact h.demX _
 ·exact h.demX _
 ·exact h.demL
 ·exact h
theorem sT:∀{es:List Expr} {ds:List D} {C C' ρ:al},bL sc es ds C=some C'->Sub C ρ->∃ρ',bL sc es ds ρ=some ρ'/\Sub C' ρ':=by
 intro es
 induction es with
 | nil =>
  intro ds C C' ρ h s
  cases ds with
  | nil=>cases h;exact⟨ρ,rfl,s⟩
  | cons d ds=>cases h
 | cons e es ih =>
  intro ds C C' ρ h s
  cases ds with
  | nil=>cases e<;>cases h
  | cons d ds =>
   cases e with
   | Name z p =>
    rw[bL]at h⊢
    split at h
    ·rename_i hz
     rw[if_pos hz]
     exact ih h (s.put _ _)
    ·cases h
   | _=>cases h
theorem uU(h:cI sc tg d C=some C')(s:Sub C ρ):∃ρ',cI sc tg d ρ=some ρ'/\Sub C' ρ':=by
 unfold cI at h⊢
 split at h
 ·split at h
  ·rename_i hx;cases h;exact⟨_,if_pos hx,s.put _ _⟩
  ·cases h
 ·split at h
  ·exact sT h s
  ·cases h
 ·cases h
theorem gj{m:List Prop}(h:b=true->aT m):aT (gd b m):=by
 cases m with
 | nil=>exact True.intro
 | cons p l=>exact⟨h,True.intro⟩
theorem wt{c:Bool}{r:Rs Bool}(h:b=true->af r c)(hf:b=false->c=false):af (zI b r) c:=by
 cases b with
 | true =>
  obtain⟨m,rfl,hm⟩:=h rfl
  exact⟨_,rfl,gj λ_=>hm⟩
 | false =>
  rw[hf rfl]
  cases r with
  | ok c' m=>exact⟨_,rfl,gj λz=>(by cases z)⟩
  | st=>exact⟨_,rfl,True.intro⟩
theorem yS{c:Bool}{r:Rs Bool}(h:b=false->af r c)(hf:b=true->c=true):af (EZ b r) c:=by
 cases b with
 | false =>
  obtain⟨m,rfl,hm⟩:=h rfl
  exact⟨_,rfl,gj λ_=>hm⟩
 | true =>
  rw[hf rfl]
  cases r with
  | ok c' m=>exact⟨_,rfl,gj λz=>(by cases z)⟩
  | st=>exact⟨_,rfl,True.intro⟩
theorem FD{r s:R1}{d:D×Nat}(h:af (if t=true then r else s) d):af (FE t r s) d:=by
 cases t with
 | true =>
  rw[if_pos rfl]at h
  obtain⟨m,rfl,hm⟩:=h
  cases s with
  | ok q n=>exact⟨_,by show Rs.ok _ _=Rs.ok _ _;rw[vA,Fo],fc.mpr ⟨gj λ_=>hm,gj λz=>(by cases z)⟩⟩
  | st=>exact⟨m,rfl,hm⟩
 | false =>
  rw[if_neg aH9]at h
  obtain⟨m,rfl,hm⟩:=h
  cases r with
  | ok q n=>exact⟨_,by show Rs.ok _ _=Rs.ok _ _;rw[vB,Fp],fc.mpr ⟨gj λz=>(by cases z),gj λ_=>hm⟩⟩
  | st=>exact⟨m,rfl,hm⟩
theorem jD{p:D×Nat}{f:Bool->Rs α}{a:α}(h:p.1=.bl b)(h2:af (f b) a):af (jE p f) a:=by
 unfold jE;rw[h];exact h2
structure Mo(Φ:Fx)(n:Nat):Prop where
 e:∀(e:Expr) {it:Bool} {sc:Scope} {C ρ:al} {p:D×Nat},sizeOf e<n->af (aH Φ e it sc C) p->Sub C ρ->af (aH Φ e it sc ρ) p
 es:∀(es:List Expr) {sc:Scope} {C ρ:al} {p:List D×Nat},sizeOf es<n->af (cZ Φ es sc C) p->Sub C ρ->af (cZ Φ es sc ρ) p
 b:∀(op:BoolOp) (es:List Expr) {sc:Scope} {C ρ:al} {b:Bool},sizeOf es<n->af (fv Φ op es sc C) b->Sub C ρ->af (fv Φ op es sc ρ) b
 o:∀(e:Option Expr) {sc:Scope} {C ρ:al} {o:Option Int},sizeOf e<n->af (mS Φ e sc C) o->Sub C ρ->af (mS Φ e sc ρ) o
theorem xK{step step2:D->Rs (Option (D×Nat))}(h:∀d r,af (step d) r->af (step2 d) r):∀{ds:List D} {q:List D×Nat},af (iC step ds) q->af (iC step2 ds) q
 | [],q,hq=>hq
 | d::ds,q,hq=>by
  obtain⟨r,h1,h2⟩:=az (show af (Rs.bnd _ _) q from hq)
  obtain⟨q1,h3,h4⟩:=az h2
  exact af.bnd (h _ _ h1) (af.bnd (xK h h3) h4)
section
variable{Φ:Fx}{n:Nat}{it:Bool}{sc:Scope}{C ρ:al}{p:D×Nat}
theorem Fe(I:Mo Φ n){i:Expr}(hs:sizeOf (Expr.Subscript a i pos)<n+1)(h:af ((aH Φ a false sc C).bnd λp=>(aH Φ i false sc C).bnd λq=>oG p q) p)(s:Sub C ρ):af ((aH Φ a false sc ρ).bnd λp=>(aH Φ i false sc ρ).bnd λq=>oG p q) p:=by
 obtain⟨x,h1,h⟩:=az h
 obtain⟨y,h2,h⟩:=az h
 exact af.bnd (I.e a (bQ (by simp<;>omega) hs) h1 s) (af.bnd (I.e i (bQ (by simp<;>omega) hs) h2 s) h)
theorem ZQ(I:Mo Φ n)(e:Expr)(hs:sizeOf e<n+1)(h:af (aH Φ e it sc C) p)(s:Sub C ρ):af (aH Φ e it sc ρ) p:=by
 cases e with
 | Constant c k q=>exact h
 | Name x q =>
  replace h:af (lr Φ x sc C) p:=h
  show af (lr Φ x sc ρ) p
  unfold lr at h⊢
  split at h
  ·rename_i hx
   rw[if_pos hx]
   split at h
   ·rename_i hg;rw[if_pos hg];exact h
   ·rename_i hg
    rw[if_neg hg]
    split at h
    ·rename_i y hy;rw[s x y hy];exact h
    ·exact(aw h).elim
  ·exact(aw h).elim
 | BinOp a op b q =>
  obtain⟨x,h1,h⟩:=az (show af (Rs.bnd _ _) p from h)
  obtain⟨y,h2,h⟩:=az h
  exact af.bnd (I.e a (bQ (by simp<;>omega) hs) h1 s) (af.bnd (I.e b (bQ (by simp<;>omega) hs) h2 s) h)
 | UnaryOp op a q =>
  obtain⟨x,h1,h⟩:=az (show af (Rs.bnd _ _) p from h)
  exact af.bnd (I.e a (bQ (by simp<;>omega) hs) h1 s) h
 | BoolOp op es q =>
  rw[se]at h⊢
  split at h
  ·exact(aw h).elim
  ·rename_i hne
   rw[if_neg hne]
   obtain⟨b,h1,h⟩:=az h
   exact af.bnd (I.b op es (bQ (by simp<;>omega) hs) h1 s) h
 | Compare a ops bs q =>
  match ops,bs,hs,h with
  | [op],[b],hs,h =>
   obtain⟨x,h1,h⟩:=az (show af (Rs.bnd _ _) p from h)
   obtain⟨y,h2,h⟩:=az h
   exact af.bnd (I.e a (bQ (by simp<;>omega) hs) h1 s) (af.bnd (I.e b (bQ (by simp<;>omega) hs) h2 s) h)
  | [],bs,_,h=>exact(aw h).elim
  | [op],[],_,h=>exact(aw h).elim
  | [op],_::_::_,_,h=>exact(aw h).elim
  | [op,op2],[b,c],hs,h =>
   obtain⟨x,h1,h⟩:=az (show af (Rs.bnd _ _) p from h)
   obtain⟨y,h2,h⟩:=az h
   obtain⟨z,h3,h⟩:=az h
   exact af.bnd (I.e a (bQ (by simp<;>omega) hs) h1 s) (af.bnd (I.e b (bQ (by simp<;>omega) hs) h2 s) (af.bnd (I.e c (bQ (by simp<;>omega) hs) h3 s) h))
  | [_,_],[],_,h=>exact(aw h).elim
  | [_,_],[_],_,h=>exact(aw h).elim
  | [_,_],_::_::_::_,_,h=>exact(aw h).elim
  | _::_::_::_,bs,_,h=>exact(aw h).elim
 | IfExp c a b q =>
  obtain⟨x,h1,h⟩:=az (show af (Rs.bnd _ _) p from h)
  obtain⟨t,ht,h⟩:=gW h
  obtain⟨l,h,hp⟩:=h
  obtain⟨m,h,hm⟩:=xW h hp
  refine af.bnd (I.e c (bQ (by simp<;>omega) hs) h1 s) (jD ht (FD ?_))
  cases t with
  | true=>exact I.e a (bQ (by simp<;>omega) hs) ⟨m,h,hm⟩ s
  | false=>exact I.e b (bQ (by simp<;>omega) hs) ⟨m,h,hm⟩ s
 | Tuple es k q =>
  obtain⟨x,h1,h⟩:=az (show af (Rs.bnd _ _) p from h)
  exact af.bnd (I.es es (bQ (by simp<;>omega) hs) h1 s) h
 | List es q =>
  obtain⟨x,h1,h⟩:=az (show af (Rs.bnd _ _) p from h)
  exact af.bnd (I.es es (bQ (by simp<;>omega) hs) h1 s) h
 | Attribute a f q =>
  cases a with
  | Name x pn =>
   obtain⟨y,h1,h⟩:=az (show af (Rs.bnd _ _) p from h)
   exact af.bnd (I.e (.Name x pn) (it:=false) (bQ (by simp<;>omega) hs) h1 s) h
  | _=>exact(aw h).elim
 | Dict ks vs q =>
  match ks,vs,h with
  | [],[],h=>exact h
  | _::_,_,h=>exact(aw h).elim
  | [],_::_,h=>exact(aw h).elim
 | Subscript a i q =>
  cases i with
  | Slice lo hi st p2 =>
   cases st with
   | none =>
    obtain⟨x,h1,h⟩:=az (show af (Rs.bnd _ _) p from h)
    obtain⟨y,h2,h⟩:=az h
    obtain⟨z,h3,h⟩:=az h
    exact af.bnd (I.e a (bQ (by simp<;>omega) hs) h1 s) (af.bnd (I.o lo (bQ (by simp<;>omega) hs) h2 s) (af.bnd (I.o hi (bQ (by simp<;>omega) hs) h3 s) h))
   | some e=>exact Fe I hs h s
  | _=>exact Fe I hs h s
 | Call f args kws q =>
  cases f with
  | Name f fp =>
   cases kws with
   | nil =>
    rw[jv]at h⊢
    split at h
    ·rename_i hf
     rw[if_pos hf]
     obtain⟨x,h1,h⟩:=az h
     exact af.bnd (I.es args (bQ (by simp<;>omega) hs) h1 s) h
    ·exact(aw h).elim
   | cons _ _=>exact(aw h).elim
  | Attribute a m ap =>
   cases kws with
   | nil =>
    rw[lI]at h⊢
    split at h
    ·rename_i hf
     rw[if_pos hf]
     obtain⟨x,h1,h⟩:=az h
     obtain⟨y,h2,h⟩:=az h
     exact af.bnd (I.e a (bQ (by simp<;>omega) hs) h1 s) (af.bnd (I.es args (bQ (by simp<;>omega) hs) h2 s) h)
    ·exact(aw h).elim
   | cons _ _=>exact(aw h).elim
  | _=>exact(aw h).elim
 | ListComp elt gens scope q =>
  obtain⟨l0,h0,_⟩:=id h
  obtain⟨tg,iter,ifs,rfl⟩:=rW h0
  rw[r9]at h⊢
  split at h
  ·rename_i hc
   rw[if_pos hc]
   obtain⟨x,h1,h⟩:=az h
   refine af.bnd (I.e iter (by first|omega|(simp at *;omega)) h1 s) ?_
   split at h
   ·split at h
    ·rename_i hl
     rw[if_pos hl]
     obtain⟨u0,h0',h⟩:=az h
     obtain⟨y,h2,h⟩:=az h
     refine af.bnd h0' (af.bnd (xK (λd r hr=>?_) h2) h)
     split at hr
     ·exact(aw hr).elim
     ·rename_i C' hb
      obtain⟨ρ',hb',s'⟩:=uU hb (s.flt scope)
      rw[hb']
      obtain⟨b,h3,hr⟩:=az hr
      refine af.bnd (I.b .And ifs (by first|omega|(simp at *;omega)) h3 s') ?_
      cases b with
      | false=>exact hr
      | true =>
       rw[cond_true]at hr⊢
       obtain⟨z,h4,hr⟩:=az hr
       exact af.bnd (I.e elt (by first|omega|(simp at *;omega)) h4 s') hr
    ·exact(aw h).elim
   ·exact(aw h).elim
  ·exact(aw h).elim
 | _=>exact(aw h).elim
theorem S4(I:Mo Φ n)(es:List Expr){p:List D×Nat}(hs:sizeOf es<n+1)(h:af (cZ Φ es sc C) p)(s:Sub C ρ):af (cZ Φ es sc ρ) p:=by
 cases es with
 | nil=>exact h
 | cons e es =>
  obtain⟨x,h1,h⟩:=az (show af (Rs.bnd _ _) p from h)
  obtain⟨y,h2,h⟩:=az h
  exact af.bnd (I.e e (bQ (by simp<;>omega) hs) h1 s) (af.bnd (I.es es (bQ (by simp<;>omega) hs) h2 s) h)
theorem ZR(I:Mo Φ n)(op:BoolOp)(es:List Expr)(hs:sizeOf es<n+1)(h:af (fv Φ op es sc C) b)(s:Sub C ρ):af (fv Φ op es sc ρ) b:=by
 cases es with
 | nil=>cases op<;>exact h
 | cons e es =>
  cases op with
  | And =>
   obtain⟨x,h1,h⟩:=az (show af (Rs.bnd _ _) b from h)
   obtain⟨t,ht,l,h,hp⟩:=gW h
   refine af.bnd (I.e e (bQ (by simp<;>omega) hs) h1 s) (jD ht ?_)
   rcases wr h hp with⟨rfl,m,h,pm⟩|⟨rfl,rfl⟩
   ·exact wt (λ_=>I.b .And es (bQ (by simp<;>omega) hs) ⟨m,h,pm⟩ s) λz=>(by cases z)
   ·exact wt (λz=>(by cases z)) λ_=>rfl
  | Or =>
   obtain⟨x,h1,h⟩:=az (show af (Rs.bnd _ _) b from h)
   obtain⟨t,ht,l,h,hp⟩:=gW h
   refine af.bnd (I.e e (bQ (by simp<;>omega) hs) h1 s) (jD ht ?_)
   rcases xG h hp with⟨rfl,m,h,pm⟩|⟨rfl,rfl⟩
   ·exact yS (λ_=>I.b .Or es (bQ (by simp<;>omega) hs) ⟨m,h,pm⟩ s) λz=>(by cases z)
   ·exact yS (λz=>(by cases z)) λ_=>rfl
theorem ZP(I:Mo Φ n)(e:Option Expr){o:Option Int}(hs:sizeOf e<n+1)(h:af (mS Φ e sc C) o)(s:Sub C ρ):af (mS Φ e sc ρ) o:=by
 cases e with
 | none=>exact h
 | some e =>
  obtain⟨x,h1,h⟩:=az (show af (Rs.bnd _ _) o from h)
  exact af.bnd (I.e e (bQ (by simp<;>omega) hs) h1 s) h
end
theorem kK(Φ:Fx):∀n,Mo Φ n
 | 0=>⟨λ_ _ _ _ _ _ h=>absurd h (aK9 _),λ_ _ _ _ _ h=>absurd h (aK9 _),λ_ _ _ _ _ _ h=>absurd h (aK9 _),λ_ _ _ _ _ h=>absurd h (aK9 _)⟩
 | n+1=>⟨λe _ _ _ _ _ hs h s=>ZQ (kK Φ n) e hs h s,λe _ _ _ _ hs h s=>S4 (kK Φ n) e hs h s,λop e _ _ _ _ hs h s=>ZR (kK Φ n) op e hs h s,λe _ _ _ _ hs h s=>ZP (kK Φ n) e hs h s⟩
theorem fj{p:D×Nat}(h:af (aH Φ e it sc C) p)(s:Sub C ρ):af (aH Φ e it sc ρ) p:=(kK Φ _).e e (aJ1 _) h s
theorem xJ{e:List Expr}{p:List D×Nat}(h:af (cZ Φ e sc C) p)(s:Sub C ρ):af (cZ Φ e sc ρ) p:=(kK Φ _).es e (aJ1 _) h s
noncomputable def Ei:Fl->Fl->Prop
 | .nx a,.nx b=>Sub a b
 | .bk a,.bk b=>Sub a b
 | .ct a,.ct b=>Sub a b
 | .rt a,.rt b=>a=b
 | _,_=>False
theorem dM{a:α}:af (.ok a []) a:=⟨[],rfl,True.intro⟩
noncomputable def nr(f:al->Rs Fl):Prop:=∀C ρ fl,af (f C) fl->Sub C ρ->∃fl',af (f ρ) fl'/\Ei fl fl'
theorem AZ{f:al->Rs Fl}(h:nr f){x y z:Fl}(hx:af (lV f x) z)(s:Ei x y):∃z',af (lV f y) z'/\Ei z z':=by
 cases x<;>cases y<;>first|exact s.elim|skip
 ·exact h _ _ _ hx s
 ·cases aQ hx;cases s;exact⟨_,dM,rfl⟩
 ·cases aQ hx;exact⟨_,dM,s⟩
 ·exact h _ _ _ hx s
theorem A0{sc:Scope}{tg:Expr}{body:al->Rs Fl}(hb:nr body):∀ds,nr (e9 (cI sc tg) body ds)
 | []=>λC ρ fl h s=>by cases aQ h;exact⟨_,dM,s⟩
 | d::ds=>λC ρ fl h s=>by
  replace h:af (match cI sc tg d C with|none=>(.st:Rs Fl)|some ρ1=>(body ρ1).bnd (lV (e9 (cI sc tg) body ds))) fl:=h
  split at h
  ·exact(aw h).elim
  ·rename_i C1 hC
   obtain⟨ρ1,hρ,s1⟩:=uU hC s
   obtain⟨x,h1,h2⟩:=az h
   obtain⟨y,h3,s2⟩:=hb _ _ _ h1 s1
   obtain⟨z,h4,s3⟩:=AZ (A0 hb ds) h2 s2
   refine⟨z,?_,s3⟩
   show af (match cI sc tg d ρ with|none=>(.st:Rs Fl)|some ρ1=>(body ρ1).bnd (lV (e9 (cI sc tg) body ds))) z
   rw[hρ];exact af.bnd h3 h4
theorem Fd{test:al->Rs Bool}{body:al->Rs Fl}(ht:∀C ρ b,af (test C) b->Sub C ρ->af (test ρ) b)(hb:nr body):∀n,nr (ol test body n)
 | 0=>λC ρ fl h s=>(aw h).elim
 | n+1=>λC ρ fl h s=>by
  obtain⟨b,h1,h2⟩:=az (show af (Rs.bnd _ _) fl from h)
  have h1':=ht _ _ _ h1 s
  cases b with
  | false=>cases aQ h2;exact⟨_,af.bnd h1' dM,s⟩
  | true =>
   obtain⟨x,h3,h4⟩:=az (show af (Rs.bnd _ _) fl from h2)
   obtain⟨y,h5,s2⟩:=hb _ _ _ h3 s
   obtain⟨z,h6,s3⟩:=AZ (Fd ht hb n) h4 s2
   exact⟨z,af.bnd h1' (af.bnd h5 h6),s3⟩
theorem MJ:nr (qA Φ tgs e sc):=by
 intro C ρ fl h s
 unfold qA at h⊢
 split at h
 ·obtain⟨p,h1,h⟩:=az h
  unfold rN at h
  split at h
  ·rename_i hx
   split at h
   ·rename_i ho;cases aQ h
    exact⟨.nx _,af.bnd (fj h1 s) (by unfold rN;rw[if_pos hx,ho];exact dM),s.put _ _⟩
   ·rename_i ho;cases aQ h
    exact⟨.nx _,af.bnd (fj h1 s) (by unfold rN;rw[if_pos hx,ho];exact dM),s.put _ _⟩
   ·exact(aw h).elim
  ·exact(aw h).elim
 ·split at h
  ·rename_i ht
   rw[if_pos ht]
   unfold nP at h⊢
   split at h
   ·split at h
    ·rename_i hp
     rw[if_pos hp]
     obtain⟨q,h1,h⟩:=az h
     split at h
     ·rename_i u v hd
      split at h
      ·rename_i hf
       cases aQ h
       refine⟨.nx _,af.bnd (xJ h1 s) ?_,(s.put _ _).put _ _⟩
       rw[hd];dsimp only;rw[if_pos hf];exact dM
      ·exact(aw h).elim
     ·exact(aw h).elim
    ·exact(aw h).elim
   ·exact(aw h).elim
  ·rename_i ht
   rw[if_neg ht]
   obtain⟨p,h1,h⟩:=az h
   split at h
   ·rename_i ho
    cases aQ h
    refine⟨.nx _,af.bnd (fj h1 s) (by rw[if_pos ho];exact dM),?_⟩
    show Sub _ _
    unfold yK
    split
    ·exact(s.put _ _).put _ _
    ·exact s
   rename_i ho
   split at h
   ·rename_i ds hd
    split at h
    ·rename_i hf
     split at h
     ·rename_i C' hb
      cases aQ h
      obtain⟨ρ',hb',s'⟩:=sT hb s
      refine⟨.nx _,af.bnd (fj h1 s) ?_,s'⟩
      rw[if_neg ho,hd];dsimp only;rw[if_pos hf,hb'];exact dM
     ·exact(aw h).elim
    ·exact(aw h).elim
   ·exact(aw h).elim
 ·split at h
  ·rename_i hc
   rw[if_pos hc]
   obtain⟨p,h1,h⟩:=az h
   obtain⟨q,h2,h⟩:=az h
   rcases uX h with⟨l,j,l',a1,a2,a3,hj,hs,hf,rfl⟩|hF
   ·refine⟨.nx _,af.bnd (fj h1 s) (af.bnd (fj h2 s) ?_),s.put _ _⟩
    rw[hj];unfold yA;rw[s _ _ a1];dsimp only;rw[if_pos a3,hs]
    exact⟨_,rfl,a2,hf,True.intro⟩
   ·exact hF.elim
  ·exact(aw h).elim
 ·exact(aw h).elim
theorem MI:nr (qz Φ e sc):=by
 intro C ρ fl h s
 unfold qz at h⊢
 split at h
 ·split at h
  ·rename_i hln
   rw[if_pos hln]
   obtain⟨p,h1,h⟩:=az h
   split at h
   ·rename_i M hM
    obtain⟨l,a1,a3,h⟩:=vv h
    obtain⟨l',h2,h⟩:=az h
    cases aQ h
    refine⟨.nx _,af.bnd (xJ h1 s) ?_,s.put _ _⟩
    unfold yQ;rw[s _ _ a1];dsimp only;rw[if_pos a3];exact af.bnd h2 dM
   ·exact(aw h).elim
  ·exact(aw h).elim
 ·obtain⟨p,h1,h⟩:=az h
  cases aQ h
  exact⟨.nx _,af.bnd (fj h1 s) dM,s⟩
 ·exact(aw h).elim
structure Pp(Φ:Fx)(n:Nat):Prop where
 s:∀(st:Stmt) (sc:Scope),sizeOf st<n->nr (ga Φ st sc)
 ss:∀(st:List Stmt) (sc:Scope),sizeOf st<n->nr (aF Φ st sc)
theorem S3(I:Pp Φ n)(st:Stmt)(sc:Scope)(hs:sizeOf st<n+1):nr (ga Φ st sc):=by
 intro C ρ fl h s
 cases st with
 | Return e p =>
  cases e with
  | none=>cases aQ h;exact⟨_,dM,rfl⟩
  | some e =>
   obtain⟨p,h1,h⟩:=az (show af (Rs.bnd _ _) fl from h)
   have s':Sub (vi e C) (vi e ρ):=by
    unfold vi
    cases ui e with
    | false=>exact s
    | true =>
     intro x y hx
     have hx:(C x).map (λp=>(p.1,false))=some y:=hx
     show(ρ x).map (λp=>(p.1,false))=some y
     cases e:C x with
     | none=>rw[e]at hx;cases hx
     | some z=>rw[e]at hx;rw[s x z e];exact hx
   refine⟨fl,af.bnd (fj h1 s') h,?_⟩
   unfold yJ at h
   split at h
   ·cases aQ h;rfl
   ·exact(aw h).elim
 | Pass p=>cases aQ h;exact⟨_,dM,s⟩
 | Break p=>cases aQ h;exact⟨_,dM,s⟩
 | Continue p=>cases aQ h;exact⟨_,dM,s⟩
 | Assign tgs e p=>exact MJ C ρ fl h s
 | AugAssign t op e p=>exact(aw h).elim
 | Expr e p=>exact MI C ρ fl h s
 | If c a b p =>
  obtain⟨p,h1,h⟩:=az (show af (Rs.bnd _ _) fl from h)
  obtain⟨t,ht,h⟩:=gW h
  cases t with
  | true =>
   obtain⟨z,h2,s2⟩:=I.ss a sc (bQ (by simp<;>omega) hs) C ρ fl h s
   exact⟨z,af.bnd (fj h1 s) (jD ht h2),s2⟩
  | false =>
   obtain⟨z,h2,s2⟩:=I.ss b sc (bQ (by simp<;>omega) hs) C ρ fl h s
   exact⟨z,af.bnd (fj h1 s) (jD ht h2),s2⟩
 | For tg it body els p =>
  rw[rY]at h⊢
  split at h
  ·rename_i he
   rw[if_pos he]
   obtain⟨p,h1,h⟩:=az h
   split at h
   ·rename_i ds hd
    split at h
    ·rename_i hk
     obtain⟨z,h2,s2⟩:=A0 (I.ss body sc (bQ (by simp<;>omega) hs)) ds _ _ fl h (s.demote it)
     refine⟨z,af.bnd (fj h1 (s.demote it)) ?_,s2⟩
     rw[hd];dsimp only;rw[if_pos hk];exact h2
    ·exact(aw h).elim
   ·exact(aw h).elim
  ·exact(aw h).elim
 | While c body els p =>
  rw[vV]at h⊢
  split at h
  ·rename_i he
   rw[if_pos he]
   refine Fd (λC ρ b hb s=>?_) (I.ss body sc (bQ (by simp<;>omega) hs)) cq C ρ fl h s
   obtain⟨q,h1,hb⟩:=az hb
   exact af.bnd (fj h1 s) hb
  ·exact(aw h).elim
 | _=>exact(aw h).elim
theorem MH(I:Pp Φ n)(ss:List Stmt)(sc:Scope)(hs:sizeOf ss<n+1):nr (aF Φ ss sc):=by
 intro C ρ fl h s
 cases ss with
 | nil=>cases aQ h;exact⟨_,dM,s⟩
 | cons st ss =>
  rcases uY h with⟨C',h1,h2⟩|⟨h1,h2⟩
  ·obtain⟨x,h3,s2⟩:=I.s st sc (bQ (by simp<;>omega) hs) C ρ _ h1 s
   cases x with
   | nx ρ' =>
    obtain⟨z,h4,s3⟩:=I.ss ss sc (bQ (by simp<;>omega) hs) C' ρ' fl h2 s2
    exact⟨z,aN h3 h4,s3⟩
   | rt _=>exact s2.elim
   | bk _=>exact s2.elim
   | ct _=>exact s2.elim
  ·obtain⟨x,h3,s2⟩:=I.s st sc (bQ (by simp<;>omega) hs) C ρ _ h2 s
   refine⟨x,mq h3 λρ' z=>?_,s2⟩
   subst z
   cases fl<;>first|exact h1 _ rfl|exact s2
theorem nK(Φ:Fx):∀n,Pp Φ n
 | 0=>⟨λ_ _ h=>absurd h (aK9 _),λ_ _ h=>absurd h (aK9 _)⟩
 | n+1=>⟨λe sc hs=>S3 (nK Φ n) e sc hs,λe sc hs=>MH (nK Φ n) e sc hs⟩
theorem Je(h:af (aF Φ ss sc C) (.nx C'))(s:Sub C ρ):∃ρ',af (aF Φ ss sc ρ) (.nx ρ')/\Sub C' ρ':=by
 obtain⟨z,h1,h2⟩:=(nK Φ _).ss ss sc (aJ1 _) C ρ _ h s
 cases z with
 | nx ρ'=>exact⟨ρ',h1,h2⟩
 | rt _=>exact h2.elim
 | bk _=>exact h2.elim
 | ct _=>exact h2.elim
theorem Jd(h:af (aF Φ ss sc C) (.rt d))(s:Sub C ρ):af (aF Φ ss sc ρ) (.rt d):=by
 obtain⟨z,h1,h2⟩:=(nK Φ _).ss ss sc (aJ1 _) C ρ _ h s
 cases z with
 | rt _=>cases h2;exact h1
 | nx _=>exact h2.elim
 | bk _=>exact h2.elim
 | ct _=>exact h2.elim
noncomputable def aS:List (Str×D×Bool)->al
 | []=>λ_=>none
 | p::l=>λz=>if z=p.1 then some p.2 else aS l z
theorem aC:Sub (aS []) ρ:=λ_ _ h=>by cases h
theorem ah{y:D×Bool}{l:List (Str×D×Bool)}(h:ρ x=some y)(g:Sub (aS l) ρ):Sub (aS ((x,y)::l)) ρ:=λz w e=>by
 replace e:(if z=x then some y else aS l z)=some w:=e
 by_cases hz:z=x
 ·rw[if_pos hz]at e;cases e;rw[hz];exact h
 ·rw[if_neg hz]at e;exact g z w e
theorem Sub.get{y:D×Bool}(s:Sub C ρ)(h:C x=some y:=by rfl):ρ x=some y:=s x y h
section
variable{Φ:Fx}{sc:Scope}{ρ ρ':al}{fl:Fl}{ss:List Stmt}
theorem bN{P:al->Prop}(s:Sub C ρ)(h:af (aF Φ ss sc C) (.nx C'))(k:∀ρ',Sub C' ρ'->P ρ'):∃ρ',af (aF Φ ss sc ρ) (.nx ρ')/\P ρ' :=
 let ⟨ρ',h1,h2⟩:=Je h s;⟨ρ',h1,k ρ' h2⟩
theorem eJ(s:Sub C ρ)(h:af (aF Φ ss sc C) (.rt d)):af (aF Φ ss sc ρ) (.rt d):=Jd h s
theorem gX{p:D×Nat}(s:Sub C ρ)(h:af (aH Φ e it sc C) p):af (aH Φ e it sc ρ) p:=fj h s
theorem rJ{it:Expr}(aq:List D->al->Prop)(hi:af (aH Φ it true sc (demote it ρ)) (d,k))(h0:aq ds (demote it ρ))
  (step:∀d l ρ,aq (d::l) ρ->∃ρ1,cI sc tg d ρ=some ρ1/\∃ρ2,af (aF Φ body sc ρ1) (.nx ρ2)/\aq l ρ2) (rest:∀ρ',aq [] ρ'->af (aF Φ ss sc ρ') fl) (hd:items d=some ds:=by rfl) (hk:k<=1:=by first|exact aF9 1|exact aH5 1) (ht:gF it tg=true:=by rfl):af (aF Φ (.For tg it body [] p::ss) sc ρ) fl:=by
 obtain⟨ρ',h1,h2⟩:=oR (bind:=cI sc tg) (body:=aF Φ body sc) aq (λd l ρ h=>let ⟨ρ1,a,ρ2,b,c⟩:=step d l ρ h;⟨ρ1,ρ2,a,.inl b,c⟩) h0
 exact aN (qy hi hd hk ht h1) (rest ρ' h2)
theorem xr{it:Expr}(aq:List D->al->Prop)(R:D->Prop)(hi:af (aH Φ it true sc (demote it ρ)) (d,k))(h0:aq ds (demote it ρ))
  (step:∀d l ρ,aq (d::l) ρ->∃ρ1,cI sc tg d ρ=some ρ1/\((∃ρ2,af (aF Φ body sc ρ1) (.nx ρ2)/\aq l ρ2)\/∃r,af (aF Φ body sc ρ1) (.rt r)/\R r)) (rest:∀ρ',aq [] ρ'->∃r,af (aF Φ ss sc ρ') (.rt r)/\R r) (hd:items d=some ds:=by rfl) (hk:k<=1:=by first|exact aF9 1|exact aH5 1) (ht:gF it tg=true:=by rfl):∃r,af (aF Φ (.For tg it body [] p::ss) sc ρ) (.rt r)/\R r:=by
 rcases xZ (bind:=cI sc tg) (body:=aF Φ body sc) aq R (λd l ρ h=>by
  obtain⟨ρ1,a,b⟩:=step d l ρ h
  rcases b with⟨ρ2,b,c⟩|⟨r,b,c⟩
  ·exact⟨ρ1,a,.inl ⟨ρ2,.inl b,c⟩⟩
  ·exact⟨ρ1,a,.inr ⟨r,b,c⟩⟩) h0 with⟨ρ',h1,h2⟩|⟨r,h1,h2⟩
 ·obtain⟨r,h3,h4⟩:=rest ρ' h2
  exact⟨r,aN (qy hi hd hk ht h1) h3,h4⟩
 ·exact⟨r,cf (qy hi hd hk ht h1),h2⟩
theorem cn{b:Expr}{x:D}(ha:af (aH Φ a false sc ρ) (x,k))(hb:af (aH Φ b false sc ρ) (y,j))(h:af (fQ op x y) r):af (aH Φ (.Compare a [op] [b] p) it sc ρ) (.bl r,0) :=
 af.bnd ha (af.bnd hb (af.bnd h dM))
theorem vX(ha:af (aH Φ a false sc ρ) (.bl b,k)):af (aH Φ (.UnaryOp .Not a p) it sc ρ) (.bl (!b),0):=af.bnd ha dM
theorem d6{op:BoolOp}(h:af (fv Φ op (e::es) sc ρ) b):af (aH Φ (.BoolOp op (e::es) p) it sc ρ) (.bl b,0):=by
 rw[se,if_neg (show ¬ (List.isEmpty (e::es)=true)from aH9)];exact af.bnd h dM
theorem kU{c:Bool}(h:af (aH Φ e false sc ρ) (.bl b,k))(h1:b=true->af (fv Φ .And es sc ρ) c)(h2:b=false->c=false):af (fv Φ .And (e::es) sc ρ) c:=af.bnd h (jD rfl (wt h1 h2))
theorem vW{c:Bool}(h:af (aH Φ e false sc ρ) (.bl b,k))(h1:b=false->af (fv Φ .Or es sc ρ) c)(h2:b=true->c=true):af (fv Φ .Or (e::es) sc ρ) c:=af.bnd h (jD rfl (yS h1 h2))
theorem lG{c:Bool}(h:af (aH Φ e false sc ρ) (.bl true,k))(h1:af (fv Φ .And es sc ρ) c):af (fv Φ .And (e::es) sc ρ) c:=kU h (λ_=>h1) λz=>by cases z
theorem cH{c:Bool}(h:af (aH Φ e false sc ρ) (.bl false,k))(h1:af (fv Φ .Or es sc ρ) c):af (fv Φ .Or (e::es) sc ρ) c:=vW h (λ_=>h1) λz=>by cases z
theorem mR:af (fv Φ .And [] sc ρ) true:=dM
theorem gy:af (fv Φ .Or [] sc ρ) false:=dM
theorem af.bl{r:R1}{c:Bool}(h:af r (.bl b,k))(e:b=c):af r (.bl c,k):=e ▸ h
theorem lH{x:D}{l h:Option Int}{r:D×Nat}(ha:af (aH Φ a false sc ρ) (x,k))(hl:af (mS Φ lo sc ρ) l)(hh:af (mS Φ hi sc ρ) h)(hr:af (Φ.slf x l h) r):af (aH Φ (.Subscript a (.Slice lo hi none p2) p) it sc ρ) r:=af.bnd ha (af.bnd hl (af.bnd hh hr))
theorem cY{g f:α->D}{l:List α}(hi:af (aH Φ iter true sc ρ) (d,k))(hd:items d=some (l.map g))(hl:l.length<=cq)(hk:aI (l.map g)=true\/k<=1)
  (h:∀x∈l,∃ρ',cI scope tg (g x) (flt scope ρ)=some ρ'/\af (aH Φ elt false scope ρ') (f x,0)) (hc:qR sc scope=true:=by rfl) (ht:gF iter tg=true:=by rfl):af (aH Φ (.ListComp elt [⟨tg,iter,[],0⟩] scope p) it sc ρ) (.lst (l.map f),0):=by
 refine rZ hi hd ⟨by rw[aH3];exact hl,hk⟩ (tH λx hx=>?_) (aH5 _) hc ht
 obtain⟨ρ',h1,h2⟩:=h x hx
 rw[h1]
 refine af.bnd (a:=true) dM ?_
 rw[cond_true]
 exact af.bnd h2 dM
end
theorem MX(h:us.length=1):∃a,us=[a]:=List.length_eq_one_iff.mp h
theorem Da(h:us.length=n+1):∃a r,us=a::r/\r.length=n:=by
 cases us with
 | nil=>cases h
 | cons a r=>exact⟨a,r,rfl,by simpa using h⟩
theorem MW(h:us.length=2):∃a b,us=[a,b]:=by
 obtain⟨a,r,e1,h1⟩:=Da h;subst e1;obtain⟨b,rfl⟩:=MX h1;exact⟨a,b,rfl⟩
theorem MV(h:us.length=3):∃a b c,us=[a,b,c]:=by
 obtain⟨a,r,e1,h1⟩:=Da h;subst e1;obtain⟨b,c,rfl⟩:=MW h1;exact⟨a,b,c,rfl⟩
theorem aa9(h:us.length=4):∃a b c d,us=[a,b,c,d]:=by
 obtain⟨a,r,e1,h1⟩:=Da h;subst e1;obtain⟨b,c,d,rfl⟩:=MV h1;exact⟨a,b,c,d,rfl⟩
variable{Φ:Fx}{sc:Scope}{ρ ρ':al}{fl:Fl}{ss:List Stmt}
theorem uw{b:Expr}{r:D×Nat}(hc:af (aH Φ c false sc ρ) (.bl t,k))(h1:t=true->af (aH Φ a false sc ρ) r)(h2:t=false->af (aH Φ b false sc ρ) r):af (aH Φ (.IfExp c a b p) it sc ρ) r:=by
 refine af.bnd hc (jD rfl (FD ?_))
 cases t with
 | true=>exact h1 rfl
 | false=>exact h2 rfl
theorem oF{body:al->Rs Fl}(aq:Nat->al->Prop)(step:∀m ρ,aq m ρ->∃b,af (test ρ) b/\(b=true->∃m' ρ2,m' < m/\af (body ρ) (.nx ρ2)/\aq m' ρ2)):∀{n m:Nat} {ρ:al},aq m ρ->m<n->∃m' ρ',af (ol test body n ρ) (.nx ρ')/\aq m' ρ'/\af (test ρ') false:=by
 intro n
 induction n with
 | zero=>intro m ρ _ h;omega
 | succ n ih =>
  intro m ρ hi hm
  obtain⟨b,hb,h⟩:=step m ρ hi
  cases b with
  | false=>exact⟨m,ρ,af.bnd hb dM,hi,hb⟩
  | true =>
   obtain⟨m',ρ2,h1,h2,h3⟩:=h rfl
   obtain⟨m2,ρ3,h4,h5,h6⟩:=ih h3 (show m' < n by omega)
   exact⟨m2,ρ3,af.bnd hb (af.bnd h2 h4),h5,h6⟩
theorem At{m:Nat}(aq:Nat->al->Prop)(h0:aq m ρ)(hm:m<cq)
  (step:∀m ρ,aq m ρ->∃b k,af (aH Φ c false sc ρ) (.bl b,k)/\(b=true->∃m' ρ2,m' < m/\af (aF Φ body sc ρ) (.nx ρ2)/\aq m' ρ2)) (rest:∀m ρ',aq m ρ'->(∃k,af (aH Φ c false sc ρ') (.bl false,k))->af (aF Φ ss sc ρ') fl):af (aF Φ (.While c body [] p::ss) sc ρ) fl:=by
 obtain⟨m',ρ',h1,h2,h3⟩:=oF (test:=λρ=>(aH Φ c false sc ρ).bnd λp=>jE p λb=>.ok b []) (body:=aF Φ body sc) aq (λm ρ h=>by
  obtain⟨b,k,a1,a2⟩:=step m ρ h
  exact⟨b,a1.bnd (jD rfl dM),a2⟩) h0 hm
 obtain⟨q,h4,h5⟩:=az h3
 obtain⟨t,ht,h5⟩:=gW h5
 cases aQ h5
 obtain⟨q1,q2⟩:=q
 have ht:q1=.bl false:=ht
 subst ht
 exact aN (oS h1) (rest m' ρ' h2 ⟨q2,h4⟩)
theorem nu{m m':Nat}{A:al->Prop}{P:Nat->al->Prop}(h:m' < m)(k:∃ρ2,A ρ2/\P m' ρ2):∃m' ρ2,m' < m/\A ρ2/\P m' ρ2:=by
 obtain⟨ρ2,a,b⟩:=k
 exact⟨m',ρ2,h,a,b⟩
end Sp
namespace Qm
noncomputable def wC(a b c d:Int):Prop:=∃e x y z w:Int,(e=0\/e=1)/\a=2*x+e/\b=2*y+e/\c=2*z+e/\d=2*w+e
theorem LU{P Q R S k1 k2 k3:Int}(h1:Q=P+2*k1)(h2:R=P+2*k2)(h3:S=P+2*k3):wC P Q R S :=
 ⟨P % 2,P / 2,P / 2+k1,P / 2+k2,P / 2+k3,by omega,by omega,by omega,by omega,by omega⟩
theorem LS{a b c d:Int}(h:wC a b c d):∃t,a*a+(b*b+(c*c+(d*d+0)))=4*t:=by
 obtain⟨e,x,y,z,w,he,rfl,rfl,rfl,rfl⟩:=h
 rcases he with rfl|rfl
 ·exact⟨x*x+y*y+z*z+w*w,by grind⟩
 ·exact⟨x*x+y*y+z*z+w*w+x+y+z+w+1,by grind⟩
theorem fd4(t:Int):(4*t).fdiv 4=t:=by rw[aL5 _ (by decide)];omega
theorem fd2(t:Int):(2*t).fdiv 2=t:=by rw[aL5 _ (by decide)];omega
theorem CU{a b c d e f g h:Int}(h1:wC a b c d)(h2:wC e f g h):∃P Q R S,a*e-b*f-c*g-d*h=2*P/\a*f+b*e+c*h-d*g=2*Q/\a*g-b*h+c*e+d*f=2*R/\a*h+b*g-c*f+d*e=2*S/\wC P Q R S:=by
 obtain⟨s,x1,x2,x3,x4,_,rfl,rfl,rfl,rfl⟩:=h1
 obtain⟨u,y1,y2,y3,y4,_,rfl,rfl,rfl,rfl⟩:=h2
 refine⟨2*(x1*y1-x2*y2-x3*y3-x4*y4)+u*(x1-x2-x3-x4)+s*(y1-y2-y3-y4)-s*u,
  2*(x1*y2+x2*y1+x3*y4-x4*y3)+u*(x1+x2+x3-x4)+s*(y2+y1+y4-y3)+s*u,
  2*(x1*y3-x2*y4+x3*y1+x4*y2)+u*(x1-x2+x3+x4)+s*(y3-y4+y1+y2)+s*u,
  2*(x1*y4+x2*y3-x3*y2+x4*y1)+u*(x1+x2-x3+x4)+s*(y4+y3-y2+y1)+s*u,by grind,by grind,by grind,by grind,?_⟩
 refine LU (k1:=(x1*y2+x2*y1+x3*y4-x4*y3)-(x1*y1-x2*y2-x3*y3-x4*y4)+u*(x2+x3)+s*(y2+y4)+s*u)
  (k2:=(x1*y3-x2*y4+x3*y1+x4*y2)-(x1*y1-x2*y2-x3*y3-x4*y4)+u*(x3+x4)+s*(y3+y2)+s*u)
  (k3:=(x1*y4+x2*y3-x3*y2+x4*y1)-(x1*y1-x2*y2-x3*y3-x4*y4)+u*(x2+x4)+s*(y4+y3)+s*u) ?_ ?_ ?_<;>grind
theorem Ui(a b c d e f g h:Int):(a*e-b*f-c*g-d*h)*(a*e-b*f-c*g-d*h)+((a*f+b*e+c*h-d*g)*(a*f+b*e+c*h-d*g)+((a*g-b*h+c*e+d*f)*(a*g-b*h+c*e+d*f)+((a*h+b*g-c*f+d*e)*(a*h+b*g-c*f+d*e)+0))) =
  (a*a+(b*b+(c*c+(d*d+0))))*(e*e+(f*f+(g*g+(h*h+0)))):=by grind
theorem uo{p P:Int}(h:p=2*P):p.fdiv 2=P:=by rw[h,fd2]
end Qm
namespace K
open PySem L2 Sp
variable{α β:Type}{ds:List D}{r:D}
structure Dc(α:Type) where
 dec:D->Option α
 enc:α->D
 ok:∀x a,dec x=some a->x=enc a
noncomputable def dI:Dc Int:=⟨λ| .int i=>some i|_=>none,.int,λx a h=>by cases x<;>cases h;rfl⟩
noncomputable def dL:Dc (List D):=⟨λ| .lst i=>some i|_=>none,.lst,λx a h=>by cases x<;>cases h;rfl⟩
noncomputable def u5{α:Type}(A:Dc α)(f:α->Rs D):List D->Rs D
 | [x]=>(match A.dec x with|some a=>f a|none=>.st)
 | _=>.st
noncomputable def xt{α β:Type}(A:Dc α)(B:Dc β)(f:α->β->Rs D):List D->Rs D
 | [x,y]=>(match A.dec x with|some a=>(match B.dec y with|some b=>f a b|none=>.st)|none=>.st)
 | _=>.st
theorem v9{A:Dc α}{x:D}{f:α->Rs β}{r:β}(h:af (match A.dec x with|some a=>f a|none=>.st) r):∃a,x=A.enc a/\af (f a) r:=by
 split at h
 ·rename_i a e;exact⟨a,A.ok _ _ e,h⟩
 ·exact(aw h).elim
theorem kH{A:Dc α}{f:α->Rs D}(h:af (u5 A f ds) r):∃a,ds=[A.enc a]/\af (f a) r:=by
 unfold u5 at h
 split at h
 ·obtain⟨a,e1,h1⟩:=v9 h;exact⟨a,by rw[e1],h1⟩
 ·exact(aw h).elim
theorem nC{A:Dc α}{B:Dc β}{f:α->β->Rs D}(h:af (xt A B f ds) r):∃a b,ds=[A.enc a,B.enc b]/\af (f a b) r:=by
 unfold xt at h
 split at h
 ·obtain⟨a,e1,h1⟩:=v9 h
  obtain⟨b,e2,h2⟩:=v9 h1
  exact⟨a,b,by rw[e1,e2],h2⟩
 ·exact(aw h).elim
noncomputable def toI:D->Int
 | .int i=>i
 | _=>0
noncomputable def pD(l:List D):List Int:=l.map toI
theorem pB(ns:List Int):pD (ns.map D.int)=ns:=by
 induction ns with
 | nil=>rfl
 | cons n ns ih=>show n::pD (ns.map D.int)=_;rw[ih]
noncomputable def jP(l:List D):Prop:=∃ns:List Int,l=ns.map D.int
noncomputable def mU(ns:List Int)(k:Int):Int:=if ns=[]then 0 else ns.getD (k.fmod ns.length).toNat 0
noncomputable def FT(ns:List Int)(k:Int):Int :=
 (mU ns k).fdiv 2147483647*2147483647+((((mU ns k).fmod 2147483647+7919*k+1)*48271).fmod 2147483647*69621+k).fmod 2147483647
noncomputable def bK(l:List D)(k:Int):Int:=FT (pD l) k
noncomputable abbrev t4(a b c d:Int):D:=.tup [.int a,.int b,.int c,.int d]
noncomputable abbrev Qd:=Int×Int×Int×Int
noncomputable def dq(q:Qd):D:=t4 q.1 q.2.1 q.2.2.1 q.2.2.2
noncomputable def q4:D->Option Qd
 | .tup [.int a,.int b,.int c,.int d]=>some (a,b,c,d)
 | _=>none
theorem Rp(x:D)(q:Qd)(h:q4 x=some q):x=dq q:=by
 unfold q4 at h
 split at h
 ·cases h;rfl
 ·cases h
noncomputable def dQ:Dc Qd:=⟨q4,dq,Rp⟩
noncomputable abbrev jF(q:Qd):Prop:=q.1.natAbs<bW/\q.2.1.natAbs<bW/\q.2.2.1.natAbs<bW/\q.2.2.2.natAbs<bW
@[simp] theorem eO(a b:Int):eqD (.int a) (.int b)=decide (a=b):=by
 show(a==b)=_
 rw[aN1];simp
@[simp] theorem eqD_q(p q:Qd):eqD (dq p) (dq q)=decide (p=q):=by
 show(p.1==q.1&&(p.2.1==q.2.1&&(p.2.2.1==q.2.2.1&&(p.2.2.2==q.2.2.2&&true))))=_
 obtain⟨a,b,c,d⟩:=p;obtain⟨e,f,g,h⟩:=q
 rw[aN1];simp
variable{p q:Qd}
noncomputable def fh(p q:Qd):Qd :=
 (p.1*q.1-p.2.1*q.2.1-p.2.2.1*q.2.2.1-p.2.2.2*q.2.2.2,p.1*q.2.1+p.2.1*q.1+p.2.2.1*q.2.2.2-p.2.2.2*q.2.2.1,
  p.1*q.2.2.1-p.2.1*q.2.2.2+p.2.2.1*q.1+p.2.2.2*q.2.1,p.1*q.2.2.2+p.2.1*q.2.2.1-p.2.2.1*q.2.1+p.2.2.2*q.1)
theorem mB(h1:p.1=q.1)(h2:p.2.1=q.2.1)(h3:p.2.2.1=q.2.2.1)(h4:p.2.2.2=q.2.2.2):p=q:=by
 obtain⟨a,b,c,d⟩:=p;obtain⟨e,f,g,h⟩:=q
 simp only at h1 h2 h3 h4;subst h1 h2 h3 h4;rfl
theorem BI(h:jF p)(g:jF q):(dH p.1 q.1/\dH p.2.1 q.2.1/\dH p.2.2.1 q.2.2.1/\dH p.2.2.2 q.2.2.2)/\(dH p.1 q.2.1/\dH p.2.1 q.1/\dH p.2.2.1 q.2.2.2/\dH p.2.2.2 q.2.2.1)/\(dH p.1 q.2.2.1/\dH p.2.1 q.2.2.2/\dH p.2.2.1 q.1/\dH p.2.2.2 q.2.1)/\(dH p.1 q.2.2.2/\dH p.2.1 q.2.2.1/\dH p.2.2.1 q.2.1/\dH p.2.2.2 q.1) :=
 ⟨⟨di h.1 g.1,di h.2.1 g.2.1,di h.2.2.1 g.2.2.1,di h.2.2.2 g.2.2.2⟩,⟨di h.1 g.2.1,di h.2.1 g.1,di h.2.2.1 g.2.2.2,di h.2.2.2 g.2.2.1⟩,⟨di h.1 g.2.2.1,di h.2.1 g.2.2.2,di h.2.2.1 g.1,di h.2.2.2 g.2.1⟩,⟨di h.1 g.2.2.2,di h.2.1 g.2.2.1,di h.2.2.1 g.2.1,di h.2.2.2 g.1⟩⟩

end K
namespace K
open PySem L2 Sp Qm
variable{p q:Qd}{P a b c e g m n w x y z:Int}{M N k:Nat}{Φ:Fx}{sc:Scope}{ρ:al}{it tg:Expr}{body:List Stmt}{d:D}{ns:List Int}{es:List Expr}
noncomputable abbrev bd(a b c d:Int):Prop:=a.natAbs<bW/\b.natAbs<bW/\c.natAbs<bW/\d.natAbs<bW
noncomputable def cm(p q:Qd):Qd :=
 ((p.1*q.1-p.2.1*q.2.1-p.2.2.1*q.2.2.1-p.2.2.2*q.2.2.2).fdiv 2,(p.1*q.2.1+p.2.1*q.1+p.2.2.1*q.2.2.2-p.2.2.2*q.2.2.1).fdiv 2,
  (p.1*q.2.2.1-p.2.1*q.2.2.2+p.2.2.1*q.1+p.2.2.2*q.2.1).fdiv 2,(p.1*q.2.2.2+p.2.1*q.2.2.1-p.2.2.1*q.2.1+p.2.2.2*q.1).fdiv 2)
noncomputable def jg(q:Qd):Int:=(q.1*q.1+(q.2.1*q.2.1+(q.2.2.1*q.2.2.1+(q.2.2.2*q.2.2.2+0)))).fdiv 4
noncomputable def d8(q:Qd):Prop:=wC q.1 q.2.1 q.2.2.1 q.2.2.2
noncomputable def dF(M:Nat)(q:Qd):Prop:=q.1.natAbs<=M/\q.2.1.natAbs<=M/\q.2.2.1.natAbs<=M/\q.2.2.2.natAbs<=M
theorem nJ(h:d8 p)(g:d8 q):∃P Q R S,p.1*q.1-p.2.1*q.2.1-p.2.2.1*q.2.2.1-p.2.2.2*q.2.2.2=2*P/\p.1*q.2.1+p.2.1*q.1+p.2.2.1*q.2.2.2-p.2.2.2*q.2.2.1=2*Q /\
  p.1*q.2.2.1-p.2.1*q.2.2.2+p.2.2.1*q.1+p.2.2.2*q.2.1=2*R/\p.1*q.2.2.2+p.2.1*q.2.2.1-p.2.2.1*q.2.1+p.2.2.2*q.1=2*S/\wC P Q R S/\cm p q=(P,Q,R,S):=by
 obtain⟨P,Q,R,S,h1,h2,h3,h4,h5⟩:=CU h g
 exact⟨P,Q,R,S,h1,h2,h3,h4,h5,by unfold cm;rw[uo h1,uo h2,uo h3,uo h4]⟩
theorem CV(h:d8 p)(g:d8 q):d8 (cm p q):=by
 obtain⟨P,Q,R,S,h1,h2,h3,h4,h5,e⟩:=nJ h g
 rw[e];exact h5
theorem uT(h:d8 p):∃t,p.1*p.1+(p.2.1*p.2.1+(p.2.2.1*p.2.2.1+(p.2.2.2*p.2.2.2+0)))=4*t/\jg p=t:=by
 obtain⟨t,ht⟩:=LS h
 exact⟨t,ht,by unfold jg;rw[ht,fd4]⟩
theorem HN(h:d8 p)(g:d8 q):jg (cm p q)=jg p*jg q:=by
 obtain⟨t1,h1,e1⟩:=uT h
 obtain⟨t2,h2,e2⟩:=uT g
 obtain⟨t3,h3,e3⟩:=uT (CV h g)
 rw[e1,e2,e3]
 obtain⟨P,Q,R,S,hP,hQ,hR,hS,p1,e⟩:=nJ h g
 rw[e]at h3
 have eu:=Ui p.1 p.2.1 p.2.2.1 p.2.2.2 q.1 q.2.1 q.2.2.1 q.2.2.2
 rw[hP,hQ,hR,hS,h1,h2]at eu
 have:4*(4*t3)=4*(4*(t1*t2)):=by rw[<- h3];clear e h3 e1 e2 e3 h1 h2 hP hQ hR hS p1 h g;grind
 omega
theorem dE(h:a.natAbs<=M)(g:e.natAbs<=N):(a*e).natAbs<=M*N:=by
 rw[aI5];exact aJ6 h g
theorem qb1{K:Nat}(h1:x.natAbs<=K)(h2:y.natAbs<=K)(h3:z.natAbs<=K)(h4:w.natAbs<=K)(e:x-y-z-w=2*P):P.natAbs<=2*K:=by omega
theorem qb2{K:Nat}(h1:x.natAbs<=K)(h2:y.natAbs<=K)(h3:z.natAbs<=K)(h4:w.natAbs<=K)(e:x+y+z-w=2*P):P.natAbs<=2*K:=by omega
theorem qb3{K:Nat}(h1:x.natAbs<=K)(h2:y.natAbs<=K)(h3:z.natAbs<=K)(h4:w.natAbs<=K)(e:x-y+z+w=2*P):P.natAbs<=2*K:=by omega
theorem qb4{K:Nat}(h1:x.natAbs<=K)(h2:y.natAbs<=K)(h3:z.natAbs<=K)(h4:w.natAbs<=K)(e:x+y-z+w=2*P):P.natAbs<=2*K:=by omega
theorem Ji(h:dF M p)(g:dF N q)(hp:d8 p)(hq:d8 q):dF (2*(M*N)) (cm p q):=by
 obtain⟨P,Q,R,S,hP,hQ,hR,hS,p1,e⟩:=nJ hp hq
 rw[e]
 obtain⟨a1,a2,a3,a4⟩:=h
 obtain⟨b1,b2,b3,b4⟩:=g
 exact⟨qb1 (dE a1 b1) (dE a2 b2) (dE a3 b3) (dE a4 b4) hP,qb2 (dE a1 b2) (dE a2 b1) (dE a3 b4) (dE a4 b3) hQ,
  qb3 (dE a1 b3) (dE a2 b4) (dE a3 b1) (dE a4 b2) hR,qb4 (dE a1 b4) (dE a2 b3) (dE a3 b2) (dE a4 b1) hS⟩
theorem wn(h:dF M q)(hM:M<bW):bd q.1 q.2.1 q.2.2.1 q.2.2.2 :=
 ⟨aI1 h.1 hM,aI1 h.2.1 hM,aI1 h.2.2.1 hM,aI1 h.2.2.2 hM⟩
noncomputable def hJ(q:Qd):Qd:=(q.1,-q.2.1,-q.2.2.1,-q.2.2.2)
noncomputable def V2(p q:Qd):Qd:=(p.1+q.1,p.2.1+q.2.1,p.2.2.1+q.2.2.1,p.2.2.2+q.2.2.2)
theorem t9(x:Int):0<=x*x:=by
 rcases Int.le_total 0 x with h|h
 ·exact Int.mul_nonneg h h
 ·have:=Int.mul_nonneg (show 0 <= -x by omega) (show 0 <= -x by omega);rwa [aQ2]at this
theorem gH(h:dF M q)(g:M<=N):dF N q:=⟨aF5 h.1 g,aF5 h.2.1 g,aF5 h.2.2.1 g,aF5 h.2.2.2 g⟩
theorem xM(h:dF M q):dF M (hJ q):=⟨h.1,by simp only[hJ,aM8];exact h.2.1,by simp only[hJ,aM8];exact h.2.2.1,by simp only[hJ,aM8];exact h.2.2.2⟩
theorem ip(x:Int)(h:0<n):(x.fdiv n).natAbs<=x.natAbs:=by
 rw[aL5 _ (by omega)]
 exact Int.natAbs_ediv_le_natAbs x n

theorem fN(h:a=b):(!eqD (.int a) (.int b))=false:=by rw[h];simp
theorem vZ(h:a=b):eqD (.int a) (.int b)=true:=by rw[h];simp
theorem Fc(h:a≠b):(!eqD (.int a) (.int b))=true:=by simp[h]
theorem Ul(h:p≠q):eqD (dq p) (dq q)=false:=by simp[h]
theorem Uk(h:p=q):eqD (dq p) (dq q)=true:=by simp[h]
theorem qC{a b:Expr}{op:Operator}{p:Pos}{it:Bool}{x y:D}{j:Nat}{r:D×Nat}(ha:af (aH Φ a false sc ρ) (x,k))(hb:af (aH Φ b false sc ρ) (y,j))(h:af (sx op x y k j) r):af (aH Φ (.BinOp a op b p) it sc ρ) r:=af.bnd ha (af.bnd hb h)
noncomputable def tO(Φ:Fx)(sc:Scope)(tg:Expr)(body ss:List Stmt)(r:D):List D->al->Prop
 | [],ρ=>af (aF Φ ss sc ρ) (.rt r)
 | d::l,ρ => ∃ρ1,cI sc tg d ρ=some ρ1/\((∃ρ2,af (aF Φ body sc ρ1) (.nx ρ2)/\tO Φ sc tg body ss r l ρ2)\/af (aF Φ body sc ρ1) (.rt r))
theorem kG{ss:List Stmt}{p:Pos}{r:D}(ds:List D)(hi:af (aH Φ it true sc (demote it ρ)) (d,k))(h:tO Φ sc tg body ss r ds (demote it ρ))(hd:items d=some ds:=by rfl)(hk:k<=1:=by first|exact aF9 1|exact aH5 1)(ht:gF it tg=true:=by rfl):af (aF Φ (.For tg it body [] p::ss) sc ρ) (.rt r):=by
 obtain⟨r',h1,rfl⟩:=xr (ds:=ds) (λds ρ=>tO Φ sc tg body ss r ds ρ) (λr'=>r'=r) hi h (λd l ρ ⟨ρ1,h1,h2⟩=>⟨ρ1,h1,by
  rcases h2 with h2|h2
  ·exact .inl h2
  ·exact .inr ⟨r,h2,rfl⟩⟩) (λρ' h=>⟨r,h,rfl⟩) hd hk ht
 exact h1
noncomputable abbrev d3(x y z:Int):D:=.tup [.int x,.int y,.int z]
noncomputable def rM(a b c d e f x y z:Int):D :=
 if x-a*x.fdiv a=0 then
  (if y-b*x.fdiv a-d*(y-b*x.fdiv a).fdiv d=0 then
   (if z-c*x.fdiv a-e*(y-b*x.fdiv a).fdiv d-f*(z-c*x.fdiv a-e*(y-b*x.fdiv a).fdiv d).fdiv f=0 then
    d3 (x.fdiv a) ((y-b*x.fdiv a).fdiv d) ((z-c*x.fdiv a-e*(y-b*x.fdiv a).fdiv d).fdiv f)else .non)else .non)else .non
theorem Ny(x a:Int):x.fmod a=0↔x-a*x.fdiv a=0:=by
 have:=Int.mul_fdiv_add_fmod x a
 omega
theorem ay{n m:Nat}(h:n<=2 ^ m)(hm:m<9000):n<bW:=aI1 h (aN2 (by decide) hm)
theorem qo(h:0<a):(a*m).fdiv a=m:=by rw[aL5 _ (by omega),Int.mul_ediv_cancel_left _ (by omega)]
theorem CH{d f l:Int}(ha:0<a)(hd:0<d)(hf:0<f)(hx:x=a*l)(hy:y=b*l+d*m)(hz:z=c*l+e*m+f*n):rM a b c d e f x y z=d3 l m n:=by
 have e0:x.fdiv a=l:=by rw[hx,qo ha]
 have e1:y-b*l=d*m:=by rw[hy];omega
 have e2:z-c*l-e*m=f*n:=by rw[hz];omega
 unfold rM
 rw[e0,e1,qo hd,e2,qo hf,if_pos (by rw[hx];omega),if_pos (by omega),if_pos (by omega)]
open Builtin.Int (intBits)
theorem kP{P:al->Prop}{C:al}(h:Sub C ρ)(k:∀ρ,Sub C ρ->P ρ):P ρ:=k ρ h
noncomputable def cv:Nat->List Int->Nat
 | g,[]=>g
 | g,n::r=>cv (Nat.gcd g n.natAbs) r
@[irreducible] noncomputable def rX(l:List D):Int:=(cv 0 (pD l):Nat)
noncomputable def okT(l:List D):Prop:=∃ns:List Int,l=ns.map D.int/\ns.length<=100/\∀n∈ns,n.natAbs<2 ^ 1000
theorem Ma{l:List D}(h:okT l):okT l:=h
theorem oQ(ns:List Int):rX (ns.map D.int)=(cv 0 ns:Nat):=by unfold rX;rw[pB]
theorem jr:∀(ns:List Int) (g:Nat),cv g ns∣g/\∀n∈ns,cv g ns∣n.natAbs
 | [],g=>⟨Nat.dvd_refl _,λn h=>by cases h⟩
 | n::r,g=>by
  obtain⟨h1,h2⟩:=jr r (Nat.gcd g n.natAbs)
  refine⟨Nat.dvd_trans h1 (Nat.gcd_dvd_left _ _),λm hm=>?_⟩
  rcases aF8.mp hm with rfl|hm
  ·exact Nat.dvd_trans h1 (Nat.gcd_dvd_right _ _)
  ·exact h2 m hm
theorem oW{d:Nat}:∀(ns:List Int) (g:Nat),d∣g->(∀n∈ns,d∣n.natAbs)->d∣cv g ns
 | [],g,h,_=>h
 | n::r,g,h,k=>oW r _ (Nat.dvd_gcd h (k n aG0)) λm hm=>k m (aG1 _ hm)
theorem tx(h:n∈ns):((cv 0 ns:Nat):Int)∣n:=Int.ofNat_dvd_left.mpr ((jr ns 0).2 n h)
theorem lC(h:n∈ns)(h0:n≠0):0<cv 0 ns:=by
 rcases aL3 (cv 0 ns)with e|e
 ·have:=(jr ns 0).2 n h
  rw[e]at this
  have:=Nat.eq_zero_of_zero_dvd this
  omega
 ·exact e
theorem DV(h:n∈ns)(h0:n≠0)(hm:m∈ns):m=(cv 0 ns:Nat)*m.fdiv (cv 0 ns:Nat):=by
 obtain⟨u,e⟩:=tx hm
 have hp:=lC h h0
 generalize cv 0 ns=g at *
 rw[e,Int.mul_fdiv_cancel_left _ (by omega)]
theorem ap0(h:n∈ns)(h0:n≠0):cv 0 (ns.map λm=>m.fdiv (cv 0 ns:Nat))=1:=by
 have hp:=lC h h0
 have key:((cv 0 (ns.map λm=>m.fdiv (cv 0 ns:Nat)))*cv 0 ns)∣cv 0 ns:=by
  refine oW ns 0 (Nat.dvd_zero _) λm hm=>?_
  obtain⟨u,e⟩:=(jr (ns.map λm=>m.fdiv (cv 0 ns:Nat)) 0).2 _ (aK0.mpr ⟨m,hm,rfl⟩)
  have e2:=aK4 Int.natAbs (DV h h0 hm)
  rw[aI5,Int.natAbs_natCast,e]at e2
  exact⟨u,by rw[e2];simp only[aP5,Nat.mul_left_comm,Nat.mul_assoc]⟩
 have:=Nat.le_of_dvd hp key
 have h1:cv 0 (ns.map λm=>m.fdiv (cv 0 ns:Nat))<=1:=by
  rcases Nat.lt_or_ge 1 (cv 0 (ns.map λm=>m.fdiv (cv 0 ns:Nat)))with q|q
  ·have:=Nat.mul_lt_mul_of_pos_right q hp
   omega
  ·exact q
 have h2:0<cv 0 (ns.map λm=>m.fdiv (cv 0 ns:Nat)):=lC (n:=n.fdiv (cv 0 ns:Nat)) (aK0.mpr ⟨n,h,rfl⟩) λz=>by
  have:=DV h h0 h
  rw[z,Int.mul_zero]at this
  exact h0 this
 omega
theorem vM(c:Nat):∀(ns:List Int) (g:Nat),cv (c*g) (ns.map λm=>(c:Int)*m)=c*cv g ns
 | [],g=>rfl
 | n::r,g=>by
  show cv (Nat.gcd (c*g) ((c:Int)*n).natAbs) _=_
  rw[aI5,Int.natAbs_natCast,Nat.gcd_mul_left]
  exact vM c r _
theorem JE(h:n∈ns)(h0:n≠0):cv 0 ns<=n.natAbs:=Nat.le_of_dvd (by omega) ((jr ns 0).2 n h)
theorem xS(d:D):kn d 1<=1:=by rcases Tv (d:=d) (k:=1)with q|q<;>omega
noncomputable def tQ(a b m:Nat):Prop:=(b<=a/\a*b<2 ^ m)\/(a<b/\a*b<2 ^ (m-1)/\1<=m)
theorem si{a b m:Nat}(h:tQ a b m)(h0:b≠0):∃m',m' < m/\tQ b (a % b) m':=by
 rcases h with⟨h1,h2⟩|⟨h1,h2,h3⟩
 ·have hm:1<=m:=by
   rcases aL3 m with e|e
   ·subst e
    have:1*1<=a*b:=aJ6 (by omega) (by omega)
    omega
   ·exact e
  refine⟨m-1,by omega,.inl ⟨aP2 (Nat.mod_lt _ (by omega)),?_⟩⟩
  have e:2 ^ m=2*2 ^ (m-1):=by rw[<- Nat.pow_succ'];congr 1;omega
  rw[e]at h2
  have hk:b+a % b<=a:=by
   have:=Nat.div_add_mod a b
   have q:1<=a / b:=(Nat.one_le_div_iff (by omega)).mpr h1
   have:=aN7 b q
   omega
  have hlt:=Nat.mod_lt a (show 0<b by omega)
  have:b*(a % b)+b*(a % b)<=a*b:=by
   rw[<- Nat.mul_add,aP5 a b]
   exact aN7 b (by omega)
  omega
 ·refine⟨m-1,by omega,.inl ?_⟩
  rw[Nat.mod_eq_of_lt h1,aP5]
  exact⟨aP2 h1,h2⟩
theorem NG{a b:Nat}(ha:a<2 ^ 1000)(hb:b<2 ^ 1000):tQ a b 2002:=by
 have h:a*b<2 ^ 2001:=aG7 (Nat.mul_lt_mul'' ha hb) (by rw[<- aM9];exact aG8 (by decide) (by decide))
 rcases Nat.lt_or_ge a b with q|q
 ·exact .inr ⟨q,h,by decide⟩
 ·exact .inl ⟨q,aK1 h (aN2 (by decide) (by decide))⟩
theorem qm(a b:Nat):(a:Int).fmod b=((a % b:Nat):Int):=by
 rw[Int.fmod_eq_emod_of_nonneg _ (by omega)];rfl
theorem Nx(a b:Nat):(-(a:Int)).fmod (-(b:Int)) = -((a % b:Nat):Int):=by
 rw[Int.neg_fmod_neg,qm]
theorem P0{c:Expr}{p:Pos}{m:Nat}{P:al->Prop}(aq:Nat->al->Prop)(h0:aq m ρ)(hm:m<cq)
  (step:∀m ρ,aq m ρ->∃b k,af (aH Φ c false sc ρ) (.bl b,k)/\(b=true->∃m' ρ2,m' < m/\af (aF Φ body sc ρ) (.nx ρ2)/\aq m' ρ2)) (rest:∀m ρ',aq m ρ'->(∃k,af (aH Φ c false sc ρ') (.bl false,k))->P ρ'):∃ρ',af (aF Φ [.While c body [] p] sc ρ) (.nx ρ')/\P ρ':=by
 obtain⟨m',ρ',h1,h2,h3⟩:=oF (test:=λρ=>(aH Φ c false sc ρ).bnd λp=>jE p λb=>.ok b []) (body:=aF Φ body sc) aq (λm ρ h=>by
  obtain⟨b,k,a1,a2⟩:=step m ρ h
  exact⟨b,a1.bnd (jD rfl dM),a2⟩) h0 hm
 obtain⟨q,h4,h5⟩:=az h3
 obtain⟨t,ht,h5⟩:=gW h5
 cases aQ h5
 obtain⟨q1,q2⟩:=q
 have ht:q1=.bl false:=ht
 subst ht
 exact⟨ρ',aN (oS h1) dh,rest m' ρ' h2 ⟨q2,h4⟩⟩
noncomputable def lU(s:Bool)(a:Nat):Int:=cond s (-(a:Int)) a
theorem ET(s:Bool)(a b:Nat):(lU s a).fmod (lU s b)=lU s (a % b):=by
 cases s
 ·exact qm a b
 ·exact Nx a b
theorem fF(s:Bool)(a:Nat):(lU s a).natAbs=a:=by
 cases s
 ·rfl
 ·exact aM8 _
theorem ve(x y:Int)(h:y≠0):∃(s:Bool) (a b:Nat),y=lU s a/\x.fmod y=lU s b/\Nat.gcd a b=Nat.gcd x.natAbs y.natAbs/\a=y.natAbs/\b<a:=by
 have hg:Nat.gcd y.natAbs (x.fmod y).natAbs=Nat.gcd x.natAbs y.natAbs:=by
  have e:=Int.mul_fdiv_add_fmod x y
  have:Int.gcd y (x.fmod y)=Int.gcd y x:=by
   conv=>rhs;rw[<- e]
   rw[Int.gcd_mul_left_add_right]
  rw[show Nat.gcd y.natAbs (x.fmod y).natAbs=Int.gcd y (x.fmod y)from rfl,this,Int.gcd_comm];rfl
 by_cases hy:0<y
 ·have h0:=aI8 x hy
  have h1:=aJ3 x hy
  refine⟨false,y.natAbs,(x.fmod y).natAbs,?_,?_,hg,rfl,by omega⟩
  ·show y=((y.natAbs:Nat):Int);omega
  ·show x.fmod y=(((x.fmod y).natAbs:Nat):Int);omega
 ·have e:x.fmod y = -((-x).fmod (-y)):=by
   have:=Int.neg_fmod_neg (-x) (-y)
   rw[Int.neg_neg,Int.neg_neg]at this
   exact this
  have hy':0 < -y:=by omega
  have h0:=aI8 (-x) hy'
  have h1:=aJ3 (-x) hy'
  refine⟨true,y.natAbs,(x.fmod y).natAbs,?_,?_,hg,rfl,by omega⟩
  ·show y = -((y.natAbs:Nat):Int);omega
  ·show x.fmod y = -(((x.fmod y).natAbs:Nat):Int);omega
noncomputable def Pt(Φ:Fx)(sc:Scope)(tg:Expr)(body:List Stmt)(P:al->Prop):List D->al->Prop
 | [],ρ=>P ρ
 | d::l,ρ => ∃ρ1,cI sc tg d ρ=some ρ1/\∃ρ2,af (aF Φ body sc ρ1) (.nx ρ2)/\Pt Φ sc tg body P l ρ2
theorem xY{p:Pos}{P:al->Prop}(ds:List D)(hi:af (aH Φ it true sc (demote it ρ)) (d,k))(h:Pt Φ sc tg body P ds (demote it ρ))(hd:items d=some ds:=by rfl)(hk:k<=1:=by first|exact aF9 1|exact aH5 1)(ht:gF it tg=true:=by rfl):∃ρ',af (aF Φ [.For tg it body [] p] sc ρ) (.nx ρ')/\P ρ':=by
 obtain⟨ρ',h1,h2⟩:=oR (bind:=cI sc tg) (body:=aF Φ body sc) (λds ρ=>Pt Φ sc tg body P ds ρ) (λd l ρ ⟨ρ1,a,ρ2,b,c⟩=>⟨ρ1,ρ2,a,.inl b,c⟩) h
 exact⟨ρ',aN (qy hi hd hk ht h1) dh,h2⟩
theorem qx{ρ':al}{e:Expr}{n:Nat}{p q:Pos}{ds:List D}(h:af (aH Φ e false sc ρ) (d,k))(hs:gD d=some ds)(hk:aI ds=true\/k<=1)(hb:bL sc es ds ρ=some ρ')(ht:iK e=false:=by rfl)(ho:vw sc es (d,k)=false:=by rfl):af (ga Φ (.Assign [.Tuple es n p] e q) sc ρ) (.nx ρ'):=by
 show af (if pH sc es e=true then nP Φ es e sc ρ else _) _
 rw[if_neg (by unfold pH;rw[ht];exact aH9)]
 refine af.bnd h ?_
 rw[if_neg (by rw[ho];exact aH9)]
 dsimp only
 rw[hs];dsimp only
 rw[if_pos hk,hb]
 exact dM
theorem vU{e:Expr}{n:Nat}{p q:Pos}{d:D×Nat}(h:af (aH Φ e false sc ρ) d)(ho:vw sc es d=true)(ht:iK e=false:=by rfl):af (ga Φ (.Assign [.Tuple es n p] e q) sc ρ) (.nx (yK es d ρ)):=by
 show af (if pH sc es e=true then nP Φ es e sc ρ else _) _
 rw[if_neg (by unfold pH;rw[ht];exact aH9)]
 refine af.bnd h ?_
 rw[if_pos ho]
 exact dM
noncomputable def gI(ns:List Int):Int:=(cv 0 ns:Nat)
theorem kQ(ns:List Int):rX (ns.map D.int)=gI ns:=oQ ns
theorem js(h:n∈ns)(h0:n≠0):0<gI ns:=by have:=lC h h0;unfold gI;omega
theorem gw(h:n∈ns)(h0:n≠0)(hm:m∈ns):m=gI ns*m.fdiv (gI ns):=DV h h0 hm
theorem vO(h:n∈ns)(h0:n≠0):gI (ns.map λm=>m.fdiv (gI ns))=1:=by
 have:=ap0 h h0
 unfold gI;rw[this];rfl
theorem vP(hc:0<c)(ns:List Int):gI (ns.map λm=>c*m)=c*gI ns:=by
 obtain⟨k,rfl⟩:=Int.eq_ofNat_of_zero_le (Int.le_of_lt hc)
 have:=vM k ns 0
 unfold gI
 rw[Nat.mul_zero]at this
 rw[this];simp
theorem zn(h:n∈ns)(h0:n≠0):(gI ns).natAbs<=n.natAbs:=by
 have:=JE h h0
 unfold gI;omega
theorem gM(hg:0<g):(x.fdiv g).natAbs<=x.natAbs:=ip x hg
theorem vS(hg:0<g)(hn:0<n)(e:n=g*n.fdiv g):0<n.fdiv g:=by
 rcases Int.lt_or_le 0 (n.fdiv g)with h|h
 ·exact h
 ·have:=Int.mul_le_mul_of_nonneg_left h (Int.le_of_lt hg)
  rw[Int.mul_zero,<- e]at this
  omega
theorem mG(hk:k<=999)(hl:ns.length<=100)(h:∀n∈ns,n.natAbs<=2 ^ k):okT (ns.map D.int) :=
 ⟨ns,rfl,hl,λn hn=>aI1 (h n hn) (aN2 (by decide) (by omega))⟩
noncomputable abbrev bj(a b c x y z:Int):Int:=a*x+(b*y+(c*z+0))
theorem ax6(a b c d:Int):(([a,b,c,d]:List Int).any λn=>n != 0) = !decide (a=0/\b=0/\c=0/\d=0):=by
 by_cases h1:a=0<;>by_cases h2:b=0<;>by_cases h3:c=0<;>by_cases h4:d=0<;>simp[h1,h2,h3,h4]
noncomputable def l4(p:Qd):List Int:=[p.1,p.2.1,p.2.2.1,p.2.2.2]
end K
namespace K
open PySem PySem.Spec PyProof.Rows L2 Sp Qm
variable{Φ:Fx}{sc:Scope}{args:List Expr}{n:Str}{ds:List D}{M N j k m:Nat}{ns:List Int}{A B a b c d w x y z:Int}
theorem Nk{ps fs:List Str}{q:List D}(hl:ds.length+1=ps.length)(h:af (cZ Φ args sc (de ps (.obj n [] []::ds))) (q,k))(hq:q.length=fs.length)(h1:aI q=true)(h2:iI q=true):af (jS Φ sc ps args n fs ds) (.obj n fs q):=by
 unfold jS
 rw[if_pos hl]
 refine af.bnd h ?_
 dsimp only
 rw[if_pos hq]
 exact bv rfl ⟨h1,h2,True.intro⟩
theorem fu{ρ:al}{a:Expr}{m:Str}{ap cp:Pos}{it:Bool}{ns:List Str}{es:List D}{F:List D->Rs D}{d:D}(ha:af (aH Φ a false sc ρ) (.obj n ns es,k))(hs:af (cZ Φ args sc ρ) (ds,j))(hF:Φ.omt n m=some F)(h:af (F (.obj n ns es::ds)) d)
  (hl:(ap.endLine==cp.line)=true:=by rfl) (hn:ns.contains m=false:=by rfl) (hb:g9 a=true:=by rfl) (hf:ds.length<29:=by exact aF7 rfl):af (aH Φ (.Call (.Attribute a m ap) args [] cp) it sc ρ) (d,0):=by
 rw[lI,if_pos hl]
 refine af.bnd ha (af.bnd hs ?_)
 unfold yX
 dsimp only
 rw[if_pos ⟨hn,hb,hf⟩,hF]
 exact af.bnd h dM
theorem BD{X:Cx}(hc:X.calm=true):fe X (.builtin "any") (λxs H Q => ∃(p:Addr) (ns:List Int),xs=[.ref p]/\ck X.K H p (ns.map V.int)/\Q (.bl (ns.any λn=>n != 0)) H):=by
 intro pins s σ H xs us Q I r h
 obtain⟨p,ns,rfl,hq,q⟩:=h
 obtain⟨u,rfl,rx⟩:=d7 r
 cases rx
 obtain⟨its,rv,pl,hz⟩:=I.tuple hq
 have hlen:its.length=ns.length:=by have:=rv.length;simpa using this.symm
 have hl:s.heap.IsTuple p its.toArray:=by obtain⟨o,e,c,n,d⟩:=pl;exact⟨o,e,c,n,d⟩
 have hlt:p<s.heap.objs.size:=by obtain⟨_,e,_⟩:=hl;exact aG2 e
 refine call_any_walk (aO2 hl ?_)
 refine⟨_,_,_,_,_,_,λi=>(ns.getD i 0 != 0),rfl,Walks.tuple (A:=X.A.in1) (by exact I.ok.hd hc) _ p (aJ0 hlt) its.toArray,⟨⟨_,aG5 _ rfl,rfl,rfl⟩,hl.at λo e=>aF6 _ e⟩,?_,λh' tk hk=>?_⟩
 ·intro i v s' Q' E' hP hQ
  have hP:(its.toArray)[i]?=some v:=hP
  simp only[List.getElem?_toArray]at hP
  have hi:i<ns.length:=by rw[<- hlen];exact(aI3.mp hP).1
  obtain⟨w,hw,rw'⟩:=rv.get (i:=i) (x:=V.int ns[i]) (by simp[hi])
  rw[hP]at hw;cases hw
  obtain⟨t,rfl⟩:=rw'
  refine PyProof.Rows.truthy_int ?_
  have:ns.getD i 0=ns[i]:=by rw[aJ2,aH7 hi];rfl
  rw[<- this];exact hQ
 ·have:((List.range its.toArray.size).any λi=>(ns.getD i 0 != 0))=ns.any λn=>n != 0:=by
   simp only[aI0,hlen]
   rw[aN1,aP7,aP7]
   constructor
   ·rintro⟨i,hi,h⟩
    have hi:=aN8.mp hi
    rw[aJ2,aH7 hi]at h
    exact⟨_,List.getElem_mem hi,h⟩
   ·rintro⟨x,hx,h⟩
    obtain⟨i,hi,rfl⟩:=List.mem_iff_getElem.mp hx
    exact⟨i,aN8.mpr hi,by rw[aJ2,aH7 hi];exact h⟩
  rw[this]
  refine⟨.bl _,H,I.kept (λb o e=>hk b o (λhm=>?_) (aF6 _ e)),rfl,q⟩
  have hb:b=s.heap.objs.size:=by simpa using hm
  subst hb
  exact absurd (aG2 e) (aJ7 _)
noncomputable def uI(ds:List D):R1 :=
 match ds with
 | [.tup l]=>(match fk l with|some ns=>.ok (.bl (ns.any λn=>n != 0),0) []|none=>.st)
 | ds=>D9 ds
theorem D8:ff "any" uI:=by
 refine⟨by decide +kernel,by decide +kernel,by decide +kernel,rfl,λX ds z l o hc h hp=>?_⟩
 unfold uI at h
 split at h
 ·split at h
  ·rename_i ns e
   refine .inl ⟨"any", by decide +kernel,?_⟩
   cases h
   cases mO e
   refine⟨_,BD hc,λow H0 H2 vs P Q o s rx q=>?_⟩
   obtain⟨v,rfl,ry⟩:=rx.only
   rw[aj]at ry
   obtain⟨a,ws,rfl,hs,rl⟩:=ry
   exact⟨a,ns,rfl,by rw[<- rl.mapInt];exact hs,q _ _ (aL.refl _) (by rw[aj])⟩
  ·cases h
 ·exact Kb.2.2.2.2 X _ z l o hc h hp
theorem vN:∀(ns ms:List Int) (g:Nat),ns.map Int.natAbs=ms.map Int.natAbs->cv g ns=cv g ms
 | [],[],g,_=>rfl
 | [],_::_,g,h=>by cases h
 | _::_,[],g,h=>by cases h
 | n::ns,m::ms,g,h=>by
  have h1:n.natAbs=m.natAbs/\ns.map Int.natAbs=ms.map Int.natAbs:=by simpa using h
  show cv (Nat.gcd g n.natAbs) ns=cv (Nat.gcd g m.natAbs) ms
  rw[h1.1]
  exact vN ns ms _ h1.2
theorem vQ{ms:List Int}(h:ns.map Int.natAbs=ms.map Int.natAbs):gI ns=gI ms:=by unfold gI;rw[vN ns ms 0 h]
theorem jz(h:∀m∈ns,d∣m):d∣gI ns:=by
 unfold gI
 have:=oW (d:=d.natAbs) ns 0 (Nat.dvd_zero _) λn hn=>Int.natAbs_dvd_natAbs.mpr (h n hn)
 exact Int.natAbs_dvd.mp (Int.ofNat_dvd.mpr this)
theorem Bi{n:Int}(h:n∈ns):gI ns∣n:=tx h
theorem kR(k a b c d:Int)(hk:k≠0):gI [k*a,k*b,k*c,k*d]=(k.natAbs:Int)*gI [a,b,c,d]:=by
 rw[<- vP (c:=(k.natAbs:Int)) (by omega) [a,b,c,d]]
 apply vQ
 simp[aI5]
noncomputable def dA(a b c d:Int):Int:=if a≠0 then a else if b≠0 then b else if c≠0 then c else d
theorem lz{k:Int}(a b c d:Int)(hk:k≠0):dA (k*a) (k*b) (k*c) (k*d)=k*dA a b c d:=by
 unfold dA
 have e:∀x:Int,(k*x≠0)=(x≠0):=λx=>by
  apply propext
  constructor
  ·intro h z;subst z;simp at h
  ·intro h z;rcases aO5.mp z with q|q
   ·exact hk q
   ·exact h q
 simp only[e]
 by_cases ha:a≠0
 ·rw[if_pos ha,if_pos ha]
 ·rw[if_neg ha,if_neg ha]
  by_cases hb:b≠0
  ·rw[if_pos hb,if_pos hb]
  ·rw[if_neg hb,if_neg hb]
   by_cases hc:c≠0
   ·rw[if_pos hc,if_pos hc]
   ·rw[if_neg hc,if_neg hc]
theorem xR(h:¬ (a=0/\b=0/\c=0/\d=0)):dA a b c d≠0:=by
 unfold dA
 split
 ·assumption
 ·split
  ·assumption
  ·split
   ·assumption
   ·intro z;apply h;omega
structure Pm(a b c d:Int):Prop where
 one:gI [a,b,c,d]=1
 pos:0<dA a b c d
theorem Pm.ne(h:Pm a b c d):¬ (a=0/\b=0/\c=0/\d=0):=by
 rintro⟨rfl,rfl,rfl,rfl⟩
 have:=h.pos
 simp[dA]at this
theorem Ix(h:¬ (x=0/\y=0/\z=0/\w=0)):∃k a b c d:Int,k≠0/\x=k*a/\y=k*b/\z=k*c/\w=k*d/\Pm a b c d/\k.natAbs=(gI [x,y,z,w]).natAbs:=by
 obtain⟨v,hv,hv0⟩:∃v∈[x,y,z,w],v≠0:=by
  by_cases hx:x=0
  ·by_cases hy:y=0
   ·by_cases hz:z=0
    ·exact⟨w,by simp,λq=>h ⟨hx,hy,hz,q⟩⟩
    ·exact⟨z,by simp,hz⟩
   ·exact⟨y,by simp,hy⟩
  ·exact⟨x,by simp,hx⟩
 have g0:=js hv hv0
 have ex:=gw (m:=x) hv hv0 (by simp)
 have ey:=gw (m:=y) hv hv0 (by simp)
 have ez:=gw (m:=z) hv hv0 (by simp)
 have ew:=gw (m:=w) hv hv0 (by simp)
 have one:=vO hv hv0
 simp only[aH8,aN0]at one
 generalize gI [x,y,z,w]=g at *
 generalize x.fdiv g=a at *
 generalize y.fdiv g=b at *
 generalize z.fdiv g=c at *
 generalize w.fdiv g=d at *
 have hn:¬ (a=0/\b=0/\c=0/\d=0):=by
  rintro⟨rfl,rfl,rfl,rfl⟩
  apply h
  simp at ex ey ez ew
  exact⟨ex,ey,ez,ew⟩
 have hl:=xR hn
 rcases aP1 hl with q|q
 ·refine⟨-g,-a,-b,-c,-d,by omega,by rw[aQ2];exact ex,by rw[aQ2];exact ey,by rw[aQ2];exact ez,by rw[aQ2];exact ew,⟨?_,?_⟩,by rw[aM8]⟩
  ·rw[<- one];apply vQ;simp
  ·have:=lz (k:=-1) a b c d (by decide)
   simp only[Int.neg_mul,Int.one_mul]at this
   rw[this];omega
 ·exact⟨g,a,b,c,d,by omega,ex,ey,ez,ew,⟨one,q⟩,rfl⟩
theorem AK(h:Pm a b c d):∃k:Int,(k=1\/k = -1)/\Pm (k*a) (k * -b) (k * -c) (k * -d):=by
 have hn:¬ (a=0 /\ -b=0 /\ -c=0 /\ -d=0):=λz=>h.ne ⟨z.1,by omega,by omega,by omega⟩
 have hl:=xR hn
 have g1:gI [a,-b,-c,-d]=1:=by rw[<- h.one];apply vQ;simp
 rcases aP1 hl with q|q
 ·refine⟨-1,.inr rfl,?_,?_⟩
  ·rw[kR _ _ _ _ _ (by decide),g1];rfl
  ·rw[lz _ _ _ _ (by decide)];omega
 ·refine⟨1,.inl rfl,?_,?_⟩
  ·rw[kR _ _ _ _ _ (by decide),g1];rfl
  ·rw[lz _ _ _ _ (by decide)];omega
noncomputable def n4(a b c d:Int):Int:=a*a+b*b+c*c+d*d
noncomputable def cX(a b c d:Int):Int:=a*a+b*b-c*c-d*d
noncomputable def cQ(a b c d:Int):Int:=2*b*c-2*a*d
noncomputable def cP(a b c d:Int):Int:=2*b*d+2*a*c
noncomputable def cG(a b c d:Int):Int:=2*b*c+2*a*d
noncomputable def cK(a b c d:Int):Int:=a*a-b*b+c*c-d*d
noncomputable def cF(a b c d:Int):Int:=2*c*d-2*a*b
noncomputable def cE(a b c d:Int):Int:=2*b*d-2*a*c
noncomputable def cD(a b c d:Int):Int:=2*c*d+2*a*b
noncomputable def cJ(a b c d:Int):Int:=a*a-b*b-c*c+d*d
noncomputable def cW(a b c d:Int):List Int:=[n4 a b c d,cX a b c d,cQ a b c d,cP a b c d,cG a b c d,cK a b c d,cF a b c d,cE a b c d,cD a b c d,cJ a b c d]
theorem mr(h:x≠0):0<x*x:=by
 rcases aP1 h with q|q
 ·exact Int.mul_pos_of_neg_of_neg q q
 ·exact aK3 q q
theorem vz(h:¬ (a=0/\b=0/\c=0/\d=0)):0<n4 a b c d:=by
 unfold n4
 have h1:=t9 a;have h2:=t9 b;have h3:=t9 c;have h4:=t9 d
 by_cases ha:a=0
 ·by_cases hb:b=0
  ·by_cases hc:c=0
   ·have:=mr (x:=d) (λq=>h ⟨ha,hb,hc,q⟩);omega
   ·have:=mr hc;omega
  ·have:=mr hb;omega
 ·have:=mr ha;omega
theorem AU(h:x % 2=1):∃k,x*x=8*k+1:=by
 obtain⟨u,rfl⟩:∃u,x=2*u+1:=⟨x / 2,by omega⟩
 have hu:u % 2=0\/u % 2=1:=by omega
 rcases hu with q|q
 ·obtain⟨v,rfl⟩:∃v,u=2*v:=⟨u / 2,by omega⟩
  exact⟨2*v*v+v,by grind⟩
 ·obtain⟨v,rfl⟩:∃v,u=2*v+1:=⟨u / 2,by omega⟩
  exact⟨2*v*v+3*v+1,by grind⟩
theorem esq(h:x % 2=0):∃k,x*x=4*k:=by
 obtain⟨u,rfl⟩:∃u,x=2*u:=⟨x / 2,by omega⟩
 exact⟨u*u,by grind⟩
theorem pX(h:x % 2=1)(h':y % 2=1):∃k,x*y=2*k+1:=by
 obtain⟨u,rfl⟩:∃u,x=2*u+1:=⟨x / 2,by omega⟩
 obtain⟨v,rfl⟩:∃v,y=2*v+1:=⟨y / 2,by omega⟩
 exact⟨2*u*v+u+v,by grind⟩
theorem aj8{g:Int}(h1:gI [a,b,c,d]=1)(h:∀x∈[a,b,c,d],∀y∈[a,b,c,d],g∣4*(x*y)):g∣4:=by
 have one:∀y∈[a,b,c,d],g∣4*y:=λy hy=>by
  by_cases y0:y=0
  ·subst y0;exact⟨0,by simp⟩
  ·have k:=jz (d:=g) (ns:=[(4*y)*a,(4*y)*b,(4*y)*c,(4*y)*d]) (by
    intro m hm
    simp only[aF8,aG4,aI7]at hm
    have q:∀x∈[a,b,c,d],g∣4*y*x:=λx hx=>by
     have:=h x hx y hy
     rwa [show 4*y*x=4*(x*y) by grind]
    rcases hm with rfl|rfl|rfl|rfl
    ·exact q a (by simp)
    ·exact q b (by simp)
    ·exact q c (by simp)
    ·exact q d (by simp))
   rw[kR _ _ _ _ _ (by omega),h1,aP8]at k
   exact Int.dvd_natAbs.mp k
 have k:=jz (d:=g) (ns:=[4*a,4*b,4*c,4*d]) (by
  intro m hm
  simp only[aF8,aG4,aI7]at hm
  rcases hm with rfl|rfl|rfl|rfl
  ·exact one a (by simp)
  ·exact one b (by simp)
  ·exact one c (by simp)
  ·exact one d (by simp))
 rw[kR _ _ _ _ _ (by decide),h1]at k
 exact k
theorem Hi(h:Pm a b c d):gI (cW a b c d)∣4:=by
 have q:∀x∈cW a b c d,gI (cW a b c d)∣x:=λx hx=>Bi hx
 generalize gI (cW a b c d)=g at *
 have e:g∣n4 a b c d:=q _ (by simp[cW])
 have e0:g∣cX a b c d:=q _ (by simp[cW])
 have e1:g∣cQ a b c d:=q _ (by simp[cW])
 have e2:g∣cP a b c d:=q _ (by simp[cW])
 have e3:g∣cG a b c d:=q _ (by simp[cW])
 have e4:g∣cK a b c d:=q _ (by simp[cW])
 have e5:g∣cF a b c d:=q _ (by simp[cW])
 have e6:g∣cE a b c d:=q _ (by simp[cW])
 have e7:g∣cD a b c d:=q _ (by simp[cW])
 have e8:g∣cJ a b c d:=q _ (by simp[cW])
 obtain⟨k,hk⟩:=e;obtain⟨k0,h0⟩:=e0;obtain⟨k1,h1⟩:=e1;obtain⟨k2,h2⟩:=e2;obtain⟨k3,h3⟩:=e3
 obtain⟨k4,h4⟩:=e4;obtain⟨k5,h5⟩:=e5;obtain⟨k6,h6⟩:=e6;obtain⟨k7,h7⟩:=e7;obtain⟨k8,h8⟩:=e8
 simp only[n4,cX,cQ,cP,cG,cK,cF,cE,cD,cJ]at hk h0 h1 h2 h3 h4 h5 h6 h7 h8
 apply aj8 h.one
 have aa:g∣4*(a*a):=⟨k+k0+k4+k8,by grind⟩
 have bb:g∣4*(b*b):=⟨k+k0-k4-k8,by grind⟩
 have cc:g∣4*(c*c):=⟨k-k0+k4-k8,by grind⟩
 have dd:g∣4*(d*d):=⟨k-k0-k4+k8,by grind⟩
 have bc:g∣4*(b*c):=⟨k1+k3,by grind⟩
 have ad:g∣4*(a*d):=⟨k3-k1,by grind⟩
 have bd:g∣4*(b*d):=⟨k2+k6,by grind⟩
 have ac:g∣4*(a*c):=⟨k2-k6,by grind⟩
 have cd:g∣4*(c*d):=⟨k5+k7,by grind⟩
 have ab:g∣4*(a*b):=⟨k7-k5,by grind⟩
 have ba:g∣4*(b*a):=by rw[aI2 b a];exact ab
 have ca:g∣4*(c*a):=by rw[aI2 c a];exact ac
 have da:g∣4*(d*a):=by rw[aI2 d a];exact ad
 have cb:g∣4*(c*b):=by rw[aI2 c b];exact bc
 have db:g∣4*(d*b):=by rw[aI2 d b];exact bd
 have dc:g∣4*(d*c):=by rw[aI2 d c];exact cd
 intro x hx y hy
 simp only[aF8,aG4,aI7]at hx hy
 rcases hx with hx|hx|hx|hx<;>rcases hy with hy|hy|hy|hy<;>rw[hx,hy]<;>assumption
theorem corner(h:Pm a b c d):∃g m:Int,gI (cW a b c d)=g/\(g=1\/g=2\/g=4)/\n4 a b c d=g*m/\m % 2=1/\0<m:=by
 have hn:=vz h.ne
 have mn:n4 a b c d∈cW a b c d:=by simp[cW]
 have g0:=js mn (by omega)
 have g4:=Hi h
 obtain⟨m,hm⟩:=Bi mn
 have hg:gI (cW a b c d)=1\/gI (cW a b c d)=2\/gI (cW a b c d)=4:=by
  have l4:=Int.le_of_dvd (by decide) g4
  obtain⟨u,hu⟩:=g4
  generalize gI (cW a b c d)=g at *
  have:g=1\/g=2\/g=3\/g=4:=by omega
  rcases this with rfl|rfl|rfl|rfl
  ·exact .inl rfl
  ·exact .inr (.inl rfl)
  ·omega
  ·exact .inr (.inr rfl)
 have two:2∣n4 a b c d->2∣gI (cW a b c d):=λh2=>jz λx hx=>by
  obtain⟨u,hu⟩:=h2
  simp only[cW,aF8,aG4,aI7]at hx
  rcases hx with rfl|rfl|rfl|rfl|rfl|rfl|rfl|rfl|rfl|rfl
  ·exact⟨u,hu⟩
  ·exact⟨u-c*c-d*d,by unfold n4 at hu;unfold cX;grind⟩
  ·exact⟨b*c-a*d,by unfold cQ;grind⟩
  ·exact⟨b*d+a*c,by unfold cP;grind⟩
  ·exact⟨b*c+a*d,by unfold cG;grind⟩
  ·exact⟨u-b*b-d*d,by unfold n4 at hu;unfold cK;grind⟩
  ·exact⟨c*d-a*b,by unfold cF;grind⟩
  ·exact⟨b*d-a*c,by unfold cE;grind⟩
  ·exact⟨c*d+a*b,by unfold cD;grind⟩
  ·exact⟨u-b*b-c*c,by unfold n4 at hu;unfold cJ;grind⟩
 have four:4∣n4 a b c d->4∣gI (cW a b c d)/\n4 a b c d % 8=4:=λh4=>by
  have ne:¬ (a % 2=0/\b % 2=0/\c % 2=0/\d % 2=0):=λz=>by
   have:=jz (d:=2) (ns:=[a,b,c,d]) (by
    intro m hm
    simp only[aF8,aG4,aI7]at hm
    rcases hm with rfl|rfl|rfl|rfl
    ·exact Int.dvd_of_emod_eq_zero z.1
    ·exact Int.dvd_of_emod_eq_zero z.2.1
    ·exact Int.dvd_of_emod_eq_zero z.2.2.1
    ·exact Int.dvd_of_emod_eq_zero z.2.2.2)
   rw[h.one]at this
   omega
  have od:a % 2=1/\b % 2=1/\c % 2=1/\d % 2=1:=by
   unfold n4 at h4
   have sq:∀x:Int,∃k,x*x=4*k+x % 2/\(x % 2=0\/x % 2=1):=λx=>by
    rcases(show x % 2=0\/x % 2=1 by omega)with q|q
    ·obtain⟨k,e⟩:=esq q;exact⟨k,by rw[q];omega,.inl q⟩
    ·obtain⟨k,e⟩:=AU q;exact⟨2*k,by rw[q];omega,.inr q⟩
   obtain⟨ka,ea,pa⟩:=sq a
   obtain⟨kb,eb,pb⟩:=sq b
   obtain⟨kc,ec,pc⟩:=sq c
   obtain⟨kd,ed,pd⟩:=sq d
   rw[ea,eb,ec,ed]at h4
   clear ea eb ec ed sq
   generalize a % 2=A at *;generalize b % 2=B at *;generalize c % 2=C at *;generalize d % 2=E at *
   omega
  obtain⟨oa,ob,oc,od⟩:=od
  obtain⟨ka,ya⟩:=AU oa;obtain⟨kb,yb⟩:=AU ob;obtain⟨kc,yc⟩:=AU oc;obtain⟨kd,yd⟩:=AU od
  obtain⟨bc,zbc⟩:=pX ob oc;obtain⟨ad,zad⟩:=pX oa od;obtain⟨bd,zbd⟩:=pX ob od;obtain⟨ac,zac⟩:=pX oa oc;obtain⟨cd,zcd⟩:=pX oc od;obtain⟨ab,zab⟩:=pX oa ob
  refine⟨jz λx hx=>?_,by unfold n4;omega⟩
  simp only[cW,aF8,aG4,aI7]at hx
  rcases hx with rfl|rfl|rfl|rfl|rfl|rfl|rfl|rfl|rfl|rfl
  ·exact h4
  ·exact⟨2*ka+2*kb-2*kc-2*kd,by unfold cX;omega⟩
  ·exact⟨bc-ad,by unfold cQ;rw[aH2,aH2,zbc,zad];omega⟩
  ·exact⟨bd+ac+1,by unfold cP;rw[aH2,aH2,zbd,zac];omega⟩
  ·exact⟨bc+ad+1,by unfold cG;rw[aH2,aH2,zbc,zad];omega⟩
  ·exact⟨2*ka-2*kb+2*kc-2*kd,by unfold cK;omega⟩
  ·exact⟨cd-ab,by unfold cF;rw[aH2,aH2,zcd,zab];omega⟩
  ·exact⟨bd-ac,by unfold cE;rw[aH2,aH2,zbd,zac];omega⟩
  ·exact⟨cd+ab+1,by unfold cD;rw[aH2,aH2,zcd,zab];omega⟩
  ·exact⟨2*ka-2*kb-2*kc+2*kd,by unfold cJ;omega⟩
 refine⟨_,m,rfl,hg,hm,?_,?_⟩
 ·generalize gI (cW a b c d)=g at *
  generalize n4 a b c d=n at *
  rcases hg with rfl|rfl|rfl
  ·have:¬ 2∣n:=λz=>by have:=two z;omega
   omega
  ·have:¬ 4∣n:=λz=>by have:=(four z).1;omega
   omega
  ·have:=(four ⟨m,hm⟩).2
   omega
 ·generalize gI (cW a b c d)=g at *
  generalize n4 a b c d=n at *
  rcases hg with rfl|rfl|rfl<;>omega
theorem xH:∀(i j:Nat) {m m':Int},2 ^ i*m=2 ^ j*m'->m % 2=1->m' % 2=1->m=m'
 | 0,0,m,m',h,_,_=>by simpa using h
 | 0,j+1,m,m',h,h1,_=>by
  rw[Int.pow_succ]at h
  have:m=2*(2 ^ j*m'):=by rw[show(2:Int)*(2 ^ j*m')=2 ^ j*2*m' by grind];simpa using h
  omega
 | i+1,0,m,m',h,_,h1=>by
  rw[Int.pow_succ]at h
  have:m'=2*(2 ^ i*m):=by rw[show(2:Int)*(2 ^ i*m)=2 ^ i*2*m by grind];simpa using h.symm
  omega
 | i+1,j+1,m,m',h,h1,h2=>by
  rw[Int.pow_succ,Int.pow_succ]at h
  refine xH i j ?_ h1 h2
  have:2*(2 ^ i*m)=2*(2 ^ j*m'):=by rw[show(2:Int)*(2 ^ i*m)=2 ^ i*2*m by grind,show(2:Int)*(2 ^ j*m')=2 ^ j*2*m' by grind];exact h
  omega
theorem MY(h:¬ (x=0/\y=0/\z=0/\w=0)):L2.atI ((([x,y,z,w]:List Int).filter λt => !decide (t=0)).map D.int) 0=some (.int (dA x y z w)):=by
 unfold dA
 by_cases hx:x=0
 ·subst hx
  by_cases hy:y=0
  ·subst hy
   by_cases hz:z=0
   ·subst hz
    have hw:w≠0:=λq=>h ⟨rfl,rfl,rfl,q⟩
    simp[hw,L2.atI,L2.ixN]
   ·simp[hz,L2.atI,L2.ixN]
  ·simp[hy,L2.atI,L2.ixN]
 ·simp[hx,L2.atI,L2.ixN]
theorem Jm{f:Int->D}(h:¬ (x=0/\y=0/\z=0/\w=0)):L2.atI ((([x,y,z,w]:List Int).filter λt => !decide (t=0)).map f) 0=some (f (dA x y z w)):=by
 unfold dA
 by_cases hx:x=0
 ·subst hx
  by_cases hy:y=0
  ·subst hy
   by_cases hz:z=0
   ·subst hz
    have hw:w≠0:=λq=>h ⟨rfl,rfl,rfl,q⟩
    simp[hw,L2.atI,L2.ixN]
   ·simp[hz,L2.atI,L2.ixN]
  ·simp[hy,L2.atI,L2.ixN]
 ·simp[hx,L2.atI,L2.ixN]
theorem hX{n:Nat}(hx:x.natAbs<=m)(hy:y.natAbs<=n)(h:m+n<=k):(x+y).natAbs<=k:=aF5 (Int.natAbs_add_le _ _) (aF5 (aP4 hx hy) h)
theorem kX{n:Nat}(hx:x.natAbs<=m)(hy:y.natAbs<=n)(h:m+n<=k):(x-y).natAbs<=k:=aF5 (aO6 _ _) (aF5 (aP4 hx hy) h)
theorem qT(hx:x.natAbs<=m):(2*x).natAbs<=2*m:=by rw[aI5];exact aN7 2 hx
theorem SZ{C E:Int}(h:8*M<=N)(ha:A.natAbs<=M)(hb:B.natAbs<=M)(hc:C.natAbs<=M)(he:E.natAbs<=M):(A+B+C+E).natAbs<=N/\(A+B-C-E).natAbs<=N/\(A-B+C-E).natAbs<=N/\(A-B-C+E).natAbs<=N:=by
 have h4:M+M+M+M<=N:=by omega
 have p2:=hX ha hb (aF9 _)
 have m2:=kX ha hb (aF9 _)
 exact⟨hX (hX p2 hc (aF9 _)) he h4,kX (kX p2 hc (aF9 _)) he h4,kX (hX m2 hc (aF9 _)) he h4,hX (kX m2 hc (aF9 _)) he h4⟩
theorem yW(h:8*M<=N)(ha:A.natAbs<=M)(hb:B.natAbs<=M):(2*A-2*B).natAbs<=N/\(2*A+2*B).natAbs<=N:=by
 have h4:2*M+2*M<=N:=by omega
 exact⟨kX (qT ha) (qT hb) h4,hX (qT ha) (qT hb) h4⟩
theorem EJ(hM:m*m<=M)(hN:8*M<=N)(ha:a.natAbs<=m)(hb:b.natAbs<=m)(hc:c.natAbs<=m)(hd:d.natAbs<=m):∀x∈cW a b c d,x.natAbs<=N:=by
 have p:∀{x y:Int},x.natAbs<=m->y.natAbs<=m->(x*y).natAbs<=M:=λhx hy=>by rw[aI5];exact aF5 (aJ6 hx hy) hM
 obtain⟨h1,h2,h3,h4⟩:=SZ hN (p ha ha) (p hb hb) (p hc hc) (p hd hd)
 have bc:=yW hN (p hb hc) (p ha hd)
 have bd:=yW hN (p hb hd) (p ha hc)
 have cd:=yW hN (p hc hd) (p ha hb)
 intro x hx
 simp only[cW,aF8,aG4,aI7]at hx
 rcases hx with rfl|rfl|rfl|rfl|rfl|rfl|rfl|rfl|rfl|rfl
 ·exact h1
 ·exact h2
 ·unfold cQ;rw[aH2,aH2];exact bc.1
 ·unfold cP;rw[aH2,aH2];exact bd.2
 ·unfold cG;rw[aH2,aH2];exact bc.2
 ·exact h3
 ·unfold cF;rw[aH2,aH2];exact cd.1
 ·unfold cE;rw[aH2,aH2];exact bd.1
 ·unfold cD;rw[aH2,aH2];exact cd.2
 ·exact h4
theorem Cn(ha:a.natAbs<=2 ^ 140)(hb:b.natAbs<=2 ^ 140)(hc:c.natAbs<=2 ^ 140)(hd:d.natAbs<=2 ^ 140):∀x∈cW a b c d,x.natAbs<=2 ^ 290 :=
 EJ (M:=2 ^ 140*2 ^ 140) (aF9 _) (by rw[show(8:Nat)=2 ^ 3 from rfl,<- aM9,<- aM9];exact aG8 (by decide) (by decide)) ha hb hc hd
theorem Kx(ha:a.natAbs<=2 ^ 140)(hb:b.natAbs<=2 ^ 140)(hc:c.natAbs<=2 ^ 140)(hd:d.natAbs<=2 ^ 140):okT ((cW a b c d).map D.int):=mG (k:=290) (by decide) (aF7 rfl) (Cn ha hb hc hd)
theorem EU(hm:m<=999)(h:∀t∈[x,y,z,w],t.natAbs<=2 ^ m):okT (([x,y,z,w]:List Int).map D.int):=mG (k:=m) hm (aF7 rfl) h
noncomputable def KA(a b c d:Int):D:=.tup [.int ((n4 a b c d).fdiv (gI (cW a b c d))),.tup [d3 ((cX a b c d).fdiv (gI (cW a b c d))) ((cQ a b c d).fdiv (gI (cW a b c d))) ((cP a b c d).fdiv (gI (cW a b c d))),d3 ((cG a b c d).fdiv (gI (cW a b c d))) ((cK a b c d).fdiv (gI (cW a b c d))) ((cF a b c d).fdiv (gI (cW a b c d))),d3 ((cE a b c d).fdiv (gI (cW a b c d))) ((cD a b c d).fdiv (gI (cW a b c d))) ((cJ a b c d).fdiv (gI (cW a b c d)))]]
noncomputable def rF(a b c d:Int):D:=.obj "Turn" ["word", "row", "fractions"] [.str "turn", t4 a b c d,KA a b c d]
theorem Tx{k:Int}(hk:k≠0)(p:Pm a b c d):gI [k*a,k*b,k*c,k*d]=k.natAbs:=by rw[kR _ _ _ _ _ hk,p.one,aP8]
theorem fm2(u:Int):u.fmod 2=u % 2:=Int.fmod_eq_emod_of_nonneg u (by decide)
theorem gY(ha:a.natAbs<=2 ^ k)(hb:b.natAbs<=2 ^ k)(hc:c.natAbs<=2 ^ k)(hx:x.natAbs<=2 ^ j)(hy:y.natAbs<=2 ^ j)(hz:z.natAbs<=2 ^ j):(bj a b c x y z).natAbs<=2 ^ (k+j+2):=by
 have m:∀{u v:Int},u.natAbs<=2 ^ k->v.natAbs<=2 ^ j->(u*v).natAbs<=2 ^ (k+j):=λhu hv=>by rw[aI5,aM9];exact aJ6 hu hv
 have h1:=m ha hx;have h2:=m hb hy;have h3:=m hc hz
 rw[show k+j+2=(k+j)+1+1 from rfl,aM2,aM2]
 exact hX h1 (hX h2 (hX h3 (aF9 0) (aF9 _)) (aF9 _)) (by omega)
structure T9 where
 n:Int
 a:Int
 b:Int
 c:Int
 d:Int
 e:Int
 f:Int
 g:Int
 h:Int
 i:Int
noncomputable def T9.l(T:T9):List Int:=[T.n,T.a,T.b,T.c,T.d,T.e,T.f,T.g,T.h,T.i]
noncomputable def T9.D(T:T9):D:=.tup [.int T.n,.tup [d3 T.a T.b T.c,d3 T.d T.e T.f,d3 T.g T.h T.i]]
noncomputable def T9.map(f:Int->Int)(T:T9):T9:=⟨f T.n,f T.a,f T.b,f T.c,f T.d,f T.e,f T.f,f T.g,f T.h,f T.i⟩
theorem T9.l_map(f:Int->Int)(T:T9):(T.map f).l=T.l.map f:=rfl
noncomputable def T9.low(T:T9):T9:=T.map λx=>x.fdiv (gI T.l)
noncomputable def T9.bh(A B:T9):T9:=⟨A.n*B.n,bj A.a A.d A.g B.a B.b B.c,bj A.b A.e A.h B.a B.b B.c,bj A.c A.f A.i B.a B.b B.c,bj A.a A.d A.g B.d B.e B.f,bj A.b A.e A.h B.d B.e B.f,bj A.c A.f A.i B.d B.e B.f,bj A.a A.d A.g B.g B.h B.i,bj A.b A.e A.h B.g B.h B.i,bj A.c A.f A.i B.g B.h B.i⟩
theorem T9.ext{A B:T9}(h:A.l=B.l):A=B:=by
 cases A;cases B
 simp only[T9.l,List.cons.injEq,and_true]at h
 obtain⟨h0,h1,h2,h3,h4,h5,h6,h7,h8,h9⟩:=h
 subst h0 h1 h2 h3 h4 h5 h6 h7 h8 h9
 rfl
theorem T9.mem_n(T:T9):T.n∈T.l:=by simp[T9.l]
theorem T9.gpos{T:T9}(h:0<T.n):0<gI T.l:=js T.mem_n (by omega)
theorem T9.cut{T:T9}(h:0<T.n):T=T.low.map (gI T.l * ·):=by
 have k:=λm hm=>gw (m:=m) T.mem_n (show T.n≠0 by omega) hm
 apply T9.ext
 show T.l=(T.low.map (gI T.l * ·)).l
 rw[T9.l_map,T9.low,T9.l_map,aN3]
 conv=>lhs;rw[<- List.map_id T.l]
 exact List.map_congr_left λm hm=>k m hm
theorem T9.lown{T:T9}(h:0<T.n):0<T.low.n:=vS (T9.gpos h) h (gw T.mem_n (by omega) T.mem_n)
theorem T9.bhn{A B:T9}(ha:0<A.n)(hb:0<B.n):0<(A.bh B).n:=aK3 ha hb
noncomputable def T9.bd(k:Nat)(T:T9):Prop:=∀x∈T.l,x.natAbs<=2 ^ k
theorem T9.bd_low{T:T9}(h:0<T.n)(b:T.bd k):T.low.bd k:=by
 intro x hx
 rw[T9.low,T9.l_map]at hx
 obtain⟨y,hy,rfl⟩:=aK0.mp hx
 exact aF5 (gM (T9.gpos h)) (b y hy)
theorem T9.okT{T:T9}(hk:k<=999)(b:T.bd k):okT (T.l.map D.int):=mG (k:=k) hk (aF7 rfl) b
theorem T9.eqD(T:T9):Sp.eqD T.D T.D=true:=by
 unfold T9.D
 show((_==_&&(((_==_&&(_==_&&(_==_&&true)))&&((_==_&&(_==_&&(_==_&&true)))&&((_==_&&(_==_&&(_==_&&true)))&&true)))&&true)):Bool)=true
 simp
theorem oX(hc:0<c)(h:c*x=c*y):x=y:=Int.eq_of_mul_eq_mul_left (by omega) h
end K
namespace K
open PySem L2 Sp Qm
variable{s:Stmt}{Q:al->Prop}
section
variable{Φ:Fx}{sc:Scope}{ρ ρ1:al}{ss:List Stmt}
theorem Mt{P:al->Prop}(h:∃ρ1,af (ga Φ s sc ρ) (.nx ρ1)/\P ρ1)(k:∀ρ1,P ρ1->∃ρ2,af (aF Φ ss sc ρ1) (.nx ρ2)/\Q ρ2):∃ρ2,af (aF Φ (s::ss) sc ρ) (.nx ρ2)/\Q ρ2:=by
 obtain⟨ρ1,h1,h2⟩:=h
 obtain⟨ρ2,h3,h4⟩:=k ρ1 h2
 exact⟨ρ2,aN h1 h3,h4⟩
theorem Sy(h:af (ga Φ s sc ρ) (.nx ρ1))(k:∃ρ2,af (aF Φ ss sc ρ1) (.nx ρ2)/\Q ρ2):∃ρ2,af (aF Φ (s::ss) sc ρ) (.nx ρ2)/\Q ρ2:=by
 obtain⟨ρ2,h3,h4⟩:=k
 exact⟨ρ2,aN h h3,h4⟩
end
theorem Uj(ms ns:List Int):PyData.eqvAll (d9 (ms.map D.int)) (d9 (ns.map D.int))=decide (ms=ns):=by
 induction ms generalizing ns with
 | nil =>
  cases ns with
  | nil=>rfl
  | cons n ns=>rfl
 | cons m ms ih =>
  cases ns with
  | nil=>rfl
  | cons n ns =>
   rw[aH8,aH8,d9,d9,PyData.eqvAll,ih]
   show(m==n&&decide (ms=ns))=_
   rw[aN1]
   simp
theorem Tj(ns:List Int):PyData.canLayAll0 (d9 (ns.map D.int))=true:=by
 induction ns with
 | nil=>rfl
 | cons q qs ih=>rw[aH8,d9,PyData.canLayAll0,ih];rfl
theorem Uq(ns:List Int):PyData.depthAll (d9 (ns.map D.int))=0:=by
 induction ns with
 | nil=>simp[d9,PyData.depthAll]
 | cons q qs ih=>rw[aH8,d9,PyData.depthAll,ih];simp[D.py,PyData.depth]
theorem ES(ns:List Int):SeqAt.shaped (D.lst (ns.map D.int)).py=true:=by
 unfold SeqAt.shaped
 rw[Bool.and_eq_true_iff]
 constructor
 ·rw[D.py,PyData.canLay0];exact Tj ns
 ·rw[D.py,PyData.depth,Uq];rfl
theorem SX(ms ns:List Int):af (fQ .NotEq (.lst (ms.map D.int)) (.lst (ns.map D.int))) (!decide (ms=ns)):=by
 have e:eqD (.lst (ms.map D.int)) (.lst (ns.map D.int))=decide (ms=ns):=by
  show PyData.eqv (D.lst (ms.map D.int)).py (D.lst (ns.map D.int)).py=_
  rw[D.py,D.py,PyData.eqv];exact Uj ms ns
 exact af.eq (bv rfl (by exact⟨by unfold fP;rw[ES,ES];rfl,True.intro⟩)) (by rw[e])
end K
namespace Sp
open PySem PySem.Spec PyProof.Rows L2
variable{e:Expr}{k kd:Nat}{t:Str}{p1 p2 p3:Pos}
variable{X:Cx}
noncomputable def gR:List D->Option (List Str)
 | []=>some []
 | .str i::l=>(gR l).map (i :: ·)
 | _::_=>none
noncomputable def nL(x:D)(ds:List D):R1 :=
 match x,ds with
 | .str sep,[.lst l]=>(match gR l with
  | some ys=>.ok (.str (Txt.join sep ys),0) [sep.length<=16,(ys.map λy=>y.length).sum+ys.length<=1048576]
  | none=>.st)
 | _,_=>.st
theorem sW{K:W.Frag}{H:Hp}{P:bU}:∀{l:List D} {ys:List Str} {vs:List V} {us:List Value},gR l=some ys->am K H P l vs->bi vs us->StrsAre us ys
 | [],ys,vs,us,h,r,q=>by
  rw[gR]at h;cases h
  rw[am]at r;subst r;cases q;exact .nil
 | .str x::l,ys,vs,us,h,r,q=>by
  rw[gR]at h
  cases e:gR l with
  | none=>rw[e]at h;cases h
  | some zs =>
   rw[e]at h;cases h
   rw[am]at r
   obtain⟨v,vr,rfl,r1,r2⟩:=r
   rw[aj]at r1;subst r1
   cases q with
   | cons q1 q2 =>
    obtain⟨t,rfl⟩:=q1
    exact .cons x t (sW e r2 q2)
 | .non::l,ys,vs,us,h,_,_=>by cases h
 | .bl _::l,ys,vs,us,h,_,_=>by cases h
 | .int _::l,ys,vs,us,h,_,_=>by cases h
 | .dct _ _::l,ys,vs,us,h,_,_=>by cases h
 | .typ _::l,ys,vs,us,h,_,_=>by cases h
 | .dcf _ _::l,ys,vs,us,h,_,_=>by cases h
 | .dft _ _ _::l,ys,vs,us,h,_,_=>by cases h
 | .sn _::l,ys,vs,us,h,_,_=>by cases h
 | .obj _ _ _::l,ys,vs,us,h,_,_=>by cases h
 | .cls _::l,ys,vs,us,h,_,_=>by cases h
 | .tup _::l,ys,vs,us,h,_,_=>by cases h
 | .lst _::l,ys,vs,us,h,_,_=>by cases h
theorem Jc:wD X "str.join" (λx xs H Q => ∃sep l ys P v,x=.str sep/\xs=[v]/\aj X.K H P (.lst l) v/\gR l=some ys/\sep.length<=16/\(ys.map λy=>y.length).sum+ys.length<=1048576/\Q (.str (Txt.join sep ys)) H):=by
 intro pins s σ H x xs v us Q I rx rxs h
 obtain⟨sep,l,ys,P,v1,rfl,rfl,r,hl,h1,h2,q⟩:=h
 obtain⟨t,rfl⟩:=rx
 obtain⟨u,rfl,ru⟩:=d7 rxs
 rw[aj]at r
 obtain⟨a,vs,b,rfl,ha,_,rl⟩:=r
 cases ru
 obtain⟨its,rv,⟨o,n,e1,e2,_,e3⟩,_⟩:=I.list ha.sq
 exact join_listW (D:=a) (items:=its.toArray) ⟨o,e1,e2,n,e3⟩ (by rw[List.toList_toArray];exact sW hl rl rv) h1 h2 λt' k=>⟨.str _,H,I.tok _,⟨_,rfl⟩,q⟩
theorem C6:lS "join" nL:=by
 intro X ρ a args ap cp x k ds j z l o hc hroom hea hes hst hlen hline hb h hp
 unfold nL at h
 split at h
 ·rename_i sep l1
  split at h
  ·rename_i ys hy
   cases h
   obtain⟨e,rfl⟩:∃e,args=[e]:=by
    match args,hlen with
    | [e],_=>exact⟨e,rfl⟩
   intro ow
   refine bS (pV PySem.F.plainAttrs_str PySem.F.slot_str_join PySem.F.type_str_join Jc (hea ow) (hes ow) (base_of hb) (iO hst (show 1<29 by decide)) hline (bC (hst e aG0)) rfl) λσ H Q ⟨E,q⟩=>⟨E,λv H1 s1 r1=>?_⟩
   rw[aj]at r1;subst r1
   refine⟨rfl,E.same s1,λvs H2 s2 r2=>?_⟩
   obtain⟨v,rfl,r3⟩:=r2.only
   exact⟨sep,l1,ys,_,v,rfl,rfl,r3,hy,hp.1,hp.2.1,q _ _ (s1.trans s2) (by rw[aj])⟩
  ·cases h
 ·cases h
theorem qw{Φ:Fx}{sc:Scope}{rest:List Stmt}{d:D}:∀{pre:List Stmt} {ρ:al},af (aF Φ pre sc ρ) (.rt d)->af (aF Φ (pre++rest) sc ρ) (.rt d)
 | [],ρ,h=>by cases aQ h
 | st::ss,ρ,h=>by
  obtain⟨f1,h1,h2⟩:=az (show af (Rs.bnd _ _) _ from h)
  refine af.bnd (f:=λ| .nx ρ'=>aF Φ (ss++rest) sc ρ' | f=>.ok f []) h1 ?_
  cases f1 with
  | nx ρ'=>exact qw h2
  | rt d'=>exact h2
  | bk ρ'=>exact h2
  | ct ρ'=>exact h2
theorem LQ{ρ:al}{i:Int}(he:ED X ρ e (.int i) k)(hi:i.natAbs<2 ^ 1900)(ht:t.length<=64):ED X ρ (.JoinedStr [.FormattedValue e (-1) none p1,.Constant (.str t) kd p2] p3) (.str (Str.ofString (toString i)++t)) 0:=by
 intro ow pins s σ H Q I ⟨E,q⟩
 have hl:i.natAbs.log2<1920:=by
  rcases aL3 i.natAbs with z|z
  ·rw[z];decide
  ·exact aG7 ((Nat.log2_lt (aL1 z)).mpr hi) (by decide)
 have tl:=int_text_len_1921 hl
 refine wpAny_JoinedStr ?_
 show wpAny _ _ (eval (.FormattedValue e (-1) none p1) X.env) (λv s₁ => ∃y t',v=Value.str y t'/\(Str.empty++y).length<=sizeLine/\wpAny _ _ (eval (.Constant (.str t) kd p2) X.env) (λv s₂ => ∃z t'',v=Value.str z t''/\(Str.empty++y++z).length<=sizeLine/\_) _ s₁) _ s
 refine wpAny_FormattedValue_plain ?_
 refine bu (he ow pins s σ H (λv H'=>v=.int i/\aL H H') I ⟨E,λv H' s' r=>⟨by rw[aj]at r;exact r,s'⟩⟩) λu s1 ⟨v,H1,I1,r1,e1,s1'⟩=>?_
 subst e1
 obtain⟨tk,rfl⟩:=r1
 refine wpAny_formatField_int hl ⟨_,_,rfl,?_,?_⟩
 ·rw[Str.empty_append]
  exact aF5 tl (by rw[aO1];decide)
 ·refine wpAny_Constant_str ⟨_,_,rfl,?_,?_⟩
  ·rw[Str.empty_append,Str.length_append]
   exact aF5 (aP4 tl ht) (by rw[aO1];decide)
  ·refine⟨?_,.str _,H1,(I1.tok _).tok _ |>.tok _,⟨_,rfl⟩,q _ _ s1' (by rw[aj,Str.empty_append])⟩
   rw[Str.empty_append,Str.length_append]
   exact aF5 (aP4 tl ht) (by rw[aO1];decide)
noncomputable def fsE:Stmt->Expr
 | .Return (some (.JoinedStr [.FormattedValue e _ _ _,_] _)) _=>e
 | _=>.Constant .none 0 ⟨0,0,0,0⟩
noncomputable def fsT:Stmt->Str
 | .Return (some (.JoinedStr [_,.Constant (.str t) _ _] _)) _=>t
 | _ => ""
noncomputable def mx(Φ:Fx)(sc:Scope)(ps:List Str)(pre:List Stmt)(e:Expr)(t:Str)(ds:List D):Rs D :=
 if ds.length=ps.length then(aF Φ pre sc (de ps ds)).bnd fun
  | .rt d=>.ok d []
  | .nx ρ1=>(aH Φ e false sc ρ1).bnd λp=>(match p.1 with
   | .int i=>.ok (.str (Str.ofString (toString i)++t)) [i.natAbs<2 ^ 1900,t.length<=64]
   | _=>.st)
  | _=>.st
 else .st
theorem Nv{P:Program}{w:World}{K:W.Frag}{mg:Str->Option Value}{base:Heap}{g qual:Str}{st:Stmt}{f:Addr}{fd:FuncData}{ps:List Str}{Φ:Fx}{pre:List Stmt}{q:Pos}{F:List D->Rs D}(Fn:iT K g qual st f fd)
  (S:au (ao (ae st)) ps (ae st)) (hΦ:ld P w K mg base k Φ) (hb:ai st=pre++[.Return (some (.JoinedStr [.FormattedValue e (-1) none p1,.Constant (.str t) kd p2] p3)) q])
  (hrun:∀ds r,af (F ds) r->af (mx Φ (ae st) ps pre e t ds) r):bT P w K mg base df (k+1) f fd ps (jO K F):=by
 refine Fn.ok S (λvs H Q E h=>?_) (λcdv A outer s H vs Q E hr h=>?_)
 ·obtain⟨ds,r,l,h1,h2,hp,_⟩:=h
  have:=hrun ds r ⟨l,h2,hp⟩
  unfold mx at this
  split at this
  ·rename_i hl;rw[<- h1.length];exact hl
  ·exact(aw this).elim
 ·obtain⟨ds,r,l,h1,h2,hp,qq⟩:=h
  have h2:=hrun ds r ⟨l,h2,hp⟩
  unfold mx at h2
  split at h2
  ·rename_i hl
   have G:=gL (outer:=outer) (H:=H) (E:=E) S hΦ hr
   obtain⟨E0,hsl⟩:=jy (P:=P) (w:=w) (mg:=mg) (base:=base) (qual:=qual) (f:=f) (cdv:=cdv) (A:=A) (outer:=outer) (s:=s) (E:=E) S h1 hl
   have B0:cA H (λ_=>none) H:=λa o h=>⟨h,rfl⟩
   obtain⟨fl,h3,h4⟩:=az h2
   cases fl with
   | nx ρ1 =>
    obtain⟨p,h5,h6⟩:=az h4
    split at h6
    ·rename_i i hi
     obtain⟨l6,h6,p6⟩:=h6
     cases h6
     obtain⟨px,pk⟩:=p
     cases (show px=.int i from hi)
     have ed:=LQ (p1:=p1) (p2:=p2) (p3:=p3) (kd:=kd) ((eM h5 G).ed rfl) p6.1 p6.2.1
     rw[hb]
     refine⟨_,xz (H0:=H) (t:=λD σ' H' => ∃ow,aR _ ow H' σ' ρ1/\∀v H2,aL H' H2->aj K H2 (λ_ _=>True) (.str (Str.ofString (toString i)++t)) v->D.rt v H2) G aM6 (nE λpins s σ H1 D I ⟨ow,E1,q1⟩=>pS (ed ow) pins s σ H1 D I ⟨E1,λv H2 s2 r2=>q1 v H2 s2 (r2.imp λ_ _ _=>True.intro)⟩) h3,λ_=>none,E0,hsl,B0,λow' σ' H' E' hl' B'=>⟨ow',E',λv H2 s2 r2=>?_⟩⟩
     refine qq v H2 (λa o h=>s2 a o (B' a o h).1) ?_
     rw[aj]at r2⊢
     exact r2
    ·exact(aw h6).elim
   | rt d =>
    cases aQ h4
    have hx:=qw (rest:=[.Return (some (.JoinedStr [.FormattedValue e (-1) none p1,.Constant (.str t) kd p2] p3)) q]) h3
    rw[hb]
    exact⟨_,kT _ (H0:=H) hx G aM6,λ_=>none,E0,hsl,B0,λv H' sm rp=>qq v H' sm rp⟩
   | bk _=>exact(aw h4).elim
   | ct _=>exact(aw h4).elim
  ·exact(aw h2).elim
end Sp
namespace K
open PySem L2 Sp Qm
variable{i p:Int}{ps:List Str}{pre:List Stmt}{e:Expr}{t y:Str}{ds:List D}{k:Nat}
section
variable{Φ:Fx}{sc:Scope}{ρ ρ1:al}{ss:List Stmt}
noncomputable def fT(p:Int):Str:=if p.fmod 2=0 then Str.ofString (toString (p.fdiv 2))else Str.ofString (toString p)++Str.ofString "/2"
noncomputable def iM(p:Qd):Str:=Txt.join (Str.ofString " ") [fT p.1,fT p.2.1,fT p.2.2.1,fT p.2.2.2]
theorem xQ(h:i.natAbs<2 ^ 1900):(Str.ofString (toString i)).length<=1921:=by
 refine PyProof.Rows.int_text_len_1921 ?_
 rcases aL3 i.natAbs with z|z
 ·rw[z];decide
 ·exact aG7 ((Nat.log2_lt (aL1 z)).mpr h) (by decide)
theorem rV(h:p.natAbs<2 ^ 1900):(p.fdiv 2).natAbs<2 ^ 1900:=aI1 (ip p (by decide)) h
theorem pR(h:p.natAbs<2 ^ 1900):(fT p).length<=1923:=by
 unfold fT
 split
 ·have:=xQ (rV h);omega
 ·rw[Str.length_append]
  have:=xQ h
  have e:(Str.ofString "/2").length=2:=by decide +kernel
  omega
noncomputable def L9(p:Qd):Prop:=p.1.natAbs<2 ^ 1900/\p.2.1.natAbs<2 ^ 1900/\p.2.2.1.natAbs<2 ^ 1900/\p.2.2.2.natAbs<2 ^ 1900
theorem FJ{p:Qd}(h:L9 p):([fT p.1,fT p.2.1,fT p.2.2.1,fT p.2.2.2].map λy=>y.length).sum+[fT p.1,fT p.2.1,fT p.2.2.1,fT p.2.2.2].length<=1048576:=by
 have h1:=pR h.1
 have h2:=pR h.2.1
 have h3:=pR h.2.2.1
 have h4:=pR h.2.2.2
 simp only[aH8,aN0,List.sum_cons,List.sum_nil,aG9,aQ1]
 omega
theorem Lq{d:D}(h:af (aF Φ pre sc (de ps ds)) (.rt d))(hl:ds.length=ps.length:=by rfl):af (mx Φ sc ps pre e t ds) d:=by
 unfold mx
 rw[if_pos hl]
 exact af.bnd h dM
theorem Lr(h:af (aF Φ pre sc (de ps ds)) (.nx ρ1))(he:af (aH Φ e false sc ρ1) (.int i,k))(hi:i.natAbs<2 ^ 1900)(ht:t.length<=64)(hl:ds.length=ps.length:=by rfl):af (mx Φ sc ps pre e t ds) (.str (Str.ofString (toString i)++t)):=by
 unfold mx
 rw[if_pos hl]
 exact af.bnd h (af.bnd he (bv rfl ⟨hi,ht,True.intro⟩))
theorem vY(x:Str):eqD (.str x) (.str x)=true:=by
 show((x==x):Bool)=true
 simp
theorem xu(i:Int):PyData.strOk (Str.ofString (toString i))=true:=by
 unfold PyData.strOk
 rw[<- Array.all_toList,aM1]
 intro k hk
 refine aI4 ?_
 rcases Nat.lt_or_ge k 1114112 with h|h
 ·exact h
 ·exact absurd hk (PyProof.Rows.int_text_free' k ⟨by omega,.inr (by omega)⟩ i)
theorem HX{a b:Str}(h:PyData.strOk a=true)(g:PyData.strOk b=true):PyData.strOk (a++b)=true:=by
 unfold PyData.strOk at *
 rw[Str.cps_append,Array.all_append,h,g];rfl
theorem u8{sep:Str}(hs:PyData.strOk sep=true):∀{ys:List Str} {a:Array Nat},a.all (λx=>decide (x<1114112))=true->(∀y∈ys,PyData.strOk y=true)->(ys.foldl (λacc p=>acc++sep.cps++p.cps) a).all (λx=>decide (x<1114112))=true
  | [],a,ha,_=>ha
  | y::ys,a,ha,h=>u8 hs (ys:=ys) (by
      have h1:=h y aG0
      unfold PyData.strOk at hs h1
      rw[Array.all_append,Array.all_append,ha,hs,h1];rfl) λz hz=>h z (aG1 _ hz)
theorem Cy{sep:Str}{ys:List Str}(hs:PyData.strOk sep=true)(h:∀z∈y::ys,PyData.strOk z=true):PyData.strOk (Txt.join sep (y::ys))=true :=
 u8 (ys:=ys) (a:=y.cps) hs (h y aG0) λz hz=>h z (aG1 _ hz)
theorem jw{x:Str}(h:PyData.strOk x=true)(g:PyData.strOk y=true):fP (.str x) (.str y)=true:=by
 have k:∀x:Str,PyData.strOk x=true->SeqAt.shaped (D.str x).py=true:=λx h=>by
  rw[D.py];unfold SeqAt.shaped
  simp[PyData.canLay0,PyData.depth,h]
 unfold fP
 rw[k x h,k y g];rfl
theorem K1(p:Int):PyData.strOk (fT p)=true:=by
 unfold fT
 split
 ·exact xu _
 ·exact HX (xu _) (by decide +kernel)
theorem Ay(p:Qd):PyData.strOk (iM p)=true:=Cy (by decide +kernel) (by
 intro z hz
 simp only[aF8,aG4,aI7]at hz
 rcases hz with rfl|rfl|rfl|rfl<;>exact K1 _)
end
section
variable{Φ:Fx}{sc:Scope}{ρ ρ1:al}{ss:List Stmt}{P Q:al->Prop}
noncomputable def Ua:Stmt->Expr
 | .For _ i _ _ _=>i
 | _=>.Name (Str.ofString "") ⟨0,0,0,0⟩
noncomputable def fq:Stmt->List Stmt
 | .For _ _ b _ _=>b
 | _=>[]
theorem FK{a:Expr}{p:Pos}{it:Bool}{b c:Bool}(h:af (aH Φ a false sc ρ) (.bl b,k))(e:(!b)=c):af (aH Φ (.UnaryOp .Not a p) it sc ρ) (.bl c,0):=by
 subst e
 exact(show af (Rs.bnd (aH Φ a false sc ρ) λp=>(match Ab .Not p.1 with|some d=>.ok (d,0) []|none=>.st)) (.bl (!b),0)from af.bnd h dM)
end
noncomputable def VC:List Int:=[0,1,2,3,4,5,6,7,8,9,10,11,12,13,14,15,16,17,18,19,20]
end K
namespace Sp
open PySem PySem.Spec PyProof.Rows L2
variable{X:Cx}
section
variable{prog:Program}{w:World}{A:Around}{E:Value->Shared->Prop}{s:Shared}
end
theorem HW{H0:Hp}{ρ:al}{ss:List Stmt}{fl:Fl}(h:fI X H0 (gZ ρ) ss fl):fI X H0 ρ ss fl:=λpins s σ H D I ⟨ow,E,hl,B,q⟩ =>
 h pins s σ H D I ⟨λ_=>none,DN E,hl,λa o h=>⟨(B a o h).1,rfl⟩,q.keep ⟨λa o h _=>h,λ_ _ _ _=>rfl⟩⟩

noncomputable def Nj(x:Int):List Int->List Int
 | []=>[x]
 | y::l=>if x<=y then x::y::l else y::Nj x l
noncomputable def Cu:List Int->List Int
 | []=>[]
 | x::l=>Nj x (Cu l)
theorem sV{K:W.Frag}{H:Hp}{P:bU}:∀{ns:List Int} {vs:List V},am K H P (ns.map D.int) vs->vs=ns.map V.int
 | [],vs,h=>by rw[aN0,am]at h;exact h
 | n::ns,vs,h=>by
  rw[aH8,am]at h
  obtain⟨v,r,rfl,h1,h2⟩:=h
  rw[aj]at h1
  rw[sV h2,h1];rfl
noncomputable def kwOf(b:Bool)(n0:Nat)(p0 kp:Pos):List Keyword:=cond b [⟨some (Str.ofString "reverse"),.Constant (.bool true) n0 p0,kp⟩] []
noncomputable def srtB(b:Bool)(ns:List Int):List Int:=cond b (Cu ns).reverse (Cu ns)
section
variable{prog:Program}{w:World}{A:Around}{E:Value->Shared->Prop}{s:Shared}
end
noncomputable def lsI(l:List Int):D:=.lst (l.map D.int)
noncomputable def dropR(ρ:al)(x:Str):al:=λy=>if y=x then none else ρ y
noncomputable def D3(ds:List D):R1 :=
 match ds with
 | [.int a,.int b]=>.ok (.int (if b<a then b else a),0) []
 | _=>.st
theorem J8:ff "min" D3:=by
 refine⟨by decide +kernel,by decide +kernel,by decide +kernel,rfl,λX ds z l o hc h _=>.inl ⟨"min", by decide +kernel,?_⟩⟩
 unfold D3 at h
 split at h
 ·rename_i a b
  cases h
  refine⟨_,Bz hc,λow H0 H2 vs P Q o s rx q=>?_⟩
  rw[am]at rx
  obtain⟨v,r,rfl,r1,r2⟩:=rx
  obtain⟨w,rfl,r3⟩:=r2.only
  rw[aj]at r1 r3
  subst r1 r3
  exact⟨a,b,rfl,q _ _ (aL.refl _) (by rw[aj])⟩
 ·cases h
noncomputable def zH(ds:List D):R1 :=
 match ds with
 | [.str x]=>.ok (.int x.length,0) [x.length<=1048576]
 | ds=>D5 ds
theorem D4:ff "len" zH:=by
 refine⟨by decide +kernel,by decide +kernel,by decide +kernel,rfl,λX ds z l o hc h hp=>?_⟩
 unfold zH at h
 split at h
 ·rename_i x
  refine .inl ⟨"len", by decide +kernel,?_⟩
  cases h
  refine⟨_,wl,λow H0 H2 vs P Q o s rx q=>?_⟩
  obtain⟨v,rfl,ry⟩:=rx.only
  rw[aj]at ry;subst ry
  exact⟨x,rfl,by rw[aO1];have:=hp.1;omega,q _ _ (aL.refl _) (by rw[aj])⟩
 ·exact J9.2.2.2.2 X _ z l o hc h hp
noncomputable def fV(ds:List D):R1 :=
 match ds with
 | [.str x]=>(match intText? x with|some n=>.ok (.int n,0) [x.length<=640]|none=>.st)
 | ds=>D7 ds
theorem BC:fe X (.type "int") (λxs H Q => ∃x n,xs=[.str x]/\intText? x=some n/\x.length<=640/\Q (.int n) H):=by
 intro pins s σ H xs us Q I r h
 obtain⟨x,n,rfl,h1,h2,q⟩:=h
 obtain⟨u,rfl,t,rfl⟩:=d7 r
 exact W.KIN.call_text h1 h2 ⟨.int n,H,I.tok _,⟨_,rfl⟩,q⟩
theorem D6:ff "int" fV:=by
 refine⟨by decide +kernel,by decide +kernel,by decide +kernel,rfl,λX ds z l o hc h hp=>?_⟩
 unfold fV at h
 split at h
 ·rename_i x
  split at h
  ·rename_i n e
   refine .inr ⟨"int", by decide +kernel,?_⟩
   cases h
   refine⟨_,BC,λow H0 H2 vs P Q o s rx q=>?_⟩
   obtain⟨v,rfl,ry⟩:=rx.only
   rw[aj]at ry;subst ry
   exact⟨x,n,rfl,e,hp.1,q _ _ (aL.refl _) (by rw[aj])⟩
  ·cases h
 ·exact Ka.2.2.2.2 X _ z l o hc h hp
theorem K3:Gp X (λx lo hi H Q => ∃y,x=.str y/\y.length<=sizeLine/\Q (.str (Txt.slice y lo hi)) H):=by
 intro pins s σ H x v vl vu lo hi sl Q I rx hs pl pu h
 obtain⟨y,rfl,hy,q⟩:=h
 obtain⟨t,rfl⟩:=rx
 refine⟨"str", "str.__getitem__", PySem.F.slot_str_getitem.lookup,typeIs_str s y t,?_⟩
 obtain⟨l,hl,el⟩:∃l:Option (Int×Tok),partValue l=vl/\l.map (·.1)=lo:=by
  cases pl with
  | none=>exact⟨none,rfl,rfl⟩
  | int i t=>exact⟨some (i,t),rfl,rfl⟩
 obtain⟨m,hm,em⟩:∃l:Option (Int×Tok),partValue l=vu/\l.map (·.1)=hi:=by
  cases pu with
  | none=>exact⟨none,rfl,rfl⟩
  | int i t=>exact⟨some (i,t),rfl,rfl⟩
 obtain⟨o,h1,h2,h3⟩:=hs
 refine wpAny_getItem_str_slice (l:=l) (u:=m) (st:=none) ⟨o,h1,h2,by rw[h3,hl,hm];rfl⟩ rfl ?_
 subst el em
 exact post_val_or_str ⟨aF5 (Txt.slice_le y (l.map (·.1)) (m.map (·.1))) hy,λt' k=>⟨.str (Txt.slice y (l.map (·.1)) (m.map (·.1))),H,I.tok _,⟨t',rfl⟩,q⟩⟩
noncomputable def aO(x:D)(lo hi:Option Int):R1 :=
 match x with
 | .str y=>.ok (.str (Txt.slice y lo hi),0) [y.length<=1048576]
 | x=>vc x lo hi
theorem ar:rg aO:=λX ρ a lo hi p2 pos x z l h k j o ha hl hh e hp=>by
 unfold aO at e
 split at e
 ·rename_i y
  cases e
  refine λow=>bS (oM K3 (ha ow) (hl ow) (hh ow)) λσ H Q ⟨E,q⟩=>⟨E,λv H1 s1 r1=>⟨E.same s1,λH2 s2=>⟨(E.same s1).same s2,λH3 s3=>?_⟩⟩⟩
  rw[aj]at r1;subst r1
  exact⟨y,rfl,by rw[aO1];have:=hp.1;omega,q _ H3 (s1.trans (s2.trans s3)) (by rw[aj])⟩
 ·exact DQ ha hl hh e hp
theorem Au{prog:Program}{w:World}{A:Around}{E:Value->Shared->Prop}{s:Shared}{x y:Str}{t u:Tok}{Q:Value->Shared->Prop}(hy:(y.length==0)=false)(hsz:x.length+2<=sizeLine)
  (h:∀(l:List (Str×Tok)) (k:Nat),l.map (·.1)=Txt.split x y->Q (.ref s.heap.objs.size) { s with heap:=s.heap.push { cls:=.type "list", data:=.seq (strValues l).toArray },toks:=k }) :
  wpAny (model prog w) A (call (.builtin "str.split") [.str x t,.str y u]) Q E s:=by
 have e1:=(fact_split x y).2
 cases h1:(decide (x.length<y.length) || decide (Builtin.Str.strKind x<Builtin.Str.strKind y))with
 | true=>exact call_meets PySem.F.slot_str_split (typeIs_str s x t) PySem.F.entry_str_split (PySem.F.args_str_split_2 _ _) (meets_str_split_cannot_occur x y t u h1) (h [(x,t)] s.toks (by unfold Txt.split;rw[if_pos h1];rfl))
 | false =>
  cases hf:(Builtin.Str.occurrences x y 0 x.length (x.length+1)).isEmpty with
  | true=>exact call_meets PySem.F.slot_str_split (typeIs_str s x t) PySem.F.entry_str_split (PySem.F.args_str_split_2 _ _) (meets_str_split_not_found x y t u h1 hy hf) (h [(x,t)] s.toks (by unfold Txt.split;rw[if_neg (by rw[h1];decide),if_pos hf];rfl))
  | false =>
   have es:Txt.split x y=Builtin.Str.partsBetween x (Builtin.Str.occurrences x y 0 x.length (x.length+1)) y.length:=by unfold Txt.split;rw[if_neg (by rw[h1];decide),if_neg (by rw[hf];decide)]
   rw[es]at e1 h
   refine call_meets PySem.F.slot_str_split (typeIs_str s x t) PySem.F.entry_str_split (PySem.F.args_str_split_2 _ _) (meets_str_split_sep x y t u h1 hy hf (by omega) (by omega)) ?_
   rw[strsFrom_eq]
   exact h _ _ (numbered_texts _ _)
theorem sO:∀l:List (Str×Tok),bi (l.map λp=>V.str p.1) (strValues l)
 | []=>.nil
 | p::l=>.cons ⟨p.2,rfl⟩ (sO l)
theorem vm{K:W.Frag}{P:bU}{H:Hp}:∀ys:List Str,am K H P (ys.map D.str) (ys.map V.str)
 | []=>am.nil
 | y::ys=>am.cons (by rw[aj]) (vm ys)
theorem C3:wD X "str.split" (λx xs H Q => ∃a b,x=.str a/\xs=[.str b]/\(b.length==0)=false/\a.length+2<=sizeLine/\∀p,H p=none->Q (.ref p) (bo H p (.lst ((Txt.split a b).map V.str)))):=by
 intro pins s σ H x xs v us Q I rx rxs h
 obtain⟨a,b,rfl,rfl,h1,h2,q⟩:=h
 obtain⟨t,rfl⟩:=rx
 obtain⟨u,rfl,t',rfl⟩:=d7 rxs
 refine Au h1 h2 λl k hl=>?_
 have hz:l.length<=sizeLine:=by
  have e:=(fact_split a b).2
  have:=aK4 List.length hl
  rw[aH3]at this
  omega
 refine⟨.ref s.heap.objs.size,_,I.laid (t':=k) (o:=.lst ((Txt.split a b).map V.str)) (λb ob q=>aF6 _ q) (aF9 _) ?_,rfl,q _ (I.hok.fresh (aF9 _))⟩
 rw[<- hl,aN3]
 exact⟨by rw[aH3];exact hz,strValues l,0,sO l,aG5 _ rfl⟩
noncomputable def eN(x:D)(ds:List D):R1 :=
 match x,ds with
 | .str a,[.str b]=>.ok (.lst ((Txt.split a b).map D.str),0) [(b.length==0)=false,a.length<=1048576]
 | _,_=>.st
theorem A1:lS "split" eN:=by
 intro X ρ a args ap cp x k ds j z l o hc hroom hea hes hst hlen hline hb h hp
 unfold eN at h
 split at h
 ·rename_i y b
  cases h
  obtain⟨e,rfl⟩:∃e,args=[e]:=by
   match args,hlen with
   | [e],_=>exact⟨e,rfl⟩
  intro ow
  refine bS (pV PySem.F.plainAttrs_str PySem.F.slot_str_split PySem.F.type_str_split C3 (hea ow) (hes ow) (base_of hb) (iO hst (show 1<29 by decide)) hline (bC (hst e aG0)) rfl) λσ H Q ⟨E,q⟩=>⟨E,λv H1 s1 r1=>?_⟩
  rw[aj]at r1;subst r1
  refine⟨rfl,E.same s1,λvs H2 s2 r2=>?_⟩
  obtain⟨v,rfl,r3⟩:=r2.only
  rw[aj]at r3;subst r3
  refine⟨y,b,rfl,rfl,hp.1,by rw[aO1];have:=hp.2.1;omega,λp hp'=>q _ _ ((s1.trans s2).trans (er hp')) ?_⟩
  rw[aj]
  exact⟨p,_,true,rfl,aU,⟨rfl,(s1.trans s2).free hp'⟩,vm _⟩
 ·cases h
theorem S1:wD X "str.startswith" (λx xs H Q => ∃a b,x=.str a/\xs=[.str b]/\Q (.bl (Txt.startswith a b)) H):=by
 intro pins s σ H x xs v us Q I rx rxs h
 obtain⟨a,b,rfl,rfl,q⟩:=h
 obtain⟨t,rfl⟩:=rx
 obtain⟨u,rfl,t',rfl⟩:=d7 rxs
 exact SC.startswith ⟨.bl _,H,I,rfl,q⟩
theorem S2:wD X "str.endswith" (λx xs H Q => ∃a b,x=.str a/\xs=[.str b]/\Q (.bl (Txt.endswith a b)) H):=by
 intro pins s σ H x xs v us Q I rx rxs h
 obtain⟨a,b,rfl,rfl,q⟩:=h
 obtain⟨t,rfl⟩:=rx
 obtain⟨u,rfl,t',rfl⟩:=d7 rxs
 exact SC.endswith ⟨.bl _,H,I,rfl,q⟩
noncomputable def MP(x:D)(ds:List D):R1 :=
 match x,ds with
 | .str a,[.str b]=>.ok (.bl (Txt.startswith a b),0) []
 | _,_=>.st
noncomputable def MR(x:D)(ds:List D):R1 :=
 match x,ds with
 | .str a,[.str b]=>.ok (.bl (Txt.endswith a b),0) []
 | _,_=>.st
theorem MO:lS "startswith" MP:=by
 intro X ρ a args ap cp x k ds j z l o hc hroom hea hes hst hlen hline hb h hp
 unfold MP at h
 split at h
 ·rename_i y b
  cases h
  obtain⟨e,rfl⟩:∃e,args=[e]:=by
   match args,hlen with
   | [e],_=>exact⟨e,rfl⟩
  intro ow
  refine bS (pV PySem.F.plainAttrs_str PySem.F.slot_str_startswith PySem.F.type_str_startswith S1 (hea ow) (hes ow) (base_of hb) (iO hst (show 1<29 by decide)) hline (bC (hst e aG0)) rfl) λσ H Q ⟨E,q⟩=>⟨E,λv H1 s1 r1=>?_⟩
  rw[aj]at r1;subst r1
  refine⟨rfl,E.same s1,λvs H2 s2 r2=>?_⟩
  obtain⟨v,rfl,r3⟩:=r2.only
  rw[aj]at r3;subst r3
  exact⟨y,b,rfl,rfl,q _ _ (s1.trans s2) (by rw[aj])⟩
 ·cases h
theorem MQ:lS "endswith" MR:=by
 intro X ρ a args ap cp x k ds j z l o hc hroom hea hes hst hlen hline hb h hp
 unfold MR at h
 split at h
 ·rename_i y b
  cases h
  obtain⟨e,rfl⟩:∃e,args=[e]:=by
   match args,hlen with
   | [e],_=>exact⟨e,rfl⟩
  intro ow
  refine bS (pV PySem.F.plainAttrs_str PySem.F.slot_str_endswith PySem.F.type_str_endswith S2 (hea ow) (hes ow) (base_of hb) (iO hst (show 1<29 by decide)) hline (bC (hst e aG0)) rfl) λσ H Q ⟨E,q⟩=>⟨E,λv H1 s1 r1=>?_⟩
  rw[aj]at r1;subst r1
  refine⟨rfl,E.same s1,λvs H2 s2 r2=>?_⟩
  obtain⟨v,rfl,r3⟩:=r2.only
  rw[aj]at r3;subst r3
  exact⟨y,b,rfl,rfl,q _ _ (s1.trans s2) (by rw[aj])⟩
 ·cases h
end Sp
namespace K
open PySem L2 Sp Qm
variable{a l:List Nat}{B M b c m p:Nat}{A C E F g i k n x:Int}{Φ:Fx}{sc:Scope}{ρ:al}{ds:List D}{q:Qd}{T:T9}{body:List Stmt}{R:D->Prop}
noncomputable abbrev sN(l:List Nat):Str:=⟨l.toArray⟩
theorem uW(x:Str):x=sN x.cps.toList:=by cases x;simp[sN]
theorem gu(s:String):Str.ofString s=sN (s.toList.map Char.toNat):=by rw[uW (Str.ofString s),PyProof.Rows.signs_ofString]
theorem ci(l:List Nat):(sN l).length=l.length:=by show l.toArray.size=_;simp
theorem fg(l m:List Nat):sN l++sN m=sN (l++m):=by show(⟨l.toArray++m.toArray⟩:Str)=_;simp
theorem vg{m:List Nat}(h:sN l=sN m):l=m:=by
 have:=aK4 (λx:Str=>x.cps.toList) h
 simpa using this
theorem fG(l:List Nat):(sN l).cps.toList=l:=by simp
noncomputable def dC(m:Nat):List Nat:=(Nat.toDigits 10 m).map Char.toNat
noncomputable def bE(i:Int):List Nat:=if i<0 then 45::dC i.natAbs else dC i.natAbs
theorem uN(m:Nat):Str.ofString (toString (m:Int))=sN (dC m):=by rw[uW (Str.ofString _),W.KIN.signs_num];rfl
theorem pw(i:Int):Str.ofString (toString i)=sN (bE i):=by
 unfold bE
 by_cases h:i<0
 ·have e:(0-i)=((i.natAbs:Nat):Int):=by omega
  rw[if_pos h,PyProof.Rows.toString_neg h,e,gu,String.toList_append,aN4,<- fg]
  have h2:=uN i.natAbs
  rw[gu]at h2
  rw[h2,fg]
  rfl
 ·have e:i=((i.natAbs:Nat):Int):=by omega
  rw[if_neg h]
  conv=>lhs;rw[e]
  exact uN _
theorem gz(m:Nat):∀c∈dC m,48<=c/\c<=57:=by
 intro c hc
 obtain⟨d,hd,rfl⟩:=aK0.mp hc
 have:=Nat.isDigit_of_mem_toDigits (by decide) (by decide) hd
 simp only[Char.isDigit,aH4,decide_eq_true_eq]at this
 obtain⟨h1,h2⟩:=this
 exact⟨UInt32.le_iff_toNat_le.mp h1,UInt32.le_iff_toNat_le.mp h2⟩
theorem qF(m:Nat):NumText.digitsVal (dC m)=m:=W.KIN.val_back m
theorem qG(m:Nat):dC m≠[]:=by
 intro z
 have:=(PyProof.Rows.digitsFacts10 m).ge1
 have e:=aK4 List.length z
 unfold dC at e
 rw[aH3]at e
 simp at e
 try omega
theorem qH{k:Nat}(h1:1<=k)(h:m<10 ^ k):(dC m).length<=k:=by unfold dC;rw[aH3];exact PyProof.Rows.digits10_le h1 h
theorem wJ(h:c<=57):(Char.ofNat c).toNat=c:=by
 have hv:c.isValidChar:=.inl (by omega)
 unfold Char.ofNat
 rw[dif_pos hv]
 first|done|rfl
theorem tF:∀{l:List Nat} {c:Nat} {r:List Nat},l.dropWhile (λx=>x==48)=c::r->c≠48
 | [],c,r,h=>by cases h
 | a::l,c,r,h=>by
  rw[List.dropWhile_cons]at h
  split at h
  ·exact tF h
  ·rename_i hn
   cases h
   intro z;subst z;exact hn rfl
theorem JY(m:Nat):dC m=[48]\/∃c r,dC m=c::r/\c≠48:=by
 have h:=NumText.toDigits_all (dC m) (gz m)
 rw[qF]at h
 cases e:(dC m).dropWhile (λx=>x==48)with
 | nil =>
  rw[e]at h
  left
  unfold dC
  rw[h];rfl
 | cons c r =>
  rw[e]at h
  right
  have hc:=tF e
  have hm:∀x∈c::r,x<=57:=λx hx=>(gz m x ((List.dropWhile_sublist (λx=>x==48)).subset (by rw[e];exact hx))).2
  refine⟨c,r,?_,hc⟩
  show(Nat.toDigits 10 m).map Char.toNat=_
  rw[h]
  show List.map Char.toNat (List.map Char.ofNat (c::r))=c::r
  rw[aN3]
  conv=>rhs;rw[<- List.map_id (c::r)]
  exact List.map_congr_left λx hx=>wJ (hm x hx)
theorem kF(i:Int):∀c∈bE i,c=45\/48<=c/\c<=57:=by
 intro c hc
 unfold bE at hc
 split at hc
 ·rcases aF8.mp hc with z|z
  ·exact .inl z
  ·exact .inr (gz _ c z)
 ·exact .inr (gz _ c hc)
noncomputable def jn:List (List Nat)->List Nat
 | []=>[]
 | a::l=>a++l.flatMap λp=>32::p
theorem xX(ws:List (List Nat)):Txt.join (sN [32]) (ws.map sN)=sN (jn ws):=by
 have key:∀(ws:List (List Nat)) (acc:Array Nat),List.foldl (λ(acc:Array Nat) (p:Str)=>acc++(sN [32]).cps++p.cps) acc (ws.map sN)=(acc.toList++ws.flatMap λp=>32::p).toArray:=by
  intro ws
  induction ws with
  | nil=>intro acc;simp
  | cons w ws ih =>
   intro acc
   rw[aH8,List.foldl_cons,ih,aN5]
   simp
 show(⟨List.foldl _ ((ws.map sN).headD Str.empty).cps ((ws.map sN).drop 1)⟩:Str)=_
 cases ws with
 | nil=>rfl
 | cons w ws =>
  show(⟨List.foldl (λ(acc:Array Nat) (p:Str)=>acc++(sN [32]).cps++p.cps) (sN w).cps (ws.map sN)⟩:Str)=_
  rw[key]
  show sN ((sN w).cps.toList++_)=_
  rw[fG];rfl
theorem xU:∀(ws:List (List Nat)),Str.join (sN [32]) (ws.map sN)=sN (jn ws)
 | []=>rfl
 | [w]=>by show sN w=sN (w++[]);rw[aK7]
 | w::v::ws=>by
  show sN w++sN [32]++Str.join (sN [32]) ((v::ws).map sN)=_
  rw[xU (v::ws),fg,fg]
  simp[jn]
noncomputable def iN(w:List Nat):Prop:=32∉w
theorem Et{l:List (List Nat)}(h:iN a):(jn (a::l)).takeWhile (λc=>c != 32)=a/\(jn (a::l)).dropWhile (λc=>c != 32)=l.flatMap λp=>32::p:=by
 unfold jn
 have ha:∀c∈a,(c != 32)=true:=λc hc=>by
  have:c≠32:=λz=>h (z ▸ hc)
  simpa using this
 cases l with
 | nil =>
  refine⟨?_,?_⟩
  ·show List.takeWhile _ (a++[])=a
   rw[List.takeWhile_append_of_pos ha];simp
  ·show List.dropWhile _ (a++[])=[]
   rw[List.dropWhile_append_of_pos ha];rfl
 | cons b l =>
  show List.takeWhile _ (a++List.flatMap _ (b::l))=a/\List.dropWhile _ (a++List.flatMap _ (b::l))=_
  rw[List.takeWhile_append_of_pos ha,List.dropWhile_append_of_pos ha,aN5]
  refine⟨?_,?_⟩
  ·show a++List.takeWhile _ (32::(b++_))=a
   rw[List.takeWhile_cons_of_neg (by decide),aK7]
  ·show List.dropWhile _ (32::(b++_))=_
   rw[List.dropWhile_cons_of_neg (by decide)];rfl
theorem Ba:∀{l m:List (List Nat)},l≠[]->m≠[]->(∀w∈l,iN w)->(∀w∈m,iN w)->jn l=jn m->l=m
 | [],m,h,_,_,_,_=>absurd rfl h
 | a::l,[],_,h,_,_,_=>absurd rfl h
 | a::l,b::m,_,_,hl,hm,e=>by
  obtain⟨a1,a2⟩:=Et (l:=l) (hl a aG0)
  obtain⟨b1,b2⟩:=Et (l:=m) (hm b aG0)
  rw[e]at a1 a2
  rw[b1]at a1
  rw[b2]at a2
  subst a1
  cases l with
  | nil =>
   cases m with
   | nil=>rfl
   | cons v m=>rw[List.flatMap_nil,aN5]at a2;cases a2
  | cons u l =>
   cases m with
   | nil=>rw[List.flatMap_nil,aN5]at a2;cases a2
   | cons v m =>
    rw[aN5,aN5]at a2
    have e2:jn (v::m)=jn (u::l):=by
     have:=aK4 List.tail a2
     exact this
    rw[Ba (by simp) (by simp) (λw hw=>hl w (aG1 _ hw)) (λw hw=>hm w (aG1 _ hw)) e2.symm]
theorem u4{ws:List (List Nat)}(h0:ws≠[])(h:∀w∈ws,iN w):Txt.split (sN (jn ws)) (sN [32])=ws.map sN:=by
 have hc:=PyProof.Rows.split_closes (sN (jn ws)) 32
 rw[aH4]at hc
 obtain⟨h1,h2⟩:=hc
 have h1:Str.join (sN [32]) (Txt.split (sN (jn ws)) (sN [32]))=sN (jn ws):=by simpa using h1
 have hl:=(PyProof.Rows.fact_split (sN (jn ws)) (sN [32])).1
 generalize hP:Txt.split (sN (jn ws)) (sN [32])=ps at *
 obtain⟨qs,rfl⟩:∃qs:List (List Nat),ps=qs.map sN:=⟨ps.map λp=>p.cps.toList,by
  rw[aN3]
  conv=>lhs;rw[<- List.map_id ps]
  exact List.map_congr_left λp _=>uW p⟩
 rw[xU]at h1
 have h1:=vg h1
 have hq:∀w∈qs,iN w:=λw hw z=>by
  have:=aM1.mp h2 (sN w) (aK0.mpr ⟨w,hw,rfl⟩)
  rw[PyProof.Rows.countIn_signs_decide,fG,aI4 z]at this
  cases this
 rw[Ba (λz=>by subst z;simp at hl) h0 hq h h1]
theorem VB(l:List Nat)(c:Nat):Txt.startswith (sN l) (sN [c])=decide (l.head?=some c):=by
 unfold Txt.startswith Builtin.Str.subAt
 rw[ci,ci]
 cases l with
 | nil=>rfl
 | cons a l =>
  have e:((a::l).toArray.extract 0 (0+[c].length)==[c].toArray)=decide (a=c):=by
   rw[List.extract_toArray,aN1]
   simp
  show(decide (0+[c].length<=(a::l).length)&&((a::l).toArray.extract 0 (0+[c].length)==[c].toArray))=_
  rw[e,aI4 (by simp),Bool.true_and]
  simp
theorem aj6(l:List Nat):Txt.endswith (sN (l++[47,50])) (sN [47,50])=true:=by rw[<- fg];exact W.KT.ends_app _ _
theorem aj7(h:47∉l):Txt.endswith (sN l) (sN [47,50])=false:=by
 cases e:Txt.endswith (sN l) (sN [47,50])with
 | false=>rfl
 | true =>
  exfalso
  unfold Txt.endswith Builtin.Str.subAt at e
  rw[aH4]at e
  have e2:(l.toArray.extract ((sN l).length-(sN [47,50]).length) ((sN l).length-(sN [47,50]).length+(sN [47,50]).length))=[47,50].toArray:=by simpa using e.2
  rw[List.extract_toArray]at e2
  have e3:=aK4 Array.toList e2
  simp only[List.extract_eq_take_drop]at e3
  apply h
  have m:47∈List.take ((sN l).length-(sN [47,50]).length+(sN [47,50]).length-((sN l).length-(sN [47,50]).length)) (List.drop ((sN l).length-(sN [47,50]).length) l):=by rw[e3];simp
  exact List.mem_of_mem_drop (List.mem_of_mem_take m)
theorem ao9(l:List Nat):Txt.slice (sN (l++[47,50])) none (some (-2))=sN l:=by
 have hl:(sN (l++[47,50])).length=l.length+2:=by rw[ci];simp
 have:=PyProof.Rows.slice_closes_to_neg (x:=sN (l++[47,50])) (j:=-2) (k:=l.length) (by decide) (by rw[hl];omega) (by rw[hl];omega)
 rw[fG]at this
 have:=eq_of_beq this
 rw[this]
 show sN _=sN _
 simp
theorem FQ(c:Nat)(l:List Nat):Txt.slice (sN (c::l)) (some 1) none=sN l:=by
 have hl:(sN (c::l)).length=l.length+1:=by rw[ci];simp
 have:=PyProof.Rows.slice_from_eq (x:=sN (c::l)) (i:=1) (b:=l.length+1) (by decide) (by rw[hl];omega) (by rw[hl];omega)
 rw[fG]at this
 rw[this]
 show sN _=sN _
 congr 1
 rw[show((l.length:Int)+1-1).toNat=l.length by omega]
 simp
noncomputable def aj5:Str:=Str.ofString "0123456789"
theorem Bl(h1:48<=c)(h2:c<=57):Txt.contains aj5 (sN [c])=true:=by
 have:c=48\/c=49\/c=50\/c=51\/c=52\/c=53\/c=54\/c=55\/c=56\/c=57:=by omega
 rcases this with rfl|rfl|rfl|rfl|rfl|rfl|rfl|rfl|rfl|rfl<;>decide +kernel
theorem vK(h:(bE i).length<=640):intText? (sN (bE i))=some i:=by
 unfold bE at h⊢
 by_cases hi:i<0
 ·rw[if_pos hi]at h⊢
  rw[intText_neg (cs:=dC i.natAbs) (fG _) (gz _) (qG _) (by rw[ci];omega),qF]
  congr 1;omega
 ·rw[if_neg hi]at h⊢
  rw[intText_digits (by rw[fG];exact gz _) (by rw[fG];exact qG _) (by rw[ci];omega),fG,qF]
  congr 1;omega
theorem nG(h:∀c∈l,c<128):PyData.strOk (sN l)=true:=by
 unfold PyData.strOk
 rw[Array.all_eq_true']
 intro c hc
 have:=h c (by simpa using hc)
 exact aI4 (by omega)
theorem wp(h:∀c∈l,c<128):((sN l).cps.all λc=>decide (c<128))=true:=by
 rw[Array.all_eq_true']
 intro c hc
 exact aI4 (h c (by simpa using hc))
theorem vd(l:List Nat):Sp.sgs (sN l)=l.map λc=>D.str (sN [c]):=by unfold Sp.sgs;rw[fG]
theorem oT(x y:Str):eqD (.str x) (.str y)=decide (x=y):=by
 show((x==y):Bool)=_
 by_cases h:x=y
 ·subst h;simp
 ·rw[aH6 h];simpa using h
noncomputable def fS(p:Int):List Nat:=if p.fmod 2=0 then bE (p.fdiv 2)else bE p++[47,50]
theorem ud(p:Int):fT p=sN (fS p):=by
 unfold fT fS
 split
 ·exact pw _
 ·rw[pw,show Str.ofString "/2" = sN [47,50] by rw[gu];rfl,fg]
theorem GO(p:Int):∀c∈fS p,45<=c/\c<=57:=by
 intro c hc
 unfold fS at hc
 split at hc
 ·rcases kF _ c hc with z|z<;>omega
 ·rcases aL9.mp hc with hc|hc
  ·rcases kF _ c hc with z|z<;>omega
  ·simp only[aF8,aG4,aI7]at hc
   omega
theorem kE(p:Int):iN (fS p):=λh=>by have:=GO p 32 h;omega
noncomputable def gq(q:Qd):List (List Nat):=[fS q.1,fS q.2.1,fS q.2.2.1,fS q.2.2.2]
theorem ql(q:Qd):iM q=sN (jn (gq q)):=by
 unfold iM
 rw[ud,ud,ud,ud,show Str.ofString " " = sN [32] by rw[gu];rfl]
 exact xX (gq q)
theorem Ds(q:Qd):Txt.split (iM q) (Str.ofString " ")=(gq q).map sN:=by
 rw[ql,show Str.ofString " " = sN [32] by rw[gu];rfl]
 refine u4 (by unfold gq;simp) λw hw=>?_
 simp only[gq,aF8,aG4,aI7]at hw
 rcases hw with rfl|rfl|rfl|rfl<;>exact kE _
theorem dJ(h:i.natAbs<10 ^ 40):(bE i).length<=41:=by
 unfold bE
 have:=qH (m:=i.natAbs) (k:=40) (by decide) h
 split
 ·rw[aG9];omega
 ·omega
theorem dX{p:Int}(h:p.natAbs<10 ^ 40):(fS p).length<=43:=by
 unfold fS
 split
 ·have:=dJ (i:=p.fdiv 2) (aI1 (ip p (by decide)) h)
  omega
 ·rw[aI6]
  have:=dJ h
  show _+2<=43
  omega
theorem A9{b c d:List Nat}(h1:a.length<=43)(h2:b.length<=43)(h3:c.length<=43)(h4:d.length<=43):(jn [a,b,c,d]).length<=200:=by
 show(a++(32::b++(32::c++(32::d++[])))).length<=200
 simp only[aI6,aG9,aQ1]
 omega
theorem zJ(l:List Nat):af (iW [.lst (l.map λ_=>D.bl true)]) (.bl true,0):=by
 have e:∀l:List Nat,dj (l.map λ_=>D.bl true)=some (l.map λ_=>true):=λl=>by
  induction l with
  | nil=>rfl
  | cons b bs ih=>rw[aH8,dj,ih];rfl
 have z:(l.map λ_=>true).all id=true:=aM1.mpr λx hx=>by
  obtain⟨_,_,rfl⟩:=aK0.mp hx;rfl
 unfold iW;dsimp only;rw[e]
 have h:af (Rs.ok (D.bl ((l.map λ_=>true).all id),0) []:R1) (D.bl ((l.map λ_=>true).all id),0):=dM
 rw[z]at h
 dsimp only
 rw[z]
 exact h
noncomputable def boA:Stmt->Expr
 | .If (.BoolOp _ (e::_) _) _ _ _=>e
 | _=>.Constant .none 0 ⟨0,0,0,0⟩
noncomputable def asE:Stmt->Expr
 | .Assign _ e _=>e
 | _=>.Constant .none 0 ⟨0,0,0,0⟩
theorem ju{a:Expr}{m:Str}{ap cp:Pos}{args:List Expr}{it:Bool}{y:Str}{k j:Nat}{M:D->List D->R1}{r:D×Nat}(ha:af (aH Φ a false sc ρ) (.str y,k))(hs:af (cZ Φ args sc ρ) (ds,j))(hM:af (M (.str y) ds) r)(hm:Φ.mth m=some M:=by rfl)(hp:(ap.endLine==cp.line)=true:=by rfl)(hb:g9 a=true:=by rfl):af (aH Φ (.Call (.Attribute a m ap) args [] cp) it sc ρ) r:=by
 rw[lI,if_pos hp]
 refine ha.bnd (hs.bnd ?_)
 show af (if g9 a=true then(match Φ.mth m with|some M=>M (.str y) ds|none=>.st)else .st) r
 rw[if_pos hb,hm]
 exact hM
theorem sB(i:Int):(if i<0 then -i else i)=((i.natAbs:Nat):Int):=by split<;>omega
noncomputable def jQ(q:Qd):Prop:=q.1.natAbs<10 ^ 40/\q.2.1.natAbs<10 ^ 40/\q.2.2.1.natAbs<10 ^ 40/\q.2.2.2.natAbs<10 ^ 40
theorem Fa(h:jQ q):L9 q:=by
 have:10 ^ 40<2 ^ 1900:=aG7 (show 10 ^ 40<2 ^ 200 by decide) (aG8 (by decide) (by decide))
 exact⟨aK1 h.1 this,aK1 h.2.1 this,aK1 h.2.2.1 this,aK1 h.2.2.2 this⟩
theorem qc{n:Nat}(h:n<10 ^ 40):n<2 ^ 1900:=aK1 h (aG7 (show 10 ^ 40<2 ^ 200 by decide) (aG8 (by decide) (by decide)))
theorem uO(i:Int):(bE i).head?=some 45↔i<0:=by
 unfold bE
 split
 ·rename_i h;simp[h]
 ·rename_i h
  constructor
  ·intro e
   exfalso
   have hm:45∈dC i.natAbs:=List.mem_of_mem_head? e
   have:=gz _ 45 hm
   omega
  ·intro z;exact absurd z h
theorem GQ(i:Int):sN (bE i)≠Str.ofString "-0" := by
 intro e
 rw[gu]at e
 have e:bE i=[45,48]:=vg e
 have hi:=(uO i).mp (by rw[e];rfl)
 unfold bE at e
 rw[if_pos hi]at e
 have e2:dC i.natAbs=[48]:=by injection e
 have:=qF i.natAbs
 rw[e2]at this
 have z:NumText.digitsVal [48]=0:=rfl
 rw[z]at this
 omega
theorem mf(i:Int):∀c∈bE i,c<128:=λc hc=>by rcases kF i c hc with z|z<;>omega
noncomputable def tq(q:Qd):T9:=⟨n4 q.1 q.2.1 q.2.2.1 q.2.2.2,cX q.1 q.2.1 q.2.2.1 q.2.2.2,cQ q.1 q.2.1 q.2.2.1 q.2.2.2,cP q.1 q.2.1 q.2.2.1 q.2.2.2,cG q.1 q.2.1 q.2.2.1 q.2.2.2,cK q.1 q.2.1 q.2.2.1 q.2.2.2,cF q.1 q.2.1 q.2.2.1 q.2.2.2,cE q.1 q.2.1 q.2.2.1 q.2.2.2,cD q.1 q.2.1 q.2.2.1 q.2.2.2,cJ q.1 q.2.1 q.2.2.1 q.2.2.2⟩
theorem Ah(p q:Qd):tq (fh p q)=(tq q).bh (tq p):=by
 obtain⟨a,b,c,d⟩:=p
 obtain⟨e,f,g,h⟩:=q
 unfold tq T9.bh
 simp only[fh,n4,cX,cQ,cP,cG,cK,cF,cE,cD,cJ,bj]
 congr 1<;>grind
theorem xl(k:Int)(q:Qd):tq (k*q.1,k*q.2.1,k*q.2.2.1,k*q.2.2.2)=(tq q).map (k*k * ·):=by
 obtain⟨a,b,c,d⟩:=q
 unfold tq T9.map
 simp only[n4,cX,cQ,cP,cG,cK,cF,cE,cD,cJ]
 congr 1<;>grind
noncomputable def kq(k:Int)(q:Qd):Qd:=(k*q.1,k*q.2.1,k*q.2.2.1,k*q.2.2.2)
noncomputable def sX(q:Qd):Prop:=¬ (q.1=0/\q.2.1=0/\q.2.2.1=0/\q.2.2.2=0)
theorem gt(h:sX q):0<(tq q).n:=vz h
theorem Fk(k l:Int)(q:Qd):kq k (kq l q)=kq (k*l) q:=by
 unfold kq
 refine mB ?_ ?_ ?_ ?_<;>simp only[aH2]
theorem ID(q:Qd):fh q (1,0,0,0)=q/\fh (1,0,0,0) q=q:=by
 obtain⟨a,b,c,d⟩:=q
 unfold fh
 constructor<;>refine mB ?_ ?_ ?_ ?_<;>simp only<;>grind
noncomputable def T9.dx(T:T9)(x y z:Int):Int:=bj T.a T.b T.c x y z
noncomputable def T9.dy(T:T9)(x y z:Int):Int:=bj T.d T.e T.f x y z
noncomputable def T9.dz(T:T9)(x y z:Int):Int:=bj T.g T.h T.i x y z
theorem av9(A B:T9)(x y z:Int):(A.bh B).dx x y z=B.dx (A.dx x y z) (A.dy x y z) (A.dz x y z)/\(A.bh B).dy x y z=B.dy (A.dx x y z) (A.dy x y z) (A.dz x y z)/\(A.bh B).dz x y z=B.dz (A.dx x y z) (A.dy x y z) (A.dz x y z):=by
 unfold T9.dx T9.dy T9.dz T9.bh
 simp only[bj]
 refine⟨?_,?_,?_⟩<;>grind
theorem yY(c:Int)(T:T9)(x y z:Int):(T.map (c * ·)).dx x y z=c*T.dx x y z/\(T.map (c * ·)).dy x y z=c*T.dy x y z/\(T.map (c * ·)).dz x y z=c*T.dz x y z:=by
 unfold T9.dx T9.dy T9.dz T9.map
 simp only[bj]
 refine⟨?_,?_,?_⟩<;>grind
structure Gq(T:T9)(x y z m X Y Z:Int)(g:Int):Prop where
 pos:0<g
 mpos:0<m
 one:gI [m,X,Y,Z]=1
 en:T.n=g*m
 ex:T.dx x y z=g*X
 ey:T.dy x y z=g*Y
 ez:T.dz x y z=g*Z
theorem LH(hn:0<T.n)(x y z:Int):Gq T x y z (T.n.fdiv (gI [T.n,T.dx x y z,T.dy x y z,T.dz x y z])) ((T.dx x y z).fdiv (gI [T.n,T.dx x y z,T.dy x y z,T.dz x y z])) ((T.dy x y z).fdiv (gI [T.n,T.dx x y z,T.dy x y z,T.dz x y z])) ((T.dz x y z).fdiv (gI [T.n,T.dx x y z,T.dy x y z,T.dz x y z])) (gI [T.n,T.dx x y z,T.dy x y z,T.dz x y z]):=by
 have mn:T.n∈[T.n,T.dx x y z,T.dy x y z,T.dz x y z]:=by simp
 have h0:T.n≠0:=by omega
 have hg:=js mn h0
 have en:=gw mn h0 mn
 exact⟨hg,vS hg hn en,vO mn h0,en,gw mn h0 (by simp),gw mn h0 (by simp),gw mn h0 (by simp)⟩
noncomputable def bar(q:Qd):Qd:=(q.1,-q.2.1,-q.2.2.1,-q.2.2.2)
noncomputable abbrev V3:=Int×Int×Int
noncomputable abbrev dv(v:V3):D:=d3 v.1 v.2.1 v.2.2
noncomputable def pr(p:Nat)(v:V3):Int:=match p with
 | 0=>v.1
 | 1=>v.2.1
 | _=>v.2.2
theorem EW(hp:p<3)(v:V3):L2.atI [.int v.1,.int v.2.1,.int v.2.2] (p:Int)=some (D.int (pr p v)):=by
 match p,hp with
 | 0,_=>rfl
 | 1,_=>rfl
 | 2,_=>rfl
noncomputable def sb(u v:V3)(k:Int):V3:=(u.1-v.1*k,u.2.1-v.2.1*k,u.2.2-v.2.2*k)
theorem li(p:Nat)(u v:V3)(k:Int):pr p (sb u v k)=pr p u-pr p v*k:=by
 unfold pr sb;split<;>rfl
structure Sg(P:V3->Prop):Prop where
 zero:P (0,0,0)
 step:∀u v k,P u->P v->P (sb u v k)
theorem Sg.back{P:V3->Prop}(h:Sg P){u v:V3}(h1:P (sb u v k))(h2:P v):P u:=by
 have:=h.step _ v (-k) h1 h2
 have e:sb (sb u v k) v (-k)=u:=by
  obtain⟨a,b,c⟩:=u
  simp only[sb,Prod.mk.injEq]
  refine⟨by grind,by grind,by grind⟩
 rwa [e]at this
noncomputable def fA(B:Nat)(v:V3):Prop:=∀p,(pr p v).natAbs<=2 ^ B
theorem fA.all{v:V3}(h:fA B v):v.1.natAbs<=2 ^ B/\v.2.1.natAbs<=2 ^ B/\v.2.2.natAbs<=2 ^ B:=⟨h 0,h 1,h 2⟩
theorem gc{v:V3}(h:v.1.natAbs<=2 ^ B/\v.2.1.natAbs<=2 ^ B/\v.2.2.natAbs<=2 ^ B):fA B v:=λp=>by
 unfold pr;split
 ·exact h.1
 ·exact h.2.1
 ·exact h.2.2
theorem fA.mono{C:Nat}{v:V3}(h:fA B v)(g:B<=C):fA C v:=λp=>aF5 (h p) (aG8 (by decide) g)
noncomputable def nb(B b:Nat):Nat:=max B b+b+2
structure m9(p:Nat)(l r:V3)(M:Nat):Prop where
 ne:pr p l≠0
 sg:∃(s:Bool) (a b:Nat),pr p l=lU s a/\pr p r=lU s b/\b<a
 pot:∀c,(pr c l).natAbs*(pr p r).natAbs+(pr c r).natAbs*(pr p l).natAbs<=M
 bl:∀c,(pr c l).natAbs<=M
 br:∀c,(pr c r).natAbs<=M
theorem QZ(s:Bool){a:Nat}(h:b≠0):(lU s a).fdiv (lU s b)=((a / b:Nat):Int):=by
 cases s
 ·show(a:Int).fdiv (b:Int)=_
  rw[aL5 _ (by omega)];rfl
 ·show(-(a:Int)).fdiv (-(b:Int))=_
  rw[Int.neg_fdiv_neg,aL5 _ (by omega)];rfl
theorem lE(x y:Int):x.fmod y=x-y*x.fdiv y:=by rw[Int.fmod_def]
theorem m9.next{l r:V3}(h:m9 p l r M)(h0:pr p r≠0):m9 p r (sb l r ((pr p l).fdiv (pr p r))) M:=by
 obtain⟨s,a,b,ea,eb,hlt⟩:=h.sg
 have b0:b≠0:=λz=>h0 (by rw[eb,z];cases s<;>rfl)
 have hq:(pr p l).fdiv (pr p r)=((a / b:Nat):Int):=by rw[ea,eb];exact QZ s b0
 have hm:pr p (sb l r ((pr p l).fdiv (pr p r)))=lU s (a % b):=by
  rw[li,<- lE,ea,eb,ET]
 have hab:a=b*(a / b)+a % b:=(Nat.div_add_mod a b).symm
 have lt:=Nat.mod_lt a (Nat.pos_of_ne_zero b0)
 have key:∀c,(pr c r).natAbs*(pr p (sb l r ((pr p l).fdiv (pr p r)))).natAbs+(pr c (sb l r ((pr p l).fdiv (pr p r)))).natAbs*(pr p r).natAbs<=M:=λc=>by
  have hp:=h.pot c
  rw[hm,li,hq,eb,fF,fF]
  rw[ea,eb,fF,fF]at hp
  have h1:(pr c l-pr c r*((a / b:Nat):Int)).natAbs<=(pr c l).natAbs+(pr c r).natAbs*(a / b):=by
   refine aF5 (aO6 _ _) ?_
   rw[aI5];exact aF9 _
  have h2:=Nat.mul_le_mul_right b h1
  generalize (pr c r).natAbs=R at *
  generalize (pr c l).natAbs=L at *
  generalize (pr c l-pr c r*((a / b:Nat):Int)).natAbs=N at *
  have h3:R*a=R*(b*(a / b))+R*(a % b):=by rw[<- Nat.mul_add,<- hab]
  have h4:(L+R*(a / b))*b=L*b+R*(b*(a / b)):=by rw[Nat.add_mul,Nat.mul_assoc,aP5 (a / b) b]
  omega
 refine⟨h0,⟨s,b,a % b,eb,hm,lt⟩,key,h.br,λc=>?_⟩
 have:=key c
 have r1:1<=(pr p r).natAbs:=by omega
 exact aF5 (aF5 (Nat.le_mul_of_pos_right _ r1) (Nat.le_add_left _ _)) this
theorem x6(x y:Int)(h:y≠0):(x.fdiv y).natAbs*y.natAbs<=x.natAbs+y.natAbs:=by
 have e:=lE x y
 have h1:(y*x.fdiv y).natAbs<=x.natAbs+(x.fmod y).natAbs:=by
  rw[show y*x.fdiv y=x-x.fmod y by omega];exact aO6 _ _
 obtain⟨s,a,b,e1,e2,_,e3,hlt⟩:=ve x y h
 rw[e2,fF]at h1
 rw[aI5,aP5]at h1
 omega
theorem m9.first{L S:V3}(hL:fA B L)(hS:fA b S)(h0:pr p S≠0):m9 p S (sb L S ((pr p L).fdiv (pr p S))) (2 ^ nb B b):=by
 obtain⟨s,x,y,e1,e2,_,e3,hlt⟩:=ve (pr p L) (pr p S) h0
 have hm:pr p (sb L S ((pr p L).fdiv (pr p S)))=lU s y:=by rw[li,<- lE];exact e2
 have qb:=x6 (pr p L) (pr p S) h0
 have s1:1<=(pr p S).natAbs:=by omega
 obtain⟨m,hmx⟩:∃m,m=max B b:=⟨_,rfl⟩
 have e4:2 ^ nb B b=4*(2 ^ m*2 ^ b):=by
  unfold nb;rw[<- hmx,aM2,aM2,aM9];omega
 have uB:2 ^ B<=2 ^ m:=aG8 (by decide) (by omega)
 have ub:2 ^ b<=2 ^ m:=aG8 (by decide) (by omega)
 have key:∀c,(pr c S).natAbs*(pr p (sb L S ((pr p L).fdiv (pr p S)))).natAbs+(pr c (sb L S ((pr p L).fdiv (pr p S)))).natAbs*(pr p S).natAbs<=2 ^ nb B b:=λc=>by
  rw[hm,fF,li,e4]
  have h1:(pr c L-pr c S*(pr p L).fdiv (pr p S)).natAbs<=(pr c L).natAbs+(pr c S).natAbs*((pr p L).fdiv (pr p S)).natAbs:=by
   refine aF5 (aO6 _ _) ?_
   rw[aI5];exact aF9 _
  have h2:=Nat.mul_le_mul_right (pr p S).natAbs h1
  rw[Nat.add_mul,Nat.mul_assoc]at h2
  have h3:=aN7 (pr c S).natAbs qb
  rw[Nat.mul_add]at h3
  have b1:(pr c S).natAbs*y<=2 ^ m*2 ^ b:=aJ6 (aF5 (hS c) ub) (aF5 (by omega) (hS p))
  have b2:(pr c L).natAbs*(pr p S).natAbs<=2 ^ m*2 ^ b:=aJ6 (aF5 (hL c) uB) (hS p)
  have b3:(pr c S).natAbs*(pr p L).natAbs<=2 ^ m*2 ^ b:=by rw[aP5];exact aJ6 (aF5 (hL p) uB) (hS c)
  have b4:(pr c S).natAbs*(pr p S).natAbs<=2 ^ m*2 ^ b:=aJ6 (aF5 (hS c) ub) (hS p)
  omega
 refine⟨h0,⟨s,x,y,e1,hm,by omega⟩,key,λc=>aF5 (hS c) (aG8 (by decide) (by unfold nb;omega)),λc=>?_⟩
 exact aF5 (aF5 (Nat.le_mul_of_pos_right _ s1) (Nat.le_add_left _ _)) (key c)
structure Pn(p B b:Nat)(L S L' R:V3):Prop where
 z:pr p R=0
 cl:∀P,Sg P->((P L/\P S)↔(P L'/\P R))
 bd:fA (nb B b) L'/\fA (nb B b) R
 ps:0<pr p S->0<pr p L'
 nz:pr p S=0->L'=L/\R=S
noncomputable def i8(p:Nat):Nat->List Nat->V3->List V3->V3->List V3->Prop
 | _,[],L,[],L',os=>L'=L/\os=[]
 | B,b::bs,L,S::l,L',os => ∃L1 R os',Pn p B b L S L1 R/\i8 p (nb B b) bs L1 l L' os'/\os=R::os'
 | _,_,_,_,_,_=>False
theorem i8.cl{p:Nat}{P:V3->Prop}(g:Sg P):∀{B:Nat} {bs:List Nat} {l os:List V3} {L L':V3},i8 p B bs L l L' os->((P L/\∀s∈l,P s)↔(P L'/\∀s∈os,P s))
 | _,[],[],_,_,_,⟨rfl,rfl⟩=>Iff.rfl
 | _,_::_,[],_,_,_,h=>h.elim
 | _,[],_::_,_,_,_,h=>h.elim
 | B,b::bs,S::l,_,L,L',⟨L1,R,os',h,hl,rfl⟩=>by
  have ih:=i8.cl g hl
  have h1:=h.cl P g
  simp only[aF8,forall_eq_or_imp]
  constructor
  ·rintro⟨a,b,c⟩
   have⟨x,y⟩:=h1.mp ⟨a,b⟩
   have⟨u,v⟩:=ih.mp ⟨x,c⟩
   exact⟨u,y,v⟩
  ·rintro⟨u,y,v⟩
   have⟨x,c⟩:=ih.mpr ⟨u,v⟩
   have⟨a,b⟩:=h1.mpr ⟨x,y⟩
   exact⟨a,b,c⟩
theorem i8.z{p:Nat}:∀{B:Nat} {bs:List Nat} {l os:List V3} {L L':V3},i8 p B bs L l L' os->∀s∈os,pr p s=0
 | _,[],[],_,_,_,⟨rfl,rfl⟩,s,hs=>by cases hs
 | _,_::_,[],_,_,_,h,_,_=>h.elim
 | _,[],_::_,_,_,_,h,_,_=>h.elim
 | B,b::bs,S::l,_,L,L',⟨L1,R,os',h,hl,rfl⟩,s,hs=>by
  rcases aF8.mp hs with rfl|hs
  ·exact h.z
  ·exact i8.z hl s hs
theorem yE(p:Nat):Sg λv=>pr p v=0:=⟨by unfold pr;split<;>rfl,λu v k hu hv=>by rw[li,hu,hv];simp⟩
noncomputable def Gj:List Nat->List V3->Prop
 | b::bs,v::l=>fA b v/\Gj bs l
 | [],[]=>True
 | _,_=>False
theorem m9.mod{l r:V3}(h:m9 p l r M)(h0:pr p r≠0):(pr p (sb l r ((pr p l).fdiv (pr p r)))).natAbs=(pr p l).natAbs % (pr p r).natAbs:=by
 obtain⟨s,a,b,ea,eb,hlt⟩:=h.sg
 rw[li,<- lE,ea,eb,ET,fF,fF,fF]
noncomputable def CZ:Nat->List Nat->Prop
 | _,[]=>True
 | B,b::bs=>b<=1990/\nb B b<=8990/\CZ (nb B b) bs
theorem v8{c:Int}{ns:List Int}(h1:gI ns=1)(h:∀m∈ns,n∣c*m):n∣c:=by
 have key:∀c:Int,0<c->(∀m∈ns,n∣c*m)->n∣c:=λc hc h=>by
  have e:=vP hc ns
  rw[h1,aP8]at e
  rw[<- e]
  refine jz λm hm=>?_
  obtain⟨x,hx,rfl⟩:=aK0.mp hm
  exact h x hx
 rcases Int.lt_trichotomy c 0 with q|q|q
 ·have:=key (-c) (by omega) λm hm=>by rw[Int.neg_mul];exact Int.dvd_neg.mpr (h m hm)
  exact Int.dvd_neg.mp this
 ·subst q;exact Int.dvd_zero n
 ·exact key c q h
noncomputable def St(T:T9)(v:V3):Prop:=T.n∣T.dx v.1 v.2.1 v.2.2/\T.n∣T.dy v.1 v.2.1 v.2.2/\T.n∣T.dz v.1 v.2.1 v.2.2
theorem NQ(a b c k:Int)(u v:V3):bj a b c (sb u v k).1 (sb u v k).2.1 (sb u v k).2.2=bj a b c u.1 u.2.1 u.2.2-bj a b c v.1 v.2.1 v.2.2*k:=by
 unfold bj sb;grind
theorem ua(T:T9):Sg (St T):=by
 have z:∀a b c:Int,T.n∣bj a b c 0 0 0:=λa b c=>⟨0,by unfold bj;simp⟩
 have s:∀(a b c k:Int) (u v:V3),T.n∣bj a b c u.1 u.2.1 u.2.2->T.n∣bj a b c v.1 v.2.1 v.2.2->T.n∣bj a b c (sb u v k).1 (sb u v k).2.1 (sb u v k).2.2:=λa b c k u v hu hv=>by
  rw[NQ];exact Int.dvd_sub hu (Int.dvd_mul_of_dvd_left hv)
 exact⟨⟨z _ _ _,z _ _ _,z _ _ _⟩,λu v k hu hv=>⟨s _ _ _ k u v hu.1 hv.1,s _ _ _ k u v hu.2.1 hv.2.1,s _ _ _ k u v hu.2.2 hv.2.2⟩⟩
theorem rL{u v w B D:Int}(h1:n∣bj u v w A B C)(h2:n∣bj u v w 0 D E)(h3:n∣bj u v w 0 0 F):n∣A*D*F*u/\n∣A*D*F*v/\n∣A*D*F*w:=by
 obtain⟨k1,e1⟩:=h1
 obtain⟨k2,e2⟩:=h2
 obtain⟨k3,e3⟩:=h3
 unfold bj at e1 e2 e3
 have f1:u*A+v*B+w*C=n*k1:=by rw[<- e1];omega
 have f2:v*D+w*E=n*k2:=by rw[<- e2];simp
 have f3:w*F=n*k3:=by rw[<- e3];simp
 clear e1 e2 e3
 refine⟨⟨D*F*k1-B*F*k2+B*E*k3-C*D*k3,?_⟩,⟨A*F*k2-A*E*k3,?_⟩,⟨A*D*k3,?_⟩⟩
 ·calc A*D*F*u=D*F*(u*A+v*B+w*C)-B*F*(v*D+w*E)+B*E*(w*F)-C*D*(w*F):=by grind
   _=_:=by rw[f1,f2,f3];grind
 ·calc A*D*F*v=A*F*(v*D+w*E)-A*E*(w*F):=by grind
   _=_:=by rw[f2,f3];grind
 ·calc A*D*F*w=A*D*(w*F):=by grind
   _=_:=by rw[f3];grind
theorem FG(h1:gI T.l=1){B D:Int}(s1:St T (A,B,C))(s2:St T (0,D,E))(s3:St T (0,0,F)):T.n∣A*D*F:=by
 obtain⟨a1,a2,a3⟩:=rL s1.1 s2.1 s3.1
 obtain⟨b1,b2,b3⟩:=rL s1.2.1 s2.2.1 s3.2.1
 obtain⟨c1,c2,c3⟩:=rL s1.2.2 s2.2.2 s3.2.2
 refine v8 h1 λm hm=>?_
 simp only[T9.l,aF8,aG4,aI7]at hm
 rcases hm with rfl|rfl|rfl|rfl|rfl|rfl|rfl|rfl|rfl|rfl
 ·exact Int.dvd_mul_left _ _
 ·exact a1
 ·exact a2
 ·exact a3
 ·exact b1
 ·exact b2
 ·exact b3
 ·exact c1
 ·exact c2
 ·exact c3
noncomputable def ni(A B C D E F:Int)(v:V3):Prop:=∃s t u:Int,v.1=s*A/\v.2.1=s*B+t*D/\v.2.2=s*C+t*E+u*F
theorem Ld(A B C D E F:Int):Sg (ni A B C D E F):=by
 refine⟨⟨0,0,0,by simp,by simp,by simp⟩,?_⟩
 rintro u v k ⟨s,t,w,e1,e2,e3⟩ ⟨s',t',w',f1,f2,f3⟩
 refine⟨s-s'*k,t-t'*k,w-w'*k,?_,?_,?_⟩
 ·show u.1-v.1*k=_;rw[e1,f1];grind
 ·show u.2.1-v.2.1*k=_;rw[e2,f2];grind
 ·show u.2.2-v.2.2*k=_;rw[e3,f3];grind
noncomputable def iV(u v w:V3):Int:=u.1*(v.2.1*w.2.2-v.2.2*w.2.1)-u.2.1*(v.1*w.2.2-v.2.2*w.1)+u.2.2*(v.1*w.2.1-v.2.1*w.1)
theorem kW{B D:Int}{u v w:V3}(hu:ni A B C D E F u)(hv:ni A B C D E F v)(hw:ni A B C D E F w):A*D*F∣iV u v w:=by
 obtain⟨a,b,c,e1,e2,e3⟩:=hu
 obtain⟨d,e,f,f1,f2,f3⟩:=hv
 obtain⟨g,h,i,g1,g2,g3⟩:=hw
 refine⟨a*(e*i-f*h)-b*(d*i-f*g)+c*(d*h-e*g),?_⟩
 unfold iV
 rw[e1,e2,e3,f1,f2,f3,g1,g2,g3]
 grind
noncomputable def jq(q:Qd)(n:Int):List V3:=[(-q.2.1,-q.2.2.1,-q.2.2.2),(q.1,-q.2.2.2,q.2.2.1),(q.2.2.2,q.1,-q.2.1),(-q.2.2.1,q.2.1,q.1),(n,0,0),(0,n,0),(0,0,n)]
theorem iH(q:Qd)(p:Pm q.1 q.2.1 q.2.2.1 q.2.2.2):∃g:Int,(g=1\/g=2\/g=4)/\tq q=(tq q).low.map (g * ·)/\(tq q).n=g*(tq q).low.n/\(tq q).low.n % 2=1/\0<(tq q).low.n/\gI (tq q).low.l=1:=by
 have hp:=gt p.ne
 obtain⟨g,m,e,hg,en,ho,hm⟩:=corner p
 have eg:gI (tq q).l=g:=e
 have hn:(tq q).low.n=m:=by
  show((tq q).n).fdiv (gI (tq q).l)=m
  rw[eg,show(tq q).n=g*m from en]
  exact Int.mul_fdiv_cancel_left m (by omega)
 refine⟨g,hg,?_,?_,by rw[hn];exact ho,by rw[hn];exact hm,?_⟩
 ·rw[<- eg];exact T9.cut hp
 ·rw[hn];exact en
 ·have:=vO (tq q).mem_n (show(tq q).n≠0 by omega)
  exact this
theorem No(p:Pm q.1 q.2.1 q.2.2.1 q.2.2.2):∀s∈jq q (tq q).low.n,St (tq q).low s:=by
 obtain⟨g,hg,cut,en,ho,hn,_⟩:=iH q p
 have g0:0<g:=by omega
 have raw:∀v:V3,(∃x y z:Int,(tq q).dx v.1 v.2.1 v.2.2=(tq q).n*x/\(tq q).dy v.1 v.2.1 v.2.2=(tq q).n*y/\(tq q).dz v.1 v.2.1 v.2.2=(tq q).n*z)->St (tq q).low v:=by
  rintro v ⟨x,y,z,e1,e2,e3⟩
  obtain⟨m1,m2,m3⟩:=yY g (tq q).low v.1 v.2.1 v.2.2
  rw[<- cut]at m1 m2 m3
  rw[m1,en,aH2]at e1
  rw[m2,en,aH2]at e2
  rw[m3,en,aH2]at e3
  exact⟨⟨x,oX g0 e1⟩,⟨y,oX g0 e2⟩,⟨z,oX g0 e3⟩⟩
 obtain⟨a,b,c,d⟩:=q
 intro s hs
 simp only[jq,aF8,aG4,aI7]at hs
 rcases hs with rfl|rfl|rfl|rfl|rfl|rfl|rfl
 ·exact raw _ ⟨-b,-c,-d,by simp only[T9.dx,T9.dy,T9.dz,tq,bj,n4,cX,cQ,cP,cG,cK,cF,cE,cD,cJ];grind,by simp only[T9.dx,T9.dy,T9.dz,tq,bj,n4,cX,cQ,cP,cG,cK,cF,cE,cD,cJ];grind,by simp only[T9.dx,T9.dy,T9.dz,tq,bj,n4,cX,cQ,cP,cG,cK,cF,cE,cD,cJ];grind⟩
 ·exact raw _ ⟨a,d,-c,by simp only[T9.dx,T9.dy,T9.dz,tq,bj,n4,cX,cQ,cP,cG,cK,cF,cE,cD,cJ];grind,by simp only[T9.dx,T9.dy,T9.dz,tq,bj,n4,cX,cQ,cP,cG,cK,cF,cE,cD,cJ];grind,by simp only[T9.dx,T9.dy,T9.dz,tq,bj,n4,cX,cQ,cP,cG,cK,cF,cE,cD,cJ];grind⟩
 ·exact raw _ ⟨-d,a,b,by simp only[T9.dx,T9.dy,T9.dz,tq,bj,n4,cX,cQ,cP,cG,cK,cF,cE,cD,cJ];grind,by simp only[T9.dx,T9.dy,T9.dz,tq,bj,n4,cX,cQ,cP,cG,cK,cF,cE,cD,cJ];grind,by simp only[T9.dx,T9.dy,T9.dz,tq,bj,n4,cX,cQ,cP,cG,cK,cF,cE,cD,cJ];grind⟩
 ·exact raw _ ⟨c,-b,a,by simp only[T9.dx,T9.dy,T9.dz,tq,bj,n4,cX,cQ,cP,cG,cK,cF,cE,cD,cJ];grind,by simp only[T9.dx,T9.dy,T9.dz,tq,bj,n4,cX,cQ,cP,cG,cK,cF,cE,cD,cJ];grind,by simp only[T9.dx,T9.dy,T9.dz,tq,bj,n4,cX,cQ,cP,cG,cK,cF,cE,cD,cJ];grind⟩
 ·generalize (tq (a,b,c,d)).low=T
  refine⟨⟨T.a,?_⟩,⟨T.d,?_⟩,⟨T.g,?_⟩⟩<;>simp only[T9.dx,T9.dy,T9.dz,bj]<;>grind
 ·generalize (tq (a,b,c,d)).low=T
  refine⟨⟨T.b,?_⟩,⟨T.e,?_⟩,⟨T.h,?_⟩⟩<;>simp only[T9.dx,T9.dy,T9.dz,bj]<;>grind
 ·generalize (tq (a,b,c,d)).low=T
  refine⟨⟨T.c,?_⟩,⟨T.f,?_⟩,⟨T.i,?_⟩⟩<;>simp only[T9.dx,T9.dy,T9.dz,bj]<;>grind
theorem rQ{m:Int}(hx:x % 2=1)(h:x∣2*m):x∣m:=by
 obtain⟨k,e⟩:=h
 have hk:k % 2=0:=by
  rcases(show k % 2=0\/k % 2=1 by omega)with q|q
  ·exact q
  ·obtain⟨j,hj⟩:=pX hx q;omega
 obtain⟨j,rfl⟩:∃j,k=2*j:=⟨k / 2,by omega⟩
 exact⟨j,by
  have:2*m=2*(x*j):=by rw[e];grind
  omega⟩
theorem O0(p:Pm q.1 q.2.1 q.2.2.1 q.2.2.2){B D:Int}(hA:0<A)(hD:0<D)(hF:0<F)(cl:∀P,Sg P->((∀s∈jq q (tq q).low.n,P s)↔(P (A,B,C)/\P (0,D,E)/\P (0,0,F)))):A*D*F=(tq q).low.n/\(St (tq q).low (A,B,C)/\St (tq q).low (0,D,E)/\St (tq q).low (0,0,F))/\∀v,St (tq q).low v->ni A B C D E F v:=by
 obtain⟨g,hg,cut,en,ho,hn,g1⟩:=iH q p
 obtain⟨s1,s2,s3⟩:=(cl _ (ua _)).mp (No p)
 have d1:=FG g1 s1 s2 s3
 have sp:=(cl _ (Ld A B C D E F)).mpr ⟨⟨1,0,0,by simp,by simp,by simp⟩,⟨0,1,0,by simp,by simp,by simp⟩,⟨0,0,1,by simp,by simp,by simp⟩⟩
 have adf:0<A*D*F:=aK3 (aK3 hA hD) hF
 have eqn:A*D*F=(tq q).low.n:=by
  generalize hnn:(tq q).low.n=n at *
  have v0:=sp (-q.2.1,-q.2.2.1,-q.2.2.2) (by simp[jq])
  have v1:=sp (q.1,-q.2.2.2,q.2.2.1) (by simp[jq])
  have v2:=sp (q.2.2.2,q.1,-q.2.1) (by simp[jq])
  have v3:=sp (-q.2.2.1,q.2.1,q.1) (by simp[jq])
  have e0:=sp (n,0,0) (by simp[jq])
  have e1:=sp (0,n,0) (by simp[jq])
  have e2:=sp (0,0,n) (by simp[jq])
  have k0:=kW v1 v2 v3
  have k1:=kW v0 v2 v3
  have k2:=kW v0 v1 v3
  have k3:=kW v0 v1 v2
  have kn:=kW e0 e1 e2
  have kN:A*D*F∣(tq q).n:=by
   refine v8 p.one λm hm=>?_
   obtain⟨a,b,c,d⟩:=q
   simp only[aF8,aG4,aI7]at hm
   have x0:(tq (a,b,c,d)).n*a=iV (a,-d,c) (d,a,-b) (-c,b,a):=by simp only[tq,n4,iV];grind
   have x1:(tq (a,b,c,d)).n*b = -iV (-b,-c,-d) (d,a,-b) (-c,b,a):=by simp only[tq,n4,iV];grind
   have x2:(tq (a,b,c,d)).n*c=iV (-b,-c,-d) (a,-d,c) (-c,b,a):=by simp only[tq,n4,iV];grind
   have x3:(tq (a,b,c,d)).n*d = -iV (-b,-c,-d) (a,-d,c) (d,a,-b):=by simp only[tq,n4,iV];grind
   rcases hm with rfl|rfl|rfl|rfl
   ·rw[x0];exact k0
   ·rw[x1];exact Int.dvd_neg.mpr k1
   ·rw[x2];exact k2
   ·rw[x3];exact Int.dvd_neg.mpr k3
  have k3':A*D*F∣n*n*n:=by
   have e:iV (n,0,0) (0,n,0) (0,0,n)=n*n*n:=by simp only[iV];grind
   rw[<- e];exact kn
  have od:(A*D*F) % 2=1:=by
   rcases(show(A*D*F) % 2=0\/(A*D*F) % 2=1 by omega)with z|z
   ·exfalso
    obtain⟨j,hj⟩:=k3'
    obtain⟨i,hi⟩:=pX ho ho
    obtain⟨l,hl⟩:=pX (show(n*n) % 2=1 by omega) ho
    obtain⟨m,hm⟩:∃m,A*D*F=2*m:=⟨A*D*F / 2,by omega⟩
    rw[hm,aH2 2 m j]at hj
    generalize m*j=mj at *
    omega
   ·exact z
  have kn':A*D*F∣n:=by
   rw[en]at kN
   rcases hg with rfl|rfl|rfl
   ·rwa [Int.one_mul]at kN
   ·exact rQ od kN
   ·exact rQ od (rQ od (by rw[<- aH2];exact kN))
  exact Int.dvd_antisymm (by omega) (by omega) kn' d1
 refine⟨eqn,⟨s1,s2,s3⟩,?_⟩
 rintro⟨x,y,z⟩ hv
 have h1:=FG g1 hv s2 s3
 rw[<- eqn,aH2,aH2]at h1
 have hx:A∣x:=Int.dvd_of_mul_dvd_mul_right (by have:=aK3 hD hF;omega) h1
 obtain⟨s,rfl⟩:=hx
 have h2:=(ua (tq q).low).step _ _ s hv s1
 have e2:sb (A*s,y,z) (A,B,C) s=(0,y-B*s,z-C*s):=by simp[sb]
 rw[e2]at h2
 have h3:=FG g1 s1 h2 s3
 rw[<- eqn]at h3
 have hy:D∣y-B*s:=by
  rw[aH2,aH2]at h3
  have h4:=Int.dvd_of_mul_dvd_mul_left (by omega) h3
  exact Int.dvd_of_mul_dvd_mul_right (by omega) h4
 obtain⟨t,ht⟩:=hy
 have h4:=(ua (tq q).low).step _ _ t h2 s2
 have e3:sb (0,y-B*s,z-C*s) (0,D,E) t=(0,0,z-C*s-E*t):=by simp only[sb,ht];simp
 rw[e3]at h4
 have h5:=FG g1 s1 s2 h4
 rw[<- eqn]at h5
 have hz:F∣z-C*s-E*t:=Int.dvd_of_mul_dvd_mul_left (by have:=aK3 hA hD;omega) h5
 obtain⟨u,hu⟩:=hz
 exact⟨s,t,u,by show A*s=s*A;rw[aI2],by show y=s*B+t*D;rw[aI2 s B,aI2 t D];omega,by show z=s*C+t*E+u*F;rw[aI2 s C,aI2 t E,aI2 u F];omega⟩
theorem nM(cut:tq q=(tq q).low.map (g * ·)):n4 q.1 q.2.1 q.2.2.1 q.2.2.2=g*(tq q).low.n/\cX q.1 q.2.1 q.2.2.1 q.2.2.2=g*(tq q).low.a/\cQ q.1 q.2.1 q.2.2.1 q.2.2.2=g*(tq q).low.b/\cP q.1 q.2.1 q.2.2.1 q.2.2.2=g*(tq q).low.c/\cG q.1 q.2.1 q.2.2.1 q.2.2.2=g*(tq q).low.d/\cK q.1 q.2.1 q.2.2.1 q.2.2.2=g*(tq q).low.e/\cF q.1 q.2.1 q.2.2.1 q.2.2.2=g*(tq q).low.f/\cE q.1 q.2.1 q.2.2.1 q.2.2.2=g*(tq q).low.g/\cD q.1 q.2.1 q.2.2.1 q.2.2.2=g*(tq q).low.h/\cJ q.1 q.2.1 q.2.2.1 q.2.2.2=g*(tq q).low.i :=
 ⟨aK4 T9.n cut,aK4 T9.a cut,aK4 T9.b cut,aK4 T9.c cut,aK4 T9.d cut,aK4 T9.e cut,aK4 T9.f cut,aK4 T9.g cut,aK4 T9.h cut,aK4 T9.i cut⟩
theorem nQ(g a b c x y z:Int):bj (g*a) (g*b) (g*c) (g*x) (g*y) (g*z)=g*g*bj a b c x y z:=by unfold bj;grind
theorem Up(g a b c d e f h i j:Int):bj (g*a) (g*b) (g*c) (g*e*(g*j)-g*f*(g*i)) (g*f*(g*h)-g*d*(g*j)) (g*d*(g*i)-g*e*(g*h))=g*g*g*bj a b c (e*j-f*i) (f*h-d*j) (d*i-e*h):=by unfold bj;grind
theorem Cv(g n:Int):g*n*(g*n)=g*g*(n*n):=by grind
theorem ap1(g n:Int):g*n*(g*n)*(g*n)=g*g*g*(n*n*n):=by grind
theorem nT{y:Int}(hg:0<g)(h:g*g*x=g*g*y):x=y:=oX (aK3 hg hg) h
theorem A2(p:Pm q.1 q.2.1 q.2.2.1 q.2.2.2):bj (tq q).low.a (tq q).low.b (tq q).low.c (tq q).low.a (tq q).low.b (tq q).low.c=(tq q).low.n*(tq q).low.n/\bj (tq q).low.a (tq q).low.b (tq q).low.c (tq q).low.d (tq q).low.e (tq q).low.f=0/\bj (tq q).low.a (tq q).low.b (tq q).low.c (tq q).low.g (tq q).low.h (tq q).low.i=0/\bj (tq q).low.d (tq q).low.e (tq q).low.f (tq q).low.d (tq q).low.e (tq q).low.f=(tq q).low.n*(tq q).low.n/\bj (tq q).low.d (tq q).low.e (tq q).low.f (tq q).low.g (tq q).low.h (tq q).low.i=0/\bj (tq q).low.g (tq q).low.h (tq q).low.i (tq q).low.g (tq q).low.h (tq q).low.i=(tq q).low.n*(tq q).low.n /\ ¬ bj (tq q).low.a (tq q).low.b (tq q).low.c ((tq q).low.e*(tq q).low.i-(tq q).low.f*(tq q).low.h) ((tq q).low.f*(tq q).low.g-(tq q).low.d*(tq q).low.i) ((tq q).low.d*(tq q).low.h-(tq q).low.e*(tq q).low.g)<0:=by
 obtain⟨g,hg,cut,en,ho,hn,g1⟩:=iH q p
 have g0:0<g:=by omega
 obtain⟨f,f0,f1,f2,f3,f4,f5,f6,f7,f8⟩:=nM cut
 generalize (tq q).low=T at *
 obtain⟨a,b,c,d⟩:=q
 simp only[]at f f0 f1 f2 f3 f4 f5 f6 f7 f8
 have o00:bj (cX a b c d) (cQ a b c d) (cP a b c d) (cX a b c d) (cQ a b c d) (cP a b c d)=n4 a b c d*n4 a b c d:=by simp only[bj,n4,cX,cQ,cP,cG,cK,cF,cE,cD,cJ];grind
 have o01:bj (cX a b c d) (cQ a b c d) (cP a b c d) (cG a b c d) (cK a b c d) (cF a b c d)=0:=by simp only[bj,n4,cX,cQ,cP,cG,cK,cF,cE,cD,cJ];grind
 have o02:bj (cX a b c d) (cQ a b c d) (cP a b c d) (cE a b c d) (cD a b c d) (cJ a b c d)=0:=by simp only[bj,n4,cX,cQ,cP,cG,cK,cF,cE,cD,cJ];grind
 have o11:bj (cG a b c d) (cK a b c d) (cF a b c d) (cG a b c d) (cK a b c d) (cF a b c d)=n4 a b c d*n4 a b c d:=by simp only[bj,n4,cX,cQ,cP,cG,cK,cF,cE,cD,cJ];grind
 have o12:bj (cG a b c d) (cK a b c d) (cF a b c d) (cE a b c d) (cD a b c d) (cJ a b c d)=0:=by simp only[bj,n4,cX,cQ,cP,cG,cK,cF,cE,cD,cJ];grind
 have o22:bj (cE a b c d) (cD a b c d) (cJ a b c d) (cE a b c d) (cD a b c d) (cJ a b c d)=n4 a b c d*n4 a b c d:=by simp only[bj,n4,cX,cQ,cP,cG,cK,cF,cE,cD,cJ];grind
 have od:bj (cX a b c d) (cQ a b c d) (cP a b c d) ((cK a b c d)*(cJ a b c d)-(cF a b c d)*(cD a b c d)) ((cF a b c d)*(cE a b c d)-(cG a b c d)*(cJ a b c d)) ((cG a b c d)*(cD a b c d)-(cK a b c d)*(cE a b c d))=n4 a b c d*n4 a b c d*n4 a b c d:=by simp only[bj,n4,cX,cQ,cP,cG,cK,cF,cE,cD,cJ];grind
 rw[f0,f1,f2,f3,f4,f5,f6,f7,f8,f]at od
 rw[f0,f1,f2,f]at o00
 rw[f0,f1,f2,f3,f4,f5]at o01
 rw[f0,f1,f2,f6,f7,f8]at o02
 rw[f3,f4,f5,f]at o11
 rw[f3,f4,f5,f6,f7,f8]at o12
 rw[f6,f7,f8,f]at o22
 rw[nQ,Cv]at o00
 rw[nQ]at o01
 rw[nQ]at o02
 rw[nQ,Cv]at o11
 rw[nQ]at o12
 rw[nQ,Cv]at o22
 rw[Up,ap1]at od
 refine⟨nT g0 o00,nT g0 (by rw[o01];simp),nT g0 (by rw[o02];simp),nT g0 o11,nT g0 (by rw[o12];simp),nT g0 o22,?_⟩
 have e':=oX (aK3 (aK3 g0 g0) g0) od
 rw[e']
 have:=aK3 (aK3 hn hn) hn
 omega
theorem C9(p:Pm q.1 q.2.1 q.2.2.1 q.2.2.2):∃K:Int,(K=1\/K=2\/K=4)/\(tq q).low.n+(tq q).low.a+(tq q).low.e+(tq q).low.i=K*(q.1*q.1)/\(tq q).low.h-(tq q).low.f=K*(q.1*q.2.1)/\(tq q).low.c-(tq q).low.g=K*(q.1*q.2.2.1)/\(tq q).low.d-(tq q).low.b=K*(q.1*q.2.2.2)/\(tq q).low.n+(tq q).low.a-(tq q).low.e-(tq q).low.i=K*(q.2.1*q.2.1)/\(tq q).low.b+(tq q).low.d=K*(q.2.1*q.2.2.1)/\(tq q).low.c+(tq q).low.g=K*(q.2.1*q.2.2.2)/\(tq q).low.n-(tq q).low.a+(tq q).low.e-(tq q).low.i=K*(q.2.2.1*q.2.2.1)/\(tq q).low.f+(tq q).low.h=K*(q.2.2.1*q.2.2.2)/\(tq q).low.n-(tq q).low.a-(tq q).low.e+(tq q).low.i=K*(q.2.2.2*q.2.2.2):=by
 obtain⟨g,hg,cut,en,ho,hn,g1⟩:=iH q p
 have g0:0<g:=by omega
 obtain⟨f,f0,f1,f2,f3,f4,f5,f6,f7,f8⟩:=nM cut
 obtain⟨K,hK,gK⟩:∃K:Int,(K=1\/K=2\/K=4)/\g*K=4:=by
  rcases hg with rfl|rfl|rfl
  ·exact⟨4,by omega,by omega⟩
  ·exact⟨2,by omega,by omega⟩
  ·exact⟨1,by omega,by omega⟩
 generalize (tq q).low=T at *
 obtain⟨a,b,c,d⟩:=q
 simp only[n4,cX,cQ,cP,cG,cK,cF,cE,cD,cJ]at f f0 f1 f2 f3 f4 f5 f6 f7 f8
 have k:∀{x y:Int},g*x=4*y->x=K*y:=λh=>oX g0 (by rw[h,<- gK,aH2])
 clear gK
 clear cut en ho hn g1 hg
 refine⟨K,hK,?_,?_,?_,?_,?_,?_,?_,?_,?_,?_⟩<;>(apply k;clear k hK p;simp only[Int.mul_add,Int.mul_sub];grind)
theorem PZ{c:Expr}{p:Pos}{P:al->Prop}(aq:Nat->al->Prop)(h0:aq m ρ)(hm:m<cq)
  (step:∀m ρ,aq m ρ->∃b k,af (aH Φ c false sc ρ) (.bl b,k)/\(b=true->∃m' ρ2,m' < m/\af (aF Φ body sc ρ) (.nx ρ2)/\aq m' ρ2)) (rest:∀m ρ',aq m ρ'->(∃k,af (aH Φ c false sc ρ') (.bl false,k))->P ρ'):∃ρ',af (ga Φ (.While c body [] p) sc ρ) (.nx ρ')/\P ρ':=by
 obtain⟨m',ρ',h1,h2,h3⟩:=oF (test:=λρ=>(aH Φ c false sc ρ).bnd λp=>jE p λb=>.ok b []) (body:=aF Φ body sc) aq (λm ρ h=>by
  obtain⟨b,k,a1,a2⟩:=step m ρ h
  exact⟨b,a1.bnd (jD rfl dM),a2⟩) h0 hm
 obtain⟨q,h4,h5⟩:=az h3
 obtain⟨t,ht,h5⟩:=gW h5
 cases aQ h5
 obtain⟨q1,q2⟩:=q
 have ht:q1=.bl false:=ht
 subst ht
 exact⟨ρ',oS h1,rest m' ρ' h2 ⟨_,h4⟩⟩
theorem Rj{ps:List Str}(h:∃d,af (aF Φ body sc (de ps ds)) (.rt d)/\R d)(hl:ds.length=ps.length:=by rfl):∃d,af (bH Φ sc ps body ds) d/\R d:=let ⟨d,h1,h2⟩:=h;⟨d,bG h1 hl,h2⟩
theorem UG{ρ':al}{ss:List Stmt}(n:Nat)(h:af (aF Φ (ss.take n) sc ρ) (.nx ρ'))(h2:∃d,af (aF Φ (ss.drop n) sc ρ') (.rt d)/\R d):∃d,af (aF Φ ss sc ρ) (.rt d)/\R d:=let ⟨d,h1,h3⟩:=h2;⟨d,bV n h h1,h3⟩
theorem m9.pos{l r:V3}(h:m9 p l r M)(h1:0<pr p l)(h0:pr p r≠0):0<pr p r:=by
 obtain⟨s,a,b,ea,eb,hlt⟩:=h.sg
 cases s
 ·have:pr p r=(b:Int):=eb
  omega
 ·have:pr p l = -(a:Int):=ea
  omega
noncomputable abbrev rE(q:Qd):D:=rF q.1 q.2.1 q.2.2.1 q.2.2.2
noncomputable abbrev yj(q:Qd):Prop:=Pm q.1 q.2.1 q.2.2.1 q.2.2.2
theorem ac8(hq:sX q)(h:dF (2 ^ m) (kq k q)):k.natAbs<=2 ^ m:=by
 obtain⟨h1,h2,h3,h4⟩:=h
 have key:∀t:Int,t≠0->(k*t).natAbs<=2 ^ m->k.natAbs<=2 ^ m:=λt t0 ht=>by
  rw[aI5]at ht
  exact aF5 (Nat.le_mul_of_pos_right _ (by omega)) ht
 by_cases q1:q.1=0
 ·by_cases q2:q.2.1=0
  ·by_cases q3:q.2.2.1=0
   ·exact key _ (λq4=>hq ⟨q1,q2,q3,q4⟩) h4
   ·exact key _ q3 h3
  ·exact key _ q2 h2
 ·exact key _ q1 h1
theorem Lu(hk:k≠0)(h:dF (2 ^ m) (kq k q)):dF (2 ^ m) q:=by
 obtain⟨h1,h2,h3,h4⟩:=h
 have key:∀t:Int,(k*t).natAbs<=2 ^ m->t.natAbs<=2 ^ m:=λt ht=>by
  rw[aI5]at ht
  exact aF5 (Nat.le_mul_of_pos_left _ (by omega)) ht
 exact⟨key _ h1,key _ h2,key _ h3,key _ h4⟩
theorem MZ(hm:m<=999)(h:dF (2 ^ m) (kq k q)):okT (([k*q.1,k*q.2.1,k*q.2.2.1,k*q.2.2.2]:List Int).map D.int):=EU (m:=m) hm (by
 obtain⟨h1,h2,h3,h4⟩:=h
 intro t ht
 simp only[aF8,aG4,aI7]at ht
 rcases ht with rfl|rfl|rfl|rfl
 ·exact h1
 ·exact h2
 ·exact h3
 ·exact h4)
theorem pz(h:dF (2 ^ m) q):(tq q).bd (m+m+3):=by
 obtain⟨h1,h2,h3,h4⟩:=h
 exact EJ (m:=2 ^ m) (M:=2 ^ (m+m)) (by rw[aM9];exact aF9 _) (by rw[aM2,aM2,aM2];omega) h1 h2 h3 h4
end K
namespace Sp
open PySem PySem.Spec PyProof.Rows L2
end Sp
namespace K
open PySem L2 Sp Qm
variable{ws:List (List Nat)}{a b c d e f x y z:Int}{m n:Nat}

noncomputable instance eqT9:DecidableEq T9:=λa b=>decidable_of_iff (a.l=b.l) ⟨T9.ext,λh=>by rw[h]⟩
theorem xn:∀ws:List (List Nat),gR (ws.map λw=>D.str (sN w))=some (ws.map sN)
 | []=>rfl
 | w::ws=>by
  show(gR (ws.map λw=>D.str (sN w))).map (sN w :: ·)=_
  rw[xn ws];rfl
theorem Ar:∀{ws:List (List Nat)},(∀w∈ws,w.length<=43)->((ws.map sN).map λy=>y.length).sum<=43*ws.length
 | [],_=>aH5 _
 | w::ws,h=>by
  have h1:=h w aG0
  have h2:=Ar (ws:=ws) λv hv=>h v (aG1 _ hv)
  rw[aH8,aH8,List.sum_cons,ci,aG9]
  omega
theorem K0:Str.ofString " " = sN [32]:=by rw[gu];rfl
theorem vE(hn:ws.length<=100)(h:∀w∈ws,w.length<=43):af (nL (.str (Str.ofString " ")) [.lst (ws.map λw=>D.str (sN w))]) (.str (sN (jn ws)),0):=by
 have h1:=Ar h
 rw[K0]
 unfold nL
 dsimp only
 rw[xn]
 refine af.eq ⟨_,rfl,by rw[ci];decide,by rw[aH3];omega,True.intro⟩ ?_
 rw[xX]
theorem Bj:∀{ws:List (List Nat)},(∀w∈ws,w.length<=43)->(ws.flatMap λp=>32::p).length<=44*ws.length
 | [],_=>aH5 _
 | w::ws,h=>by
  have h1:=h w aG0
  have h2:=Bj (ws:=ws) λv hv=>h v (aG1 _ hv)
  rw[aN5,aI6,aG9,aG9]
  omega
theorem Fz(h:∀w∈ws,w.length<=43):(jn ws).length<=44*ws.length:=by
 cases ws with
 | nil=>exact aH5 _
 | cons w ws =>
  have h1:=h w aG0
  have h2:=Bj (ws:=ws) λv hv=>h v (aG1 _ hv)
  unfold jn
  rw[aI6,aG9]
  omega
theorem rK(h0:ws≠[])(hf:∀w∈ws,iN w)(hn:ws.length<=100)(h:∀w∈ws,w.length<=43):af (eN (.str (sN (jn ws))) [.str (Str.ofString " ")]) (.lst (ws.map λw=>D.str (sN w)),0):=by
 have hz:(sN (jn ws)).length<=1048576:=by rw[ci];have:=Fz h;omega
 have hb:((Str.ofString " ").length==0)=false:=by decide +kernel
 have e:(ws.map λw=>D.str (sN w))=(Txt.split (sN (jn ws)) (Str.ofString " ")).map D.str:=by rw[K0,u4 h0 hf,aN3];rfl
 rw[e]
 exact⟨_,rfl,hb,hz,True.intro⟩
theorem nv(i:Int):iN (bE i):=λh=>by rcases kF i 32 h with z|z<;>omega
noncomputable def cC(n:Int):D:=.str (sN (bE n))
theorem Ad:∀ns:List Int,aI (ns.map cC)=true
 | []=>rfl
 | n::ns=>by rw[aH8];exact Ad ns
theorem qj:∀ns:List Int,aI (ns.map D.int)=true
 | []=>rfl
 | n::ns=>by rw[aH8];exact qj ns
structure B4(a b c d e f x y z:Int):Prop where
 a0:0<a
 d0:0<d
 f0:0<f
 a1:a.natAbs<=2 ^ 150
 b1:b.natAbs<=2 ^ 150
 c1:c.natAbs<=2 ^ 150
 d1:d.natAbs<=2 ^ 150
 e1:e.natAbs<=2 ^ 150
 f1:f.natAbs<=2 ^ 150
 x1:x.natAbs<=2 ^ 600
 y1:y.natAbs<=2 ^ 600
 z1:z.natAbs<=2 ^ 600
theorem ml(hx:x.natAbs<=2 ^ m)(hy:y.natAbs<=2 ^ n):(x*y).natAbs<=2 ^ (m+n):=by rw[aI5,aM9];exact aJ6 hx hy
theorem sm(hx:x.natAbs<=2 ^ m)(hy:y.natAbs<=2 ^ n):(x-y).natAbs<=2 ^ (max m n+1)/\(x+y).natAbs<=2 ^ (max m n+1):=by
 have h1:2 ^ m<=2 ^ max m n:=aG8 (by decide) (by omega)
 have h2:2 ^ n<=2 ^ max m n:=aG8 (by decide) (by omega)
 rw[aM2]
 generalize 2 ^ max m n=M at *
 omega
theorem B4.all(h:B4 a b c d e f x y z):(a.natAbs<bW/\b.natAbs<bW/\c.natAbs<bW/\d.natAbs<bW/\e.natAbs<bW/\f.natAbs<bW)/\(x.fdiv a).natAbs<bW/\((y-b*x.fdiv a).fdiv d).natAbs<bW/\((z-c*x.fdiv a-e*(y-b*x.fdiv a).fdiv d).fdiv f).natAbs<bW:=by
 have t0:=aF5 (ip x h.a0) h.x1
 generalize x.fdiv a=s0 at *
 have y1:=(sm h.y1 (ml h.b1 t0)).1
 have z1:=(sm h.z1 (ml h.c1 t0)).1
 have t1:=aF5 (ip (y-b*s0) h.d0) y1
 generalize (y-b*s0).fdiv d=s1 at *
 have z2:=(sm z1 (ml h.e1 t1)).1
 have t2:=aF5 (ip (z-c*s0-e*s1) h.f0) z2
 exact⟨⟨ay h.a1 (by decide),ay h.b1 (by decide),ay h.c1 (by decide),ay h.d1 (by decide),ay h.e1 (by decide),ay h.f1 (by decide)⟩,ay t0 (by decide),ay t1 (by decide),ay t2 (by decide)⟩
theorem Il(ha:0<a)(hd:0<d)(hf:0<f):(ni a b c d e f (x,y,z)/\∃u v w,rM a b c d e f x y z=d3 u v w)\/(¬ ni a b c d e f (x,y,z)/\rM a b c d e f x y z=.non):=by
 by_cases h:ni a b c d e f (x,y,z)
 ·obtain⟨s,t,u,e1,e2,e3⟩:=h
  exact .inl ⟨⟨s,t,u,e1,e2,e3⟩,s,t,u,CH ha hd hf (by rw[aI2];exact e1) (by rw[aI2 b,aI2 d];exact e2) (by rw[aI2 c,aI2 e,aI2 f];exact e3)⟩
 ·refine .inr ⟨h,?_⟩
  unfold rM
  split
  ·rename_i h1
   split
   ·rename_i h2
    split
    ·rename_i h3
     refine absurd ⟨x.fdiv a,(y-b*x.fdiv a).fdiv d,(z-c*x.fdiv a-e*(y-b*x.fdiv a).fdiv d).fdiv f,?_,?_,?_⟩ h
     ·show x=x.fdiv a*a
      rw[aI2];omega
     ·show y=x.fdiv a*b+(y-b*x.fdiv a).fdiv d*d
      rw[aI2 _ b,aI2 _ d];omega
     ·show z=x.fdiv a*c+(y-b*x.fdiv a).fdiv d*e+(z-c*x.fdiv a-e*(y-b*x.fdiv a).fdiv d).fdiv f*f
      rw[aI2 _ c,aI2 _ e,aI2 _ f];omega
    ·rfl
   ·rfl
  ·rfl
theorem KK{T:T9}{m X Y Z g:Int}(P:Gq T x y z m X Y Z g):m=1↔St T (x,y,z):=by
 obtain⟨hg,hm,h1,en,ex,ey,ez⟩:=P
 constructor
 ·rintro rfl
  rw[aP8]at en
  exact⟨⟨X,by rw[en];exact ex⟩,⟨Y,by rw[en];exact ey⟩,⟨Z,by rw[en];exact ez⟩⟩
 ·rintro⟨a,b,c⟩
  have k:∀{u v:Int},T.n∣u->u=g*v->m∣v:=λh e=>by
   rw[e,en]at h
   exact Int.dvd_of_mul_dvd_mul_left (by omega) h
  have d1:m∣gI [m,X,Y,Z]:=jz λt ht=>by
   simp only[aF8,aG4,aI7]at ht
   rcases ht with rfl|rfl|rfl|rfl
   ·exact Int.dvd_refl _
   ·exact k a ex
   ·exact k b ey
   ·exact k c ez
  rw[h1]at d1
  exact Int.eq_one_of_dvd_one (by omega) d1
theorem MS{q:Qd}(p:yj q){k:Int}(hk:k=1\/k = -1)(p':yj (kq k (bar q))):(tq (kq k (bar q))).low=⟨(tq q).low.n,(tq q).low.a,(tq q).low.d,(tq q).low.g,(tq q).low.b,(tq q).low.e,(tq q).low.h,(tq q).low.c,(tq q).low.f,(tq q).low.i⟩:=by
 obtain⟨g,hg,cut,en,ho,hn,_⟩:=iH q p
 obtain⟨g',hg',cut',en',ho',hn',_⟩:=iH _ p'
 obtain⟨f,f0,f1,f2,f3,f4,f5,f6,f7,f8⟩:=nM cut
 obtain⟨F,F0,F1,F2,F3,F4,F5,F6,F7,F8⟩:=nM cut'
 have kk:k*k=1:=by rcases hk with rfl|rfl<;>rfl
 have raw:tq (kq k (bar q))=tq (bar q):=by
  have e1:tq (kq k (bar q))=(tq (bar q)).map (k*k * ·):=xl k (bar q)
  rw[e1,kk];unfold T9.map;simp only[Int.one_mul]
 have rn:(tq (kq k (bar q))).n=(tq q).n:=by rw[raw];simp only[tq,bar,n4];grind
 have en2:g'*(tq (kq k (bar q))).low.n=g*(tq q).low.n:=by rw[<- en',<- en,rn]
 have e2:∃i j:Nat,g'=2 ^ i/\g=2 ^ j:=by
  rcases hg with rfl|rfl|rfl<;>rcases hg' with rfl|rfl|rfl
  ·exact⟨0,0,rfl,rfl⟩
  ·exact⟨1,0,rfl,rfl⟩
  ·exact⟨2,0,rfl,rfl⟩
  ·exact⟨0,1,rfl,rfl⟩
  ·exact⟨1,1,rfl,rfl⟩
  ·exact⟨2,1,rfl,rfl⟩
  ·exact⟨0,2,rfl,rfl⟩
  ·exact⟨1,2,rfl,rfl⟩
  ·exact⟨2,2,rfl,rfl⟩
 obtain⟨i,j,ei,ej⟩:=e2
 have nn:(tq (kq k (bar q))).low.n=(tq q).low.n:=xH i j (by rw[<- ei,<- ej];exact en2) ho' ho
 have gg:g'=g:=by rw[nn]at en2;exact Int.eq_of_mul_eq_mul_right (by omega) en2
 subst gg
 have g0:0<g':=by omega
 have R:=aK4 T9.l raw
 simp only[T9.l,tq,List.cons.injEq,and_true]at R
 obtain⟨R,R0,R1,R2,R3,R4,R5,R6,R7,R8⟩:=R
 generalize (tq (kq k (bar q))).low=T' at *
 generalize (tq q).low=T at *
 obtain⟨a,b,c,d⟩:=q
 refine T9.ext ?_
 simp only[T9.l,List.cons.injEq,and_true]
 have c0:∀{x y u v:Int},u=g'*x->v=g'*y->u=v->x=y:=λh1 h2 h3=>oX g0 (by rw[<- h1,<- h2,h3])
 refine⟨nn,c0 F0 f0 ?_,c0 F1 f3 ?_,c0 F2 f6 ?_,c0 F3 f1 ?_,c0 F4 f4 ?_,c0 F5 f7 ?_,c0 F6 f2 ?_,c0 F7 f5 ?_,c0 F8 f8 ?_⟩
 ·rw[R0];simp only[bar,cX,cQ,cP,cG,cK,cF,cE,cD,cJ];grind
 ·rw[R1];simp only[bar,cX,cQ,cP,cG,cK,cF,cE,cD,cJ];grind
 ·rw[R2];simp only[bar,cX,cQ,cP,cG,cK,cF,cE,cD,cJ];grind
 ·rw[R3];simp only[bar,cX,cQ,cP,cG,cK,cF,cE,cD,cJ];grind
 ·rw[R4];simp only[bar,cX,cQ,cP,cG,cK,cF,cE,cD,cJ];grind
 ·rw[R5];simp only[bar,cX,cQ,cP,cG,cK,cF,cE,cD,cJ];grind
 ·rw[R6];simp only[bar,cX,cQ,cP,cG,cK,cF,cE,cD,cJ];grind
 ·rw[R7];simp only[bar,cX,cQ,cP,cG,cK,cF,cE,cD,cJ];grind
 ·rw[R8];simp only[bar,cX,cQ,cP,cG,cK,cF,cE,cD,cJ];grind

section
variable{Φ:Fx}{sc:Scope}{ρ:al}{ss:List Stmt}{P Q:al->Prop}
end
end K
namespace K
open PySem L2 Sp
variable{ws:List Str}
theorem Dq(c:Nat)(l:List Nat):Txt.slice (sN (c::l)) none (some 1)=sN [c]:=by
 have:=PyProof.Rows.slice_closes_to (x:=sN (c::l)) (j:=1) ⟨by decide,by rw[fG,aG9];omega⟩
 rw[fG]at this
 exact eq_of_beq this
theorem UI(l:List Nat):Txt.slice (sN l) (some 0) none=sN l:=by
 have hl:(sN l).length=l.length:=ci l
 have:=PyProof.Rows.slice_from_eq (x:=sN l) (i:=0) (b:=l.length) (by decide) (by rw[hl];omega) (by rw[hl])
 rw[fG]at this
 rw[this]
 show sN _=sN _
 congr 1
 simp
theorem Fh:∀{ws:List Str},(∀w∈ws,PyData.strOk w=true)->PyData.canLayAll0 (d9 (ws.map D.str))=true
 | [],_=>rfl
 | w::ws,h=>by rw[aH8,d9,PyData.canLayAll0,Fh λv hv=>h v (aG1 _ hv)];simp[D.py,PyData.canLay0,h w aG0]
theorem FO:∀ws:List Str,PyData.depthAll (d9 (ws.map D.str))=0
 | []=>by simp[d9,PyData.depthAll]
 | w::ws=>by rw[aH8,d9,PyData.depthAll,FO ws];simp[D.py,PyData.depth]
theorem QY(h:∀w∈ws,PyData.strOk w=true):SeqAt.shaped (D.lst (ws.map D.str)).py=true:=by
 unfold SeqAt.shaped
 rw[Bool.and_eq_true_iff]
 exact⟨by rw[D.py,PyData.canLay0];exact Fh h,by rw[D.py,PyData.depth,FO];rfl⟩
theorem FL:∀ws:List Str,PyData.eqvAll (d9 (ws.map D.str)) (d9 (ws.map D.str))=true
 | []=>rfl
 | w::ws=>by
  rw[aH8,d9,PyData.eqvAll,FL ws]
  show(eqD (.str w) (.str w)&&true)=true
  rw[vY];rfl
theorem IZ(h:∀w∈ws,PyData.strOk w=true):af (fQ .NotEq (.lst (ws.map D.str)) (.lst (ws.map D.str))) false:=by
 have e:eqD (.lst (ws.map D.str)) (.lst (ws.map D.str))=true:=by
  show PyData.eqv (D.lst (ws.map D.str)).py (D.lst (ws.map D.str)).py=_
  rw[D.py,PyData.eqv];exact FL ws
 exact af.eq (bv rfl (by exact⟨by unfold fP;rw[QY h];rfl,True.intro⟩)) (by rw[e];rfl)
theorem nH{Φ:Fx}{sc:Scope}{s:Stmt}{ss:List Stmt}{ρ ρ1:al}{P:al->Prop}(h1:af (ga Φ s sc ρ) (.nx ρ1))(h2:∃ρ2,af (aF Φ ss sc ρ1) (.nx ρ2)/\P ρ2):∃ρ2,af (aF Φ (s::ss) sc ρ) (.nx ρ2)/\P ρ2:=let ⟨ρ2,a,b⟩:=h2;⟨ρ2,aN h1 a,b⟩
theorem Np{a b:Nat}{M:Nat}(ha:a<M)(hb:b<M):Nat.gcd a b<M:=by
 rcases aL3 a with z|z
 ·subst z;rw[Nat.gcd_zero_left];exact hb
 ·exact aI1 (Nat.le_of_dvd z (Nat.gcd_dvd_left _ _)) ha
theorem NR(m:Nat):1<=(dC m).length:=by
 have:=qG m
 cases h:dC m with
 | nil=>exact absurd h this
 | cons a l=>simp
noncomputable def wN(s:String):List Nat:=s.toList.map Char.toNat
theorem wS(s:String):sN (wN s)=Str.ofString s:=(gu s).symm
theorem Fy(w:List Nat){ws:List (List Nat)}(h:ws≠[]):jn (w::ws)=w++(32::jn ws):=by
 cases ws with
 | nil=>exact absurd rfl h
 | cons a l=>show w++(32::a++_)=_;rfl
end K
namespace TS
open PySem PyProof.Rows
section
variable{M:Model}{A:Around}{E:Value->Shared->Prop}{s:Shared}
end
end TS
namespace TS
open PySem PyProof.Rows
section
variable{O:KeyOrd}(ky:Keyed->O.α)
end
section
variable{O:KeyOrd}{ky:Keyed->O.α}{T out A B X:List Keyed}
end
end TS
namespace TS
open PySem PyProof.Rows
section
variable{O:KeyOrd}{ky:Keyed->O.α}{M:Model}{A:Around}{E:Value->Shared->Prop}{s:Shared}{U:List Keyed}{kd:SortKind}
variable{T:List Keyed}{a b o:Array Keyed}{i j:Nat}
end
end TS
namespace TS
open PySem PyProof.Rows
section
variable{O:KeyOrd}{ky:Keyed->O.α}{M:Model}{A:Around}{E:Value->Shared->Prop}{s:Shared}{U:List Keyed}{kd:SortKind}
variable{T:List Keyed}{a b o:Array Keyed}{m n:Nat}
end
end TS
namespace TS
open PySem PyProof.Rows
end TS
namespace TS
open PySem PyProof.Rows
section
variable{O:KeyOrd}{ky:Keyed->O.α}{prog:Program}{w:World}{A:Around}{E:Value->Shared->Prop}{s:Shared}{kd:SortKind}{a₀:Array Keyed}{p:Array (Nat×Nat×Nat)}
end
end TS
namespace TS
open PySem PyProof.Rows
section
variable{O:KeyOrd}{ky:Keyed->O.α}
variable{prog:Program}{w:World}{A:Around}{E:Value->Shared->Prop}{s:Shared}{kd:SortKind}{a₀:Array Keyed}{p:Array (Nat×Nat×Nat)}
end
end TS
namespace TS
open PySem PyProof.Rows
section
variable{O:KeyOrd}{ky:Keyed->O.α}{prog:Program}{w:World}{A:Around}{E:Value->Shared->Prop}{s:Shared}{kd:SortKind}{a₀:Array Keyed}{p:Array (Nat×Nat×Nat)}
end
end TS
namespace Sp
open PySem PySem.Spec PyProof.Rows L2
open PySem.W (KatLex KatTups kat_kind kat_lt)
variable{ow:Ow}{H H' H0:Hp}{σ:L2.St}{ρ ρ1:al}{C a d f x:Addr}{K:W.Frag}{vs:List V}{body ss:List Stmt}{st:Stmt}{P:Program}{w:World}{mg:Str->Option Value}{kvs:List (bM×V)}{e:Expr}{i k kk:Nat}{ap cp p p1 p2 p4 pos q:Pos}{X:Cx}{base:Heap}{f1 g line m n qual s0 t xd y:Str}{fd:FuncData}{o:Obj}{pins:List (Addr×Obj)}{s:Shared}{Φ:Fx}{F:List D->Rs D}{ps:List Str}{es:List Expr}{sc:Scope}{fl:Fl}{ds:List D}{Wt:Addr->List bM->List (List Int)->Str->Str->List Int->Prop}{ks:List bM}{v:V}{ns:List Int}{ts:List (List Int)}{r:D}
section
variable{prog:Program}{A:Around}{E:Value->Shared->Prop}
end
noncomputable abbrev gQ(ns:List Int):D:=.tup (ns.map D.int)
theorem cz.same{K:W.Frag}{H H':Hp}(s:aL H H'):∀{bs:List V} {nss:List (List Int)},cz K H bs nss->cz K H' bs nss
 | [],[],_=>trivial
 | v::bs,ns::nss,h=>by
  obtain⟨a,e,hq,hn⟩:=h.1
  refine⟨⟨a,e,?_,hn⟩,cz.same s h.2⟩
  rcases hq with(h|⟨o,h⟩)|h
  ·exact .inl (.inl (s _ _ h))
  ·exact .inl (.inr ⟨o,s _ _ h⟩)
  ·exact .inr h
 | [],_::_,h=>h.elim
 | _::_,[],h=>h.elim
noncomputable def Sh(ρ:al):Prop:=∀x d o,ρ x=some (d,o)->o=false
theorem oU{ow':Ow}(hs:Sh ρ)(E:aR X ow H σ ρ)(k:bJ ow H ow' H')(o:fy ow' H'):aR X ow' H' σ ρ :=
 ⟨λx d o h=>by
  cases hs x d o h
  obtain⟨i,v,e1,e2,e3,e4⟩:=E.get x d false h
  exact⟨i,v,e1,e2,e3,e4.mono ⟨λa o ha hn=>k.keep a o ha (.inl hn),λa o ha p=>k.keep a o ha (.inr (p rfl)),λa o ha p _=>k.low a o ha (p rfl),λa p z=>by cases z⟩⟩,o⟩
noncomputable abbrev GJ:=Ow->L2.St->Hp->Prop
noncomputable def tX(X:Cx)(H0:Hp)(ρ:al)(J:GJ)(ρ':al)(J':GJ):TS:=λD σ H => ∃ow,aR X ow H σ ρ/\σ.length=X.N.length/\cA H0 ow H/\J ow σ H/\∀ow' σ' H',aR X ow' H' σ' ρ'->σ'.length=X.N.length->bJ ow H ow' H'->J' ow' σ' H'->D.nx σ' H'
theorem Az{x:Str}{d:D}(h:Sh ρ):Sh (bF ρ x (d,false)):=λy e o hy=>by
 rw[dr]at hy
 by_cases z:y=x
 ·rw[if_pos z]at hy;cases hy;rfl
 ·rw[if_neg z]at hy;exact h y e o hy
variable{J J':GJ}
theorem ny{o o':HO}(ha:H a=some o)(ho:¬ nm o){b:Addr}(h:ck K H b vs):ck K (bo H a o') b vs:=by
 have ne:∀{u:HO},H b=some u->nm u->b≠a:=λhb hn z=>by subst z;rw[ha]at hb;cases hb;exact ho hn
 rcases h with(h|⟨p,h⟩)|h
 ·exact .inl (.inl (by rw[aK (ne h True.intro)];exact h))
 ·exact .inl (.inr ⟨p,by rw[aK (ne h True.intro)];exact h⟩)
 ·exact .inr h
theorem pK(s:aL H H')(h:ck K H a vs):ck K H' a vs:=by
 rcases h with(h|⟨o,h⟩)|h
 ·exact .inl (.inl (s _ _ h))
 ·exact .inl (.inr ⟨o,s _ _ h⟩)
 ·exact .inr h
theorem x8{ρ':al}(h:∀y p,ρ y=some p->ρ' y=some p)(E:aR X ow H σ ρ'):aR X ow H σ ρ:=⟨λx d o hx=>E.get x d o (h x _ hx),E.own⟩
theorem KB{ρ2:al}(h:∀y p,ρ2 y=some p->ρ1 y=some p)(g:eT X ss (tX X H0 ρ J ρ1 J')):eT X ss (tX X H0 ρ J ρ2 J'):=λpins s σ H D I ⟨ow,E,hl,B,j,q⟩ =>
 g pins s σ H D I ⟨ow,E,hl,B,j,λow' σ' H' E'=>q ow' σ' H' (x8 h E')⟩
theorem L7{t:TS}(h:PS X st t):eT X [st] t:=du h rO
noncomputable def pv(P:Program)(w:World)(K:W.Frag)(mg:Str->Option Value)(d:Str)(kvs:List (Str×List Str)):Prop:=∃a,mg d=some (.ref a)/\(a==sysModules)=false/\(d==("__debug__" : Str))=false/\(∃o,K.lookup a=some o/\o.cls=.type "dict" /\ o.dict=none)/\∀h:Heap,K.In h->∃f,Heap.MapOf (strKind P w) h a f/\∀x,(kvs.lookup x=none->f x=none)/\∀ws,kvs.lookup x=some ws->∃b,f x=some (.ref b)/\∀H P,aj K H P (.tup (ws.map D.str)) (.ref b)
noncomputable def qE(P:Params):List (Str×Value)->List Tok->List DictEntry
 | (x,v)::l,t::ts=>⟨PyData.keyHash P x,.str x t,v⟩::qE P l ts
 | _,_=>[]
theorem ye{P:Program}{w:World}:∀(l:List (Str×Value)) (ts:List Tok),∀e∈qE w.params l ts,∃k,(strKind P w).is k e.key=true/\e.hash=(strKind P w).hash k
 | (x,i)::l,t::ts,e,h=>by
  rcases aF8.mp h with rfl|h
  ·exact⟨x,by show Value.isStrOf x (.str x t)=true;simp[Value.isStrOf],rfl⟩
  ·exact ye l ts e h
 | [],_,e,h=>by unfold qE at h;cases h
 | _::_,[],e,h=>by unfold qE at h;cases h
theorem yf{P:Params}:∀(l:List (Str×Value)) (ts:List Tok) (x:Str),l.length=ts.length->((qE P l ts).find? (λe=>Value.isStrOf x e.key)).map (·.val)=l.lookup x
 | [],[],x,_=>rfl
 | (y,v)::l,t::ts,x,hl=>by
  have ih:=yf (P:=P) l ts x (by simpa using hl)
  have hd:Value.isStrOf x (.str y t)=decide (y=x):=by
   by_cases e:y=x
   ·subst e;rw[aI4 rfl];simp[Value.isStrOf]
   ·rw[aH6 e];simp[Value.isStrOf,e]
  rw[aG6,qE,aQ0,hd]
  by_cases e:y=x
  ·subst e
   rw[beq_self_eq_true,aI4 rfl];rfl
  ·have eb:(x==y)=false:=by
    rw[aL8];exact λz=>e z.symm
   rw[eb,aH6 e]
   exact ih
 | [],_::_,x,hl=>by cases hl
 | _::_,[],x,hl=>by cases hl
noncomputable def GA(K:W.Frag):List (Str×List Str)->List (Str×Value)->Prop
 | [],[]=>True
 | (x,ws)::l,(y,v)::r=>x=y/\(∃b,v=.ref b/\∀H P,aj K H P (.tup (ws.map D.str)) (.ref b))/\GA K l r
 | _,_=>False
theorem GA.look{x:Str}:∀{l:List (Str×List Str)} {r:List (Str×Value)},GA K l r->(l.lookup x=none->r.lookup x=none)/\∀ws,l.lookup x=some ws->∃b,r.lookup x=some (.ref b)/\∀H P,aj K H P (.tup (ws.map D.str)) (.ref b)
 | [],[],_=>⟨λ_=>rfl,λ_ h=>by cases h⟩
 | (y,ws)::l,(y',v)::r,h=>by
  obtain⟨rfl,⟨b,rfl,hb⟩,h3⟩:=h
  obtain⟨i1,i2⟩:=h3.look (x:=x)
  rw[aG6,aG6]
  cases e:x==y with
  | true=>exact⟨λz=>(by cases z),λws' z=>by cases z;exact⟨b,rfl,hb⟩⟩
  | false=>exact⟨i1,i2⟩
 | [],_::_,h=>h.elim
 | _::_,[],h=>h.elim
theorem Uc{d:Str}{kvs:List (Str×List Str)}{r:List (Str×Value)}{ts:List Tok}{n:Nat}(hm:mg d=some (.ref a))(hs:(a==sysModules)=false)(hd:(d==("__debug__" : Str))=false)(hl:r.length=ts.length)(hv:GA K kvs r)
  (hk:K.lookup a=some { cls:=.type "dict", dict:=none,data:=.dict (qE w.params r ts).toArray n,slots:=#[] }):pv P w K mg d kvs:=by
 refine⟨a,hm,hs,hd,⟨_,hk,rfl,rfl⟩,λh X=>⟨λx=>findBy (strKind P w).is (qE w.params r ts).toArray x,⟨_,_,n,X a _ hk,⟨rfl,rfl,rfl⟩,rfl,λe he=>ye r ts e (by simpa using he),λ_=>rfl⟩,λx=>?_⟩⟩
 have e0:findBy (strKind P w).is (qE w.params r ts).toArray x=r.lookup x:=by
  rw[<- yf (P:=w.params) r ts x hl]
  show Option.map _ (Array.find? _ _)=_
  rw[List.find?_toArray]
  rfl
 dsimp only
 rw[e0]
 exact hv.look
theorem JT{x d:Str}{kvs:List (Str×List Str)}(D0:pv X.prog X.w X.K X.mg d kvs)(hg:Gl X d)(he:ED X ρ e (.str x) k)(hst:∀y p,e ≠ .Starred y p)(hln:(ap.endLine==cp.line)=true)(hb:attributeBase (.Name d p) "get" X.env (eval (.Name d p) X.env)=eval (.Name d p) X.env) :
  ED X ρ (.Call (.Attribute (.Name d p) "get" ap) [e] [] cp) (match kvs.lookup x with|some ws=>.tup (ws.map D.str)|none=>.non) 0:=by
 obtain⟨a,hm,hs',hdb,⟨o,ho,hoc,hod⟩,hf⟩:=D0
 have n1:=bC (env:=X.env) (es:=[]) hst
 intro ow pins s σ H Q I ⟨E,q⟩
 refine wpAny_Call_method_late hb (by rw[lj (λz hz=>by rw[aJ8.mp hz];exact hst)];rfl) hln rfl (bu (xD (v:=.ref a) hg hm rfl hdb pins s σ H (λv H1=>v=.ref a/\H1=H) I ⟨rfl,rfl⟩) λv s1 ⟨z,H1,I1,r1,e1,e2⟩=>?_)
 subst e1 e2
 cases r1
 have hka:=I1.kIn a _ ho
 refine⟨"dict", "dict.get", PySem.F.plainAttrs_dict,PySem.F.slot_dict_get,PySem.F.type_dict_get,⟨o,hka,hoc⟩,λb eb=>by cases eb;exact⟨o,hka,hod⟩,?_⟩
 have hA:=gN he mX n1 ow cp pins s1 σ H1 (λvs H2=>vs=[.str x]/\aL H1 H2) I1 ⟨E,λvs H2 s2 r2=>by
  obtain⟨v,rfl,r⟩:=r2.only
  rw[aj]at r
  exact⟨by rw[r],s2⟩⟩
 rw[n1]at hA⊢
 refine Calls.callWith_builtin rfl (Calls.evalArgs_plain ?_)
 refine bu hA λus s2 ⟨vs,H2,I2,r2,e3,sm⟩=>?_
 subst e3
 obtain⟨u,rfl,t,rfl⟩:=d7 r2
 obtain⟨f,mo,hx⟩:=hf s2.heap I2.kIn
 have hka2:=I2.kIn a _ ho
 refine call_meetsIn PySem.F.slot_dict_get ⟨o,hka2,hoc⟩ PySem.F.entry_dict_get (PySem.F.args_dict_get_2 _ _) (meets_dict_get (strKind X.prog X.w) (k:=x) a (by show Value.isStrOf x (.str x t)=true;simp[Value.isStrOf]) hs') ⟨_,mo,?_⟩
 cases z:kvs.lookup x with
 | none =>
  rw[(hx x).1 z]
  exact⟨.non,H2,I2.tok _,rfl,q _ _ sm (by rw[z,aj])⟩
 | some ws =>
  obtain⟨b,h1,h2⟩:=(hx x).2 ws z
  rw[h1]
  exact⟨.ref b,H2,I2.tok _,rfl,q _ _ sm (by rw[z];exact h2 _ _)⟩
theorem CO:PE X (.Dict [] [] pos) (λ_ H Q => ∀d,H d=none->Q (.ref d) (bo H d (.dK []))):=by
 intro pins s σ H Q I q
 exact wpAny_Dict_empty ⟨.ref s.heap.objs.size,_,I.laid (t':=s.toks) (o:=.dK []) (λb ob q=>aF6 _ q) (aF9 _) ⟨aH5 _,aL8.mpr (aL1 (modules_low I.nolimit)),[],.nil,Heap.DictOf.new _⟩,rfl,q _ (I.hok.fresh (aF9 _))⟩
noncomputable def Aw(K:W.Frag)(f:Str):Sp:=λvs H Q _ => ∃x C dx,vs=[.ref x]/\H x=some (.ins C dx [])/\eV K C/\cr K C f/\∀d,H d=none->Q .non (bo (bo H d (.dK [])) x (.ins C dx [(f,.ref d)]))
theorem JW(Fn:iT K g qual st f fd)
  (hN:ao (ae st)=[s0]) (S:au (ao (ae st)) [s0] (ae st)) (hv:eB (ae st) s0) (hok:fH s0=true)
  (hb:ai st=[.Assign [.Attribute (.Name s0 p1) f1 p2] (.Dict [] [] q) p4]):bT P w K mg base df 1 f fd [s0] (Aw K f1):=by
 refine Fn.ok (k:=0) S (λvs H Q E h=>?_) (λcdv A outer s H vs Q E hr h=>?_)
 ·obtain⟨x,C,dx,rfl,_⟩:=h;rfl
 ·obtain⟨x,C,dx,rfl,hx,hc,hn,q⟩:=h
  have nm:PE (iq df P w K mg base (ao (ae st)) qual (ae st) f cdv A outer s H E).nox (.Name s0 p1) (mm 0):=gU (by show(ao (ae st))[0]?=some s0;rw[hN];rfl) hv (dw hok).1 (dw hok).2
  rw[hb]
  refine⟨_,nE (pT nm CO rfl),?_⟩
  rw[hN]
  refine λd hd=>⟨.ref x,rfl,x,C,dx,[],rfl,?_,hc,hn,by decide,?_⟩
  ·rw[aK (λz=>by subst z;rw[hd]at hx;cases hx)];exact hx
  ·exact q d hd
theorem Do{h:Heap}(ok:fB P w H h)(hd:H d=some (.frz o (.dK kvs))):fB P w (bo H d (.dK kvs)) h:=by
 have nt:∀b xs,H b=some (.tup xs)->bo H d (.dK kvs) b=some (.tup xs):=λb xs e=>by rw[aK (λz=>by subst z;rw[hd]at e;cases e)];exact e
 have no:∀b c,H b=some (.own c)->bo H d (.dK kvs) b=some (.own c):=λb c e=>by rw[aK (λz=>by subst z;rw[hd]at e;cases e)];exact e
 intro b u q
 by_cases z:b=d
 ·subst z
  rw[aU]at q
  cases q
  obtain⟨_,x⟩:=(show dn P w H h b (.frz o (.dK kvs))from ok b _ hd)
  exact dn.stay x (λc v _ e=>e) (λc e=>no c b e) nt
 ·rw[aK z]at q
  exact dn.stay (ok b u q) (λc v _ e=>e) (λc e=>no c b e) nt
theorem Df(I:aq X pins σ H s)(hd:H d=some (.frz o (.dK kvs)))(h0:∀o u,X.H₀ d≠some (.frz o u)):aq X pins σ (bo H d (.dK kvs)) s:=by
 have ne:∀b,H b=none->bo H d (.dK kvs) b=none:=λb e=>by rw[aK (λz=>by subst z;rw[hd]at e;cases e)];exact e
 have nd:∀b u,H b=some u->(∀o u',u ≠ .frz o u')->bo H d (.dK kvs) b=some u:=λb u e h=>by rw[aK (λz=>by subst z;rw[hd]at e;cases e;exact h _ _ rfl)];exact e
 refine⟨I.ok,I.os,I.bare,⟨I.base.keep,I.base.slot,λb o e n hx=>ne b (I.base.free b o e n hx),I.base.there,λb xs e=>nd b _ (I.base.tups b xs e) (λ_ _ z=>nomatch z),λb o u e=>?_,λb ps e=>?_⟩,I.loc,I.cell,ne _ I.free,λx c e=>ne _ (I.freeC x c e),λp hp=>?_,Do I.hok hd,I.len⟩
 ·rw[aK (λz=>by subst z;exact h0 _ _ e)];exact I.base.frzs b o u e
 ·obtain⟨m,e'⟩:=I.base.tbls b ps e
  exact⟨m,nd b _ e' (λ_ _ z=>nomatch z)⟩
 ·obtain⟨a,b,c⟩:=I.pin p hp
  exact⟨a,ne _ b,c⟩
theorem qh(I:aq X pins σ H s)(hd:H d=some (.dK kvs)):∃o,aq X pins σ (bo H d (.frz o (.dK kvs))) s:=by
 obtain⟨z1,z2,ws,z3,oo,es,ep,eo,z4⟩:=(show dn X.prog X.w H s.heap d (.dK kvs)from I.hok d _ hd)
 exact⟨oo,I.write (t':=s.toks) (x:=d) (e:=d) (h':=s.heap) (by rw[hd];exact True.intro) (.inl rfl) (λb u _ q=>q) ⟨_,eo⟩ (show dn X.prog X.w (bo H d (.frz oo (.dK kvs))) s.heap d (.frz oo (.dK kvs))from⟨eo,z1,z2,ws,z3,oo,es,ep,eo,z4⟩)⟩
noncomputable def Cw(K:W.Frag)(f1:Str)(F:List D->Rs D):Sp:=λvs H Q _ => ∃x w t C dx d kvs ns r,vs=[.ref x,.str w,.ref t]/\H x=some (.ins C dx [(f1,.ref d)])/\eV K C/\cr K C f1/\H d=some (.dK kvs)/\ck K H t (ns.map V.int)/\kvs.length<sizeLine/\af (F [gQ ns]) r /\
 ∀v H',aL (bo H d (.dK (gG kvs (.inr w) (.ref t)))) H'->aj K H' (λa b=>b=true/\bo H d (.dK (gG kvs (.inr w) (.ref t))) a=none) r v->Q v H'
theorem Tu{R:Stmt}(Fn:iT K g qual st f fd){w0 t0:Str}{p3 p5 p6:Pos}
  (hN:ao (ae st)=[s0,w0,t0]) (S:au (ao (ae st)) [s0,w0,t0] (ae st)) (hv:∀x∈[s0,w0,t0],eB (ae st) x) (hok:∀x∈[s0,w0,t0],fH x=true) (hΦ:ld P w K mg base k Φ)
  (hb:ai st=[.Assign [.Subscript (.Attribute (.Name s0 p1) f1 p2) (.Name w0 p3) p4] (.Name t0 p5) p6,R])
  (hR:∀ns r,af (F [gQ ns]) r->af (aF Φ [R] (ae st) (aS [(t0,gQ ns,false)])) (.rt r)) :
  bT P w K mg base df (k+1) f fd [s0,w0,t0] (Cw K f1 F):=by
 refine Fn.ok S (λvs H Q E h=>?_) (λcdv A outer s H vs Q E hr h=>?_)
 ·obtain⟨x,w',t,C,dx,d,kvs,ns,r,rfl,_⟩:=h;rfl
 ·obtain⟨x,w',t,C,dx,d,kvs,ns,r,rfl,hx,hc,hn,hd,ht,hz,hF,q⟩:=h
  have G:=gL (outer:=outer) (H:=H) (E:=E) S hΦ hr
  have nm:∀(i:Nat) (x:Str) (p:Pos),[s0,w0,t0][i]?=some x->PE (iq df P w K mg base (ao (ae st)) qual (ae st) f cdv A outer s H E).nox (.Name x p) (mm i):=λi x p hi =>
   gU (by show(ao (ae st))[i]?=some x;rw[hN];exact hi) (hv x (aK2 hi)) (dw (hok x (aK2 hi))).1 (dw (hok x (aK2 hi))).2
  have sR:=kT (H0:=bo H d (.dK (gG kvs (.inr w') (.ref t)))) _ (hR ns r hF) G aM6
  rw[hb]
  refine⟨_,du (mC (nm 2 t0 p5 rfl) (AO (AR (nm 0 s0 p1 rfl) rfl) (nm 1 w0 p3 rfl) CA λ_=>rfl) sS rfl rfl) sR,?_⟩
  rw[hN]
  refine⟨.ref t,rfl,.ref x,rfl,x,C,dx,_,.ref d,rfl,hx,hc,hn,?_,.str w',rfl,d,kvs,.inr w',rfl,rfl,hd,hz,?_⟩
  ·simp
  ·have tu:ck K (bo H d (.dK (gG kvs (.inr w') (.ref t)))) t (ns.map V.int):=ny hd (λz=>z) ht
   refine⟨λ_=>none,⟨λy e o hy=>?_,λa ha=>absurd rfl ha⟩,rfl,λa o h=>⟨h,rfl⟩,λv H' sm rp=>q v H' sm rp⟩
   unfold aS at hy
   split at hy
   ·rename_i e0
    have e0:y=t0:=e0
    subst e0
    cases hy
    exact⟨2,.ref t,rfl,hv _ (by simp),rfl,by rw[aj];exact⟨t,_,rfl,tu,am.ofInts⟩⟩
   ·cases hy
noncomputable def tE(X:Cx)(H0:Hp)(ρ:al)(T:jL->Prop):TS:=λD σ H => ∃ow,aR X ow H σ ρ/\σ.length=X.N.length/\cA H0 ow H/\T D
theorem xA{Φ:Fx}{sc:Scope}{H0:Hp}{T:jL->Prop}{rest:List Stmt}(hT:∀(D:jL) g,T D->T { D with nx:=g })(G:bA Φ X sc)(hp:PassesOwn (model X.prog X.w) X.A X.env X.xe):∀{pre:List Stmt} {ρ ρ1:al},af (aF Φ pre sc ρ) (.nx ρ1)->eT X rest (tE X H0 ρ1 T)->eT X (pre++rest) (tE X H0 ρ T)
 | [],ρ,ρ1,h,k=>by cases aQ h;exact k
 | st::ss,ρ,ρ1,h,k=>by
  obtain⟨f1,h1,h2⟩:=az (show af (Rs.bnd _ _) _ from h)
  cases f1 with
  | nx ρ' =>
   intro pins s σ H D I ⟨ow,E,hl,B,t⟩
   exact du ((kO Φ _).s st (aJ1 _) h1 G hp) (xA hT G hp h2 k) pins s σ H D I ⟨ow,E,hl,B,λow' σ' H' E' hl' k'=>⟨ow',E',hl',B.keep k',t⟩⟩
  | rt d=>cases aQ h2
  | bk ρ'=>cases aQ h2
  | ct ρ'=>cases aQ h2
theorem CM{CX:jW}{sp:Sp}{E:XK}{o:Expr}{apos:Pos}{ta:TE}{t:TA}{pl:Sem Bool}(he:PE X o ta)(c:eV X.K C)(hm:jJ X.K C m f)(F:bT X.prog X.w X.K X.mg X.base CX k f fd ps sp)(hr:cw k X.A)(hb:cx X.K fd ps [])(hx:gf CX X E)(ha:PA X (e::es) t)
  (hst:starEach (e::es) X.env=(false,eval e X.env)::starEach es X.env) (hpl:(backTo pos (starEach es X.env)).any (·.1)=false)
  (ht:eval (.Call (.Attribute o m apos) (e::es) [] pos) X.env=(do
   let ov <- eval o X.env
   standAt apos.atName
   let (f,first) <- holding [ov] (getMethod ov m pl)
   callWith pos f first (backTo pos (starEach (e::es) X.env)) (backToKw pos (keywordEach [] X.env)))) :
  PE X (.Call (.Attribute o m apos) (e::es) [] pos) (λσ H Q=>ta σ H λx H1 => ∃a dx fs,x=.ref a/\H1 a=some (.ins C dx fs)/\fs.lookup m=none/\t σ H1 λvs H2 => ∃d o kvs,H2 d=some (.frz o (.dK kvs))/\(∀o u,X.H₀ d≠some (.frz o u))/\sp (.ref a::vs) (bo H2 d (.dK kvs)) Q E):=by
 intro pins s σ H Q I h
 refine W.methodCall_KW (pl:=pl) (bu (he pins s σ H _ I h) λu s1 ⟨x,H1,I1,rx,a,dx,fs,ex,ea,l,q⟩=>?_) ht
 subst ex
 obtain rfl:u=Value.ref a:=rx
 refine lB I1 ea c hm l ?_
 refine W.callWith_K (first:=[.ref a]) (h₀:=X.base) I.ok.mod.kin hm.kp (bu (ha pos pins s1 σ H1 _ I1 q) λus s2 ⟨vs,H2,I2,r,d,o,kvs,hd,h0,q2⟩=>⟨I2.kIn,?_⟩) hst hpl
 have:=kI (us:=.ref a::us) (vs:=.ref a::vs) (dvs:=[]) (ds:=[]) F hr hb .nil hx (Df I2 hd h0) (.cons rfl r) (by rw[aK7];exact q2)
 exact this
noncomputable def Go(Φ:Fx)(sc:Scope)(ps:List Str)(ss:List Stmt)(ds:List D)(r:D):Prop:=ds.length=ps.length/\∀(X:Cx) (H0:Hp),bA Φ X sc->PassesOwn (model X.prog X.w) X.A X.env X.xe->fI X H0 (de ps ds) ss (.rt r)
theorem JH(Fn:iT K g qual st f fd)
  (S:au (ao (ae st)) ps (ae st)) (hΦ:ld P w K mg base k Φ) (hrun:∀ds r,af (F ds) r->Go Φ (ae st) ps (ai st) ds r):bT P w K mg base df (k+1) f fd ps (jO K F):=by
 refine Fn.ok S (λvs H Q E h=>?_) (λcdv A outer s H vs Q E hr h=>?_)
 ·obtain⟨ds,r,l,h1,h2,hp,_⟩:=h
  rw[<- h1.length]
  exact(hrun ds r ⟨l,h2,hp⟩).1
 ·obtain⟨ds,r,l,h1,h2,hp,qq⟩:=h
  obtain⟨hl,hr'⟩:=hrun ds r ⟨l,h2,hp⟩
  have G:=gL (outer:=outer) (H:=H) (E:=E) S hΦ hr
  obtain⟨E0,hsl⟩:=jy (P:=P) (w:=w) (mg:=mg) (base:=base) (qual:=qual) (f:=f) (cdv:=cdv) (A:=A) (outer:=outer) (s:=s) (E:=E) S h1 hl
  have B0:cA H (λ_=>none) H:=λa o h=>⟨h,rfl⟩
  exact⟨_,hr' _ H G aM6,λ_=>none,E0,hsl,B0,λv H' sm rp=>qq v H' sm rp⟩
theorem xp(n:Nat)(G:bA Φ X sc)(hp:PassesOwn (model X.prog X.w) X.A X.env X.xe)(h:af (aF Φ (ss.take n) sc ρ) (.nx ρ1))(k:fI X H0 ρ1 (ss.drop n) fl):fI X H0 ρ ss fl:=by
 rw[<- List.take_append_drop n ss];exact xq G hp h k
theorem Vu(h:af (cZ Φ es sc ρ) (ds,k))(G:bA Φ X sc):AD X ρ es ds k:=let ⟨_,a,b⟩:=h;qB es a b G
theorem jT{d:D}(h:af (aH Φ e false sc ρ) (d,k))(G:bA Φ X sc):ED X ρ e d k:=(eM h G).ed rfl
noncomputable def Av(K:W.Frag)(n f1:Str)(F:List D->Rs D)(Wt:Addr->List bM->List (List Int)->Str->Str->List Int->Prop):Sp:=λvs H Q _ => ∃x line C dx d ks ts us w ns r,vs=[.ref x,.str line]/\H x=some (.ins C dx [(f1,.ref d)])/\W.nsIn K mainGlobals n=some (some (.ref C))/\eV K C/\cr K C f1/\ks.length=ts.length/\H d=some (.dK (ks.zip us))/\cz K H us ts/\ks.length<sizeLine/\Wt d ks ts line w ns/\af (F [gQ ns]) r /\
 ∀v H' t,(∀b o,b≠d->H b=some o->H' b=some o)->H' d=some (.dK (gG (ks.zip us) (.inr w) (.ref t)))->ck K H' t (ns.map V.int)->aj K H' (λa b=>b=true/\H a=none) r v->Q v H'
theorem P3{k':Nat}{f':Addr}{fd':FuncData}(Fn:iT K g qual st f fd){l0 mk:Str}{ps':List Str}{pre rest:List Stmt}{cond a1 a2:Expr}{q1 q2:Pos}
  (S:au (ao (ae st)) [s0,l0] (ae st)) (hok:fH s0=true) (hΦ:ld P w K mg base k Φ)
  (hb:ai st=pre ++ .If cond [.Return (some (.Call (.Attribute (.Name s0 p1) mk ap) [a1,a2] [] cp)) q1] [] q2::rest)
  (hs1:∀y p,a1 ≠ .Starred y p) (hs2:∀y p,a2 ≠ .Starred y p) (hmk:mk≠f1) (hln:(ap.endLine==cp.line)=true)
  (kp:bT P w K mg base df k' f' fd' ps' (Cw K f1 F)) (hk':k'<=k) (hm:∀C,W.nsIn K mainGlobals n=some (some (.ref C))->jJ K C mk f') (hbi:cx K fd' ps' [])
  (hW:∀d ks ts line w ns,Wt d ks ts line w ns->∃ρ k1 k2,af (aF Φ pre (ae st) (de [s0,l0] [.obj n [f1] [.dft d ks ts],.str line])) (.nx ρ)/\af (aH Φ cond false (ae st) ρ) (.bl true,k1)/\af (cZ Φ [a1,a2] (ae st) ρ) ([.str w,gQ ns],k2)/\ρ s0=some (.obj n [f1] [.dft d ks ts],false)) :
  bT P w K mg base df (k+1) f fd [s0,l0] (Av K n f1 F Wt):=by
 refine Fn.ok S (λvs H Q E h=>?_) (λcdv A outer s H vs Q E hr h=>?_)
 ·obtain⟨x,line,C,dx,d,ks,ts,us,w',ns,r,rfl,_⟩:=h;rfl
 ·obtain⟨x,line,C,dx,d,ks,ts,us,w',ns,r,rfl,hx,hC,hc,hn,hl,hd,hT,hz,hw,hF,q⟩:=h
  obtain⟨ρ,k1,k2,r1,r2,r3,r4⟩:=hW d ks ts line w' ns hw
  have G:=gL (outer:=outer) (H:=H) (E:=E) S hΦ hr
  have nxd:x≠d:=λz=>by subst z;rw[hx]at hd;cases hd
  refine⟨λD σ' H'=>σ'=start (ao (ae st)) [.ref x,.str line]/\H'=H/\∀v H',Q v H'->D.rt v H',?_,rfl,rfl,λv H' h=>h⟩
  rw[hb]
  intro pins s' σ' H' D I ⟨e1,e2,hD⟩
  subst e1 e2
  obtain⟨o,I1⟩:=qh I hd
  have s01:∀b u,b≠d->H' b=some u->bo H' d (.frz o (.dK (ks.zip us))) b=some u:=λb u hb e=>by rw[aK hb];exact e
  have tq:∀a vs,ck K H' a vs->ck K (bo H' d (.frz o (.dK (ks.zip us)))) a vs:=λa vs h=>ny hd (λz=>z) h
  have hrep:am K (bo H' d (.frz o (.dK (ks.zip us)))) (λ_ _=>True) [.obj n [f1] [.dft d ks ts],.str line] [.ref x,.str line]:=am.cons (by
   rw[aj]
   refine⟨rfl,rfl,x,C,dx,[.ref d],rfl,hC,hc,s01 x _ nxd hx,am.cons ?_ am.nil⟩
   rw[aj]
   exact⟨⟨hl,rfl⟩,d,o,us,rfl,aU,hT.keep tq⟩) (am.cons (by rw[aj]) am.nil)
  obtain⟨E0,hsl⟩:=jy (P:=P) (w:=w) (mg:=mg) (base:=base) (qual:=qual) (f:=f) (cdv:=cdv) (A:=A) (outer:=outer) (s:=s) (E:=E) S hrep rfl
  have E1:aR (iq df P w K mg base (ao (ae st)) qual (ae st) f cdv A outer s H' E).nox (λ_=>none) (bo H' d (.frz o (.dK (ks.zip us)))) (start (ao (ae st)) [.ref x,.str line]) (de [s0,l0] [.obj n [f1] [.dft d ks ts],.str line]):=⟨E0.get,E0.own⟩
  refine xA (T:=λD => ∀v H2,Q v H2->D.rt v H2) (λD g h=>h) G aM6 r1 ?_ pins s' _ _ D I1 ⟨λ_=>none,E1,hsl,λa o h=>⟨h,rfl⟩,hD⟩
  intro pins s2 σ H2 D I2 ⟨ow,E2,hl2,B,hT2⟩
  obtain⟨i,v,gi,gv,gs,gr⟩:=E2.get s0 _ _ r4
  rw[aj]at gr
  obtain⟨_,_,x',C',dx',vs',rfl,hC',hc',hx',rl⟩:=gr
  obtain⟨v2,rfl,ry⟩:=rl.only
  rw[aj]at ry
  obtain⟨⟨_,rfl⟩,_⟩:=ry
  have eC:C'=C:=by
   have:=hC.symm.trans hC'
   injection this with this
   injection this with this
   injection this with this
   exact this.symm
  subst eC
  have bd:H2 d=some (.frz o (.dK (ks.zip us))):=(B d _ aU).1
  have pn:PE (iq df P w K mg base (ao (ae st)) qual (ae st) f cdv A outer s H' E).nox (.Name s0 p1) (mm i):=gU gi gv (dw hok).1 (dw hok).2
  have tdc:=(eM r2 G).td rfl true rfl
  have ada:=Vu r3 G
  have pc:=CM (apos:=ap) (pos:=cp) (pl:=_) pn hc (hm _ hC) (kp.mono hk') hr hbi iA (ada ow) (bC hs1) (dP λz hz=>by rw[aJ8.mp hz];exact hs2) (um (o:=.Name s0 p1) (name:=mk) (apos:=ap) (pos:=cp) (args:=[a1,a2]) (base_of rfl) (iO (λz hz=>by
   rcases aF8.mp hz with rfl|hz
   ·exact hs1
   ·rw[aJ8.mp hz];exact hs2) (show 2<29 by decide)) hln)
  refine du (ue (tdc ow) (du (pS pc) fZ) fZ) fZ pins s2 σ H2 D I2 ⟨E2,λH3 s3=>?_⟩
  show if true=true then _ else _
  rw[if_pos rfl]
  refine⟨.ref x',gs,x',dx',[(f1,.ref d)],rfl,s3 _ _ hx',?_,E2.same s3,λvs H4 s4 rv=>?_⟩
  ·rw[aG6,show(mk==f1)=false from aL8.mpr hmk];rfl
  ·rw[am]at rv
   obtain⟨v1,vs',rfl,ra,rv⟩:=rv
   obtain⟨v2,rfl,rb⟩:=rv.only
   rw[aj]at ra
   subst ra
   have rb:=rb
   unfold gQ at rb
   rw[aj]at rb
   obtain⟨t,tv,rfl,tq',rli⟩:=rb
   have etv:=sV rli
   subst etv
   have hd4:H4 d=some (.frz o (.dK (ks.zip us))):=s4 _ _ (s3 _ _ bd)
   have hx4:H4 x'=some (.ins C' dx' [(f1,.ref d)]):=s4 _ _ (s3 _ _ hx')
   have nx':x'≠d:=λz=>by subst z;rw[hx4]at hd4;cases hd4
   have tq5:ck K (bo H4 d (.dK (ks.zip us))) t (ns.map V.int):=by
    rcases tq' with(h|⟨o2,h⟩)|h
    ·exact .inl (.inl (by rw[aK (λz=>by subst z;rw[hd4]at h;cases h)];exact h))
    ·exact .inl (.inr ⟨o2,by rw[aK (λz=>by subst z;rw[hd4]at h;cases h)];exact h⟩)
    ·exact .inr h
   have kept:∀b ob,b≠d->H' b=some ob->H4 b=some ob:=λb ob hb e=>s4 _ _ (s3 _ _ (B b _ (s01 b ob hb e)).1)
   refine⟨d,o,ks.zip us,hd4,λo' u z=>?_,x',w',t,C',dx',d,ks.zip us,ns,r,rfl,by rw[aK nx'];exact hx4,hc,hn,aU,tq5,?_,hF,λv H5 s5 rp=>hT2 v H5 (q v H5 t (λb ob hb e=>s5 _ _ (by rw[aK hb,aK hb];exact kept b ob hb e)) (s5 _ _ aU) (pK s5 (ny (show bo H4 d (.dK (ks.zip us)) d=some (.dK (ks.zip us))from aU) (λz=>z) tq5)) (rp.imp λa b pp=>⟨pp.1,?_⟩))⟩
   ·have z:H' d=some (.frz o' u):=z
    rw[hd]at z;cases z
   ·rw[List.length_zip];exact aI1 (Nat.min_le_left _ _) hz
   ·have p2:=pp.2
    have nad:a≠d:=λz=>by subst z;rw[aU]at p2;cases p2
    rw[aK nad,aK nad]at p2
    cases e:H' a with
    | none=>rfl
    | some ob=>rw[kept a ob nad e]at p2;cases p2
theorem uR{K:W.Frag}{H:Hp}{v:V}{ns:List Int}(hv:∃a,v=.ref a/\ck K H a (ns.map V.int)/\ns≠[]):∀{us:List V} {ts:List (List Int)},cz K H us ts->cz K H (us++[v]) (ts++[ns])
 | [],[],_=>⟨hv,trivial⟩
 | _::_,_::_,h=>⟨h.1,uR hv h.2⟩
 | [],_::_,h=>h.elim
 | _::_,[],h=>h.elim
theorem uQ{K:W.Frag}{H:Hp}{k:bM}{v:V}{ns:List Int}(hv:∃a,v=.ref a/\ck K H a (ns.map V.int)/\ns≠[]):∀{ks:List bM} {us:List V} {ts:List (List Int)},cz K H us ts->cz K H (List.zipWith (λj e=>if j=k then v else e) ks us) (List.zipWith (λj e=>if j=k then ns else e) ks ts)
 | [],us,ts,_=>by rw[List.zipWith_nil_left,List.zipWith_nil_left];trivial
 | j::ks,[],[],_=>trivial
 | j::ks,u::us,t::ts,h=>by
  rw[List.zipWith_cons_cons,List.zipWith_cons_cons]
  refine⟨?_,uQ hv h.2⟩
  by_cases e:j=k
  ·rw[if_pos e,if_pos e];exact hv
  ·rw[if_neg e,if_neg e];exact h.1
 | j::ks,[],_::_,h=>h.elim
 | j::ks,_::_,[],h=>h.elim
theorem BY{k:bM}{us:List V}(hv:∃a,v=.ref a/\ck K H a (ns.map V.int)/\ns≠[])(h:cz K H us ts):cz K H (g8 ks us k v) (g8 ks ts k ns):=by
 unfold g8
 cases fO ks k with
 | true=>exact uQ hv h
 | false=>exact uR hv h
theorem Jl{α:Type}{k:bM}{ts:List α}{a:α}(h:ks.length=ts.length):(lK ks k).length=(g8 ks ts k a).length:=by
 unfold lK g8
 cases fO ks k with
 | true=>show ks.length=(List.zipWith _ ks ts).length;rw[List.length_zipWith,<- h,Nat.min_self]
 | false=>show(ks++[k]).length=(ts++[a]).length;rw[aI6,aI6,h];rfl
noncomputable def eU(X:Cx)(n f1:Str)(i:Nat)(x d:Addr)(ks:List bM)(ts:List (List Int)):GJ:=λow σ H => ∃C dx us,σ[i]?=some (some (.ref x))/\H x=some (.ins C dx [(f1,.ref d)])/\W.nsIn X.K mainGlobals n=some (some (.ref C))/\eV X.K C/\cr X.K C f1/\ks.length=ts.length/\H d=some (.dK (ks.zip us))/\cz X.K H us ts/\ow d=some none
theorem eU.same(s:aL H H')(h:eU X n f1 i x d ks ts ow σ H):eU X n f1 i x d ks ts ow σ H':=by
 obtain⟨C,dx,us,h1,h2,h3,h4,h5,h6,h7,h8,h9⟩:=h
 exact⟨C,dx,us,h1,s _ _ h2,h3,h4,h5,h6,s _ _ h7,h8.keep λa vs z=>pK s z,h9⟩
theorem IK{w:Str}
  (hx:X.N[i]?=some xd) (hv:eB X.env.scope xd) (hok:fH xd=true) (hm:∀C,W.nsIn X.K mainGlobals n=some (some (.ref C))->jJ X.K C m f) (hmf:m≠f1) (Ft:bT X.prog X.w X.K X.mg X.base df kk f fd ps (Av X.K n f1 F Wt)) (hr:cw kk X.A) (hb:cx X.K fd ps []) (hs:∀y p,e ≠ .Starred y p) (hln:(ap.endLine==cp.line)=true)
  (sh:Sh ρ) (he:ED X ρ e (.str line) k) (hz:ks.length<sizeLine) (hn:ns≠[]) (hW:Wt d ks ts line w ns) (hF:af (F [gQ ns]) r) :
  ∀C,W.nsIn X.K mainGlobals n=some (some (.ref C))->eV X.K C->PE X (.Call (.Attribute (.Name xd p) m ap) [e] [] cp) (λσ H Q=>aR X ow H σ ρ/\eU X n f1 i x d ks ts ow σ H/\∀v H',aR X ow H' σ ρ->bJ ow H ow H'->eU X n f1 i x d (lK ks (.inr w)) (g8 ks ts (.inr w) ns) ow σ H'->aj X.K H' (λa b=>b=true/\H a=none) r v->Q v H'):=by
 intro C hC hc
 have pn:PE X (.Name xd p) (mm i):=gU hx hv (dw hok).1 (dw hok).2
 have ht:=um (o:=.Name xd p) (name:=m) (apos:=ap) (pos:=cp) (args:=[e]) (env:=X.env) (base_of rfl) (iO (λz hz=>by rw[aJ8.mp hz];exact hs) (show 1<29 by decide)) hln
 refine bS (xC pn hc (hm C hC) Ft hr hb .nil iA (gN he mX (bC hs) ow) (bC hs) rfl ht) λσ H Q ⟨E,⟨C',dx,us,j1,j2,j3,j4,j5,j6,j7,j8,j9⟩,q⟩=>?_
 have eC:C'=C:=by
  have:=hC.symm.trans j3
  injection this with this
  injection this with this
  injection this with this
  exact this.symm
 subst eC
 refine⟨.ref x,j1,x,dx,[(f1,.ref d)],rfl,j2,by rw[aG6,show(m==f1)=false from aL8.mpr hmf];rfl,E,λvs H2 s2 rv=>?_⟩
 obtain⟨v1,rfl,ra⟩:=rv.only
 rw[aj]at ra
 subst ra
 refine⟨x,line,C',dx,d,ks,ts,us,w,ns,r,rfl,s2 _ _ j2,hC,hc,j5,j6,s2 _ _ j7,j8.keep λa vs z=>pK s2 z,hz,hW,hF,λv H' t kept hd' htq rp=>?_⟩
 have E2:=E.same s2
 have kp:bJ ow H2 ow H':=⟨λb u hb c=>kept b u (λz=>by
  subst z
  rw[s2 _ _ j7]at hb
  cases hb
  rcases c with c|c
  ·exact c
  ·rw[j9]at c;cases c) hb,λ_ _ _ h=>h⟩
 have oi:fy ow H':=λb hb=>by
  by_cases z:b=d
  ·subst z;exact⟨_,hd'⟩
  ·obtain⟨o,ho⟩:=E2.own b hb
   exact⟨o,kept b o z ho⟩
 have lu:ks.length=us.length:=j6.trans j8.len.symm
 have kt:∀a vs,ck X.K H2 a vs->ck X.K H' a vs:=λa vs h=>by
  rcases h with(h|⟨o,h⟩)|h
  ·exact .inl (.inl (kept a _ (λz=>by subst z;rw[s2 _ _ j7]at h;cases h) h))
  ·exact .inl (.inr ⟨o,kept a _ (λz=>by subst z;rw[s2 _ _ j7]at h;cases h) h⟩)
  ·exact .inr h
 refine q v H' (oU sh E2 kp oi) ((bJ.same s2).trans kp) ⟨C',dx,g8 ks us (.inr w) (.ref t),j1,kept x _ (λz=>by subst z;rw[j2]at j7;cases j7) (s2 _ _ j2),j3,j4,j5,Jl j6,?_,BY ⟨t,rfl,htq,hn⟩ ((j8.keep λa vs z=>pK s2 z).keep kt),j9⟩ (rp.imp λa b pp=>⟨pp.1,s2.free pp.2⟩)
 rw[GM lu];exact hd'
theorem KN(nd:X.N.Nodup)(hx:X.N[i]?=some xd)(hv:eB X.env.scope xd)(sh:Sh ρ)(h:fI X H0 (bF ρ xd (.obj n [f1] [.dft d ks ts],false)) ss fl) :
  eT X ss (λD σ H => ∃ow,aR X ow H σ ρ/\σ.length=X.N.length/\cA H0 ow H/\eU X n f1 i x d ks ts ow σ H/\ph X H0 ow H fl D):=by
 intro pins s σ H D I ⟨ow,E,hl,B,⟨C,dx,us,j1,j2,j3,j4,j5,j6,j7,j8,j9⟩,q⟩
 obtain⟨o,I1⟩:=qh I j7
 let ow':Ow:=λb=>if b=d then none else ow b
 have w1:ow' d=none:=if_pos rfl
 have w2:∀b,b≠d->ow' b=ow b:=λb hb=>if_neg hb
 have nxd:x≠d:=λz=>by subst z;rw[j2]at j7;cases j7
 have kp:bJ ow H ow' (bo H d (.frz o (.dK (ks.zip us)))):=⟨λb u hb c=>by
  rw[aK (λz=>by
   subst z
   rw[j7]at hb
   cases hb
   rcases c with c|c
   ·exact c
   ·rw[j9]at c;cases c)]
  exact hb,λb u _ hb=>by
   by_cases z:b=d
   ·rw[z];exact w1
   ·rw[w2 b z];exact hb⟩
 have oi:fy ow' (bo H d (.frz o (.dK (ks.zip us)))):=λb hb=>by
  by_cases z:b=d
  ·exact absurd (by rw[z];exact w1) hb
  ·rw[w2 b z]at hb
   rw[aK z]
   exact E.own b hb
 have E1:=oU sh E kp oi
 have tk:∀a vs,ck X.K H a vs->ck X.K (bo H d (.frz o (.dK (ks.zip us)))) a vs:=λa vs h=>ny j7 (λz=>z) h
 refine h pins s σ _ D I1 ⟨ow',⟨λy e b hy=>?_,oi⟩,hl,B.keep kp,q.keep kp⟩
 rw[dr]at hy
 by_cases z:y=xd
 ·rw[if_pos z]at hy
  cases hy
  subst z
  refine⟨i,.ref x,hx,hv,j1,?_⟩
  rw[aj]
  refine⟨rfl,rfl,x,C,dx,[.ref d],rfl,j3,j4,by rw[aK nxd];exact j2,am.cons ?_ am.nil⟩
  rw[aj]
  exact⟨⟨j6,rfl⟩,d,o,us,rfl,aU,j8.keep tk⟩
 ·rw[if_neg z]at hy
  exact E1.get y e b hy
theorem HP(G:bA Φ X sc)(hx:eI sc xd=true)(hρ:ρ xd=none)(sh:Sh ρ)(M:Mk X.K C f)(Fi:bT X.prog X.w X.K X.mg X.base df kk f fd ps (Aw X.K f1))(hr:cw (kk+1) X.A)(hb:cx X.K fd ps [])(hg:Gl X n)(hm:X.mg n=some (.ref C))(hdb:(n==("__debug__" : Str))=false)
  (hC:W.nsIn X.K mainGlobals n=some (some (.ref C))) (hc:eV X.K C) (hn:cr X.K C f1) :
  PS X (.Assign [.Name xd p] (.Call (.Name n q) [] [] cp) pos) (λD σ H => ∃ow,aR X ow H σ ρ/\σ.length=X.N.length/\cA H0 ow H/\∀i x d ow' σ' H',X.N[i]?=some xd->eB X.env.scope xd->aR X ow' H' σ' ρ->σ'.length=X.N.length->bJ ow H ow' H'->eU X n f1 i x d [] [] ow' σ' H'->D.nx σ' H'):=by
 obtain⟨g1,g2,g3,i,g4⟩:=f9 G hx
 intro pins s σ H D I ⟨ow,E,hl,B,qq⟩
 refine AI (i:=i) G.nd g4 g1 (vq M Fi hr hg hm hb .nil iA hdb) (jY rfl) g3 pins s σ H D I (λx dx hx0 hdx0 hne=>⟨x,C,dx,rfl,aU,hc,hn,λd hd=>⟨rfl,?_⟩⟩)
 have nx:x≠dx:=aO8 hne
 have hdx:d≠x:=λz=>by rw[z,aU]at hd;cases hd
 rw[aK hdx]at hd
 have hddx:d≠dx:=λz=>by rw[z,aU]at hd;cases hd
 rw[aK hddx]at hd
 generalize hH1:bo (bo (bo (bo H dx (.own x)) x (.ins C dx [])) d (.dK [])) x (.ins C dx [(f1,.ref d)])=H1
 have e1:H1 x=some (.ins C dx [(f1,.ref d)]):=by rw[<- hH1];exact aU
 have e2:H1 d=some (.dK []):=by rw[<- hH1,aK hdx];exact aU
 have e3:∀b u,H b=some u->H1 b=some u:=λb u hb=>by
  rw[<- hH1,aK (λz=>by subst z;rw[hx0]at hb;cases hb),aK (λz=>by subst z;rw[hd]at hb;cases hb),aK (λz=>by subst z;rw[hx0]at hb;cases hb),aK (λz=>by subst z;rw[hdx0]at hb;cases hb)]
  exact hb
 let ow':Ow:=λb=>if b=d then some none else ow b
 have w1:ow' d=some none:=if_pos rfl
 have w2:∀b,b≠d->ow' b=ow b:=λb hb=>if_neg hb
 have kp:bJ ow H ow' H1:=⟨λb u hb _=>e3 b u hb,λb u hb h=>by rw[w2 b (λz=>by subst z;rw[hd]at hb;cases hb)];exact h⟩
 have oi:fy ow' H1:=λb hb=>by
  by_cases z:b=d
  ·rw[z];exact⟨_,e2⟩
  ·rw[w2 b z]at hb
   obtain⟨o,ho⟩:=E.own b hb
   exact⟨o,e3 b o ho⟩
 have E1:=oU sh E kp oi
 show D.nx (σ.set i (some (.ref x))) H1
 refine qq i x d ow' (σ.set i (some (.ref x))) H1 g4 g2 ⟨λy e b hy=>?_,oi⟩ (by rw[aJ9];exact hl) kp ⟨C,dx,[],by rw[List.getElem?_set_self (by have:=(aI3.mp g4).1;omega)],e1,hC,hc,hn,rfl,e2,trivial,w1⟩
 obtain⟨j,v,y1,y2,y3,y4⟩:=E1.get y e b hy
 refine⟨j,v,y1,y2,?_,y4⟩
 rw[aO7 (λz=>by subst z;rw[g4]at y1;cases y1;rw[hρ]at hy;cases hy)]
 exact y3
theorem uV{K:W.Frag}{H:Hp}{P:bU}:∀ws:List Str,am K H P (ws.map D.str) (ws.map V.str)
 | []=>am.nil
 | w::ws=>am.cons (by rw[aj]) (uV ws)
theorem cS{c:Addr}{ss:Array (Option Value)}{nn:Nat}{its:Array Value}{ws:List Str}(hl:K.lookup c=some ⟨.type "tuple", none,.seq its nn,ss⟩)(hz:its.size<=sizeLine)(hv:bi (ws.map V.str) its.toList):∀H P,aj K H P (.tup (ws.map .str)) (.ref c) :=
 λH P=>by rw[aj];exact⟨c,_,rfl,.inr ⟨_,its,nn,hl,rfl,rfl,rfl,hz,hv⟩,uV ws⟩
noncomputable abbrev Em:=Str->Option (List (Str×List Str))
noncomputable def rf(Φ:Fx)(Δ:Em)(sc:Scope)(ps:List Str)(ss:List Stmt)(ds:List D)(r:D):Prop:=ds.length=ps.length/\∀(X:Cx) (H0:Hp),bA Φ X sc->PassesOwn (model X.prog X.w) X.A X.env X.xe->(∀d kvs,Δ d=some kvs->pv X.prog X.w X.K X.mg d kvs)->fI X H0 (de ps ds) ss (.rt r)
theorem Dv{Δ:Em}(Fn:iT K g qual st f fd)
  (S:au (ao (ae st)) ps (ae st)) (hΦ:ld P w K mg base k Φ) (hD:∀d kvs,Δ d=some kvs->pv P w K mg d kvs) (hrun:∀ds r,af (F ds) r->rf Φ Δ (ae st) ps (ai st) ds r):bT P w K mg base df (k+1) f fd ps (jO K F):=by
 refine Fn.ok S (λvs H Q E h=>?_) (λcdv A outer s H vs Q E hr h=>?_)
 ·obtain⟨ds,r,l,h1,h2,hp,_⟩:=h
  rw[<- h1.length]
  exact(hrun ds r ⟨l,h2,hp⟩).1
 ·obtain⟨ds,r,l,h1,h2,hp,qq⟩:=h
  obtain⟨hl,hr'⟩:=hrun ds r ⟨l,h2,hp⟩
  have G:=gL (outer:=outer) (H:=H) (E:=E) S hΦ hr
  obtain⟨E0,hsl⟩:=jy (P:=P) (w:=w) (mg:=mg) (base:=base) (qual:=qual) (f:=f) (cdv:=cdv) (A:=A) (outer:=outer) (s:=s) (E:=E) S h1 hl
  have B0:cA H (λ_=>none) H:=λa o h=>⟨h,rfl⟩
  exact⟨_,hr' _ H G aM6 hD,λ_=>none,E0,hsl,B0,λv H' sm rp=>qq v H' sm rp⟩
theorem Nw{l:List (Str×List (Str×List Str))}(h:∀q∈l,pv P w K mg q.1 q.2):∀d kvs,(λd:Str=>l.lookup d) d=some kvs->pv P w K mg d kvs:=λd kvs e=>by
 have:l.lookup d=some kvs:=e
 exact h (d,kvs) (aH0 this)
noncomputable def KD(X:Cx)(ow:Ow)(ρ:al)(J J':GJ)(r:D):TE:=λσ H Q=>aR X ow H σ ρ/\J ow σ H/\∀v H',aR X ow H' σ ρ->bJ ow H ow H'->J' ow σ H'->aj X.K H' (λa b=>b=true/\H a=none) r v->Q v H'
theorem I0(ho:fP (.str t) (.str t)=true):fQ .NotEq (.str t) (.str t)=.ok false [fP (.str t) (.str t)=true]/\aT [fP (.str t) (.str t)=true]:=by
 have e:eqD (.str t) (.str t)=true:=by show PyData.eqv (.str t) (.str t)=true;simp[PyData.eqv]
 refine⟨?_,ho,trivial⟩
 show Rs.ok (!eqD (.str t) (.str t)) _=_
 rw[e];rfl
theorem Aq{a b:Expr}(hu:X.A.units+70<cLine)(ht:fP (.str t) (.str t)=true)(ha:∀ow,PE X a (KD X ow ρ J J' (.str t)))(hb:ED X ρ b (.str t) k)(hJs:∀ow σ H H',aL H H'->J' ow σ H->J' ow σ H') :
  PS X (.If (.Compare a [.NotEq] [b] p2) body [] pos) (tX X H0 ρ J ρ J'):=by
 intro pins s σ H D I ⟨ow,E,hl,B,j,q⟩
 obtain⟨h1,h2⟩:=I0 ht
 have c:=jB (X:=X) hu h1 h2
 refine ue (Ir (c (λa b=>b=true/\H a=none) (λ_ _=>True)) (ha ow) (hb ow) (Mw b)) fZ rO pins s σ H D I ⟨E,j,λv H1 E1 k1 j1 r1=>⟨E1,λw H2 s2 r2=>⟨r1.same s2,r2.imp λ_ _ _=>trivial,false,rfl,?_⟩⟩⟩
 show if false=true then _ else _
 rw[if_neg aH9]
 exact q ow σ H2 (E1.same s2) hl (k1.trans (bJ.same s2)) (hJs _ _ _ _ s2 j1)
theorem pF{a:Expr}(hs:swapsWith a none pos.line X.env=pure false)(ha:∀ow,PE X a (KD X ow ρ J J' r)):PS X (.Expr a pos) (tX X H0 ρ J ρ J'):=by
 intro pins s σ H D I ⟨ow,E,hl,B,j,q⟩
 exact kJ (ha ow) hs pins s σ H D I ⟨E,j,λv H1 E1 k1 j1 r1=>q ow σ H1 E1 hl k1 j1⟩
theorem HQ{x:Str}{n1:Nat}{px py tp:Pos}{iter:Expr}{Jn:Nat->GJ}(G:bA Φ X sc)(hp:PassesOwn (model X.prog X.w) X.A X.env X.xe)(hx:eI sc x=true)(hy:eI sc y=true)
  (hi:IE X ρ (.Tuple [.Name x px,.Name y py] n1 tp) iter ds k) (hk:k<=1) (hstep:∀i d,ds[i]?=some d->∃d1 d2,d=.tup [d1,d2]/\d1.lless=true/\d2.lless=true/\eT X body (tX X H0 (bF (bF ρ x (d1,false)) y (d2,false)) (Jn i) ρ (Jn (i+1))))
  (hJs:∀i ow σ H H',aL H H'->Jn i ow σ H->Jn i ow σ H') (hJx:∀i ow σ H v j,(X.N[j]?=some x\/X.N[j]?=some y)->Jn i ow σ H->Jn i ow (σ.set j (some v)) H) (hs:∀x,foldedSetIterable iter X.env x=pure x):PS X (.For (.Tuple [.Name x px,.Name y py] n1 tp) iter body [] pos) (tX X H0 ρ (Jn 0) ρ (Jn ds.length)):=by
 intro pins s σ H D0 I ⟨ow,E,hl,B,j0,q⟩
 obtain⟨g1,g2,g3,ix,g4⟩:=f9 G hx
 obtain⟨y1,y2,y3,iy,y4⟩:=f9 G hy
 have pb:eT X body (λD σ H => ∃i d1 d2,ds[i]?=some (.tup [d1,d2])/\tX X H0 (bF (bF ρ x (d1,false)) y (d2,false)) (Jn i) ρ (Jn (i+1)) D σ H):=λpins s σ H D I ⟨i,d1,d2,h1,h2⟩=>by
  obtain⟨e1,e2,he,_,_,hb⟩:=hstep i _ h1
  cases he
  exact hb pins s σ H D I h2
 refine AJ hp G.calm (hi ow) (pU (n:=2) G.calm (jk (il (i:=ix) G.nd g4 g1 g3) (jk (il (i:=iy) G.nd y4 y1 y3) rP rfl) rfl) rfl rfl) pb hs pins s σ H D0 I ⟨E,λJ H1 s1 itd=>?_⟩
 refine⟨λi m σ' H'=>m=ds.length-i/\i<=ds.length/\∃ow',aR X ow' H' σ' ρ/\σ'.length=X.N.length/\cA H0 ow' H'/\bJ ow H1 ow' H'/\Jn i ow' σ' H',
  ⟨ds.length,by simp,aH5 _,ow,E.same s1,hl,B.keep (bJ.same s1),bJ.refl _ _,hJs _ _ _ _ _ s1 j0⟩,?_⟩
 rintro i m σ' H' ⟨rfl,hile,ow',E',hl',B',k',jf⟩
 have st:fR (Kd ow H k H1) (Kd ow H k H1) H1 H':=⟨λa o ha hn=>k'.keep a o ha (.inl hn),λa vs ha p=>k'.keep a _ ha (.inr (iJ E.own hk p.1)),λ_ _ _ p=>p,λ_ p=>p⟩
 have it:=itd i H' st
 by_cases hlt:i<ds.length
 ·obtain⟨go,yl⟩:=it.1 ds[i] (aH7 hlt)
  refine .inr ⟨go,λσ2 H2=>i+1<=ds.length/\∃ow2,aR X ow2 H2 σ2 ρ/\σ2.length=X.N.length/\cA H0 ow2 H2/\bJ ow H1 ow2 H2/\Jn (i+1) ow2 σ2 H2,λσ2 H2 n=>⟨ds.length-(i+1),by omega,rfl,n.1,n.2⟩,λv H3 y3=>?_⟩
  obtain⟨sm3,rx⟩:=yl v H3 y3
  obtain⟨d1,d2,hd,l1,l2,_⟩:=hstep i _ (aH7 hlt)
  rw[hd,aj]at rx
  obtain⟨a,vs,rfl,hq,rl⟩:=rx
  rw[am]at rl
  obtain⟨v1,vr,rfl,r1,rl⟩:=rl
  obtain⟨v2,rfl,r2⟩:=rl.only
  have k3:bJ ow' H' ow' H3:=bJ.same sm3
  have hl2:(σ'.set ix (some v1)).length=X.N.length:=by rw[aJ9];exact hl'
  refine⟨a,[v1,v2],rfl,hq,rfl,v1,[v2],rfl,v2,[],rfl,rfl,i,d1,d2,by rw[aH7 hlt,hd],ow',fL G.nd hl2 (fL G.nd hl' (E'.same sm3) g4 g2 (r1.flat _ l1)) y4 y2 (r2.flat _ l2),by rw[aJ9];exact hl2,B'.keep k3,hJx i ow' _ H3 v2 iy (.inr y4) (hJx i ow' σ' H3 v1 ix (.inl g4) (hJs _ _ _ _ _ sm3 jf)),λow2 σ3 H4 a b c d=>⟨hlt,ow2,a,b,(B'.keep k3).keep c,k'.trans (k3.trans c),d⟩⟩
 ·have ei:i=ds.length:=by omega
  subst ei
  exact .inl ⟨it.2 (aF9 _),q ow' σ' H' E' hl' ((bJ.same s1).trans k') jf⟩
theorem eU.setN{j:Nat}(hi:X.N[i]?=some xd)(hj:X.N[j]?=some y)(ne:y≠xd)(h:eU X n f1 i x d ks ts ow σ H):eU X n f1 i x d ks ts ow (σ.set j (some v)) H:=by
 obtain⟨C,dx,us,h1,h2⟩:=h
 exact⟨C,dx,us,by rw[aO7 (λz=>by subst z;rw[hi]at hj;injection hj with hj;exact ne hj.symm)];exact h1,h2⟩
noncomputable def GL(X:Cx)(n f1 m:Str)(F:List D->Rs D)(Wt:Addr->List bM->List (List Int)->Str->Str->List Int->Prop):Prop :=
 ∃C fi fdi psi ki ft fdt pst kt,Mk X.K C fi/\bT X.prog X.w X.K X.mg X.base df ki fi fdi psi (Aw X.K f1)/\cw (ki+1) X.A/\cx X.K fdi psi []/\X.mg n=some (.ref C)/\W.nsIn X.K mainGlobals n=some (some (.ref C))/\eV X.K C/\cr X.K C f1/\jJ X.K C m ft/\bT X.prog X.w X.K X.mg X.base df kt ft fdt pst (Av X.K n f1 F Wt)/\cw kt X.A/\cx X.K fdt pst []
theorem oK{w:Str}(dk:GL X n f1 m F Wt)
  (hx:X.N[i]?=some xd) (hv:eB X.env.scope xd) (hok:fH xd=true) (hmf:m≠f1) (hs:∀y p,e ≠ .Starred y p) (hln:(ap.endLine==cp.line)=true)
  (sh:Sh ρ) (he:ED X ρ e (.str line) k) (hz:ks.length<sizeLine) (hn:ns≠[]) (hW:Wt d ks ts line w ns) (hF:af (F [gQ ns]) r) (ow:Ow) :
  PE X (.Call (.Attribute (.Name xd p) m ap) [e] [] cp) (KD X ow ρ (eU X n f1 i x d ks ts) (eU X n f1 i x d (lK ks (.inr w)) (g8 ks ts (.inr w) ns)) r):=by
 obtain⟨C,fi,fdi,psi,ki,ft,fdt,pst,kt,h1,h2,h3,h4,h5,h6,h7,h8,h9,h10,h11,h12⟩:=dk
 exact IK hx hv hok (λC' hC'=>by cases (h6.symm.trans hC');exact h9) hmf h10 h11 h12 hs hln sh he hz hn hW hF C h6 h7
theorem DR(h:AD X ρ es ds 2)(hl:ds.length<=cq):ED X ρ (.List es pos) (.lst ds) 2:=by
 refine λow=>bS (AQ (h ow)) λσ H Q ⟨E,q⟩=>⟨E,λvs H1 s1 r1=>⟨by rw[<- r1.length];exact aF5 hl io,λp hp=>?_⟩⟩
 have sm:=er (o:=HO.lst vs) hp
 refine q _ _ (s1.trans sm) ?_
 rw[aj]
 exact⟨p,vs,true,rfl,aU,⟨rfl,.inr (s1.free hp)⟩,r1.same sm⟩
theorem Ct{s1 s2 s3:Stmt}{rest:List Stmt}{k1 k2 k3:List bM}{t1 t2 t3:List (List Int)}
  (G:bA Φ X sc) (dk:GL X n f1 m F Wt) (hx:eI sc xd=true) (hρ:ρ xd=none) (sh:Sh ρ) (hg:Gl X n) (hdb:(n==("__debug__" : Str))=false)
  (h1:∀i x d,X.N[i]?=some xd->eB X.env.scope xd->PS X s1 (tX X H0 ρ (eU X n f1 i x d [] []) ρ (eU X n f1 i x d k1 t1)))
  (h2:∀i x d,X.N[i]?=some xd->eB X.env.scope xd->PS X s2 (tX X H0 ρ (eU X n f1 i x d k1 t1) ρ (eU X n f1 i x d k2 t2)))
  (h3:∀i x d,X.N[i]?=some xd->eB X.env.scope xd->PS X s3 (tX X H0 ρ (eU X n f1 i x d k2 t2) ρ (eU X n f1 i x d k3 t3)))
  (hr:∀d,fI X H0 (bF ρ xd (.obj n [f1] [.dft d k3 t3],false)) rest (.rt r)):fI X H0 ρ (.Assign [.Name xd p] (.Call (.Name n q) [] [] cp) pos::s1::s2::s3::rest) (.rt r):=by
 obtain⟨C,fi,fdi,psi,ki,ft,fdt,pst,kt,c1,c2,c3,c4,c5,c6,c7,c8,_⟩:=dk
 intro pins s σ H D I ⟨ow,E,hl,B,qq⟩
 have tail:eT X (s1::s2::s3::rest) (λD σ H => ∃i x d,X.N[i]?=some xd/\eB X.env.scope xd/\∃ow,aR X ow H σ ρ/\σ.length=X.N.length/\cA H0 ow H/\eU X n f1 i x d [] [] ow σ H/\∀v H',aL H0 H'->aj X.K H' (λa b=>b=true/\H0 a=none) r v->D.rt v H'):=by
  intro pins s σ H D I ⟨i,x,d,hi,hv,ow,E,hl,B,j,qq⟩
  refine du (h1 i x d hi hv) (du (h2 i x d hi hv) (du (h3 i x d hi hv) (KN (H0:=H0) (i:=i) (x:=x) (d:=d) (ks:=k3) (ts:=t3) G.nd hi hv sh (hr d)))) pins s σ H D I ⟨ow,E,hl,B,j,λow1 σ1 H1 e1 l1 kk1 j1=>⟨ow1,e1,l1,B.keep kk1,j1,λow2 σ2 H2 e2 l2 kk2 j2=>⟨ow2,e2,l2,(B.keep kk1).keep kk2,j2,λow3 σ3 H3 e3 l3 kk3 j3=>⟨ow3,e3,l3,((B.keep kk1).keep kk2).keep kk3,j3,qq⟩⟩⟩⟩
 refine du (HP (H0:=H0) G hx hρ sh c1 c2 c3 c4 hg c5 hdb c6 c7 c8) tail pins s σ H D I ⟨ow,E,hl,B,λi x d ow' σ' H' hi hv e l kk j=>⟨i,x,d,hi,hv,ow',e,l,B.keep kk,j,qq⟩⟩
noncomputable def re(Φ:Fx)(n f1 m:Str)(F:List D->Rs D)(Wt:Addr->List bM->List (List Int)->Str->Str->List Int->Prop)(sc:Scope)(ps:List Str)(ss:List Stmt)(ds:List D)(r:D):Prop:=ds.length=ps.length/\∀(X:Cx) (H0:Hp),bA Φ X sc->PassesOwn (model X.prog X.w) X.A X.env X.xe->GL X n f1 m F Wt->fI X H0 (de ps ds) ss (.rt r)
theorem Du{F':List D->Rs D}{fi ft:Addr}{fdi fdt:FuncData}{psi pst:List Str}{ki kt:Nat}(Fn:iT K g qual st f fd)
  (S:au (ao (ae st)) ps (ae st)) (hΦ:ld P w K mg base k Φ) (c1:Mk K C fi) (c2:bT P w K mg base df ki fi fdi psi (Aw K f1)) (c3:ki+1<=k) (c4:cx K fdi psi []) (c5:mg n=some (.ref C)) (c6:W.nsIn K mainGlobals n=some (some (.ref C))) (c7:eV K C) (c8:cr K C f1) (c9:jJ K C m ft) (c10:bT P w K mg base df kt ft fdt pst (Av K n f1 F' Wt)) (c11:kt<=k) (c12:cx K fdt pst [])
  (hrun:∀ds r,af (F ds) r->re Φ n f1 m F' Wt (ae st) ps (ai st) ds r):bT P w K mg base df (k+1) f fd ps (jO K F):=by
 refine Fn.ok S (λvs H Q E h=>?_) (λcdv A outer s H vs Q E hr h=>?_)
 ·obtain⟨ds,r,l,h1,h2,hp,_⟩:=h
  rw[<- h1.length]
  exact(hrun ds r ⟨l,h2,hp⟩).1
 ·obtain⟨ds,r,l,h1,h2,hp,qq⟩:=h
  obtain⟨hl,hr'⟩:=hrun ds r ⟨l,h2,hp⟩
  have G:=gL (outer:=outer) (H:=H) (E:=E) S hΦ hr
  obtain⟨E0,hsl⟩:=jy (P:=P) (w:=w) (mg:=mg) (base:=base) (qual:=qual) (f:=f) (cdv:=cdv) (A:=A) (outer:=outer) (s:=s) (E:=E) S h1 hl
  have B0:cA H (λ_=>none) H:=λa o h=>⟨h,rfl⟩
  exact⟨_,hr' _ H G aM6 ⟨C,fi,fdi,psi,ki,ft,fdt,pst,kt,c1,c2,hr.mono c3,c4,c5,c6,c7,c8,c9,c10,hr.mono c11,c12⟩,λ_=>none,E0,hsl,B0,λv H' sm rp=>qq v H' sm rp⟩
end Sp
namespace K
open PySem L2 Sp Qm
variable{p q:Qd}
theorem O1(k:Int)(q:Qd):bar (kq k q)=kq k (bar q):=by
 obtain⟨a,b,c,d⟩:=q
 simp only[bar,kq,Prod.mk.injEq,Int.mul_neg,and_self]
theorem xB(hp:d8 p)(hq:d8 q):fh p q=kq 2 (cm p q):=by
 obtain⟨P,Q,R,S,h1,h2,h3,h4,_,e⟩:=nJ hp hq
 rw[e]
 exact mB h1 h2 h3 h4
theorem Ud{Q:Qd}{k:Int}(hp:d8 p)(hq:d8 q)(e:cm p q=kq k Q)(hk:k≠0)(pQ:yj Q)(x y z:Int):∃c:Int,0<c/\(tq p).n*(tq q).n=c*(tq Q).low.n/\(tq p).dx ((tq q).dx x y z) ((tq q).dy x y z) ((tq q).dz x y z)=c*(tq Q).low.dx x y z/\(tq p).dy ((tq q).dx x y z) ((tq q).dy x y z) ((tq q).dz x y z)=c*(tq Q).low.dy x y z/\(tq p).dz ((tq q).dx x y z) ((tq q).dy x y z) ((tq q).dz x y z)=c*(tq Q).low.dz x y z:=by
 have h1:tq (fh p q)=(tq q).bh (tq p):=Ah p q
 rw[xB hp hq,e,Fk]at h1
 have h2:tq (kq (2*k) Q)=(tq Q).map (2*k*(2*k) * ·):=xl (2*k) Q
 have h3:=T9.cut (gt pQ.ne)
 have hg:=T9.gpos (gt pQ.ne)
 generalize gI (tq Q).l=g at *
 have n1:((tq q).bh (tq p)).n=2*k*(2*k)*g*(tq Q).low.n:=by
  rw[<- h1,h2]
  show 2*k*(2*k)*(tq Q).n=_
  have:(tq Q).n=g*(tq Q).low.n:=aK4 T9.n h3
  rw[this];grind
 have b:=av9 (tq q) (tq p) x y z
 rw[<- h1,h2]at b
 have md:=yY (2*k*(2*k)) (tq Q) x y z
 have m2:=yY g (tq Q).low x y z
 rw[<- h3]at m2
 rw[m2.1,m2.2.1,m2.2.2]at md
 rw[md.1,md.2.1,md.2.2]at b
 have hc:0<2*k*(2*k)*g:=aK3 (mr (by omega)) hg
 refine⟨2*k*(2*k)*g,hc,?_,?_,?_,?_⟩
 ·rw[aI2 (tq p).n];exact n1
 ·rw[<- b.1];grind
 ·rw[<- b.2.1];grind
 ·rw[<- b.2.2];grind
theorem Jj{T:T9}{x y z m X Y Z g c n a b d:Int}(hc:0<c)(P:Gq T x y z m X Y Z g)(h0:n=c*T.n)(h1:a=c*T.dx x y z)(h2:b=c*T.dy x y z)(h3:d=c*T.dz x y z):[n,a,b,d].map (λt=>t.fdiv (gI [n,a,b,d]))=[m,X,Y,Z]:=by
 have hcg:0<c*g:=aK3 hc P.pos
 have e:[n,a,b,d]=[m,X,Y,Z].map λt=>c*g*t:=by
  rw[h0,h1,h2,h3,P.en,P.ex,P.ey,P.ez]
  simp only[aH8,aN0,aH2]
 rw[e,vP hcg,P.one,aP8]
 simp only[aH8,aN0,qo hcg]
end K
namespace K
open PySem L2 Sp
variable{A B C E F G a b c e f g h i k m n r0 r1 r2 r3 r4 r5 r6 r7 r8 x y z:Int}{Φ:Fx}{sc:Scope}{ρ:al}{ns:List Int}{Q p q:Qd}{d:Addr}{l:List Nat}{line n1 w:Str}{fm loose us:List Str}{L fs ws:List D}{q0 r t:D}{u v:V3}{ks:List bM}{ts:List (List Int)}{j:Nat}{S:List V3}{X:Cx}{H0:Hp}{P:Program}{k0:W.Frag}{mg:Str->Option Value}{base:Heap}{XP:(Str->Option Value)->Heap->Prop}
noncomputable def ag(i:Nat):Stmt:=PySem.Challenge.pw_spaceturns_k59_whole_from_lines_to_turns.main.body.getD i (.Pass ⟨0,0,0,0⟩)
local macro_rules | `(tactic| walk_at "sc") => `(tactic| exact ⟨rfl,rfl,rfl,by decide +kernel,by decide +kernel,by decide +kernel,by decide +kernel⟩)
local macro_rules | `(tactic| walk_at "leaf") => `(tactic| first | ((with_reducible apply Ja);decide) | ((with_reducible apply Jb);decide) | ((with_reducible apply JX) <;> decide) | ((with_reducible apply di) <;> (with_reducible assumption)) | ((with_reducible apply Iy) <;> decide) | ((with_reducible refine Eq.trans ?_ rfl);exact rfl) | ((with_reducible apply cel_bits);(with_reducible assumption)) | ((with_reducible apply Ma);assumption) | exact aF7 rfl|exact Or.inl rfl|exact Or.inr rfl|exact Or.inr (aF9 1) | exact Or.inr (aH5 1) | decide|decide +kernel)
local macro_rules | `(tactic| walk_at "ob") => `(tactic| (repeat' (first|with_reducible exact True.intro|with_reducible exact Ec|with_reducible apply zK|with_reducible apply Eb|with_reducible apply wV|with_reducible assumption | ((with_reducible apply gj);intro hgd) | walk_at "leaf")))
local macro_rules | `(∅) => `(bv rfl (by walk_at "ob"))
noncomputable def BL:List (Str×(List D->R1)):=[("len", zH),("tuple", qS),("abs", Ea),("all", iW),("any", uI),("sum", D2),("int", fV),("str", lN),("min", D3)]
noncomputable def IL:List (Str×(List D->Nat->R1)):=[("range", vL),("zip", zj),("enumerate", zk)]
noncomputable def ML:List (Str×(D->List D->R1)):=[("join", nL),("split", eN),("startswith", MP),("endswith", MR)]
noncomputable def TL:List (Str×(List D->List D->Nat->Rs (List D))):=[("append", rS)]
noncomputable def w6:Fx:=Tb [] [] BL IL ML TL aO
noncomputable def iF:List D->Rs D:=bH w6 (ae (ag 110)) ["_law_text_here", "_law_many"] (ai (ag 110))
theorem pJ(h:n.natAbs<10 ^ 40):af (lN [.int n]) (cC n,0):=by
 refine af.eq ⟨_,rfl,qc h,True.intro⟩ ?_
 show(D.str (Str.ofString (toString n)),0)=(cC n,0)
 rw[pw];rfl
theorem aa8:∃b:Bool,eqD (.str (Txt.slice (sN (bE n)) none (some 1))) (.str (Str.ofString "-"))=b/\Txt.slice (sN (bE n)) (some (cond b 1 0)) none=sN (dC n.natAbs):=by
 have e1:Str.ofString "-" = sN [45]:=by rw[gu];rfl
 rw[e1]
 by_cases h:n<0
 ·have e:bE n=45::dC n.natAbs:=if_pos h
  rw[e,Dq]
  exact⟨true,vY _,FQ _ _⟩
 ·have e:bE n=dC n.natAbs:=if_neg h
  rw[e]
  refine⟨false,?_,UI _⟩
  cases hd:dC n.natAbs with
  | nil=>exact absurd hd (qG _)
  | cons c l =>
   rw[Dq,oT]
   apply aH6
   intro z
   have z:=vg z
   have:=gz n.natAbs c (by rw[hd];exact aG0)
   injection z with z1 z2
   omega
theorem Uf{e:Expr}{k:Nat}(h:af (aH Φ e false sc ρ) (.int i,k)):af (mS Φ (some e) sc ρ) (some i):=af.bnd (r:=aH Φ e false sc ρ) (f:=λp=>match p.1 with | .int j=>.ok (some j) []|_=>.st) h ⟨[],rfl,True.intro⟩
theorem za(h0:ns≠[])(hn:ns.length<=10)(hm:(ns.length:Int)=m)(h:∀n∈ns,n.natAbs<10 ^ 40):af (iF [.str (sN (jn (ns.map bE))),.int m]) (.lst (ns.map D.int)):=by
 have hl:∀v∈ns.map bE,v.length<=43:=λv hv=>by
  obtain⟨n,hn,rfl⟩:=aK0.mp hv
  have:=dJ (h n hn);omega
 have hs:=rK (ws:=ns.map bE) (λz=>h0 (List.map_eq_nil_iff.mp z)) (λv hv=>by
  obtain⟨n,hn,rfl⟩:=aK0.mp hv
  exact nv n) (by rw[aH3];omega) hl
 rw[aN3]at hs
 have hs:af (eN (.str (sN (jn (ns.map bE)))) [.str (Str.ofString " ")]) (.lst (ns.map cC),0):=hs
 have hk:∀w∈ns.map λn=>sN (bE n),PyData.strOk w=true:=λw hw=>by
  obtain⟨n,hn,rfl⟩:=aK0.mp hw
  exact nG (mf n)
 have hc:=IZ hk
 rw[aN3]at hc
 have hc:af (fQ .NotEq (.lst (ns.map cC)) (.lst (ns.map cC))) false:=hc
 refine bG (aN (bI (ju ∅ ∅ hs)) (rJ (ds:=ns.map cC) (λrem ρ => ∃r:List Int,rem=r.map cC/\(∀n∈r,n.natAbs<10 ^ 40)/\Sub (aS [("_law_words", .lst (ns.map cC),false),("_law_many", .int m,false)]) ρ) ∅ ⟨ns,rfl,h,ah rfl (ah rfl aC)⟩ ?_ ?_ rfl (by first|exact aF9 _|exact xS _)))
 ·rintro d l ρ ⟨r,hr,hb,s⟩
  cases r with
  | nil=>cases hr
  | cons n r =>
   cases hr
   have hn:=hb n aG0
   obtain⟨b,hb1,hb2⟩:=aa8 (n:=n)
   have hz:(sN (bE n)).length<=1048576:=by rw[ci];have:=dJ hn;omega
   have hd:=gz n.natAbs
   have h1:=NR n.natAbs
   have h40:(dC n.natAbs).length<=40:=qH (by decide) hn
   generalize dC n.natAbs=g at *
   have hl:(sN g).length=g.length:=ci g
   have hgz:(sN g).length<=1048576:=by rw[hl];omega
   have hit:items (.str (sN g))=some (g.map λc=>D.str (sN [c])):=by
    show(if ((sN g).cps.all λc=>decide (c<128))=true then some (Sp.sgs (sN g))else none)=_
    rw[if_pos (wp λc hc=>by have:=hd c hc;omega),vd]
   have ge:PyData.strOk (sN g)=true:=nG λc hc=>by have:=hd c hc;omega
   have gx:PyData.strOk (Txt.slice (sN (bE n)) none (some 1))=true:=by
    cases ht:bE n with
    | nil=>decide +kernel
    | cons c l=>rw[Dq];exact nG λx hx=>by rw[aJ8.mp hx];exact mf n c (by rw[ht];exact aG0)
   refine⟨_,rfl,nH (bI (d:=.str (sN g)) (lH (l:=some (cond b 1 0)) (h:=none) (k:=0) (x:=cC n) (r:=(.str (sN g),0)) (gX (C:=aS [("_law_word", cC n,false)]) (ah (s.put "_law_word" (cC n,false)).get aC) ∅) ?_ ∅ ?_)) ?_⟩
   ·refine Uf (k:=0) ?_
    ·refine dN (B:=fV) (aJ (k:=0) (j:=0) (d:=.bl b) ?_ bD) ∅
     refine cn (x:=.str (Txt.slice (sN (bE n)) none (some 1))) (y:=.str (Str.ofString "-")) (k:=0) (j:=0) ?_ ∅ ?_
     ·exact gX (C:=aS [("_law_word", cC n,false)]) (ah (s.put "_law_word" (cC n,false)).get aC) ∅
     ·exact af.eq (bv rfl (by exact⟨jw gx (by decide +kernel),True.intro⟩)) hb1
   ·exact af.eq ∅ (by rw[hb2])
   ·refine bN (C:=aS [("_law_words", .lst (ns.map cC),false),("_law_many", .int m,false),("_law_figures", .str (sN g),true)]) (ah ((s.put _ _).put _ _).get (ah ((s.put _ _).put _ _).get (ah eL aC))) (aD (t:=false) (k:=0) (d6 (cH (k:=0) ((bv rfl (by walk_at "ob"<;>exact jw ge (by decide +kernel))).bl ?_) (cH (k:=0) (∅.bl (aH6 (by rw[hl];omega))) (cH (k:=0) (vX (b:=true) (k:=0) (dN (B:=iW) (aJ (cY (l:=g) (g:=λc=>D.str (sN [c])) (f:=λ_=>D.bl true) ∅ hit (by show _<=40000;omega) (.inr (aH5 1)) λc hc=>?_) bD) (zJ g))) gy)))) rfl dh) λρ' s'=>⟨r,rfl,λn hn=>hb n (aG1 _ hn),ah s'.get (ah s'.get aC)⟩
    ·rw[oT]
     apply aH6
     intro z
     have:(sN g).length=0:=by rw[z];decide +kernel
     omega
    ·have hc:=hd c hc
     exact⟨_,rfl,∅.bl (Bl hc.1 hc.2)⟩
 ·rintro ρ ⟨r,hr,hb,s⟩
  refine eJ s (aN (bI (d:=.lst (ns.map D.int)) (cY (l:=ns) (g:=cC) (f:=D.int) ∅ rfl (by show _<=40000;omega) (.inl (Ad ns)) λn hn=>?_)) (aD (t:=false) (k:=0) (d6 (cH (k:=0) (∅.bl ?_) (cH (k:=0) (cn (cY (l:=ns) (g:=D.int) (f:=cC) ∅ rfl (by show _<=40000;omega) (.inl (qj ns)) λn hn=>?_) ∅ hc) gy))) rfl ∅))
  ·have ht:(bE n).length<=640:=by have:=dJ (h n hn);omega
   refine⟨_,rfl,dN (B:=fV) (ds:=[cC n]) (k:=0) ∅ ?_⟩
   refine bv (l:=[(sN (bE n)).length<=640]) ?_ ⟨by rw[ci];exact ht,True.intro⟩
   unfold fV cC;dsimp only;rw[vK ht]
  ·rw[aH3,hm];exact fN rfl
  ·exact⟨_,rfl,dN (B:=lN) ∅ (pJ (h n hn))⟩
noncomputable def t5:Fx:=Tb [] [] BL IL ML TL aO
noncomputable def iY:List D->Rs D:=bH t5 (ae (ag 108)) ["_law_part"] (ai (ag 108))
theorem Te{p:Int}(h:p.natAbs<10 ^ 40):af (iY [.int p]) (.str (fT p)):=by
 have h1:=qc h
 have h2:(p.fdiv 2).natAbs<2 ^ 1900:=rV h1
 have hl:(Str.ofString (toString p)).length+(Str.ofString "/2").length<=cq:=by
  rw[pw,ci,show Str.ofString "/2" = sN [47,50] by rw[gu];rfl,ci]
  have:=dJ h
  show _+2<=40000
  omega
 have f0:=aI8 p (show(0:Int)<2 by decide)
 have f1:=aJ3 p (show(0:Int)<2 by decide)
 by_cases hp:p.fmod 2=0
 ·have e:fT p=Str.ofString (toString (p.fdiv 2)):=if_pos hp
  rw[e]
  exact bG (aD ∅ ((eO _ _).trans (aH6 (by omega))) ∅)
 ·have e:fT p=Str.ofString (toString p)++Str.ofString "/2" := if_neg hp
  rw[e]
  exact bG (cy ∅ ((eO _ _).trans (aI4 (by omega))) ∅)
noncomputable def Ed:Fx:=Tb [("_law_part_text", iY)] [] BL IL ML TL aO
noncomputable def o8:List D->Rs D:=bH Ed (ae (ag 109)) ["_law_four_here"] (ai (ag 109))
theorem Ff(h:jQ p):af (o8 [dq p]) (.str (iM p)):=by
 have hs:=FJ (Fa h)
 have h16:(Str.ofString " ").length<=16:=by decide
 obtain⟨h1,h2,h3,h4⟩:=h
 refine bG (cf (bP (ju ∅ (aJ ((cY (l:=[p.1,p.2.1,p.2.2.1,p.2.2.2]) (g:=D.int) (f:=λx=>D.str (fT x)) ∅ rfl (aF7 rfl) (.inl rfl) λx hx=>⟨_,rfl,ax ∅ (Te ?_)⟩)) bD) (M:=nL) ⟨_,rfl,h16,hs,True.intro⟩)))
 simp only[aF8,aG4,aI7]at hx
 rcases hx with rfl|rfl|rfl|rfl<;>assumption
noncomputable def zQ:Fx:=Tb [] [] BL IL ML TL aO
noncomputable def zU:List D->Rs D:=bH zQ (ae (ag 113)) ["_law_numbers_here"] (ai (ag 113))
noncomputable def eR:List D->Rs D
 | [.lst l]=>.ok (.int (rX l)) [okT l]
 | _=>.st
theorem t8:∀ds r,af (eR ds) r->af (zU ds) r:=by
 intro ds r h
 unfold eR at h
 split at h
 ·obtain⟨rfl,⟨ns,rfl,hl,hb⟩,_⟩:=eh h
  rw[oQ]
  refine bG (bV 1 ∅ (rJ (ds:=ns.map D.int) (λrem ρ => ∃(r:List Int) (g:Nat) (f:Bool),rem=r.map D.int/\(∀n∈r,n.natAbs<2 ^ 1000)/\cv g r=cv 0 ns/\g<2 ^ 1000/\Sub (aS [("_law_found", .int g,f)]) ρ) ∅ ⟨ns,0,true,rfl,hb,rfl,Nat.pow_pos (by decide),ah rfl aC⟩ ?_ ?_ rfl (xS (.lst (ns.map D.int)))))
  ·rintro d l ρ ⟨r,g,f,hr,hb',hg,hlt,s⟩
   cases r with
   | nil=>cases hr
   | cons n r =>
    cases hr
    have hn:=hb' n aG0
    refine⟨_,rfl,nH (bI (d:=.int (n.natAbs:Nat)) (∅.eq (by rw[sB]))) (P0 (m:=2002) (λm ρ => ∃(x y:Nat) (f1 f2:Bool),tQ x y m/\Nat.gcd x y=Nat.gcd g n.natAbs/\Sub (aS [("_law_found", .int x,f1),("_law_one", .int y,f2)]) ρ) ⟨g,n.natAbs,f,true,NG hlt hn,rfl,ah ((s.put _ _).put _ _).get (ah ((s.put _ _).put _ _).get aC)⟩ (by decide) ?_ ?_)⟩
    ·rintro m ρ ⟨x,y,f1,f2,hm,hg',s⟩
     refine⟨decide ((0:Int)<y),0,gX s ∅,λht=>?_⟩
     have h0:y≠0:=by have:=aM4 ht;omega
     have hn:(y:Int)≠0:=by omega
     obtain⟨m',hm',hE⟩:=si hm h0
     have e:=qm x y
     exact nu hm' (bN s ∅ λρ' s'=>⟨y,x % y,false,false,hE,by rw[<- hg',Nat.gcd_comm x y,Nat.gcd_rec y x,Nat.gcd_comm],ah s'.get (ah (by rw[<- e];exact s'.get) aC)⟩)
    ·rintro m ρ ⟨x,y,f1,f2,hm,hg',s⟩ ⟨k,hk⟩
     have e:=hk.inj (gX s ∅)
     have h0:y=0:=by
      have e1:decide ((0:Int)<y)=false:=by injection e with e1 e2;injection e1 with e1;exact e1.symm
      have:=of_decide_eq_false e1
      omega
     subst h0
     have hg':x=Nat.gcd g n.natAbs:=by rw[<- hg'];simp
     exact⟨r,x,f1,rfl,λm hm=>hb' m (aG1 _ hm),by rw[hg'];exact hg,by rw[hg'];exact Np hlt hn,ah s.get aC⟩
  ·rintro ρ ⟨r,g,f,hr,hb',hg,hlt,s⟩
   cases r with
   | nil =>
    rw[<- hg]
    exact eJ s ∅
   | cons n r=>cases hr
 ·exact(aw h).elim
noncomputable def t6:Fx:=Tb [] [] BL IL ML TL aO
noncomputable def iZ:List D->Rs D:=bH t6 (ae (ag 115)) ["_law_base"] (ai (ag 115))
theorem aw0(a0:0<A)(d0:0<E)(f0:0<G)(b1:0<=B/\B<E)(c1:0<=C/\C<G)(e1:0<=F/\F<G):af (iZ [.lst ([A,B,C,0,E,F,0,0,G].map D.int)]) (.bl true):=by
 refine bG (aN ∅ (aD (t:=false) (k:=0) (d6 (cH (k:=0) ∅ (cH (k:=0) ∅ (cH (k:=0) ∅ (cH (k:=0) (∅.bl (aH6 (by omega))) (cH (k:=0) (∅.bl (aH6 (by omega))) (cH (k:=0) (∅.bl (aH6 (by omega))) gy))))))) rfl (cf (bP (d6 (lG (k:=0) (∅.bl ?_) (lG (k:=0) (∅.bl ?_) (lG (k:=0) (∅.bl ?_) mR))))))))
 ·rw[aI4 b1.1,aI4 b1.2];rfl
 ·rw[aI4 c1.1,aI4 c1.2];rfl
 ·rw[aI4 e1.1,aI4 e1.2];rfl
noncomputable def Ee:Fx:=Tb [] [] BL IL ML TL aO
noncomputable def yV(q:Qd):List (List Int):=[[(tq q).a,(tq q).b,(tq q).c],[(tq q).d,(tq q).e,(tq q).f],[(tq q).g,(tq q).h,(tq q).i]]
noncomputable def ln(q:Qd):D:=.tup [.int (tq q).n,.lst ((yV q).map λr=>.lst (r.map D.int))]
noncomputable def jG:List D->Rs D:=u5 dQ λq=>.ok (ln q) [dF (2 ^ 70) q]
theorem xf(ds:List D)(r:D)(h:af (jG ds) r):Go Ee (ae (ag 111)) ["_law_four_here"] (ai (ag 111)) ds r:=by
 obtain⟨q,rfl,h'⟩:=kH h
 obtain⟨rfl,hb,_⟩:=eh h'
 obtain⟨a,b,c,d⟩:=q
 obtain⟨c1,c2,c3,c4⟩:=(show a.natAbs<=2 ^ 70/\b.natAbs<=2 ^ 70/\c.natAbs<=2 ^ 70/\d.natAbs<=2 ^ 70 from hb)
 have tw:∀{x:Int},x.natAbs<=2 ^ 70->(2*x).natAbs<bW:=λ{x} h=>ay (m:=71) (by rw[aI5];exact aF5 (aN7 2 h) (by decide)) (by decide)
 have t1:=tw c1;have t2:=tw c2;have t3:=tw c3;have t4:=tw c4
 have b1:=ay c1 (by decide);have b2:=ay c2 (by decide);have b3:=ay c3 (by decide);have b4:=ay c4 (by decide)
 refine⟨rfl,λX H0 G po=>?_⟩
 refine xp 5 (ρ1:=bF (bF (bF (bF (bF (bF (bF (bF (de ["_law_four_here"] [dq (a,b,c,d)]) "_law_a" (.int a,false)) "_law_b" (.int b,false)) "_law_c" (.int c,false)) "_law_d" (.int d,false)) "_law_n" (.int (a*a+b*b+c*c+d*d),true)) "_law_first" (.lst [.int (a*a+b*b-c*c-d*d),.int (2*b*c-2*a*d),.int (2*b*d+2*a*c)],true)) "_law_second" (.lst [.int (2*b*c+2*a*d),.int (a*a-b*b+c*c-d*d),.int (2*c*d-2*a*b)],true)) "_law_third" (.lst [.int (2*b*d-2*a*c),.int (2*c*d+2*a*b),.int (a*a-b*b-c*c+d*d)],true)) G po ∅ ?_
 refine lh (AC (k:=2) ?_ (.inr rfl)) (λ_ z=>by cases z)
 exact v6 (k:=2) (gN (k:=0) (j:=2) (jT ∅ G) (gN (k:=2) (j:=0) (DR (gN (k:=2) (j:=2) (jT ∅ G) (gN (k:=2) (j:=2) (jT ∅ G) (gN (k:=2) (j:=0) (jT ∅ G) mX (bC λ_ _ z=>nomatch z)) (bC λ_ _ z=>nomatch z)) (bC λ_ _ z=>nomatch z)) (aF7 rfl)) mX (bC λ_ _ z=>nomatch z)) (bC λ_ _ z=>nomatch z)) (aF7 rfl)
noncomputable def w8:Fx:=Tb [] [] BL IL ML TL aO
noncomputable def iG:List D->Rs D:=bH w8 (ae (ag 112)) ["_law_nine_here", "_law_spot"] (ai (ag 112))
theorem Tg(hq:dF (2 ^ 70) q)(hx:x.natAbs<bW)(hy:y.natAbs<bW)(hz:z.natAbs<bW):af (iG [ln q,d3 x y z]) (.lst [.int ((tq q).dx x y z),.int ((tq q).dy x y z),.int ((tq q).dz x y z)]):=by
 have tB:∀x∈(tq q).l,x.natAbs<bW:=λx hx=>ay (pz hq x hx) (by decide)
 have m0:=tB (tq q).a (by simp[T9.l]);have m1:=tB (tq q).b (by simp[T9.l]);have m2:=tB (tq q).c (by simp[T9.l])
 have m3:=tB (tq q).d (by simp[T9.l]);have m4:=tB (tq q).e (by simp[T9.l]);have m5:=tB (tq q).f (by simp[T9.l])
 have m6:=tB (tq q).g (by simp[T9.l]);have m7:=tB (tq q).h (by simp[T9.l]);have m8:=tB (tq q).i (by simp[T9.l])
 unfold ln yV
 generalize tq q=T at *
 exact bv rfl (by walk_at "ob")
theorem Th(hq:dF (2 ^ 70) q)(hx:x.natAbs<bW)(hy:y.natAbs<bW)(hz:z.natAbs<bW):af (iG [ln q,.lst [.int x,.int y,.int z]]) (.lst [.int ((tq q).dx x y z),.int ((tq q).dy x y z),.int ((tq q).dz x y z)]):=by
 have tB:∀x∈(tq q).l,x.natAbs<bW:=λx hx=>ay (pz hq x hx) (by decide)
 have m0:=tB (tq q).a (by simp[T9.l]);have m1:=tB (tq q).b (by simp[T9.l]);have m2:=tB (tq q).c (by simp[T9.l])
 have m3:=tB (tq q).d (by simp[T9.l]);have m4:=tB (tq q).e (by simp[T9.l]);have m5:=tB (tq q).f (by simp[T9.l])
 have m6:=tB (tq q).g (by simp[T9.l]);have m7:=tB (tq q).h (by simp[T9.l]);have m8:=tB (tq q).i (by simp[T9.l])
 unfold ln yV
 generalize tq q=T at *
 exact bv rfl (by walk_at "ob")
noncomputable def zO:Fx:=Tb [] [] BL IL ML TL aO
noncomputable def lR:List D->Rs D:=bH zO (ae (ag 116)) ["_law_base", "_law_spot"] (ai (ag 116))
noncomputable abbrev v3(v:V3):D:=d3 v.1 v.2.1 v.2.2
structure oA(A B C E F G:Int):Prop where
 a:A.natAbs<=2 ^ 25
 b:B.natAbs<=2 ^ 25
 c:C.natAbs<=2 ^ 25
 e:E.natAbs<=2 ^ 25
 f:F.natAbs<=2 ^ 25
 g:G.natAbs<=2 ^ 25
theorem WP{d:Int}(h:B4 a b c d e f x y z):∃t:Bool,af (lR [.lst ([a,b,c,0,d,e,0,0,f].map D.int),d3 x y z]) (.bl t)/\(t=true↔ni a b c d e f (x,y,z)):=by
 have hr:=Il (a:=a) (b:=b) (c:=c) (d:=d) (e:=e) (f:=f) (x:=x) (y:=y) (z:=z) h.a0 h.d0 h.f0
 obtain⟨⟨ba,bb,bc,bd,be,bf⟩,k0,k1,k2⟩:=h.all
 have na:=Int.ne_of_gt h.a0
 have nd:=Int.ne_of_gt h.d0
 have nf:=Int.ne_of_gt h.f0
 have da:fU a:=⟨na,ba⟩
 have dd:fU d:=⟨nd,bd⟩
 unfold rM at hr
 simp only[<- Ny]at hr
 simp only[aI2 b,aI2 c,aI2 e]at *
 by_cases c1:x.fmod a=0
 case neg =>
  rw[if_neg c1]at hr
  refine⟨false,bG (bV 2 ∅ (cy ∅ (Fc c1) ∅)),λz=>(by cases z),λz=>?_⟩
  rcases hr with⟨_,_,_,_,w⟩|⟨w,_⟩
  ·cases w
  ·exact absurd z w
 rw[if_pos c1]at hr
 by_cases c2:(y-x.fdiv a*b).fmod d=0
 case neg =>
  rw[if_neg c2]at hr
  refine⟨false,bG (bV 2 ∅ (aD ∅ (fN c1) (bV 2 ∅ (cy ∅ (Fc c2) ∅)))),λz=>(by cases z),λz=>?_⟩
  rcases hr with⟨_,_,_,_,w⟩|⟨w,_⟩
  ·cases w
  ·exact absurd z w
 rw[if_pos c2]at hr
 refine⟨decide ((z-x.fdiv a*c-(y-x.fdiv a*b).fdiv d*e).fmod f=0),bG (bV 2 ∅ (aD ∅ (fN c1) (bV 2 ∅ (aD ∅ (fN c2) (cf (bP (k:=0) (∅.bl (eO _ _)))))))),?_⟩
 rw[decide_eq_true_iff]
 by_cases c3:(z-x.fdiv a*c-(y-x.fdiv a*b).fdiv d*e).fmod f=0
 ·rw[if_pos c3]at hr
  refine⟨λ_=>?_,λ_=>c3⟩
  rcases hr with⟨w,_⟩|⟨_,w⟩
  ·exact w
  ·cases w
 ·rw[if_neg c3]at hr
  refine⟨λz=>absurd z c3,λz=>?_⟩
  rcases hr with⟨_,_,_,_,w⟩|⟨w,_⟩
  ·cases w
  ·exact absurd z w
noncomputable def zP:Fx:=Tb [("_law_common", eR)] [] BL IL ML TL aO
noncomputable def ja:List D->Rs D:=bH zP (ae (ag 114)) ["_law_numbers_here"] (ai (ag 114))
theorem MT{n0:Int}(hT:okT (ns.map D.int))(hm:n0∈ns)(h0:n0≠0)(hb:n0.natAbs<bW)(hl:ns.length<=100):af (ja [.lst (ns.map D.int)]) (.lst (ns.map λn=>D.int (n.fdiv (gI ns)))):=by
 have hp:=js hm h0
 have hd:fU (gI ns):=⟨by omega,aI1 (zn hm h0) hb⟩
 refine bG (aN (bI (d:=.int (gI ns)) (ax ∅ (F:=eR) (af.eq ⟨_,rfl,hT,True.intro⟩ (by rw[kQ])))) (cf (bP (cY (l:=ns) (g:=D.int) (f:=λn=>D.int (n.fdiv (gI ns))) ∅ rfl (aF5 hl (by decide)) (.inl (qj ns)) λn hn=>⟨_,rfl,bv rfl (by walk_at "ob")⟩))))
noncomputable def BP:Fx:=Tb [] [("MOST_LETTERS", .int 8),("LETTERS", .str (Str.ofString "abcdefghijklmnopqrstuvwxyz"))] BL IL ML TL aO
noncomputable def dm:List D->Rs D:=bH BP (ae (ag 97)) ["word"] (ai (ag 97))
theorem Jk:((List.range 26).all λi=>Txt.contains (Str.ofString "abcdefghijklmnopqrstuvwxyz") (sN [97+i]))=true:=by decide +kernel
theorem MU{c:Nat}(h1:97<=c)(h2:c<=122):Txt.contains (Str.ofString "abcdefghijklmnopqrstuvwxyz") (sN [c])=true:=by
 have:=aM1.mp Jk (c-97) (aN8.mpr (by omega))
 rw[show 97+(c-97)=c by omega]at this
 exact this
theorem SY(hd:∀c∈l,97<=c/\c<=122)(h1:1<=l.length)(h8:l.length<=8):af (dm [.str (sN l)]) (.bl true):=by
 have hz:(sN l).length<=1048576:=by rw[ci];omega
 have hl:(sN l).length=l.length:=ci l
 have hit:items (.str (sN l))=some (l.map λc=>D.str (sN [c])):=by
  show(if ((sN l).cps.all λc=>decide (c<128))=true then some (Sp.sgs (sN l))else none)=_
  rw[if_pos (wp λc hc=>by have:=hd c hc;omega),vd]
 refine bG (cf (bP (d6 (lG (k:=0) (∅.bl ?_) (lG (k:=0) (dN (B:=iW) (aJ (cY (l:=l) (g:=λc=>D.str (sN [c])) (f:=λ_=>D.bl true) ∅ hit (by show _<=40000;omega) (.inr (xS _)) λc hc=>?_) bD) (zJ l)) mR)))))
 ·rw[hl]
  simp
  omega
 ·have hc:=hd c hc
  exact⟨_,rfl,∅.bl (MU hc.1 hc.2)⟩
noncomputable def lY:Fx:=Tb [] [("MOST_FIGURES", .int 40),("FIGURES", .str (Str.ofString "0123456789"))] BL IL ML TL aO
noncomputable def i5:List D->Rs D:=bH lY (ae (ag 68)) ["text"] (ai (ag 68))
theorem aB9(hd:∀c∈l,48<=c/\c<=57)(h0:l≠[])(h40:l.length<=40)(hh:l=[48]\/∃c r,l=c::r/\c≠48):af (i5 [.str (sN l)]) (.bl true):=by
 have hz:(sN l).length<=1048576:=by rw[ci];omega
 have hl:(sN l).length=l.length:=ci l
 have h1:1<=l.length:=by
  cases l with
  | nil=>exact absurd rfl h0
  | cons a l=>simp
 have hit:items (.str (sN l))=some (l.map λc=>D.str (sN [c])):=by
  show(if ((sN l).cps.all λc=>decide (c<128))=true then some (Sp.sgs (sN l))else none)=_
  rw[if_pos (wp λc hc=>by have:=hd c hc;omega),vd]
 have hs:af (aH lY (boA ((ai (ag 68)).getD 1 (.Pass ⟨0,0,0,0⟩))) false (ae (ag 68)) (de ["text"] [.str (sN l)])) (.bl (decide (l.head?=some 48)),0):=by
  refine ∅.bl ?_
  rw[show Str.ofString "0" = sN [48] by rw[gu];rfl]
  exact VB l 48
 refine bG (aD (d6 (cH (∅.bl (aH6 (by rw[hl];omega))) (cH (∅.bl (aH6 (by rw[hl];omega))) gy))) rfl (aD (t:=false) (k:=0) (d6 (kU hs ?_ λ_=>rfl)) rfl ?_))
 ·intro ht
  have ht:=aM4 ht
  have e:l=[48]:=by
   rcases hh with e|⟨c,r,rfl,hc⟩
   ·exact e
   ·exfalso;apply hc;simpa using ht
  subst e
  exact kU (∅.bl (aH6 (by rw[hl];decide))) (λz=>by cases z) λ_=>rfl
 ·refine cf (bP (dN (B:=iW) (aJ (cY (l:=l) (g:=λc=>D.str (sN [c])) (f:=λ_=>D.bl true) ∅ hit (by show _<=40000;omega) (.inr (xS _)) λc hc=>?_) bD) (zJ l)))
  have hc:=hd c hc
  exact⟨_,rfl,∅.bl (Bl hc.1 hc.2)⟩
noncomputable def mY:Fx:=Tb [("are_figures", i5)] [] BL IL ML TL aO
noncomputable def fx:List D->Rs D:=bH mY (ae (ag 67)) ["word"] (ai (ag 67))
theorem rB(h:i.natAbs<10 ^ 40):af (fx [.str (sN (bE i))]) (.int i):=by
 have hl:=dJ h
 have h2:(sN (bE i)).length<=1048576:=by rw[ci];omega
 have h3:(sN (bE i)).length<=640:=by rw[ci];omega
 have ei:=vK (i:=i) (by omega)
 have hd:=qH (m:=i.natAbs) (k:=40) (by decide) h
 have hf:=aB9 (gz i.natAbs) (qG _) hd (JY _)
 have sk:PyData.strOk (sN (bE i))=true:=nG (mf i)
 have ek:fP (.str (sN (bE i))) (.str (Str.ofString "-0"))=true:=jw sk (by decide +kernel)
 have st:Txt.startswith (sN (bE i)) (Str.ofString "-")=decide (i<0):=by
  rw[show Str.ofString "-" = sN [45] by rw[gu];rfl,VB]
  exact decide_eq_decide.mpr (uO i)
 have hfig:af (aH mY (asE ((ai (ag 67)).getD 0 (.Pass ⟨0,0,0,0⟩))) false (ae (ag 67)) (de ["word"] [.str (sN (bE i))])) (.str (sN (dC i.natAbs)),0):=by
  refine uw (∅.bl st) (λz=>?_) (λz=>?_)
  ·have hi:=aM4 z
   refine ∅.eq ?_
   show(D.str (Txt.slice (sN (bE i)) (some 1) none),0)=_
   rw[show bE i=45::dC i.natAbs from if_pos hi,FQ]
  ·have hi:=of_decide_eq_false z
   refine ∅.eq ?_
   show(D.str (sN (bE i)),0)=_
   rw[show bE i=dC i.natAbs from if_neg hi]
 have hint:af (fV [.str (sN (bE i))]) (.int i,0):=by
  unfold fV;dsimp only;rw[ei]
  exact⟨_,rfl,h3,True.intro⟩
 exact bG (aN (bI hfig) (aD (d6 (cH (∅.bl (by rw[oT];exact aH6 (GQ i))) (cH (FK (ax ∅ hf) rfl) gy))) rfl (cf (bP (dN (B:=fV) ∅ hint)))))
noncomputable def zR:Fx:=Tb [("is_name", dm),("whole_read", fx)] [] BL IL ML TL aO
noncomputable def dS:List D->Rs D:=bH zR (ae (ag 96)) ["kind", "word"] (ai (ag 96))
theorem yH(h:af (dm [.str w]) (.bl true)):af (dS [.str (Str.ofString "new"),.str w]) (.bl true):=bG (cy ∅ rfl (cf (bP (ax ∅ h))))
theorem uc(w:Str):af (dS [.str (Str.ofString "part"),.str w]) (.bl true):=bG (aD ∅ rfl (aD ∅ rfl (cf (bP (d6 (vW ∅ (λz=>nomatch z) λ_=>rfl))))))
theorem pM(w:Str):af (dS [.str (Str.ofString "name"),.str w]) (.bl true):=bG (aD ∅ rfl (aD ∅ rfl (cf (bP (d6 (vW ∅ (λz=>nomatch z) λ_=>rfl))))))
theorem yI(h:af (fx [.str w]) (.int n)):af (dS [.str (Str.ofString "number"),.str w]) (.bl true):=bG (aD ∅ rfl (cy ∅ rfl (cf (bP (cn (y:=.non) (j:=0) (ax ∅ h) ∅ ∅)))))
noncomputable def gO:Fx:=Tb [("is_right", dS)] [("MOST_NUMBERS", .int 40)] BL IL ML TL aO
noncomputable def fE:Em:=λg=>([("FORMS", [("keep", ["new", "part", "part", "part", "part"]),("sum", ["new", "name", "name"]),("times", ["new", "name", "name"]),("bar", ["new", "name"]),("drop", ["name"]),("names", []),("show", ["name"]),("size", ["name"]),("divide", ["side", "name", "name"]),("shared", ["side", "name", "name"]),("apart", ["name"]),("turn", ["name"]),("place", ["name", "number", "number", "number"]),("corner", ["name"]),("base", ["name"]),("ways", ["number"]),("squares", ["number"])])]:List (Str×List (Str×List Str))).lookup g
noncomputable abbrev dW(s:String):D:=.str (Str.ofString s)
noncomputable def fgP:Stmt->Pos
 | .Assign _ (.Call (.Attribute (.Name _ p) _ _) _ _ _) _=>p
 | _=>⟨0,0,0,0⟩
noncomputable def VD:Stmt->Pos×Pos
 | .Assign _ (.Call (.Attribute _ _ p) _ _ q) _=>(p,q)
 | _=>(⟨0,0,0,0⟩,⟨0,0,0,0⟩)
noncomputable def fgE:Stmt->Expr
 | .Assign _ (.Call _ [e] _ _) _=>e
 | _=>.Constant .none 0 ⟨0,0,0,0⟩
noncomputable def lD:List (Str×List Str):=[("keep", ["new", "part", "part", "part", "part"]),("times", ["new", "name", "name"]),("bar", ["new", "name"]),("size", ["name"]),("turn", ["name"]),("place", ["name", "number", "number", "number"]),("corner", ["name"]),("base", ["name"])]
noncomputable def eS:List D->Rs D:=λds=>match ds with
 | [.lst (.str w::ws)]=>(match lD.lookup w with
  | some fm=>.ok (.tup (fm.map D.str)) [∃us:List Str,ws=us.map D.str,ws.length=fm.length,∀p∈fm.zip ws,af (dS [.str p.1,p.2]) (.bl true)]
  | none=>.st)
 | _=>.st
theorem Nq:(fE (Str.ofString "FORMS")).isSome=true:=by decide +kernel
theorem hV(w:Str)(ws:List D):L2.atI (D.str w::ws) 0=some (.str w):=by
 exact sy (xs:=D.str w::ws) (j:=0) (v:=.str w) rfl
theorem Gn{α:Type}(l:List α):af (iW [.lst (l.map λ_=>D.bl true)]) (.bl true,0):=by
 have e:∀l:List α,dj (l.map λ_=>D.bl true)=some (l.map λ_=>true):=λl=>by
  induction l with
  | nil=>rfl
  | cons b bs ih=>rw[aH8,dj,ih];rfl
 have z:(l.map λ_=>true).all id=true:=aM1.mpr λx hx=>by
  obtain⟨_,_,rfl⟩:=aK0.mp hx;rfl
 unfold iW;dsimp only;rw[e];dsimp only;rw[z];exact⟨_,rfl,True.intro⟩
theorem Nt(hf:((fE (Str.ofString "FORMS")).getD []).lookup w=some fm)
  (hr:af (aF gO ((ai (ag 95)).drop 1) (ae (ag 95)) (bF (de ["words"] [.lst (.str w::ws)]) "form" (.tup (fm.map D.str),true))) (.rt r)) :
  rf gO fE (ae (ag 95)) ["words"] (ai (ag 95)) [.lst (.str w::ws)] r:=by
 refine⟨rfl,λX H0 G po hD=>?_⟩
 obtain⟨kvs,hk⟩:=Option.isSome_iff_exists.mp Nq
 have hl:kvs.lookup w=some fm:=by rw[hk]at hf;exact hf
 have D0:=hD _ _ hk
 have e0:af (aH gO (fgE ((ai (ag 95)).getD 0 (.Pass ⟨0,0,0,0⟩))) false (ae (ag 95)) (de ["words"] [.lst (.str w::ws)])) (.str w,0):=by
  exact dY (x:=.lst (.str w::ws)) (l:=.str w::ws) (j:=0) ∅ ∅ rfl (hV w ws)
 have eg:=JT (p:=fgP ((ai (ag 95)).getD 0 (.Pass ⟨0,0,0,0⟩))) (ap:=(VD ((ai (ag 95)).getD 0 (.Pass ⟨0,0,0,0⟩))).1) (cp:=(VD ((ai (ag 95)).getD 0 (.Pass ⟨0,0,0,0⟩))).2) D0 (G.gl _ rfl) ((eM e0 G).1 rfl) (λ_ _ z=>nomatch z) rfl (base_of rfl)
 rw[hl]at eg
 exact oH (vf (o:=true) G rfl eg (.inl ⟨rfl,rfl⟩) (jY rfl)) (kT _ hr G po)
theorem kL{α:Type}{w:Str}{v:α}:∀{l:List (Str×α)},l.lookup w=some v->(w,v)∈l
 | [],h=>nomatch h
 | (k,x)::l,h=>by
  rw[aG6]at h
  split at h
  ·rename_i e
   cases h
   have:w=k:=eq_of_beq e
   rw[this];exact aG0
  ·exact aG1 _ (kL h)
theorem NF{f:Str}{p q:Pos}{args:List Expr}{ds:List D}{k:Nat}{B:List D->Nat->R1}{v:D×Nat}(ha:af (cZ Φ args sc ρ) (ds,k))(hv:af (B ds k) v)(hF:Φ.fn f=none:=by rfl)(hI:Φ.itr f=some B:=by rfl)(hg:sc.names.lookup f=some .globalImplicit:=by rfl):af (aH Φ (.Call (.Name f p) args [] q) true sc ρ) v:=by
 rw[jv,if_pos hg]
 refine ha.bnd ?_
 unfold lL
 simp only[hF,if_pos,hI]
 exact hv
theorem UH(x:D)(ws:List D):mT (x::ws) (some 1) none=ws:=by
 unfold mT
 have e1:HT.sIx (x::ws).length 0 (some 1)=1:=by
  unfold HT.sIx
  rw[aG9]
  simp
 have e2:HT.sIx (x::ws).length (x::ws).length none=(x::ws).length:=rfl
 rw[e1,e2,List.drop_succ_cons,List.drop_zero,aG9]
 exact List.take_of_length_le (by omega)
theorem vD:∀us:List Str,aI (us.map D.str)=true
 | []=>rfl
 | _::us=>by rw[aH8,aI,vD us];rfl
theorem L8(h:a=b):af (fQ .NotEq (.int a) (.int b)) false:=by
 subst h
 exact ∅.eq (fN rfl)
theorem JG:∀p∈lD,((fE (Str.ofString "FORMS")).getD []).lookup p.1=some p.2/\p.2.length<=5/\eqD (.str p.1) (dW "apart")=false/\fP (.str p.1) (dW "apart")=true:=by decide +kernel
theorem Nu(hf:((fE (Str.ofString "FORMS")).getD []).lookup w=some fm)(ha:eqD (.str w) (dW "apart")=false)(ho:fP (.str w) (dW "apart")=true)(hl:fm.length<=5)(hn:us.length=fm.length)(hr:∀p∈fm.zip us,af (dS [.str p.1,.str p.2]) (.bl true)):rf gO fE (ae (ag 95)) ["words"] (ai (ag 95)) [.lst (.str w::us.map D.str)] (.tup (fm.map D.str)):=by
 refine Nt hf ?_
 have c1:af (fQ .Eq (.str w) (dW "apart")) false:=af.eq (bv rfl ⟨ho,True.intro⟩) ha
 have z:List.zipWith (λx y:D=>D.tup [x,y]) (fm.map D.str) (us.map D.str)=(fm.zip us).map λp=>D.tup [.str p.1,.str p.2]:=by
  rw[List.zipWith_map,List.zip,List.map_zipWith]
 have l1:=vD fm
 have l2:=vD us
 have l3:aI (D.str w::us.map D.str)=true:=by rw[aI,l2];rfl
 have kn0:Sp.kn (D.tup (fm.map D.str)) 2=0:=if_pos (by rw[D.lless];exact l1)
 have nf:∀ps:Pos,af (aH gO (.Name "form" ps) false (ae (ag 95)) (bF (de ["words"] [.lst (.str w::us.map D.str)]) "form" (.tup (fm.map D.str),true))) (.tup (fm.map D.str),0):=λps=>af.eq ∅ (by show(D.tup (fm.map D.str),Sp.kn (D.tup (fm.map D.str)) 2)=_;rw[kn0])
 refine aD (t:=false) (k:=0) ∅ rfl (aD (t:=false) (k:=0) (cn (dY ∅ ∅ rfl (hV _ _)) ∅ c1) rfl (aD (t:=false) (k:=0) (cn (x:=.int (((.str w::us.map D.str:List D).length:Int)-1)) (y:=.int ((fm.map D.str).length:Nat)) (k:=0) (j:=0) ∅ ∅ (L8 ?_)) rfl (aD (FK (dN (B:=iW) (aJ (cY (l:=fm.zip us) (g:=λp=>D.tup [.str p.1,.str p.2]) (f:=λ_=>D.bl true) (d:=.lst ((fm.zip us).map λp=>D.tup [.str p.1,.str p.2])) (k:=0) ?_ rfl ?_ (.inr (aH5 1)) ?_) bD) (Gn _)) rfl) rfl (cf (bP (k:=0) (af.eq ∅ (by show(D.tup (fm.map D.str),Sp.kn (D.tup (fm.map D.str)) 2)=_;rw[kn0])))))))
 ·rw[aG9,aH3,aH3,hn];omega
 ·refine NF (B:=zj) (aJ (k:=0) (j:=0) (d:=.tup (fm.map D.str)) (nf _) (aJ (d:=.lst (us.map D.str)) (k:=0) (j:=0) (lH (x:=.lst (.str w::us.map D.str)) (l:=some 1) (h:=none) ∅ ∅ ∅ ?_) bD)) ?_
  ·exact af.eq ⟨_,rfl,l3,True.intro⟩ (by rw[UH])
  ·exact af.eq ⟨_,rfl,l1,l2,True.intro⟩ (by rw[z];rfl)
 ·exact aF5 (by rw[List.length_zip];exact aF5 (Nat.min_le_left _ _) hl) (by decide)
 ·exact λp hp=>⟨_,rfl,ax ∅ (hr p hp)⟩
theorem wB(ds:List D)(r:D)(h:af (eS ds) r):rf gO fE (ae (ag 95)) ["words"] (ai (ag 95)) ds r:=by
 obtain⟨l,h,hp⟩:=h
 unfold eS at h
 split at h
 ·rename_i w ws
  split at h
  ·rename_i fm hl
   cases h
   obtain⟨⟨us,rfl⟩,hn,hr,_⟩:=hp
   obtain⟨h1,h2,h3,h4⟩:=JG _ (kL hl)
   rw[aH3]at hn
   exact Nu h1 h3 h4 h2 hn λp hp=>hr (p.1,.str p.2) (by rw[List.zip_map_right];exact aK0.mpr ⟨p,hp,rfl⟩)
  ·cases h
 ·cases h
noncomputable def wy:Fx:=mZ [] [] BL IL ML TL aO [("Turn", ["fractions"])] []
noncomputable def ii:List D->Rs D:=bH wy (ae (aM (ag 70) 1)) ["self"] (ai (aM (ag 70) 1))
noncomputable def qX:Fx:=mZ [] [] BL IL ML TL aO [] [("Turn", [("table", ii)])]
noncomputable def fX:List D->Rs D:=bH qX (ae (ag 83)) ["turn"] (ai (ag 83))
theorem wa(a b c d:Int):af (fX [rF a b c d]) (.int ((n4 a b c d).fdiv (gI (cW a b c d)))):=bv rfl (by walk_at "ob")
noncomputable def sD:Fx:=Tb [] [] BL IL ML TL aO
noncomputable def sK:List D->Rs D:=bH sD (ae (ag 23)) ["four"] (ai (ag 23))
noncomputable def fw:List D->Rs D:=u5 dQ λp=>.ok (dq (hJ p)) []
theorem oj:∀ds r,af (fw ds) r->af (sK ds) r:=by
 intro ds r h
 obtain⟨p,rfl,h'⟩:=kH h
 obtain⟨rfl,_⟩:=eh h'
 exact bv rfl (by walk_at "ob")
noncomputable def oZ:Fx:=Tb [] [] BL IL ML TL aO
noncomputable def fC:List D->Rs D:=bH oZ (ae (ag 40)) ["one", "other"] (ai (ag 40))
noncomputable def t7:Fx:=Tb [("added_products", fC)] [] BL IL ML TL aO
noncomputable def i0:List D->Rs D:=bH t7 (ae (ag 51)) ["rows"] (ai (ag 51))
noncomputable def tY:Fx:=Tb [("added_products", fC),("determinant", i0)] [("PAIRS", .tup [.tup [.int 0,.int 0],.tup [.int 0,.int 1],.tup [.int 0,.int 2],.tup [.int 1,.int 1],.tup [.int 1,.int 2],.tup [.int 2,.int 2]])] BL IL ML TL aO
noncomputable def gE:List D->Rs D:=bH tY (ae (ag 50)) ["table"] (ai (ag 50))
theorem zr{p q r s:Int}(hp:p.natAbs<=2 ^ 294)(hq:q.natAbs<=2 ^ 294)(hr:r.natAbs<=2 ^ 294)(hs:s.natAbs<=2 ^ 294):(p*q-r*s).natAbs<bW:=by
 have h1:(p*q).natAbs<=2 ^ 588:=by rw[aI5];exact aF5 (aJ6 hp hq) (by rw[<- aM9];exact aF9 _)
 have h2:(r*s).natAbs<=2 ^ 588:=by rw[aI5];exact aF5 (aJ6 hr hs) (by rw[<- aM9];exact aF9 _)
 have h3:(p*q-r*s).natAbs<=2 ^ 588+2 ^ 588:=aF5 (aO6 _ _) (aP4 h1 h2)
 exact ay (m:=589) (aF5 h3 (by rw[aM2];omega)) (by decide)
theorem JJ(nB:n.natAbs<bW)
  (b0:r0.natAbs<=2 ^ 294)
  (b1:r1.natAbs<=2 ^ 294)
  (b2:r2.natAbs<=2 ^ 294)
  (b3:r3.natAbs<=2 ^ 294)
  (b4:r4.natAbs<=2 ^ 294)
  (b5:r5.natAbs<=2 ^ 294)
  (b6:r6.natAbs<=2 ^ 294)
  (b7:r7.natAbs<=2 ^ 294)
  (b8:r8.natAbs<=2 ^ 294)
  (o00:bj r0 r1 r2 r0 r1 r2=n*n)
  (o01:bj r0 r1 r2 r3 r4 r5=0)
  (o02:bj r0 r1 r2 r6 r7 r8=0)
  (o11:bj r3 r4 r5 r3 r4 r5=n*n)
  (o12:bj r3 r4 r5 r6 r7 r8=0)
  (o22:bj r6 r7 r8 r6 r7 r8=n*n)
  (hd:¬ bj r0 r1 r2 (r4*r8-r5*r7) (r5*r6-r3*r8) (r3*r7-r4*r6)<0):af (gE [.tup [.int n,.tup [d3 r0 r1 r2,d3 r3 r4 r5,d3 r6 r7 r8]]]) .non:=by
 have B0:=ay b0 (by decide)
 have B1:=ay b1 (by decide)
 have B2:=ay b2 (by decide)
 have B3:=ay b3 (by decide)
 have B4:=ay b4 (by decide)
 have B5:=ay b5 (by decide)
 have B6:=ay b6 (by decide)
 have B7:=ay b7 (by decide)
 have B8:=ay b8 (by decide)
 have x0:=zr b4 b8 b5 b7
 have x1:=zr b5 b6 b3 b8
 have x2:=zr b3 b7 b4 b6
 refine bG (bV 1 ∅ (kG [.tup [.int 0,.int 0],.tup [.int 0,.int 1],.tup [.int 0,.int 2],.tup [.int 1,.int 1],.tup [.int 1,.int 2],.tup [.int 2,.int 2]] ∅ ?_))
 refine kP (C:=aS [("n", .int n,false),("rows", .tup [d3 r0 r1 r2,d3 r3 r4 r5,d3 r6 r7 r8],false)]) (P:=λρ=>tO _ _ _ _ _ _ _ ρ) (ah rfl (ah rfl aC)) λρ s=>?_
 refine⟨_,rfl,.inl (bN ((s.put _ _).put _ _) (aD ∅ (fN o00) ∅) λρ s'=>?_)⟩
 replace s:=(show Sub (aS [("n", .int n,false),("rows", .tup [d3 r0 r1 r2,d3 r3 r4 r5,d3 r6 r7 r8],false)]) ρ from ah s'.get (ah s'.get aC))
 clear s'
 refine⟨_,rfl,.inl (bN ((s.put _ _).put _ _) (aD ∅ (fN o01) ∅) λρ s'=>?_)⟩
 replace s:=(show Sub (aS [("n", .int n,false),("rows", .tup [d3 r0 r1 r2,d3 r3 r4 r5,d3 r6 r7 r8],false)]) ρ from ah s'.get (ah s'.get aC))
 clear s'
 refine⟨_,rfl,.inl (bN ((s.put _ _).put _ _) (aD ∅ (fN o02) ∅) λρ s'=>?_)⟩
 replace s:=(show Sub (aS [("n", .int n,false),("rows", .tup [d3 r0 r1 r2,d3 r3 r4 r5,d3 r6 r7 r8],false)]) ρ from ah s'.get (ah s'.get aC))
 clear s'
 refine⟨_,rfl,.inl (bN ((s.put _ _).put _ _) (aD ∅ (fN o11) ∅) λρ s'=>?_)⟩
 replace s:=(show Sub (aS [("n", .int n,false),("rows", .tup [d3 r0 r1 r2,d3 r3 r4 r5,d3 r6 r7 r8],false)]) ρ from ah s'.get (ah s'.get aC))
 clear s'
 refine⟨_,rfl,.inl (bN ((s.put _ _).put _ _) (aD ∅ (fN o12) ∅) λρ s'=>?_)⟩
 replace s:=(show Sub (aS [("n", .int n,false),("rows", .tup [d3 r0 r1 r2,d3 r3 r4 r5,d3 r6 r7 r8],false)]) ρ from ah s'.get (ah s'.get aC))
 clear s'
 refine⟨_,rfl,.inl (bN ((s.put _ _).put _ _) (aD ∅ (fN o22) ∅) λρ s'=>?_)⟩
 replace s:=(show Sub (aS [("n", .int n,false),("rows", .tup [d3 r0 r1 r2,d3 r3 r4 r5,d3 r6 r7 r8],false)]) ρ from ah s'.get (ah s'.get aC))
 clear s'
 have hA:af (i0 [.tup [d3 r0 r1 r2,d3 r3 r4 r5,d3 r6 r7 r8]]) (.int (bj r0 r1 r2 (r4*r8-r5*r7) (r5*r6-r3*r8) (r3*r7-r4*r6))):=bv rfl (by walk_at "ob")
 refine eJ s (cf (bP (uw (r:=(.non,0)) (cn (ax ∅ hA) ∅ ∅) (λht=>absurd (aM4 ht) hd) (λ_=>∅))))
noncomputable def wX:Fx:=Tb [] [] BL IL ML TL aO
noncomputable def ku:List D->Rs D:=bH wX (ae (ag 37)) ["one", "other"] (ai (ag 37))
theorem WQ(a b:Nat)(ha:a<2 ^ 1000)(hb:b<2 ^ 1000):af (ku [.int a,.int b]) (.int (Nat.gcd a b:Nat)):=by
 refine bG (At (m:=2002) (λm ρ => ∃(x y:Nat) (f g:Bool),tQ x y m/\Nat.gcd x y=Nat.gcd a b/\Sub (aS [("one", .int x,f),("other", .int y,g)]) ρ) ⟨a,b,false,false,NG ha hb,rfl,ah rfl (ah rfl aC)⟩ (by decide) ?_ ?_)
 ·rintro m ρ ⟨x,y,f,g,hm,hg,s⟩
  refine⟨!decide ((y:Int)=0),0,gX s (∅.bl (by show(!eqD (.int y) (.int 0))=_;rw[eO])),λht=>?_⟩
  have h0:y≠0:=by
   intro z;subst z;exact absurd ht (by decide)
  have hn:(y:Int)≠0:=by omega
  obtain⟨m',hm',hE⟩:=si hm h0
  have e:=qm x y
  exact nu hm' (bN s ∅ λρ' s'=>⟨y,x % y,true,true,hE,by rw[<- hg,Nat.gcd_comm x y,Nat.gcd_rec y x,Nat.gcd_comm],ah s'.get (ah (by rw[<- e];exact s'.get) aC)⟩)
 ·rintro m ρ ⟨x,y,f,g,hm,hg,s⟩ ⟨k,hk⟩
  have e:=hk.inj (gX s ∅)
  have h0:y=0:=by
   have e1:(!eqD (.int y) (.int 0))=false:=by injection e with e1 e2;injection e1 with e1;exact e1.symm
   rw[eO]at e1
   have:(y:Int)=0:=by simpa using e1
   omega
  subst h0
  rw[<- hg,Nat.gcd_zero_right]
  exact eJ s ∅
noncomputable def oY:Fx:=Tb [("shared_by", ku)] [] BL IL ML TL aO
noncomputable def pf:List D->Rs D:=bH oY (ae (ag 36)) ["numbers"] (ai (ag 36))
noncomputable def dg:List D->Rs D
 | [.tup l]=>.ok (.int (rX l)) [okT l]
 | _=>.st
theorem lZ:∀ds r,af (dg ds) r->af (pf ds) r:=by
 intro ds r h
 unfold dg at h
 split at h
 ·obtain⟨rfl,⟨ns,rfl,hl,hb⟩,_⟩:=eh h
  rw[oQ]
  refine bG (bV 1 ∅ (rJ (ds:=ns.map D.int) (λrem ρ => ∃(r:List Int) (g:Nat),rem=r.map D.int/\(∀n∈r,n.natAbs<2 ^ 1000)/\cv g r=cv 0 ns/\g<2 ^ 1000/\Sub (aS [("reached", .int g,true)]) ρ) ∅ ⟨ns,0,rfl,hb,rfl,Nat.pow_pos (by decide),ah rfl aC⟩ ?_ ?_ rfl (xS (.tup (ns.map D.int)))))
  ·rintro d l ρ ⟨r,g,hr,hb',hg,hlt,s⟩
   cases r with
   | nil=>cases hr
   | cons n r =>
    cases hr
    have hn:=hb' n aG0
    have ea:(if n<0 then -n else n)=((n.natAbs:Nat):Int):=by omega
    have k:=WQ g n.natAbs hlt hn
    refine⟨_,rfl,bN (s.put _ _) (aN (bI (ax (v:=.int (Nat.gcd g n.natAbs:Nat)) (∅.eq (by rw[ea])) k)) dh) λρ' s'=>⟨r,Nat.gcd g n.natAbs,rfl,λm hm=>hb' m (aG1 _ hm),hg,?_,ah s'.get aC⟩⟩
    rcases aL3 g with z|z
    ·subst z;rw[Nat.gcd_zero_left];exact hn
    ·exact aI1 (Nat.le_of_dvd z (Nat.gcd_dvd_left _ _)) hlt
  ·rintro ρ ⟨r,g,hr,hb',hg,hlt,s⟩
   cases r with
   | nil =>
    rw[<- hg]
    exact eJ s ∅
   | cons n r=>cases hr
 ·exact(aw h).elim
noncomputable def wW:Fx:=Tb [] [] BL IL ML TL aO
noncomputable def gB:List D->Rs D:=bH wW (ae (ag 38)) ["numbers", "divisor"] (ai (ag 38))
noncomputable def BM:Fx:=Tb [("common_divisor", dg),("shortened", gB)] [] BL IL ML TL aO
noncomputable def iR:List D->Rs D:=bH BM (ae (ag 39)) ["numbers"] (ai (ag 39))
theorem HZ(x y z w K:Int)(hK:fU K):af (gB [t4 x y z w,.int K]) (t4 (x.fdiv K) (y.fdiv K) (z.fdiv K) (w.fdiv K)):=bv rfl (by walk_at "ob")
theorem yo{d:Int}(hk:k≠0)(p:Pm a b c d)(hT:okT (([k*a,k*b,k*c,k*d]:List Int).map D.int))(kb:k.natAbs<bW):af (iR [t4 (k*a) (k*b) (k*c) (k*d)]) (t4 a b c d):=by
 have hn:¬ (k*a=0/\k*b=0/\k*c=0/\k*d=0):=λz=>p.ne ⟨(aO5.mp z.1).resolve_left hk,(aO5.mp z.2.1).resolve_left hk,(aO5.mp z.2.2.1).resolve_left hk,(aO5.mp z.2.2.2).resolve_left hk⟩
 have hg:rX (([k*a,k*b,k*c,k*d]:List Int).map D.int)=k.natAbs:=by rw[kQ];exact Tx hk p
 have hl:=MY hn
 rw[lz _ _ _ _ hk]at hl
 have pos:=p.pos
 have fd:∀x:Int,(k*x).fdiv k=x:=λx=>Int.mul_fdiv_cancel_left x hk
 have fin:=HZ (k*a) (k*b) (k*c) (k*d) k ⟨hk,kb⟩
 rw[fd,fd,fd,fd]at fin
 have hD:af (dg [t4 (k*a) (k*b) (k*c) (k*d)]) (.int (k.natAbs:Nat)):=⟨[okT (([k*a,k*b,k*c,k*d]:List Int).map D.int)],by rw[<- hg];rfl,hT,True.intro⟩
 have k0:¬ ((k.natAbs:Nat):Int)=0:=by omega
 refine bG (aN (bI (d:=.int (k.natAbs:Nat)) (ax ∅ hD)) (aD ∅ ((eO _ _).trans (aH6 k0)) (aN (bI (d:=.int (k*dA a b c d)) (dY (k:=0) (rZ (out:=((([k*a,k*b,k*c,k*d]:List Int).filter λt => !decide (t=0)).map D.int)) (j:=0) ∅ (ds:=([k*a,k*b,k*c,k*d]:List Int).map D.int) rfl ⟨aF7 rfl,.inl rfl⟩ (jA (g:=D.int) (f:=D.int) (c:=λt => !decide (t=0)) (λx _=>?_)) (aH5 1)) ∅ rfl hl)) ?_)))
 ·refine af.bnd (a:=!decide (x=0)) (kU (b:=!decide (x=0)) (c:=!decide (x=0)) (∅.bl (by show(!eqD (.int x) (.int 0))=_;rw[eO])) (λh=>by rw[h];exact mR) id) ?_
  cases decide (x=0)
  ·exact af.bnd ∅ dM
  ·exact dM
 ·refine cf (bP (ax (aJ ∅ (aJ (uw (r:=(.int k,0)) ∅ (λht=>?_) (λhf=>?_)) bD)) fin))
  ·have hlt:0<k*dA a b c d:=aM4 ht
   have kp:0<k:=by
    rcases aP1 hk with q|q
    ·have:=Int.mul_neg_of_neg_of_pos q pos;omega
    ·exact q
   exact af.eq ∅ (by rw[show((k.natAbs:Nat):Int)=k by omega];rfl)
  ·have hge:¬ 0<k*dA a b c d:=of_decide_eq_false hf
   have kp:k<0:=by
    rcases aP1 hk with q|q
    ·exact q
    ·have:=aK3 q pos;omega
   exact af.eq ∅ (by show(D.int (-((k.natAbs:Nat):Int)),0)=_;rw[show -((k.natAbs:Nat):Int)=k by omega])
noncomputable def w5:Fx:=Tb [] [] BL IL ML TL aO
noncomputable def kA:List D->Rs D:=bH w5 (ae (ag 53)) ["table"] (ai (ag 53))
theorem MF{d K:Int}(e00:n+r0+r4+r8=K*(a*a))(e01:r7-r5=K*(a*b))(e02:r2-r6=K*(a*c))(e03:r3-r1=K*(a*d))(e11:n+r0-r4-r8=K*(b*b))(e12:r1+r3=K*(b*c))(e13:r2+r6=K*(b*d))(e22:n-r0+r4-r8=K*(c*c))(e23:r5+r7=K*(c*d))(e33:n-r0-r4+r8=K*(d*d)):af (kA [.tup [.int n,.tup [d3 r0 r1 r2,d3 r3 r4 r5,d3 r6 r7 r8]]]) (.lst (([a,b,c,d]:List Int).map λx=>t4 (K*x*a) (K*x*b) (K*x*c) (K*x*d))):=by
 refine af.eq ∅ ?_
 show D.lst [t4 (n+r0+r4+r8) (r7-r5) (r2-r6) (r3-r1),t4 (r7-r5) (n+r0-r4-r8) (r1+r3) (r2+r6),t4 (r2-r6) (r1+r3) (n-r0+r4-r8) (r5+r7),t4 (r3-r1) (r2+r6) (r5+r7) (n-r0-r4+r8)]=D.lst [t4 (K*a*a) (K*a*b) (K*a*c) (K*a*d),t4 (K*b*a) (K*b*b) (K*b*c) (K*b*d),t4 (K*c*a) (K*c*b) (K*c*c) (K*c*d),t4 (K*d*a) (K*d*b) (K*d*c) (K*d*d)]
 rw[e00,e01,e02,e03,e11,e12,e13,e22,e23,e33]
 have c00:K*a*a=K*(a*a):=by grind
 have c01:K*a*b=K*(a*b):=by grind
 have c02:K*a*c=K*(a*c):=by grind
 have c03:K*a*d=K*(a*d):=by grind
 have c10:K*b*a=K*(a*b):=by grind
 have c11:K*b*b=K*(b*b):=by grind
 have c12:K*b*c=K*(b*c):=by grind
 have c13:K*b*d=K*(b*d):=by grind
 have c20:K*c*a=K*(a*c):=by grind
 have c21:K*c*b=K*(b*c):=by grind
 have c22:K*c*c=K*(c*c):=by grind
 have c23:K*c*d=K*(c*d):=by grind
 have c30:K*d*a=K*(a*d):=by grind
 have c31:K*d*b=K*(b*d):=by grind
 have c32:K*d*c=K*(c*d):=by grind
 have c33:K*d*d=K*(d*d):=by grind
 rw[c00,c01,c02,c03,c10,c11,c12,c13,c20,c21,c22,c23,c30,c31,c32,c33]
noncomputable def w4:Fx:=Tb [("table_fault", gE),("upright", iR),("multiples", kA)] [] BL IL ML TL aO
noncomputable def iE:List D->Rs D:=bH w4 (ae (ag 52)) ["table"] (ai (ag 52))
theorem IY{d K:Int}(p:Pm a b c d)(hK:0<K)(e00:n+r0+r4+r8=K*(a*a))(e01:r7-r5=K*(a*b))(e02:r2-r6=K*(a*c))(e03:r3-r1=K*(a*d))(e11:n+r0-r4-r8=K*(b*b))(e12:r1+r3=K*(b*c))(e13:r2+r6=K*(b*d))(e22:n-r0+r4-r8=K*(c*c))(e23:r5+r7=K*(c*d))(e33:n-r0-r4+r8=K*(d*d))(hF:af (gE [.tup [.int n,.tup [d3 r0 r1 r2,d3 r3 r4 r5,d3 r6 r7 r8]]]) .non)(hT:okT (([K*dA a b c d*a,K*dA a b c d*b,K*dA a b c d*c,K*dA a b c d*d]:List Int).map D.int))(kb:(K*dA a b c d).natAbs<bW):af (iE [.tup [.int n,.tup [d3 r0 r1 r2,d3 r3 r4 r5,d3 r6 r7 r8]]]) (t4 a b c d):=by
 have pos:=p.pos
 have kp:0<K*dA a b c d:=aK3 (by omega) pos
 have hU:=yo (k:=K*dA a b c d) (by omega) p hT kb
 refine bG (aN (bI (ax ∅ hF)) (aD ∅ rfl ?_))
 refine cf (bP (ax (aJ (dY (rZ (out:=(([a,b,c,d]:List Int).filter λx => !decide (x=0)).map λx=>t4 (K*x*a) (K*x*b) (K*x*c) (K*x*d)) (j:=0) (ax ∅ (MF e00 e01 e02 e03 e11 e12 e13 e22 e23 e33)) (ds:=([a,b,c,d]:List Int).map λx=>t4 (K*x*a) (K*x*b) (K*x*c) (K*x*d)) rfl ⟨aF7 rfl,.inl rfl⟩ (jA (g:=λx=>t4 (K*x*a) (K*x*b) (K*x*c) (K*x*d)) (f:=λx=>t4 (K*x*a) (K*x*b) (K*x*c) (K*x*d)) (c:=λx => !decide (x=0)) (λx _=>?_)) (aH5 1)) ∅ rfl (Jm p.ne)) bD) hU))
 have ea:(([K*x*a,K*x*b,K*x*c,K*x*d]:List Int).any λn=>n != 0) = !decide (x=0):=by
  rw[ax6]
  congr 1
  apply decide_eq_decide.mpr
  constructor
  ·rintro⟨h1,h2,h3,h4⟩
   have q:∀y:Int,K*x*y=0->x=0\/y=0:=λy h=>by
    rcases aO5.mp h with z|z
    ·rcases aO5.mp z with z|z
     ·omega
     ·exact .inl z
    ·exact .inr z
   rcases q _ h1 with z|z1
   ·exact z
   rcases q _ h2 with z|z2
   ·exact z
   rcases q _ h3 with z|z3
   ·exact z
   rcases q _ h4 with z|z4
   ·exact z
   exact absurd ⟨z1,z2,z3,z4⟩ p.ne
  ·intro h;subst h;simp
 refine af.bnd (a:=!decide (x=0)) (kU (b:=!decide (x=0)) (c:=!decide (x=0)) (∅.bl (by exact ea)) (λh=>by rw[h];exact mR) id) ?_
 cases decide (x=0)
 ·exact af.bnd ∅ dM
 ·exact dM
theorem Mu(p:Pm q.1 q.2.1 q.2.2.1 q.2.2.2)(hq:dF (2 ^ 70) q):af (iE [(tq q).low.D]) (dq q):=by
 obtain⟨a,b,c,d⟩:=q
 obtain⟨h1,h2,h3,h4⟩:=hq
 have nB:=gt (q:=(a,b,c,d)) p.ne
 have up:∀{x:Int},x.natAbs<=2 ^ 70->x.natAbs<=2 ^ 140:=λh=>aF5 h (aG8 (by decide) (by decide))
 have tb:(tq (a,b,c,d)).bd 290:=Cn (up h1) (up h2) (up h3) (up h4)
 have lb:=T9.bd_low nB tb
 have l9:∀x∈(tq (a,b,c,d)).low.l,x.natAbs<=2 ^ 294:=λx hx=>aF5 (lb x hx) (aG8 (by decide) (by decide))
 obtain⟨o00,o01,o02,o11,o12,o22,od⟩:=A2 (q:=(a,b,c,d)) p
 obtain⟨K,hK,e00,e01,e02,e03,e11,e12,e13,e22,e23,e33⟩:=C9 (q:=(a,b,c,d)) p
 have hF:=JJ (ay (lb _ (T9.mem_n _)) (by decide)) (l9 _ (by simp[T9.l])) (l9 _ (by simp[T9.l])) (l9 _ (by simp[T9.l])) (l9 _ (by simp[T9.l])) (l9 _ (by simp[T9.l])) (l9 _ (by simp[T9.l])) (l9 _ (by simp[T9.l])) (l9 _ (by simp[T9.l])) (l9 _ (by simp[T9.l])) o00 o01 o02 o11 o12 o22 od
 have ll:(dA a b c d).natAbs<=2 ^ 70:=by unfold dA;split;exact h1;split;exact h2;split;exact h3;exact h4
 have kl:(K*dA a b c d).natAbs<=2 ^ 72:=by
  rw[aI5,show(2:Nat) ^ 72=4*2 ^ 70 from rfl]
  exact aJ6 (by omega) ll
 have kk:∀{x:Int},x.natAbs<=2 ^ 70->(K*dA a b c d*x).natAbs<=2 ^ 142:=λh=>by
  rw[aI5,show(2:Nat) ^ 142=2 ^ 72*2 ^ 70 from rfl]
  exact aJ6 kl h
 have hT:okT (([K*dA a b c d*a,K*dA a b c d*b,K*dA a b c d*c,K*dA a b c d*d]:List Int).map D.int):=EU (m:=142) (by decide) (by
  intro t ht
  simp only[aF8,aG4,aI7]at ht
  rcases ht with rfl|rfl|rfl|rfl
  ·exact kk h1
  ·exact kk h2
  ·exact kk h3
  ·exact kk h4)
 exact IY (a:=a) (b:=b) (c:=c) (d:=d) p (by omega) e00 e01 e02 e03 e11 e12 e13 e22 e23 e33 hF hT (ay kl (by decide))
noncomputable def qV:Fx:=Tb [] [] BL IL ML TL aO
noncomputable def rj:List D->Rs D:=bH qV (ae (ag 21)) ["one", "other"] (ai (ag 21))
noncomputable def fW:List D->Rs D:=xt dQ dQ λp q=>.ok (dq (fh p q)) [jF p,jF q]
theorem nj:∀ds r,af (fW ds) r->af (rj ds) r:=by
 intro ds r h
 obtain⟨p,q,rfl,h⟩:=nC h
 obtain⟨rfl,hp,hq,_⟩:=eh h
 obtain⟨⟨a1,a2,a3,a4⟩,⟨b1,b2,b3,b4⟩,⟨c1,c2,c3,c4⟩,d1,d2,d3,d4⟩:=BI hp hq
 exact bv rfl (by walk_at "ob")
noncomputable def qU:Fx:=mZ [("corner_number", fX),("other_signed", fw),("number_of", iE),("plain_product", fW)] [("UNITS", .tup [.tup [.int 1,.int 0,.int 0,.int 0],.tup [.int 0,.int 1,.int 0,.int 0],.tup [.int 0,.int 0,.int 1,.int 0],.tup [.int 0,.int 0,.int 0,.int 1]])] BL IL ML TL aO [] [("Turn", [("table", ii)])]
noncomputable def ic:List D->Rs D:=bH qU (ae (ag 85)) ["turn"] (ai (ag 85))
theorem KI(p:Pm q.1 q.2.1 q.2.2.1 q.2.2.2)(hq:dF (2 ^ 70) q):af (ic [rF q.1 q.2.1 q.2.2.1 q.2.2.2]) (.lst ((jq q (tq q).low.n).map dv)):=by
 have hN:=Mu p hq
 obtain⟨a,b,c,d⟩:=q
 obtain⟨h1,h2,h3,h4⟩:=hq
 have hC:=wa a b c d
 have aB:=ay h1 (by decide)
 have bB:=ay h2 (by decide)
 have cB:=ay h3 (by decide)
 have dB:=ay h4 (by decide)
 refine bG (aN (bI (ax ∅ hC)) (aN (bI (d:=t4 a (-b) (-c) (-d)) (ax (aJ (ax (aJ (fu ∅ ∅ rfl (d:=(tq (a,b,c,d)).low.D) ∅) bD) hN) bD) ∅)) ?_))
 have hbq:jF (a,-b,-c,-d):=⟨aB,by show(-b).natAbs<_;rw[aM8];exact bB,by show(-c).natAbs<_;rw[aM8];exact cB,by show(-d).natAbs<_;rw[aM8];exact dB⟩
 have e0:fh (a,-b,-c,-d) (1,0,0,0)=(a,-b,-c,-d):=(ID _).1
 have e1:fh (a,-b,-c,-d) (0,1,0,0)=(b,a,-d,c):=by simp[fh]
 have e2:fh (a,-b,-c,-d) (0,0,1,0)=(c,d,a,-b):=by simp[fh]
 have e3:fh (a,-b,-c,-d) (0,0,0,1)=(d,-c,b,a):=by simp[fh]
 refine cf (bP (k:=0) (af.eq ∅ ?_))
 show(D.lst [dv (fh (a,-b,-c,-d) (1,0,0,0)).2,dv (fh (a,-b,-c,-d) (0,1,0,0)).2,dv (fh (a,-b,-c,-d) (0,0,1,0)).2,dv (fh (a,-b,-c,-d) (0,0,0,1)).2,d3 ((n4 a b c d).fdiv (gI (cW a b c d))) 0 0,d3 0 ((n4 a b c d).fdiv (gI (cW a b c d))) 0,d3 0 0 ((n4 a b c d).fdiv (gI (cW a b c d)))],0)=_
 rw[e0,e1,e2,e3]
 rfl
noncomputable def Pj:Fx:=Tb [] [] BL IL ML TL aO
noncomputable def BU:List D->Rs D:=bH Pj (ae (ag 17)) ["one", "other"] (ai (ag 17))
noncomputable def ww:Fx:=Tb [] [] BL IL ML TL aO
noncomputable def nk:List D->Rs D:=bH ww (ae (ag 18)) ["one", "number"] (ai (ag 18))
noncomputable def qY:Fx:=Tb [("less", BU),("many_times", nk)] [] BL IL ML TL aO
noncomputable def fY:List D->Rs D:=bH qY (ae (ag 87)) ["spot", "other", "place"] (ai (ag 87))
theorem wo{p:Nat}(hp:p<3)(h0:pr p v≠0)(hv:fA 8990 v)(hu:fA 8990 u):af (fY [dv u,dv v,.int p]) (dv (sb u v ((pr p u).fdiv (pr p v)))):=by
 obtain⟨v1,v2,v3⟩:=hv.all
 have v1:=ay v1 (by decide)
 have v2:=ay v2 (by decide)
 have v3:=ay v3 (by decide)
 have hd:fU (pr p v):=⟨h0,ay (hv p) (by decide)⟩
 have hq:((pr p u).fdiv (pr p v)).natAbs<bW:=by
  have h1:=x6 (pr p u) (pr p v) h0
  have h2:=hu p
  have h3:((pr p u).fdiv (pr p v)).natAbs<=(pr p u).natAbs+1:=by
   rcases Nat.lt_or_ge (pr p u).natAbs ((pr p u).fdiv (pr p v)).natAbs with q|q
   ·have h4:=aN7 (((pr p u).fdiv (pr p v)).natAbs-1) (show 1<=(pr p v).natAbs by omega)
    have h5:(((pr p u).fdiv (pr p v)).natAbs-1)*(pr p v).natAbs=((pr p u).fdiv (pr p v)).natAbs*(pr p v).natAbs-(pr p v).natAbs:=by rw[Nat.sub_mul,Nat.one_mul]
    omega
   ·omega
  refine ay (m:=8991) (aF5 h3 ?_) (by decide)
  rw[aM2]
  have h6:1<=2 ^ 8990:=Nat.one_le_two_pow
  generalize 2 ^ 8990=M at *
  omega
 match p,hp with
 | 0,_ =>
  have hd:fU v.1:=hd
  have hq:(u.1.fdiv v.1).natAbs<bW:=hq
  exact bv rfl (by walk_at "ob")
 | 1,_ =>
  have hd:fU v.2.1:=hd
  have hq:(u.2.1.fdiv v.2.1).natAbs<bW:=hq
  exact bv rfl (by walk_at "ob")
 | 2,_ =>
  have hd:fU v.2.2:=hd
  have hq:(u.2.2.fdiv v.2.2).natAbs<bW:=hq
  exact bv rfl (by walk_at "ob")
noncomputable def BN:Fx:=Tb [("brought_below", fY)] [] BL IL ML TL aO
noncomputable def jV:List D->Rs D:=bH BN (ae (ag 88)) ["base"] (ai (ag 88))
theorem Rl{w:V3}(h1:pr 2 w≠0)(h2:pr 1 (sb v w ((pr 2 v).fdiv (pr 2 w)))≠0)(hu:fA 8990 u)(hv:fA 8990 v)(hw:fA 8990 w)(hs:fA 8990 (sb v w ((pr 2 v).fdiv (pr 2 w))))(ht:fA 8990 (sb u (sb v w ((pr 2 v).fdiv (pr 2 w))) ((pr 1 u).fdiv (pr 1 (sb v w ((pr 2 v).fdiv (pr 2 w))))))):af (jV [.lst [dv u,dv v,dv w]]) (.tup [dv (sb (sb u (sb v w ((pr 2 v).fdiv (pr 2 w))) ((pr 1 u).fdiv (pr 1 (sb v w ((pr 2 v).fdiv (pr 2 w)))))) w ((pr 2 (sb u (sb v w ((pr 2 v).fdiv (pr 2 w))) ((pr 1 u).fdiv (pr 1 (sb v w ((pr 2 v).fdiv (pr 2 w))))))).fdiv (pr 2 w))),dv (sb v w ((pr 2 v).fdiv (pr 2 w))),dv w]):=by
 have k1:=wo (p:=2) (by decide) h1 hw hv
 have k2:=wo (p:=1) (by decide) h2 hs hu
 have k3:=wo (p:=2) (by decide) h1 hw ht
 generalize sb v w ((pr 2 v).fdiv (pr 2 w))=s at *
 generalize sb u s ((pr 1 u).fdiv (pr 1 s))=t at *
 generalize sb t w ((pr 2 t).fdiv (pr 2 w))=z at *
 exact bG (aN (qx ∅ rfl (.inr (aF9 1)) rfl) (aN (bI (ax ∅ k1)) (aN (bI (ax (aJ (ax ∅ k2) ∅) k3)) ∅)))
noncomputable def Kj:Fx:=Tb [("brought_below", fY)] [] BL IL ML TL aO
noncomputable def sJ:List D->Rs D:=bH Kj (ae (ag 86)) ["spots", "place"] (ai (ag 86))
theorem rG{p:Nat}(hp:p<3){l:List V3}{bs:List Nat}(hbd:Gj bs l)(hok:CZ 0 bs)(hl:l.length<=100):∃r,af (sJ [.lst (l.map dv),.int p]) r/\∃L' os,i8 p 0 bs (0,0,0) l L' os/\r=.tup [dv L',.lst (os.map dv)]:=by
 refine Rj (UG 2 ∅ (xr (ds:=l.map dv) (λrem ρ => ∃(r os:List V3) (L:V3) (B:Nat) (bs':List Nat),rem=r.map dv/\fA B L/\Gj bs' r/\CZ B bs'/\os.length+r.length<=100/\(∀L' os',i8 p B bs' L r L' os'->i8 p 0 bs (0,0,0) l L' (os++os'))/\Sub (aS [("place", .int p,false),("others", .lst (os.map dv),true),("lead", dv L,true)]) ρ) _ ∅ ⟨l,[],(0,0,0),0,bs,rfl,gc ⟨by decide,by decide,by decide⟩,hbd,hok,by simpa using hl,λL' os' h=>h,ah rfl (ah rfl (ah rfl aC))⟩ ?_ ?_ rfl (xS (.lst (l.map dv)))))
 ·rintro d rem ρ ⟨r,os,L,B,bs',hr,hL,hbs,hk,hn,hch,s⟩
  cases r with
  | nil=>cases hr
  | cons S r =>
   cases hr
   cases bs' with
   | nil=>exact hbs.elim
   | cons b bs' =>
   obtain⟨hS,hbs⟩:=hbs
   obtain⟨hb,hB,hk⟩:=hk
   have up:nb B b<=8990:=hB
   have uB:B<=8990:=by unfold nb at hB;omega
   have ub:b<=8990:=by omega
   have hol:(os.map dv).length<cq:=by rw[aH3];unfold cq;simp only[aG9]at hn;omega
   refine⟨_,rfl,.inl (Sy (bI (d:=dv S) (gX (s.put _ _) ∅)) (Mt (P:=λρ => ∃L' R,Pn p B b L S L' R/\Sub (aS [("place", .int p,false),("others", .lst (os.map dv),true),("lead", dv L',true),("rest", dv R,true)]) ρ) (PZ (m:=3990) (λm ρ => ∃lv rv:V3,Sub (aS [("place", .int p,false),("others", .lst (os.map dv),true),("lead", dv lv,true),("rest", dv rv,true)]) ρ/\(∀P,Sg P->((P L/\P S)↔(P lv/\P rv)))/\((m=3990/\lv=L/\rv=S)\/(m9 p lv rv (2 ^ nb B b)/\tQ (pr p lv).natAbs (pr p rv).natAbs m/\(0<pr p S->0<pr p lv)/\pr p S≠0))) ⟨L,S,ah ((s.put _ _).put _ _).get (ah ((s.put _ _).put _ _).get (ah ((s.put _ _).put _ _).get (ah ((s.put _ _).put _ _).get aC))),λ_ _=>Iff.rfl,.inl ⟨rfl,rfl,rfl⟩⟩ (by decide) ?_ ?_) ?_))⟩
   ·rintro m ρ ⟨lv,rv,sw,cl,hi⟩
    refine⟨!decide (pr p rv=0),0,gX sw (cn (x:=.int (pr p rv)) (y:=.int 0) (dY ∅ ∅ rfl (EW hp rv)) ∅ (af.eq ∅ (by show(!eqD (.int (pr p rv)) (.int 0))=_;rw[eO]))),λht=>?_⟩
    have h0:pr p rv≠0:=by simpa using ht
    have ncl:∀P,Sg P->((P L/\P S)↔(P rv/\P (sb lv rv ((pr p lv).fdiv (pr p rv))))):=λP g=>(cl P g).trans ⟨λ⟨x,y⟩=>⟨y,g.step _ _ _ x y⟩,λ⟨y,x⟩=>⟨g.back x y,y⟩⟩
    rcases hi with⟨rfl,rfl,rfl⟩|⟨hw,hE,hps,hne⟩
    ·have hbb:=wo hp h0 (hS.mono ub) (hL.mono uB)
     have hw:=m9.first hL hS h0
     have hE:tQ (pr p rv).natAbs (pr p (sb lv rv ((pr p lv).fdiv (pr p rv)))).natAbs 3980:=by
      obtain⟨sg,x,y,e1,e2,hlt⟩:=hw.sg
      have hx:=hS p
      rw[e1,fF]at hx
      rw[e2,e1,fF,fF]
      have h1:x*y<x*x:=Nat.mul_lt_mul_of_pos_left hlt (by omega)
      have h2:x*x<=2 ^ 1990*2 ^ 1990:=aJ6 (aF5 hx (aG8 (by decide) hb)) (aF5 hx (aG8 (by decide) hb))
      rw[<- aM9]at h2
      exact .inl ⟨aP2 hlt,aG7 h1 h2⟩
     exact nu (m':=3980) (by decide) (bN sw (aN (bI (ax ∅ hbb)) ∅) λρ' s'=>⟨_,_,ah s'.get (ah s'.get (ah s'.get (ah s'.get aC))),ncl,.inr ⟨hw,hE,id,h0⟩⟩)
    ·have hbb:=wo hp h0 (λc=>aF5 (hw.br c) (aG8 (by decide) up)) (λc=>aF5 (hw.bl c) (aG8 (by decide) up))
     obtain⟨m',hm',hE'⟩:=si hE (by omega)
     have hE'':tQ (pr p rv).natAbs (pr p (sb lv rv ((pr p lv).fdiv (pr p rv)))).natAbs m':=by rw[hw.mod h0];exact hE'
     exact nu hm' (bN sw (aN (bI (ax ∅ hbb)) ∅) λρ' s'=>⟨_,_,ah s'.get (ah s'.get (ah s'.get (ah s'.get aC))),ncl,.inr ⟨hw.next h0,hE'',λq=>hw.pos (hps q) h0,hne⟩⟩)
   ·rintro m ρ ⟨lv,rv,s,cl,hi⟩ ⟨k,hk⟩
    have e:=hk.inj (gX s (cn (x:=.int (pr p rv)) (y:=.int 0) (dY ∅ ∅ rfl (EW hp rv)) ∅ (af.eq ∅ (by show(!eqD (.int (pr p rv)) (.int 0)) = !decide (pr p rv=0);rw[eO]))))
    have h0:pr p rv=0:=by
     have e1:(!decide (pr p rv=0))=false:=by injection e with e1 e2;injection e1 with e1;exact e1.symm
     simpa using e1
    refine⟨lv,rv,⟨h0,cl,?_,?_,?_⟩,s⟩
    ·rcases hi with⟨_,rfl,rfl⟩|⟨hw,_⟩
     ·exact⟨hL.mono (by unfold nb;omega),hS.mono (by unfold nb;omega)⟩
     ·exact⟨hw.bl,hw.br⟩
    ·rcases hi with⟨_,rfl,rfl⟩|⟨hw,_,q,_⟩
     ·intro q;omega
     ·exact q
    ·rcases hi with⟨_,rfl,rfl⟩|⟨hw,_,_,q⟩
     ·exact λ_=>⟨rfl,rfl⟩
     ·exact λz=>absurd z q
   ·rintro ρ ⟨L',R,hS',s⟩
    refine bN s ∅ λρ' s'=>⟨r,os++[R],L',nb B b,bs',rfl,hS'.bd.1,hbs,hk,by simp only[aI6,aG9,aQ1]at *;omega,λL2 os2 h2=>?_,ah s'.get (ah (by rw[aN4];exact s'.get) (ah s'.get aC))⟩
    rw[List.append_assoc]
    exact hch _ _ ⟨L',R,os2,hS',h2,rfl⟩
 ·rintro ρ ⟨r,os,L,B,bs',hr,hL,hbs,hk,hn,hch,s⟩
  cases r with
  | cons n r=>cases hr
  | nil =>
   cases bs' with
   | cons _ _=>exact hbs.elim
   | nil =>
   have h:=hch L [] ⟨rfl,rfl⟩
   rw[aK7]at h
   exact⟨_,eJ s ∅,L,os,h,rfl⟩
noncomputable def BQ:Fx:=Tb [("staying_spots", ic),("reduced", jV),("swept", sJ)] [] BL IL ML TL aO
noncomputable def iS:List D->Rs D:=bH BQ (ae (ag 84)) ["turn"] (ai (ag 84))
structure Bs(q:Qd)(A B C E F G:Int):Prop where
 a0:0<A
 d0:0<E
 f0:0<G
 b1:0<=B/\B<E
 c1:0<=C/\C<G
 e1:0<=F/\F<G
 n:A*E*G=(tq q).low.n
 s1:St (tq q).low (A,B,C)
 s2:St (tq q).low (0,E,F)
 s3:St (tq q).low (0,0,G)
 all:∀v,St (tq q).low v->ni A B C E F G v
theorem OY{B K:Nat}(hu:fA B u)(hv:fA B v)(hk:k.natAbs<=2 ^ K):fA (B+K+1) (sb u v k):=λp=>by
 rw[li]
 refine aF5 (aO6 _ _) ?_
 rw[aI5,aM2,aM9]
 have h1:=hu p
 have h2:=aJ6 (hv p) hk
 have h3:2 ^ B<=2 ^ B*2 ^ K:=Nat.le_mul_of_pos_right _ (Nat.pow_pos (by decide))
 omega
theorem OZ(p:Pm q.1 q.2.1 q.2.2.1 q.2.2.2)(hq:dF (2 ^ 70) q):∃A B C E F G:Int,Bs q A B C E F G/\af (iS [rF q.1 q.2.1 q.2.2.1 q.2.2.2]) (.tup [d3 A B C,d3 0 E F,d3 0 0 G]):=by
 obtain⟨g,hg,cut,en,ho,hn,g1⟩:=iH q p
 have hSt:=KI p hq
 have lb:(tq q).low.n.natAbs<=2 ^ 142:=by
  have h2:(tq q).n.natAbs<=2 ^ 142:=by
   obtain⟨h1,h2,h3,h4⟩:=hq
   have k:∀{x:Int},x.natAbs<=2 ^ 70->(x*x).natAbs<=2 ^ 140:=λh=>by rw[aI5,show(2:Nat) ^ 140=2 ^ 70*2 ^ 70 from rfl];exact aJ6 h h
   have k1:=k h1;have k2:=k h2;have k3:=k h3;have k4:=k h4
   show(n4 q.1 q.2.1 q.2.2.1 q.2.2.2).natAbs<=_
   unfold n4
   omega
  exact aF5 (gM (T9.gpos (gt p.ne))) h2
 have bq:Gj [70,70,70,70,142,142,142] (jq q (tq q).low.n):=by
  obtain⟨h1,h2,h3,h4⟩:=hq
  have z:∀{B:Nat},(0:Int).natAbs<=2 ^ B:=λ{B}=>aH5 _
  have ng:∀{x:Int} {B:Nat},x.natAbs<=2 ^ B->(-x).natAbs<=2 ^ B:=λh=>by rw[aM8];exact h
  exact⟨gc ⟨ng h2,ng h3,ng h4⟩,gc ⟨h1,ng h4,h3⟩,gc ⟨h4,h1,ng h2⟩,gc ⟨ng h3,h2,h1⟩,gc ⟨lb,z,z⟩,gc ⟨z,lb,z⟩,gc ⟨z,z,lb⟩,True.intro⟩
 have clq:=λ(A B C D E F:Int) hA hD hF=>O0 p (A:=A) (B:=B) (C:=C) (D:=D) (E:=E) (F:=F) hA hD hF
 have bn:fA 142 (0,(tq q).low.n,0)/\fA 142 (0,0,(tq q).low.n):=⟨gc ⟨aH5 _,lb,aH5 _⟩,gc ⟨aH5 _,aH5 _,lb⟩⟩
 generalize hnn:(tq q).low.n=n at *
 obtain⟨_,h0,L0,os0,w0,rfl⟩:=rG (p:=0) (by decide) bq ⟨by decide,by decide,by decide,by decide,by decide,by decide,by decide,by decide,by decide,by decide,by decide,by decide,by decide,by decide,True.intro⟩ (aF7 rfl)
 have cc0:=λP (g:Sg P)=>i8.cl g w0
 have z0:=i8.z w0
 obtain⟨al0,ar0,_,a0,⟨al1,ar1,_,a1,⟨al2,ar2,_,a2,⟨al3,ar3,_,a3,⟨al4,ar4,_,a4,⟨al5,ar5,_,a5,⟨al6,ar6,_,a6,⟨rfl,rfl⟩,rfl⟩,rfl⟩,rfl⟩,rfl⟩,rfl⟩,rfl⟩,rfl⟩:=w0
 have e5:=(a5.nz rfl).2
 have e6:=(a6.nz rfl).2
 have f0:=(a6.nz rfl).1.trans (a5.nz rfl).1
 have p0:=a4.ps hn
 have B0:=a4.bd.1
 subst e5 e6 f0
 obtain⟨_,h1,L1,os1,w1,rfl⟩:=rG (p:=1) (by decide) (l:=[ar0,ar1,ar2,ar3,ar4,(0,n,0),(0,0,n)]) (bs:=[142,214,286,358,502,142,142]) ⟨a0.bd.2,a1.bd.2,a2.bd.2,a3.bd.2,a4.bd.2,bn.1,bn.2,True.intro⟩ ⟨by decide,by decide,by decide,by decide,by decide,by decide,by decide,by decide,by decide,by decide,by decide,by decide,by decide,by decide,True.intro⟩ (aF7 rfl)
 have cc1:=λP (g:Sg P)=>i8.cl g w1
 have z1:=i8.z w1
 obtain⟨bl0,br0,_,b0,⟨bl1,br1,_,b1,⟨bl2,br2,_,b2,⟨bl3,br3,_,b3,⟨bl4,br4,_,b4,⟨bl5,br5,_,b5,⟨bl6,br6,_,b6,⟨rfl,rfl⟩,rfl⟩,rfl⟩,rfl⟩,rfl⟩,rfl⟩,rfl⟩,rfl⟩:=w1
 have e6:=(b6.nz rfl).2
 have f1:=(b6.nz rfl).1
 have p1:=b5.ps hn
 have B1:=b5.bd.1
 subst e6 f1
 obtain⟨_,h2,L2,os2,w2,rfl⟩:=rG (p:=2) (by decide) (l:=[br0,br1,br2,br3,br4,br5,(0,0,n)]) (bs:=[286,502,790,1150,1654,1798,142]) ⟨b0.bd.2,b1.bd.2,b2.bd.2,b3.bd.2,b4.bd.2,b5.bd.2,bn.2,True.intro⟩ ⟨by decide,by decide,by decide,by decide,by decide,by decide,by decide,by decide,by decide,by decide,by decide,by decide,by decide,by decide,True.intro⟩ (aF7 rfl)
 have cc2:=λP (g:Sg P)=>i8.cl g w2
 have z2:=i8.z w2
 obtain⟨cl0,cr0,_,c0,⟨cl1,cr1,_,c1,⟨cl2,cr2,_,c2,⟨cl3,cr3,_,c3,⟨cl4,cr4,_,c4,⟨cl5,cr5,_,c5,⟨cl6,cr6,_,c6,⟨rfl,rfl⟩,rfl⟩,rfl⟩,rfl⟩,rfl⟩,rfl⟩,rfl⟩,rfl⟩:=w2
 have p2:=c6.ps hn
 have B2:=c6.bd.1
 have y0:=(cc1 _ (yE 0)).mp ⟨rfl,z0⟩
 have x0:=(cc2 _ (yE 0)).mp ⟨rfl,y0.2⟩
 have x1:=(cc2 _ (yE 1)).mp ⟨rfl,z1⟩
 clear a0 a1 a2 a3 a4 a5 a6 b0 b1 b2 b3 b4 b5 b6
 have run:∀{d:D},af (jV [.lst [dv L0,dv L1,dv L2]]) d->af (iS [rF q.1 q.2.1 q.2.2.1 q.2.2.2]) d:=λ{d} hR=>by
  refine bG (aN (bI (ax ∅ hSt)) (aN (bI (d:=.lst []) ∅) (kG [.int 0,.int 1,.int 2] ∅ ?_)))
  refine kP (C:=aS [("spots", .lst ((jq q n).map dv),true),("base", .lst [],true)]) (P:=λρ=>tO _ _ _ _ _ _ _ ρ) (ah rfl (ah rfl aC)) λρ s=>?_
  refine⟨_,rfl,.inl (bN (s.put _ _) (aN (vU (ax ∅ h0) rfl) ∅) λρ s'=>?_)⟩
  replace s:=(show Sub (aS [("spots", .lst ([ar0,ar1,ar2,ar3,ar4,(0,n,0),(0,0,n)].map dv),true),("base", .lst [dv L0],true)]) ρ from ah s'.get (ah s'.get aC))
  clear s'
  refine⟨_,rfl,.inl (bN (s.put _ _) (aN (vU (ax ∅ h1) rfl) ∅) λρ s'=>?_)⟩
  replace s:=(show Sub (aS [("spots", .lst ([br0,br1,br2,br3,br4,br5,(0,0,n)].map dv),true),("base", .lst [dv L0,dv L1],true)]) ρ from ah s'.get (ah s'.get aC))
  clear s'
  refine⟨_,rfl,.inl (bN (s.put _ _) (aN (vU (ax ∅ h2) rfl) ∅) λρ s'=>?_)⟩
  exact eJ (show Sub (aS [("base", .lst [dv L0,dv L1,dv L2],true)]) ρ from ah s'.get aC) (cf (bP (ax ∅ hR)))
 have zz:∀P,Sg P->∀s∈[cr0,cr1,cr2,cr3,cr4,cr5,cr6],P s:=λP g s hs=>by
  have t0:s.1=0:=x0.2 s hs
  have t1:s.2.1=0:=x1.2 s hs
  have t2:s.2.2=0:=z2 s hs
  obtain⟨u,v,w⟩:=s
  cases t0;cases t1;cases t2
  exact g.zero
 have cl:∀P,Sg P->((∀s∈jq q n,P s)↔(P L0/\P L1/\P L2)):=λP g=>by
  constructor
  ·intro h
   have k0:=(cc0 P g).mp ⟨g.zero,h⟩
   have k1:=(cc1 P g).mp ⟨g.zero,k0.2⟩
   have k2:=(cc2 P g).mp ⟨g.zero,k1.2⟩
   exact⟨k0.1,k1.1,k2.1⟩
  ·rintro⟨k0,k1,k2⟩
   have j2:=(cc2 P g).mpr ⟨k2,zz P g⟩
   have j1:=(cc1 P g).mpr ⟨k1,j2.2⟩
   have j0:=(cc0 P g).mpr ⟨k0,j1.2⟩
   exact j0.2
 clear cc0 cc1 cc2 z0 z1 z2 zz h0 h1 h2
 obtain⟨A,B,C⟩:=L0
 obtain⟨x,E,F⟩:=L1
 obtain⟨x',y',G⟩:=L2
 have q0:x=0:=y0.1
 have q1:x'=0:=x0.1
 have q2:y'=0:=x1.1
 subst q0 q1 q2
 clear y0 x0 x1
 have pA:0<A:=p0
 have pE:0<E:=p1
 have pG:0<G:=p2
 have es:sb (0,E,F) (0,0,G) ((pr 2 (0,E,F)).fdiv (pr 2 (0,0,G)))=(0,E,F.fmod G):=by simp[sb,pr,lE]
 have et:sb (A,B,C) (0,E,F.fmod G) ((pr 1 (A,B,C)).fdiv (pr 1 (0,E,F.fmod G)))=(A,B.fmod E,C-F.fmod G*B.fdiv E):=by simp[sb,pr,lE B E]
 have ez:sb (A,B.fmod E,C-F.fmod G*B.fdiv E) (0,0,G) ((pr 2 (A,B.fmod E,C-F.fmod G*B.fdiv E)).fdiv (pr 2 (0,0,G)))=(A,B.fmod E,(C-F.fmod G*B.fdiv E).fmod G):=by simp[sb,pr,lE (C-F.fmod G*B.fdiv E) G]
 have f1:=aI8 F pG
 have f2:=aJ3 F pG
 have g1:=aI8 B pE
 have g2:=aJ3 B pE
 have i1:=aI8 (C-F.fmod G*B.fdiv E) pG
 have i2:=aJ3 (C-F.fmod G*B.fdiv E) pG
 have bs:fA 6622 (0,E,F.fmod G):=gc ⟨aH5 _,aF5 (B1 1) (aG8 (by decide) (by decide)),aF5 (by show(F.fmod G).natAbs<=G.natAbs;omega) (B2 2)⟩
 have bt:fA 8990 (A,B.fmod E,C-F.fmod G*B.fdiv E):=by
  have h:=OY (u:=(A,B,C)) (v:=(0,E,F.fmod G)) (k:=B.fdiv E) (B:=6622) (K:=502) (B0.mono (by decide)) bs (aF5 (gM pE) (B0 1))
  have e:sb (A,B,C) (0,E,F.fmod G) (B.fdiv E)=(A,B.fmod E,C-F.fmod G*B.fdiv E):=et
  rw[e]at h
  exact h.mono (by decide)
 have hR:=Rl (u:=(A,B,C)) (v:=(0,E,F)) (w:=(0,0,G)) (show G≠0 by omega) (by rw[es];show E≠0;omega) (B0.mono (by decide)) (B1.mono (by decide)) (B2.mono (by decide)) (by rw[es];exact bs.mono (by decide)) (by rw[es,et];exact bt)
 rw[es,et,ez]at hR
 have clr:∀P,Sg P->((∀s∈jq q n,P s)↔(P (A,B.fmod E,(C-F.fmod G*B.fdiv E).fmod G)/\P (0,E,F.fmod G)/\P (0,0,G))):=λP g=>(cl P g).trans (by
  constructor
  ·rintro⟨k0,k1,k2⟩
   have j1:=g.step _ _ ((pr 2 (0,E,F)).fdiv (pr 2 (0,0,G))) k1 k2
   rw[es]at j1
   have j2:=g.step _ _ ((pr 1 (A,B,C)).fdiv (pr 1 (0,E,F.fmod G))) k0 j1
   rw[et]at j2
   have j3:=g.step _ _ ((pr 2 (A,B.fmod E,C-F.fmod G*B.fdiv E)).fdiv (pr 2 (0,0,G))) j2 k2
   rw[ez]at j3
   exact⟨j3,j1,k2⟩
  ·rintro⟨k0,k1,k2⟩
   rw[<- ez]at k0
   have j0:=g.back k0 k2
   rw[<- et]at j0
   have j1:=g.back j0 k1
   rw[<- es]at k1
   exact⟨j1,g.back k1 k2,k2⟩)
 obtain⟨r1,⟨r2,r3,r4⟩,r5⟩:=clq A (B.fmod E) ((C-F.fmod G*B.fdiv E).fmod G) E (F.fmod G) G pA pE pG clr
 exact⟨_,_,_,_,_,_,⟨pA,pE,pG,⟨g1,g2⟩,⟨i1,i2⟩,⟨f1,f2⟩,r1.trans hnn.symm,r2,r3,r4,r5⟩,run hR⟩
noncomputable def zN:Fx:=Tb [] [] BL IL ML TL aO
noncomputable def lP:List D->Rs D:=bH zN (ae (ag 58)) ["numbers"] (ai (ag 58))
theorem CG(hn:ns.length<=10)(h:∀n∈ns,n.natAbs<10 ^ 40):af (lP [.tup (ns.map D.int)]) (.str (sN (jn (ns.map bE)))):=by
 have hj:=vE (ws:=ns.map bE) (by rw[aH3];omega) (by
  intro v hv
  obtain⟨n,hn,rfl⟩:=aK0.mp hv
  have:=dJ (h n hn);omega)
 rw[aN3]at hj
 refine bG (cf (bP (ju ∅ (aJ (cY (l:=ns) (g:=D.int) (f:=cC) (d:=.tup (ns.map D.int)) ∅ rfl (by show _<=40000;omega) (.inl (qj ns)) λn hm=>?_) bD) hj)))
 have h1:=qc (h n hm)
 refine⟨_,rfl,(∅).eq ?_⟩
 show(D.str (Str.ofString (toString n)),0)=(cC n,0)
 rw[pw];rfl
noncomputable def xc:Fx:=Tb [("added_products", fC)] [] BL IL ML TL aO
noncomputable def oB:List D->Rs D:=bH xc (ae (ag 54)) ["rows", "other"] (ai (ag 54))
noncomputable def qW:Fx:=Tb [("each_with", oB),("common_divisor", dg),("shortened", gB)] [] BL IL ML TL aO
noncomputable def gk:List D->Rs D:=bH qW (ae (ag 48)) ["table", "spot"] (ai (ag 48))
theorem yP(n X Y Z G:Int)(hG:fU G):af (aF qW ((ai (ag 48)).drop 3) (ae (ag 48)) (aS [("n", .int n,false),("brought", d3 X Y Z,true),("common", .int G,true)])) (.rt (.tup [.int (n.fdiv G),d3 (X.fdiv G) (Y.fdiv G) (Z.fdiv G)])):=bv rfl (by walk_at "ob")
theorem IF{d:Int}(hn:0<n)(nb:n.natAbs<bW)(ab:a.natAbs<bW)(bb:b.natAbs<bW)(cb:c.natAbs<bW)(db:d.natAbs<bW)(eb:e.natAbs<bW)(fb:f.natAbs<bW)(gb:g.natAbs<bW)(hb:h.natAbs<bW)(ib:i.natAbs<bW)(xb:x.natAbs<bW)(yb:y.natAbs<bW)(zb:z.natAbs<bW)
  (hT:okT ([n,bj a b c x y z,bj d e f x y z,bj g h i x y z].map D.int)):af (gk [.tup [.int n,.tup [d3 a b c,d3 d e f,d3 g h i]],d3 x y z]) (.tup [.int (n.fdiv (gI [n,bj a b c x y z,bj d e f x y z,bj g h i x y z])),d3 ((bj a b c x y z).fdiv (gI [n,bj a b c x y z,bj d e f x y z,bj g h i x y z])) ((bj d e f x y z).fdiv (gI [n,bj a b c x y z,bj d e f x y z,bj g h i x y z])) ((bj g h i x y z).fdiv (gI [n,bj a b c x y z,bj d e f x y z,bj g h i x y z]))]):=by
 have h0:0<gI [n,bj a b c x y z,bj d e f x y z,bj g h i x y z]:=js (n:=n) (by simp) (by omega)
 have hd:fU (gI [n,bj a b c x y z,bj d e f x y z,bj g h i x y z]):=⟨by omega,aI1 (zn (n:=n) (by simp) (by omega)) nb⟩
 rw[<- kQ]at hd⊢
 exact bG (bV 3 ∅ (eJ (ah rfl (ah rfl (ah rfl aC))) (yP n _ _ _ _ hd)))
noncomputable def wz:Fx:=mZ [("place_by", gk)] [] BL IL ML TL aO [("Turn", ["fractions"])] []
noncomputable def jI:List D->Rs D:=bH wz (ae (aM (ag 70) 2)) ["self", "spot"] (ai (aM (ag 70) 2))
theorem DU{w s d:D}(h:af (gk [t,s]) d):af (jI [.obj "Turn" ["word", "row", "fractions"] [w,r,t],s]) d:=bG (cf (bP (ax ∅ h)))
noncomputable def sC:Fx:=mZ [("base_of", iS),("row_text", lP),("corner_number", fX)] [] BL IL ML TL aO [] [("Turn", [("place", jI),("table", ii)])]
noncomputable def dl:List D->Rs D:=bH sC (ae (ag 102)) ["word", "turn", "numbers"] (ai (ag 102))
theorem sQ(h:(tq q).low.n.natAbs<10 ^ 40)(ns:D):af (dl [dW "corner", rE q,ns]) (cC (tq q).low.n) :=
 bG (cy ∅ rfl (cf (bP (dN (B:=lN) (aJ (ax ∅ (wa _ _ _ _)) bD) (pJ h)))))
theorem He(h:∀n∈(tq q).low.l,n.natAbs<10 ^ 40)(ns:D):af (dl [dW "turn", rE q,ns]) (.str (sN (jn ((tq q).low.l.map bE)))) :=
 bG (aD ∅ rfl (aD ∅ rfl (cy ∅ rfl (aN ∅ (cf (bP (ax ∅ (CG (ns:=(tq q).low.l) (aF7 rfl) h))))))))
theorem Cj{X Y Z:Int}(hP:af (gk [(tq q).low.D,d3 x y z]) (.tup [.int m,d3 X Y Z]))(h:∀n∈[m,X,Y,Z],n.natAbs<10 ^ 40):af (dl [dW "place", rE q,.lst [.int x,.int y,.int z]]) (.str (sN (jn ([m,X,Y,Z].map bE)))) :=
 bG (aD ∅ rfl (cy ∅ rfl (aN (qx (fu ∅ ∅ rfl (DU hP)) rfl (.inl rfl) rfl) (cf (bP (ax ∅ (CG (ns:=[m,X,Y,Z]) (aF7 rfl) h)))))))
theorem Hf(hB:af (iS [rE q]) (.tup [d3 A B C,d3 0 E F,d3 0 0 G]))(h:∀n∈[A,B,C,0,E,F,0,0,G],n.natAbs<10 ^ 40)(ns:D):af (dl [dW "base", rE q,ns]) (.str (sN (jn ([A,B,C,0,E,F,0,0,G].map bE)))) :=
 bG (aD ∅ rfl (aD ∅ rfl (aD ∅ rfl (aN (qx (ax ∅ hB) rfl (.inl rfl) rfl) (cf (bP (ax ∅ (CG (ns:=[A,B,C,0,E,F,0,0,G]) (aF7 rfl) h))))))))
noncomputable def wY:Fx:=Tb [] [] BL IL ML TL aO
noncomputable def xh:List D->Rs D:=mx wY (ae (ag 60)) ["part"] ((ai (ag 60)).take 1) (fsE ((ai (ag 60)).getD 1 (.Pass ⟨0,0,0,0⟩))) (fsT ((ai (ag 60)).getD 1 (.Pass ⟨0,0,0,0⟩)))
noncomputable def kr:List D->Rs D:=u5 dI λp=>.ok (.str (fT p)) [p.natAbs<2 ^ 1900]
theorem sH:∀ds r,af (kr ds) r->af (xh ds) r:=by
 intro ds r h
 obtain⟨p,rfl,h'⟩:=kH h
 obtain⟨rfl,hp,_⟩:=eh h'
 clear h h'
 have hh:=rV hp
 unfold fT
 by_cases h0:p.fmod 2=0
 ·rw[if_pos h0]
  exact Lq (cy ∅ ((eO _ _).trans (aI4 h0)) ∅)
 ·rw[if_neg h0]
  exact Lr (aD ∅ ((eO _ _).trans (aH6 h0)) dh) ∅ hp (by decide)
noncomputable def w9:Fx:=Tb [("part_text", kr)] [] BL IL ML TL aO
noncomputable def xi:List D->Rs D:=bH w9 (ae (ag 59)) ["four"] (ai (ag 59))
noncomputable def cU:List D->Rs D:=u5 dQ λp=>.ok (.str (iM p)) [L9 p]
theorem sI:∀ds r,af (cU ds) r->af (xi ds) r:=by
 intro ds r h
 obtain⟨p,rfl,h'⟩:=kH h
 obtain⟨rfl,hp,_⟩:=eh h'
 clear h h'
 have hs:=FJ hp
 have h16:(Str.ofString " ").length<=16:=by decide
 obtain⟨h1,h2,h3,h4⟩:=hp
 exact ∅
noncomputable def Ph:Fx:=Tb [] [] BL IL ML TL aO
noncomputable def Po:List D->Rs D:=bH Ph (ae (ag 24)) ["four"] (ai (ag 24))
noncomputable def rh:List D->Rs D:=u5 dQ λp=>.ok (.int (jg p)) [jF p]
theorem BS:∀ds r,af (rh ds) r->af (Po ds) r:=by
 intro ds r h
 obtain⟨p,rfl,h'⟩:=kH h
 obtain⟨rfl,hp,_⟩:=eh h'
 obtain⟨⟨a1,a2,a3,a4⟩,_⟩:=BI hp hp
 exact bv rfl (by walk_at "ob")
noncomputable def wx:Fx:=Tb [("common_divisor", dg),("shortened", gB)] [] BL IL ML TL aO
noncomputable def o7:List D->Rs D:=bH wx (ae (ag 47)) ["table"] (ai (ag 47))
theorem C8(n a b c d e f g h i G:Int)(hG:fU G):af (aF wx ((ai (ag 47)).drop 2) (ae (ag 47)) (aS [("n", .int n,false),("rows", .tup [d3 a b c,d3 d e f,d3 g h i],false),("common", .int G,true)])) (.rt (.tup [.int (n.fdiv G),.tup [d3 (a.fdiv G) (b.fdiv G) (c.fdiv G),d3 (d.fdiv G) (e.fdiv G) (f.fdiv G),d3 (g.fdiv G) (h.fdiv G) (i.fdiv G)]])):=bv rfl (by walk_at "ob")
theorem Tf{d:Int}(hn:0<n)(nb:n.natAbs<bW)(hT:okT ([n,a,b,c,d,e,f,g,h,i].map D.int)):af (o7 [.tup [.int n,.tup [d3 a b c,d3 d e f,d3 g h i]]]) (.tup [.int (n.fdiv (gI [n,a,b,c,d,e,f,g,h,i])),.tup [d3 (a.fdiv (gI [n,a,b,c,d,e,f,g,h,i])) (b.fdiv (gI [n,a,b,c,d,e,f,g,h,i])) (c.fdiv (gI [n,a,b,c,d,e,f,g,h,i])),d3 (d.fdiv (gI [n,a,b,c,d,e,f,g,h,i])) (e.fdiv (gI [n,a,b,c,d,e,f,g,h,i])) (f.fdiv (gI [n,a,b,c,d,e,f,g,h,i])),d3 (g.fdiv (gI [n,a,b,c,d,e,f,g,h,i])) (h.fdiv (gI [n,a,b,c,d,e,f,g,h,i])) (i.fdiv (gI [n,a,b,c,d,e,f,g,h,i]))]]):=by
 have h0:0<gI [n,a,b,c,d,e,f,g,h,i]:=js (n:=n) (by simp) (by omega)
 have hd:fU (gI [n,a,b,c,d,e,f,g,h,i]):=⟨by omega,aI1 (zn (n:=n) (by simp) (by omega)) nb⟩
 rw[<- kQ]at hd⊢
 exact bG (bV 2 ∅ (eJ (ah rfl (ah rfl (ah rfl aC))) (C8 n _ _ _ _ _ _ _ _ _ _ hd)))
noncomputable def zM:Fx:=Tb [("upright", iR),("lowest", o7)] [] BL IL ML TL aO
noncomputable def lO:List D->Rs D:=bH zM (ae (ag 49)) ["numbers"] (ai (ag 49))
theorem P5{d:Int}(hk:k≠0)(p:Pm a b c d)(hT:okT (([k*a,k*b,k*c,k*d]:List Int).map D.int))(kb:k.natAbs<bW)(ha:a.natAbs<=2 ^ 140)(hb:b.natAbs<=2 ^ 140)(hc:c.natAbs<=2 ^ 140)(hd:d.natAbs<=2 ^ 140):af (lO [t4 (k*a) (k*b) (k*c) (k*d)]) (KA a b c d):=by
 have aB:=ay ha (by decide)
 have bB:=ay hb (by decide)
 have cB:=ay hc (by decide)
 have dB:=ay hd (by decide)
 have dbl:∀{x:Int},x.natAbs<=2 ^ 140->(2*x).natAbs<bW:=λ{x} hx=>ay (m:=141) (by rw[aI5,aM2,aP5];exact Nat.mul_le_mul_right _ hx) (by decide)
 have a2:=dbl ha
 have b2:=dbl hb
 have c2:=dbl hc
 have hL:=Tf (a:=cX a b c d) (b:=cQ a b c d) (c:=cP a b c d) (d:=cG a b c d) (e:=cK a b c d) (f:=cF a b c d) (g:=cE a b c d) (h:=cD a b c d) (i:=cJ a b c d) (vz p.ne) (ay (Cn ha hb hc hd _ (by simp[cW])) (by decide)) (Kx ha hb hc hd)
 exact bG (aN (qx (ax ∅ (yo hk p hT kb)) rfl (.inl rfl) rfl) (aN (bI (d:=.tup [d3 (cX a b c d) (cQ a b c d) (cP a b c d),d3 (cG a b c d) (cK a b c d) (cF a b c d),d3 (cE a b c d) (cD a b c d) (cJ a b c d)]) ∅) (cf (bP (ax ∅ hL)))))
noncomputable def qZ:Fx:=Tb [("upright", iR),("table_of", lO)] [] BL IL ML TL aO
noncomputable def dD:List D->Rs D:=jS qZ (ae (aM (ag 71) 0)) ["self", "numbers"] (Dg (aM (ag 71) 0)) "Turn" ["word", "row", "fractions"]
theorem Ku{d:Int}(hk:k≠0)(p:Pm a b c d)(hT:okT (([k*a,k*b,k*c,k*d]:List Int).map D.int))(kb:k.natAbs<bW)(ha:a.natAbs<=2 ^ 140)(hb:b.natAbs<=2 ^ 140)(hc:c.natAbs<=2 ^ 140)(hd:d.natAbs<=2 ^ 140):af (dD [t4 (k*a) (k*b) (k*c) (k*d)]) (rF a b c d) :=
 Nk rfl (aJ ∅ (aJ (ax ∅ (yo hk p hT kb)) (aJ (ax ∅ (P5 hk p hT kb ha hb hc hd)) bD))) rfl rfl rfl
noncomputable def tW:Fx:=Tb [("told_of_turn", dl),("four_text", cU),("size", rh),("Turn", dD)] [] BL IL ML TL aO
noncomputable def dZ:List D->Rs D:=bH tW (ae (ag 101)) ["word", "four", "numbers"] (ai (ag 101))
theorem Hg(hb:jF q)(h:(jg q).natAbs<10 ^ 40)(ns:D):af (dZ [dW "size", dq q,ns]) (cC (jg q)) :=
 bG (aD ∅ rfl (cy ∅ rfl (cf (bP (dN (B:=lN) (aJ (ax ∅ (F:=rh) ⟨_,rfl,hb,True.intro⟩) bD) (pJ h))))))
theorem xm{ns:D}(h1:af (fQ .Eq (.str w) (dW "show")) false)(h2:af (fQ .Eq (.str w) (dW "size")) false)(h3:af (fQ .Eq (.str w) (dW "apart")) false)(hT:af (dD [q0]) t)(h:af (dl [.str w,t,ns]) r)(l0:Sp.kn q0 1=0:=by rfl)(l1:Sp.kn ns 1<=1:=by decide):af (dZ [.str w,q0,ns]) r :=
 bG (aD (cn ∅ ∅ h1) rfl (aD (cn ∅ ∅ h2) rfl (aD (cn ∅ ∅ h3) rfl (cf (bP (ax (aJ ∅ (aJ (ax ∅ hT) (aJ ∅ bD))) h))))))
noncomputable def wu:Fx:=Tb [] [] BL IL ML TL aO
noncomputable def cj:List D->Rs D:=bH wu (ae (ag 98)) ["wanted", "form", "words"] (ai (ag 98))
theorem GN(w a b c d:Str):af (cj [dW "name", .tup [dW "new", dW "part", dW "part", dW "part", dW "part"],.lst [dW "keep", .str w,.str a,.str b,.str c,.str d]]) (.lst []):=bv rfl (by walk_at "ob")
theorem BW(w a b:Str):af (cj [dW "name", .tup [dW "new", dW "name", dW "name"],.lst [dW "times", .str w,.str a,.str b]]) (.lst [.str a,.str b]):=bv rfl (by walk_at "ob")
noncomputable def km:Fx:=Tb [] [("MOST_FIGURES", .int 40)] BL IL ML TL aO
noncomputable def dU:List D->Rs D:=bH km (ae (ag 66)) ["number"] (ai (ag 66))
theorem FF(h:n.natAbs<10 ^ 40):af (dU [.int n]) (.bl false):=by
 have hl:=qH (m:=n.natAbs) (k:=40) (by decide) h
 have e:Str.ofString (toString (if n<0 then -n else n))=sN (dC n.natAbs):=by rw[sB];exact uN _
 have h1:(if n<0 then -n else n).natAbs<2 ^ 1900:=by rw[sB,Int.natAbs_natCast];exact qc h
 have h2:(Str.ofString (toString (if n<0 then -n else n))).length<=1048576:=by rw[e,ci];omega
 refine ∅.eq ?_
 show D.bl (decide ((40:Int)<((Str.ofString (toString (if n<0 then -n else n))).length:Nat)))=_
 rw[e,ci,aH6 (by omega)]
noncomputable def oh:Fx:=Tb [("has_too_many_figures", dU)] [] BL IL ML TL aO
noncomputable def gp:List D->Rs D:=bH oh (ae (ag 65)) ["number"] (ai (ag 65))
theorem aj9(h:(m*2).natAbs<10 ^ 40):af (gp [.int m]) (.int (m*2)) :=
 bG (aD (d6 (cH ∅ (cH (ax ∅ (FF h)) gy))) rfl ∅)
noncomputable def tZ:Fx:=Tb [] [] BL IL ML TL aO
noncomputable def iX:List D->Rs D:=bH tZ (ae (ag 64)) ["number"] (ai (ag 64))
theorem Yo(h:m.fmod 2≠0):af (iX [.int m]) (.int m) :=
 bG (aD (d6 (cH ∅ (cH (∅.bl ((eO _ _).trans (aH6 h))) gy))) rfl ∅)
noncomputable def wZ:Fx:=Tb [("doubled_or_none", gp),("odd_or_none", iX),("whole_read", fx)] [] BL IL ML TL aO
noncomputable def kz:List D->Rs D:=bH wZ (ae (ag 63)) ["word"] (ai (ag 63))
theorem yL{p:Int}(h:p.natAbs<10 ^ 40):af (kz [.str (sN (fS p))]) (.int p):=by
 have hl:(sN (fS p)).length<=1048576:=by rw[ci];have:=dX h;omega
 have e2:Str.ofString "/2" = sN [47,50]:=by rw[gu];rfl
 by_cases hp:p.fmod 2=0
 ·have ew:fS p=bE (p.fdiv 2):=if_pos hp
  have hh:(p.fdiv 2).natAbs<10 ^ 40:=aI1 (ip p (by decide)) h
  have e:p.fdiv 2*2=p:=by have:=Int.mul_fdiv_add_fmod p 2;omega
  have hd:=aj9 (m:=p.fdiv 2) (by rw[e];exact h)
  rw[e]at hd
  have hw:=rB hh
  rw[<- ew]at hw
  exact bG (aD ∅ (by rw[e2,ew];exact aj7 λz=>by rcases kF _ 47 z with q|q<;>omega) (cf (bP (ax (aJ (ax ∅ hw) bD) hd))))
 ·have ew:fS p=bE p++[47,50]:=if_neg hp
  have hw:=rB h
  exact bG (cy ∅ (by rw[e2,ew];exact aj6 _) (cf (bP (ax (aJ (ax (aJ (∅.eq (by show(D.str (Txt.slice (sN (fS p)) none (some (-2))),0)=(D.str (sN (bE p)),0);rw[ew,ao9])) bD) hw) bD) (Yo hp)))))
noncomputable def wv:Fx:=Tb [("part_read", kz)] [] BL IL ML TL aO
noncomputable def ig:List D->Rs D:=bH wv (ae (ag 62)) ["words"] (ai (ag 62))
theorem XE(h:jQ q):af (ig [.lst ((gq q).map λw=>D.str (sN w))]) (.lst [.int q.1,.int q.2.1,.int q.2.2.1,.int q.2.2.2]):=by
 obtain⟨h1,h2,h3,h4⟩:=h
 have p1:=yL h1;have p2:=yL h2;have p3:=yL h3;have p4:=yL h4
 show af (ig [.lst [.str (sN (fS q.1)),.str (sN (fS q.2.1)),.str (sN (fS q.2.2.1)),.str (sN (fS q.2.2.2))]]) _
 refine bG (bV 1 ∅ (kG [.tup [.int 0,.str (sN (fS q.1))],.tup [.int 1,.str (sN (fS q.2.1))],.tup [.int 2,.str (sN (fS q.2.2.1))],.tup [.int 3,.str (sN (fS q.2.2.2))]] ∅ ?_))
 refine kP (C:=aS [("parts", .lst [],true)]) (P:=λρ=>tO _ _ _ _ _ _ _ ρ) (ah rfl aC) λρ s=>?_
 refine⟨_,rfl,.inl (bN ((s.put _ _).put _ _) (aN (bI (ax ∅ p1)) (aD ∅ rfl ∅)) λρ s'=>?_)⟩
 replace s:=(show Sub (aS [("parts", .lst [.int q.1],true)]) ρ from ah s'.get aC)
 clear s'
 refine⟨_,rfl,.inl (bN ((s.put _ _).put _ _) (aN (bI (ax ∅ p2)) (aD ∅ rfl ∅)) λρ s'=>?_)⟩
 replace s:=(show Sub (aS [("parts", .lst [.int q.1,.int q.2.1],true)]) ρ from ah s'.get aC)
 clear s'
 refine⟨_,rfl,.inl (bN ((s.put _ _).put _ _) (aN (bI (ax ∅ p3)) (aD ∅ rfl ∅)) λρ s'=>?_)⟩
 replace s:=(show Sub (aS [("parts", .lst [.int q.1,.int q.2.1,.int q.2.2.1],true)]) ρ from ah s'.get aC)
 clear s'
 refine⟨_,rfl,.inl (bN ((s.put _ _).put _ _) (aN (bI (ax ∅ p4)) (aD ∅ rfl ∅)) λρ s'=>?_)⟩
 exact eJ (show Sub (aS [("parts", .lst [.int q.1,.int q.2.1,.int q.2.2.1,.int q.2.2.2],true)]) ρ from ah s'.get aC) ∅
noncomputable def xa:Fx:=Tb [("parts_read", ig)] [] BL IL ML TL aO
noncomputable def kB:List D->Rs D:=bH xa (ae (ag 61)) ["text"] (ai (ag 61))
noncomputable def vt(q:Qd):Prop:=q.2.1.fmod 2=q.1.fmod 2/\q.2.2.1.fmod 2=q.1.fmod 2/\q.2.2.2.fmod 2=q.1.fmod 2
theorem aj2(h:jQ q)(hp:vt q):af (kB [.str (iM q)]) (dq q):=by
 have hs:=XE h
 have hj:=A9 (dX h.1) (dX h.2.1) (dX h.2.2.1) (dX h.2.2.2)
 have hz:(iM q).length<=1048576:=by rw[ql,ci];exact aF5 hj (by decide)
 have hb:((Str.ofString " ").length==0)=false:=by decide +kernel
 have hw:af (eN (.str (iM q)) [.str (Str.ofString " ")]) (.lst ((gq q).map λw=>D.str (sN w)),0):=by
  have e:((gq q).map λw=>D.str (sN w))=(Txt.split (iM q) (Str.ofString " ")).map D.str:=by rw[Ds,aN3];rfl
  rw[e]
  exact⟨_,rfl,hb,hz,True.intro⟩
 obtain⟨e2,e3,e4⟩:=hp
 have n1:(!eqD (.int (q.1.fmod 2)) (.int (q.1.fmod 2)))=false:=fN rfl
 refine bG (aN (bI (ju ∅ ∅ hw)) (aN (bI (ax (aJ (lH ∅ ∅ ∅ (r:=(.lst ((gq q).map λw=>D.str (sN w)),0)) ∅) bD) hs)) (aD ∅ rfl (kG [.tup [.int 0,.int q.1],.tup [.int 1,.int q.2.1],.tup [.int 2,.int q.2.2.1],.tup [.int 3,.int q.2.2.2]] ∅ ?_))))
 refine kP (C:=aS [("parts", .lst [.int q.1,.int q.2.1,.int q.2.2.1,.int q.2.2.2],false)]) (P:=λρ=>tO _ _ _ _ _ _ _ ρ) (ah rfl aC) λρ s=>?_
 refine⟨_,rfl,.inl (bN ((s.put _ _).put _ _) (aD ∅ (fN rfl) dh) λρ s'=>?_)⟩
 replace s:=(show Sub (aS [("parts", .lst [.int q.1,.int q.2.1,.int q.2.2.1,.int q.2.2.2],false)]) ρ from ah s'.get aC)
 clear s'
 refine⟨_,rfl,.inl (bN ((s.put _ _).put _ _) (aD ∅ (fN e2) dh) λρ s'=>?_)⟩
 replace s:=(show Sub (aS [("parts", .lst [.int q.1,.int q.2.1,.int q.2.2.1,.int q.2.2.2],false)]) ρ from ah s'.get aC)
 clear s'
 refine⟨_,rfl,.inl (bN ((s.put _ _).put _ _) (aD ∅ (fN e3) dh) λρ s'=>?_)⟩
 replace s:=(show Sub (aS [("parts", .lst [.int q.1,.int q.2.1,.int q.2.2.1,.int q.2.2.2],false)]) ρ from ah s'.get aC)
 clear s'
 refine⟨_,rfl,.inl (bN ((s.put _ _).put _ _) (aD ∅ (fN e4) dh) λρ s'=>?_)⟩
 exact eJ (show Sub (aS [("parts", .lst [.int q.1,.int q.2.1,.int q.2.2.1,.int q.2.2.2],false)]) ρ from ah s'.get aC) ∅
noncomputable def Ki:Fx:=Tb [] [] BL IL ML TL aO
noncomputable def Kl:List D->Rs D:=bH Ki (ae (ag 16)) ["one", "other"] (ai (ag 16))
noncomputable def sG:List D->Rs D:=xt dQ dQ λp q=>.ok (dq (V2 p q)) []
theorem zT:∀ds r,af (sG ds) r->af (Kl ds) r:=by
 intro ds r h
 obtain⟨p,q,rfl,h'⟩:=nC h
 obtain⟨rfl,_⟩:=eh h'
 exact bv rfl (by walk_at "ob")
noncomputable def BO:Fx:=Tb [("plain_product", fW)] [] BL IL ML TL aO
noncomputable def BT:List D->Rs D:=bH BO (ae (ag 22)) ["one", "other"] (ai (ag 22))
noncomputable def jU:List D->Rs D:=xt dQ dQ λp q=>.ok (dq (cm p q)) [jF p,jF q]
theorem wA:∀ds r,af (jU ds) r->af (BT ds) r:=by
 intro ds r h
 obtain⟨p,q,rfl,h'⟩:=nC h
 obtain⟨rfl,hp,hq,_⟩:=eh h'
 exact bv rfl (by walk_at "ob")
noncomputable def Pi:Fx:=Tb [("four_read", kB),("other_signed", fw),("total", sG),("product", jU),("has_too_many_figures", dU)] [] BL IL ML TL aO
noncomputable def kY:List D->Rs D:=bH Pi (ae (ag 99)) ["words", "fours"] (ai (ag 99))
theorem MM(hw:L2.atI ws 0=some (dW "bar")):af (kY [.lst ws,.lst [dq q]]) (dq (hJ q)) :=
 bG (aD (t:=false) (k:=0) (cn (dY ∅ ∅ rfl hw) ∅ ∅) rfl (cy (t:=true) (k:=0) (cn (dY ∅ ∅ rfl hw) ∅ ∅) rfl (cf (bP (ax ∅ (F:=fw) ⟨_,rfl,True.intro⟩)))))
theorem Jh{nm:Str}(h:jQ q)(hp:vt q):af (kY [.lst (dW "keep" :: .str nm::(gq q).map λw=>D.str (sN w)),.lst []]) (dq q):=by
 have hj:=vE (ws:=gq q) (aF7 rfl) (by
  intro v hv
  simp only[gq,aF8,aG4,aI7]at hv
  rcases hv with rfl|rfl|rfl|rfl
  ·exact dX h.1
  ·exact dX h.2.1
  ·exact dX h.2.2.1
  ·exact dX h.2.2.2)
 rw[<- ql]at hj
 exact bG (cy (t:=true) (k:=0) (cn (dY ∅ ∅ rfl (hV _ _)) ∅ ∅) rfl (cf (bP (ax (aJ (ju ∅ (aJ (lH ∅ ∅ ∅ (r:=(.lst ((gq q).map λw=>D.str (sN w)),0)) ∅) bD) hj) bD) (aj2 h hp)))))
theorem C4(hw:L2.atI ws 0=some (dW "times"))(ho:jF p/\jF q)(hf:jQ (cm p q)):af (kY [.lst ws,.lst [dq p,dq q]]) (dq (cm p q)):=by
 obtain⟨f1,f2,f3,f4⟩:=hf
 refine bG (aD (t:=false) (k:=0) (cn (dY ∅ ∅ rfl hw) ∅ ∅) rfl (aD (t:=false) (k:=0) (cn (dY ∅ ∅ rfl hw) ∅ ∅) rfl (aN ∅ (aN (bI (d:=dq (cm p q)) (uw (t:=false) (k:=0) (cn (dY ∅ ∅ rfl hw) ∅ ∅) (λz=>nomatch z) λ_=>ax ∅ (F:=jU) ⟨_,rfl,ho.1,ho.2,True.intro⟩)) (aD (t:=false) (k:=0) ?_ rfl (cf (bP ∅)))))))
 refine dN (B:=uI) (aJ (cY (l:=[(cm p q).1,(cm p q).2.1,(cm p q).2.2.1,(cm p q).2.2.2]) (g:=D.int) (f:=λ_=>D.bl false) ∅ rfl (aF7 rfl) (.inl rfl) ?_) bD) ∅
 intro x hx
 have hx:x.natAbs<10 ^ 40:=by
  simp only[aF8,aG4,aI7]at hx
  rcases hx with rfl|rfl|rfl|rfl
  ·exact f1
  ·exact f2
  ·exact f3
  ·exact f4
 exact⟨_,rfl,ax ∅ (FF hx)⟩
noncomputable def sF:Fx:=mZ [] [] BL IL ML TL aO [("Desk", ["kept"])] []
noncomputable def gm:List D->Rs D:=bH sF (ae (aM (ag 94) 2)) ["self", "word"] (ai (aM (ag 94) 2))
noncomputable abbrev iP(d:Addr)(ks:List bM)(ts:List (List Int)):D:=.obj "Desk" ["kept"] [.dft d ks ts]
theorem vT(h1:fO ks (.inr w)=true)(h2:kM ks ts (.inr w)=some ns):af (gm [iP d ks ts,.str w]) (gQ ns):=by
 refine bG (aD (t:=false) (k:=0) (cn (x:=.str w) (y:=.dft d ks ts) ∅ ∅ ?_) rfl (cf (bP (k:=0) ?_)))
 ·exact⟨[],by show Rs.ok (!fO ks (.inr w)) []=_;rw[h1];rfl,True.intro⟩
 ·refine af.bnd (a:=(.dft d ks ts,0)) ∅ (af.bnd (a:=(.str w,0)) ∅ ⟨[],?_,True.intro⟩)
  show(match kM ks ts (.inr w)with|some ns=>(Rs.ok (D.tup (ns.map D.int),0) []:R1)|none=>.st)=_
  rw[h2]
noncomputable def o3:Fx:=mZ [("four_text", cU)] [] BL IL ML TL aO [("Desk", ["kept"])] []
theorem ac6(ns:List Int)(r:D)(h:af (cU [gQ ns]) r):af (aF o3 [(ai (aM (ag 94) 3)).getD 1 (.Pass ⟨0,0,0,0⟩)] (ae (aM (ag 94) 3)) (aS [("four", gQ ns,false)])) (.rt r):=cf (bP (ax ∅ h))
noncomputable def ef:Fx:=mZ [("form_of", eS),("whole_read", fx),("told_of_one", dZ),("words_like", cj),("made", kY)] [] BL IL ML TL aO [] [("Desk", [("four_by", gm)])]
noncomputable def cV:List D->Rs D:=bH ef (ae (aM (ag 94) 1)) ["self", "line"] (ai (aM (ag 94) 1))
noncomputable def tlC:Stmt->Expr
 | .If c _ _ _=>c
 | _=>.Constant .none 0 ⟨0,0,0,0⟩
noncomputable def tlA:Stmt->List Expr
 | .If _ [.Return (some (.Call _ es _ _)) _] _ _=>es
 | _=>[]
noncomputable def ia:Addr->List bM->List (List Int)->Str->Str->List Int->Prop:=λd ks ts line w ns => ∃ρ k1 k2,af (aF ef ((ai (aM (ag 94) 1)).take 4) (ae (aM (ag 94) 1)) (de ["self", "line"] [.obj "Desk" ["kept"] [.dft d ks ts],.str line])) (.nx ρ)/\af (aH ef (tlC ((ai (aM (ag 94) 1)).getD 4 (.Pass ⟨0,0,0,0⟩))) false (ae (aM (ag 94) 1)) ρ) (.bl true,k1)/\af (cZ ef (tlA ((ai (aM (ag 94) 1)).getD 4 (.Pass ⟨0,0,0,0⟩))) (ae (aM (ag 94) 1)) ρ) ([.str w,gQ ns],k2)/\ρ "self" = some (.obj "Desk" ["kept"] [.dft d ks ts],false)
noncomputable def Ew(d:Addr)(ks:List bM)(ts:List (List Int))(line:Str)(ws:List D)(fm:D)(fs ns:List D):al:=bF (bF (bF (bF (de ["self", "line"] [iP d ks ts,.str line]) "words" (.lst ws,true)) "form" (fm,true)) "fours" (.lst fs,true)) "numbers" (.lst ns,true)
theorem mh{fm:D}{l:List (Str×List Int)}{m:List Int}(hs:af (eN (.str line) [.str (Str.ofString " ")]) (.lst ws,0))(hf:af (eS [.lst ws]) fm)(hn:af (cj [dW "name", fm,.lst ws]) (.lst (l.map λp=>D.str p.1)))(h4:∀p∈l,af (gm [iP d ks ts,.str p.1]) (gQ p.2))(hm:af (cj [dW "number", fm,.lst ws]) (.lst (m.map cC)))(h5:∀n∈m,n.natAbs<10 ^ 40)(z1:l.length<=100)(z2:m.length<=100) :
  af (aF ef ((ai (aM (ag 94) 1)).take 4) (ae (aM (ag 94) 1)) (de ["self", "line"] [iP d ks ts,.str line])) (.nx (Ew d ks ts line ws fm (l.map λp=>gQ p.2) (m.map D.int))):=by
 refine aN (bI (ju ∅ ∅ hs)) (aN (bI (ax ∅ hf)) (aN (bI (cY (l:=l) (g:=λp=>D.str p.1) (f:=λp=>gQ p.2) (ax ∅ hn) rfl (aF5 z1 (by decide)) (.inr (by decide)) λp hp=>?_)) (aN (bI (cY (l:=m) (g:=cC) (f:=D.int) (ax ∅ hm) rfl (aF5 z2 (by decide)) (.inr (by decide)) λn hn=>?_)) dh)))
 ·exact⟨_,rfl,fu ∅ ∅ rfl (h4 p hp)⟩
 ·exact⟨_,rfl,ax ∅ (rB (h5 n hn))⟩
theorem Ev{fm:D}{ns:List D}(hp:af (aF ef ((ai (aM (ag 94) 1)).take 4) (ae (aM (ag 94) 1)) (de ["self", "line"] [iP d ks ts,.str line])) (.nx (Ew d ks ts line ws fm fs ns)))(h:af (aF ef ((ai (aM (ag 94) 1)).drop 4) (ae (aM (ag 94) 1)) (Ew d ks ts line ws fm fs ns)) (.rt r)):af (cV [iP d ks ts,.str line]) r:=bG (bV 4 hp h)
theorem mQ(hl:lD.lookup w=some fm)(hn:us.length=fm.length)(h:∀p∈fm.zip (us.map D.str),af (dS [.str p.1,p.2]) (.bl true)):af (eS [.lst (.str w::us.map D.str)]) (.tup (fm.map D.str)):=by
 refine⟨[∃us':List Str,us.map D.str=us'.map D.str,(us.map D.str).length=fm.length,∀p∈fm.zip (us.map D.str),af (dS [.str p.1,p.2]) (.bl true)],?_,⟨us,rfl⟩,by rw[aH3];exact hn,h,True.intro⟩
 unfold eS;dsimp only;rw[hl]
theorem aj4(hl:lD.lookup w=some [Str.ofString "name"])(nm:Str):af (eS [.lst [.str w,.str nm]]) (.tup [dW "name"]):=by
 refine mQ (us:=[nm]) hl rfl λp hp=>?_
 cases hp with
 | head=>exact pM nm
 | tail _ z=>cases z
theorem VO(w nm:Str):af (cj [dW "name", .tup [dW "name"],.lst [.str w,.str nm]]) (.lst [.str nm]):=bv rfl (by walk_at "ob")
theorem VP(w nm:Str):af (cj [dW "number", .tup [dW "name"],.lst [.str w,.str nm]]) (.lst []):=bv rfl (by walk_at "ob")
theorem mi{nm:Str}{a:List Int}(hs:af (eN (.str line) [.str (Str.ofString " ")]) (.lst [.str w,.str nm],0))(hl:lD.lookup w=some [Str.ofString "name"])(c0:af (fQ .Eq (.str w) (dW "drop")) false)(c1:af (fQ .Eq (.str w) (dW "names")) false)(k1:fO ks (.inr nm)=true)(k2:kM ks ts (.inr nm)=some a)(hr:af (dZ [.str w,gQ a,.lst []]) r):af (cV [iP d ks ts,.str line]) r:=by
 refine Ev (mh (l:=[(nm,a)]) (m:=[]) hs (aj4 hl nm) (VO w nm) (λp hp=>by cases hp with|head=>exact vT k1 k2|tail _ z=>cases z) (VP w nm) (λn z=>by cases z) (aF7 rfl) (aF7 rfl)) ?_
 exact aD (t:=false) (k:=0) ∅ rfl (aD (t:=false) (k:=0) (cn (dY ∅ ∅ rfl (hV _ _)) ∅ c0) rfl (aD (t:=false) (k:=0) (cn (dY ∅ ∅ rfl (hV _ _)) ∅ c1) rfl (aD (t:=false) (k:=0) ∅ rfl (cy (t:=true) (k:=0) ∅ rfl (cf (bP (ax (aJ (dY ∅ ∅ rfl (hV _ _)) (aJ ∅ (aJ ∅ bD))) hr)))))))
theorem aj3{nm:Str}(hx:x.natAbs<10 ^ 40)(hy:y.natAbs<10 ^ 40)(hz:z.natAbs<10 ^ 40):af (eS [.lst [dW "place", .str nm,cC x,cC y,cC z]]) (.tup [dW "name", dW "number", dW "number", dW "number"]):=by
 have hl:lD.lookup (Str.ofString "place")=some [Str.ofString "name", Str.ofString "number", Str.ofString "number", Str.ofString "number"]:=by decide +kernel
 refine mQ (us:=[nm,sN (bE x),sN (bE y),sN (bE z)]) hl rfl λp hp=>?_
 cases hp with
 | head=>exact pM nm
 | tail _ hp=>cases hp with
  | head=>exact yI (rB hx)
  | tail _ hp=>cases hp with
   | head=>exact yI (rB hy)
   | tail _ hp=>cases hp with
    | head=>exact yI (rB hz)
    | tail _ hp=>cases hp
theorem PV(nm:Str)(x y z:Int):af (cj [dW "name", .tup [dW "name", dW "number", dW "number", dW "number"],.lst [dW "place", .str nm,cC x,cC y,cC z]]) (.lst [.str nm]):=bv rfl (by walk_at "ob")
theorem PU(nm:Str)(x y z:Int):af (cj [dW "number", .tup [dW "name", dW "number", dW "number", dW "number"],.lst [dW "place", .str nm,cC x,cC y,cC z]]) (.lst [cC x,cC y,cC z]):=bv rfl (by walk_at "ob")
theorem Ck{nm:Str}{a:List Int}(hx:x.natAbs<10 ^ 40)(hy:y.natAbs<10 ^ 40)(hz:z.natAbs<10 ^ 40)(hs:af (eN (.str line) [.str (Str.ofString " ")]) (.lst [dW "place", .str nm,cC x,cC y,cC z],0))(k1:fO ks (.inr nm)=true)(k2:kM ks ts (.inr nm)=some a)(hr:af (dZ [dW "place", gQ a,.lst [.int x,.int y,.int z]]) r):af (cV [iP d ks ts,.str line]) r:=by
 refine Ev (mh (l:=[(nm,a)]) (m:=[x,y,z]) hs (aj3 hx hy hz) (PV _ _ _ _) (λp hp=>by cases hp with|head=>exact vT k1 k2|tail _ z=>cases z) (PU _ _ _ _) (λn hn=>by
  simp only[aF8,aG4,aI7]at hn
  rcases hn with rfl|rfl|rfl
  ·exact hx
  ·exact hy
  ·exact hz) (aF7 rfl) (aF7 rfl)) ?_
 exact aD (t:=false) (k:=0) ∅ rfl (aD (t:=false) (k:=0) (cn (dY ∅ ∅ rfl (hV _ _)) ∅ ∅) rfl (aD (t:=false) (k:=0) (cn (dY ∅ ∅ rfl (hV _ _)) ∅ ∅) rfl (aD (t:=false) (k:=0) ∅ rfl (cy (t:=true) (k:=0) ∅ rfl (cf (bP (ax (aJ (dY ∅ ∅ rfl (hV _ _)) (aJ ∅ (aJ ∅ bD))) hr)))))))
theorem Eh{nm:Str}{fm:List D}{ns:List D}{a:List Int}{w0:D}(hp:af (aF ef ((ai (aM (ag 94) 1)).take 4) (ae (aM (ag 94) 1)) (de ["self", "line"] [iP d ks ts,.str line])) (.nx (Ew d ks ts line (w0 :: .str nm::ws) (.tup (dW "new" :: fm)) fs ns)))(hm:af (vC (dW "new") (dW "new" :: fm)) true)(h:af (kY [.lst (w0 :: .str nm::ws),.lst fs]) (gQ a)):ia d ks ts line nm a:=by
 refine⟨_,0,0,hp,?_,?_,rfl⟩
 ·exact cn ∅ ∅ hm
 ·exact aJ (k:=0) (j:=0) (dY ∅ ∅ rfl (sy (j:=1) rfl)) (aJ (ax ∅ h) bD)
theorem ji{s:Str}{ws:List Str}(h:Txt.split s (Str.ofString " ")=ws)(hz:s.length<=1048576):af (eN (.str s) [.str (Str.ofString " ")]) (.lst (ws.map D.str),0):=by
 subst h
 exact⟨_,rfl,by decide +kernel,hz,True.intro⟩
theorem PX(w a b c d:Str):af (cj [dW "number", .tup [dW "new", dW "part", dW "part", dW "part", dW "part"],.lst [dW "keep", .str w,.str a,.str b,.str c,.str d]]) (.lst []):=bv rfl (by walk_at "ob")
theorem PR(w a b:Str):af (cj [dW "number", .tup [dW "new", dW "name", dW "name"],.lst [dW "times", .str w,.str a,.str b]]) (.lst []):=bv rfl (by walk_at "ob")
theorem VN(w a:Str):af (cj [dW "name", .tup [dW "new", dW "name"],.lst [dW "bar", .str w,.str a]]) (.lst [.str a]):=bv rfl (by walk_at "ob")
theorem PY(w a:Str):af (cj [dW "number", .tup [dW "new", dW "name"],.lst [dW "bar", .str w,.str a]]) (.lst []):=bv rfl (by walk_at "ob")
theorem Pk{nm:Str}(hs:af (eN (.str line) [.str (Str.ofString " ")]) (.lst (dW "keep" :: .str nm::(gq q).map λw=>D.str (sN w)),0))(hn:af (dm [.str nm]) (.bl true))(ho:jQ q)(hp:vt q):ia d ks ts line nm [q.1,q.2.1,q.2.2.1,q.2.2.2]:=by
 have hl:lD.lookup (Str.ofString "keep")=some [Str.ofString "new", Str.ofString "part", Str.ofString "part", Str.ofString "part", Str.ofString "part"]:=by decide +kernel
 refine Eh (mh (l:=[]) (m:=[]) hs (mQ (us:=nm::(gq q).map sN) hl rfl λp hp=>?_) (GN _ _ _ _ _) (λp z=>by cases z) (PX _ _ _ _ _) (λn z=>by cases z) (aH5 _) (aH5 _)) ∅ (Jh ho hp)
 cases hp with
 | head=>exact yH hn
 | tail _ hp=>cases hp with
  | head=>exact uc _
  | tail _ hp=>cases hp with
   | head=>exact uc _
   | tail _ hp=>cases hp with
    | head=>exact uc _
    | tail _ hp=>cases hp with
     | head=>exact uc _
     | tail _ hp=>cases hp
theorem Kk{nm n2:Str}(hs:af (eN (.str line) [.str (Str.ofString " ")]) (.lst [dW "times", .str nm,.str n1,.str n2],0))(hn:af (dm [.str nm]) (.bl true))(k1:fO ks (.inr n1)=true)(k2:kM ks ts (.inr n1)=some [p.1,p.2.1,p.2.2.1,p.2.2.2])(k3:fO ks (.inr n2)=true)(k4:kM ks ts (.inr n2)=some [q.1,q.2.1,q.2.2.1,q.2.2.2])(ho:jF p/\jF q)(hf:jQ (cm p q)):ia d ks ts line nm [(cm p q).1,(cm p q).2.1,(cm p q).2.2.1,(cm p q).2.2.2]:=by
 have hl:lD.lookup (Str.ofString "times")=some [Str.ofString "new", Str.ofString "name", Str.ofString "name"]:=by decide +kernel
 refine Eh (mh (l:=[(n1,[p.1,p.2.1,p.2.2.1,p.2.2.2]),(n2,[q.1,q.2.1,q.2.2.1,q.2.2.2])]) (m:=[]) hs (mQ (us:=[nm,n1,n2]) hl rfl λp hp=>?_) (BW _ _ _) (λp hp=>?_) (PR _ _ _) (λn z=>by cases z) (aF7 rfl) (aH5 _)) ∅ (C4 (p:=p) (q:=q) (hV _ _) ho hf)
 ·cases hp with
  | head=>exact yH hn
  | tail _ hp=>cases hp with
   | head=>exact pM _
   | tail _ hp=>cases hp with
    | head=>exact pM _
    | tail _ hp=>cases hp
 ·cases hp with
  | head=>exact vT k1 k2
  | tail _ hp=>cases hp with
   | head=>exact vT k3 k4
   | tail _ hp=>cases hp
theorem Vv{nm:Str}(hs:af (eN (.str line) [.str (Str.ofString " ")]) (.lst [dW "bar", .str nm,.str n1],0))(hn:af (dm [.str nm]) (.bl true))(k1:fO ks (.inr n1)=true)(k2:kM ks ts (.inr n1)=some [p.1,p.2.1,p.2.2.1,p.2.2.2]):ia d ks ts line nm [(hJ p).1,(hJ p).2.1,(hJ p).2.2.1,(hJ p).2.2.2]:=by
 have hl:lD.lookup (Str.ofString "bar")=some [Str.ofString "new", Str.ofString "name"]:=by decide +kernel
 refine Eh (mh (l:=[(n1,[p.1,p.2.1,p.2.2.1,p.2.2.2])]) (m:=[]) hs (mQ (us:=[nm,n1]) hl rfl λp hp=>?_) (VN _ _) (λp hp=>?_) (PY _ _) (λn z=>by cases z) (aF7 rfl) (aH5 _)) ∅ (MM (q:=p) (hV _ _))
 ·cases hp with
  | head=>exact yH hn
  | tail _ hp=>cases hp with
   | head=>exact pM _
   | tail _ hp=>cases hp
 ·cases hp with
  | head=>exact vT k1 k2
  | tail _ hp=>cases hp
noncomputable def sE:Fx:=mZ [("_law_numbers", iF),("_law_nine", jG),("_law_brought", iG),("_law_sum_in", lR),("_law_lowest", ja)] [] BL IL ML TL aO [] [("Desk", [("tell", cV)])]
noncomputable def iu:List D->Rs D:=bH sE (ae (ag 118)) ["_law_desk", "_law_fours", "_law_base", "_law_spot"] (ai (ag 118))
theorem U6{u v t:Int}(hB:Bs Q A B C E F G):ni A B C E F G (u,v,t)↔St (tq Q).low (u,v,t):=by
 refine⟨?_,λh=>hB.all _ h⟩
 rintro⟨s1,s2,s3,q1,q2,q3⟩
 have gS:=ua (tq Q).low
 have t1:=gS.step _ _ (-s1) gS.zero hB.s1
 have t2:=gS.step _ _ (-s2) t1 hB.s2
 have t3:=gS.step _ _ (-s3) t2 hB.s3
 have e:sb (sb (sb (0,0,0) (A,B,C) (-s1)) (0,E,F) (-s2)) (0,0,G) (-s3)=(u,v,t):=by
  simp only[]at q1 q2 q3
  simp only[sb,Prod.mk.injEq]
  refine⟨by rw[q1];grind,by rw[q2];grind,by rw[q3];grind⟩
 rw[e]at t3
 exact t3
theorem uP{m:Nat}(hk:k≠0)(p:yj q)(hm:m<=900)(h:dF (2 ^ m) (kq k q))(hq:dF (2 ^ 140) q):af (dD [dq (kq k q)]) (rE q) :=
 Ku hk p (MZ (by omega) h) (ay (ac8 p.ne h) (by omega)) hq.1 hq.2.1 hq.2.2.1 hq.2.2.2
theorem Kv{T:T9}{k:Nat}(hn:0<T.n)(b:T.bd k)(hx:x.natAbs<=2 ^ j)(hy:y.natAbs<=2 ^ j)(hz:z.natAbs<=2 ^ j)(hk:k+j<=900):∃m X Y Z g:Int,Gq T x y z m X Y Z g/\(m.natAbs<=2 ^ k/\X.natAbs<=2 ^ (k+j+2)/\Y.natAbs<=2 ^ (k+j+2)/\Z.natAbs<=2 ^ (k+j+2))/\af (gk [T.D,d3 x y z]) (.tup [.int m,d3 X Y Z]):=by
 have B:∀t∈T.l,t.natAbs<bW:=λt ht=>ay (b t ht) (by omega)
 have bx:=gY (b T.a (by simp[T9.l])) (b T.b (by simp[T9.l])) (b T.c (by simp[T9.l])) hx hy hz
 have bY:=gY (b T.d (by simp[T9.l])) (b T.e (by simp[T9.l])) (b T.f (by simp[T9.l])) hx hy hz
 have bz:=gY (b T.g (by simp[T9.l])) (b T.h (by simp[T9.l])) (b T.i (by simp[T9.l])) hx hy hz
 have hT:okT ([T.n,bj T.a T.b T.c x y z,bj T.d T.e T.f x y z,bj T.g T.h T.i x y z].map D.int):=mG (k:=k+j+2) (by omega) (aF7 rfl) (by
  intro t ht
  simp only[aF8,aG4,aI7]at ht
  rcases ht with rfl|rfl|rfl|rfl
  ·exact aF5 (b _ T.mem_n) (aG8 (by decide) (by omega))
  ·exact bx
  ·exact bY
  ·exact bz)
 have h:=IF hn (B _ T.mem_n) (B T.a (by simp[T9.l])) (B T.b (by simp[T9.l])) (B T.c (by simp[T9.l])) (B T.d (by simp[T9.l])) (B T.e (by simp[T9.l])) (B T.f (by simp[T9.l])) (B T.g (by simp[T9.l])) (B T.h (by simp[T9.l])) (B T.i (by simp[T9.l])) (ay hx (by omega)) (ay hy (by omega)) (ay hz (by omega)) hT
 have pc:=LH hn x y z
 exact⟨_,_,_,_,_,pc,⟨aF5 (gM pc.pos) (b _ T.mem_n),aF5 (gM pc.pos) bx,aF5 (gM pc.pos) bY,aF5 (gM pc.pos) bz⟩,h⟩
structure q9(p q Q:Qd)(k:Int):Prop where
 pp:d8 p
 pq:d8 q
 lp:dF (2 ^ 5) p
 lq:dF (2 ^ 5) q
 e:cm p q=kq k Q
 k0:k≠0
 pm:yj Q
theorem q9.lm(h:q9 p q Q k):dF (2 ^ 11) (kq k Q):=by
 rw[<- h.e];exact gH (Ji h.lp h.lq h.pp h.pq) (by decide)
theorem q9.lQ(h:q9 p q Q k):dF (2 ^ 11) Q:=Lu h.k0 h.lm
theorem q9.bd(h:q9 p q Q k):(tq Q).low.bd 25:=T9.bd_low (gt h.pm.ne) (pz h.lQ)
theorem IG(x y z:Int):Str.ofString "place both " ++ sN (jn [bE x,bE y,bE z])=sN (jn [wN "place", wN "both", bE x,bE y,bE z]):=by
 rw[Fy (wN "place") (by simp),Fy (wN "both") (by simp),gu "place both ", fg]
 congr 1
theorem QX(h:q9 p q Q k)(k1:fO ks (.inr "both")=true)(k2:kM ks ts (.inr "both")=some [(cm p q).1,(cm p q).2.1,(cm p q).2.2.1,(cm p q).2.2.2])(hB:Bs Q A B C E F G)(hb:oA A B C E F G)(hv:v.1.natAbs<=2 ^ 100/\v.2.1.natAbs<=2 ^ 100/\v.2.2.natAbs<=2 ^ 100):af (iu [iP d ks ts,.lst [dq p,dq q],.lst ([A,B,C,0,E,F,0,0,G].map D.int),v3 v]) (.bl true):=by
 obtain⟨x,y,z⟩:=v
 obtain⟨hx,hy,hz⟩:=(show x.natAbs<=2 ^ 100/\y.natAbs<=2 ^ 100/\z.natAbs<=2 ^ 100 from hv)
 obtain⟨m,X,Y,Z,g,P,⟨bm,bX,bY,bZ⟩,hP⟩:=Kv (T9.lown (gt h.pm.ne)) h.bd hx hy hz (by decide)
 have w40:∀{t:Int} {j:Nat},t.natAbs<=2 ^ j->j<=130->t.natAbs<10 ^ 40:=λh1 h2=>aI1 (aF5 h1 (aG8 (by decide) h2)) (by decide)
 have hx4:=w40 hx (by decide);have hy4:=w40 hy (by decide);have hz4:=w40 hz (by decide)
 have hn:∀n∈[m,X,Y,Z],n.natAbs<10 ^ 40:=by
  intro n hn
  simp only[aF8,aG4,aI7]at hn
  rcases hn with rfl|rfl|rfl|rfl
  ·exact w40 bm (by decide)
  ·exact w40 bX (by decide)
  ·exact w40 bY (by decide)
  ·exact w40 bZ (by decide)
 have hT:=uP h.k0 h.pm (by decide) h.lm (gH h.lQ (by decide))
 rw[<- h.e]at hT
 have hO:=xm (w:=Str.ofString "place") (ns:=.lst [.int x,.int y,.int z]) ∅ ∅ ∅ hT (Cj hP hn) rfl (aF9 1)
 have hs:=rK (ws:=[wN "place", wN "both", bE x,bE y,bE z]) (by simp) (by
  intro w hw
  simp only[aF8,aG4,aI7]at hw
  rcases hw with rfl|rfl|rfl|rfl|rfl
  ·exact(by decide:32∉wN "place")
  ·exact(by decide:32∉wN "both")
  ·exact nv _
  ·exact nv _
  ·exact nv _) (aF7 rfl) (by
  intro w hw
  simp only[aF8,aG4,aI7]at hw
  rcases hw with rfl|rfl|rfl|rfl|rfl
  ·decide
  ·decide
  ·have:=dJ hx4;omega
  ·have:=dJ hy4;omega
  ·have:=dJ hz4;omega)
 simp only[aH8,aN0,wS]at hs
 have hTl:af (cV [iP d ks ts,.str (sN (jn [wN "place", wN "both", bE x,bE y,bE z]))]) (.str (sN (jn ([m,X,Y,Z].map bE)))):=Ck hx4 hy4 hz4 hs k1 k2 hO
 have hN:=za (ns:=[m,X,Y,Z]) (m:=4) (by simp) (aF7 rfl) rfl hn
 have hj:=vE (ws:=[bE x,bE y,bE z]) (aF7 rfl) (by
  intro w hw
  simp only[aF8,aG4,aI7]at hw
  rcases hw with rfl|rfl|rfl
  ·have:=dJ hx4;omega
  ·have:=dJ hy4;omega
  ·have:=dJ hz4;omega)
 have jl:=Fz (ws:=[bE x,bE y,bE z]) (by
  intro w hw
  simp only[aF8,aG4,aI7]at hw
  rcases hw with rfl|rfl|rfl
  ·have:=dJ hx4;omega
  ·have:=dJ hy4;omega
  ·have:=dJ hz4;omega)
 have hc:af (sx .Add (dW "place both ") (.str (sN (jn [bE x,bE y,bE z]))) 0 0) (.str (sN (jn [wN "place", wN "both", bE x,bE y,bE z])),0):=by
  refine af.eq (bv (l:=[(Str.ofString "place both ").length+(sN (jn [bE x,bE y,bE z])).length<=cq]) rfl ⟨?_,True.intro⟩) (by rw[IG])
  have:(Str.ofString "place both ").length=11:=by decide +kernel
  rw[this,ci]
  simp only[aG9,aQ1]at jl
  show _<=40000
  omega
 obtain⟨c,c0,f0,f1,f2,f3⟩:=Ud h.pp h.pq h.e h.k0 h.pm x y z
 have lp7:dF (2 ^ 70) p:=gH h.lp (by decide)
 have lq7:dF (2 ^ 70) q:=gH h.lq (by decide)
 have tb:=pz h.lq
 have tp:=pz h.lp
 have d1:((tq q).dx x y z).natAbs<=2 ^ 115:=gY (tb _ (by simp[T9.l])) (tb _ (by simp[T9.l])) (tb _ (by simp[T9.l])) hx hy hz
 have d2:((tq q).dy x y z).natAbs<=2 ^ 115:=gY (tb _ (by simp[T9.l])) (tb _ (by simp[T9.l])) (tb _ (by simp[T9.l])) hx hy hz
 have d3':((tq q).dz x y z).natAbs<=2 ^ 115:=gY (tb _ (by simp[T9.l])) (tb _ (by simp[T9.l])) (tb _ (by simp[T9.l])) hx hy hz
 have g1:=Tg lq7 (ay hx (by decide)) (ay hy (by decide)) (ay hz (by decide))
 have g2:=Th (x:=(tq q).dx x y z) (y:=(tq q).dy x y z) (z:=(tq q).dz x y z) lp7 (ay d1 (by decide)) (ay d2 (by decide)) (ay d3' (by decide))
 have e1:((tq p).dx ((tq q).dx x y z) ((tq q).dy x y z) ((tq q).dz x y z)).natAbs<=2 ^ 130:=gY (tp _ (by simp[T9.l])) (tp _ (by simp[T9.l])) (tp _ (by simp[T9.l])) d1 d2 d3' |> λh=>aF5 h (by decide)
 have e2:((tq p).dy ((tq q).dx x y z) ((tq q).dy x y z) ((tq q).dz x y z)).natAbs<=2 ^ 130:=gY (tp _ (by simp[T9.l])) (tp _ (by simp[T9.l])) (tp _ (by simp[T9.l])) d1 d2 d3' |> λh=>aF5 h (by decide)
 have e3:((tq p).dz ((tq q).dx x y z) ((tq q).dy x y z) ((tq q).dz x y z)).natAbs<=2 ^ 130:=gY (tp _ (by simp[T9.l])) (tp _ (by simp[T9.l])) (tp _ (by simp[T9.l])) d1 d2 d3' |> λh=>aF5 h (by decide)
 have np:=tp _ (T9.mem_n _)
 have nq:=tb _ (T9.mem_n _)
 have e0:((tq p).n*(tq q).n).natAbs<=2 ^ 130:=aF5 (ml np nq) (by decide)
 have hlow:=Jj c0 P f0 f1 f2 f3
 have n0:(tq p).n*(tq q).n≠0:=by
  rw[f0]
  have:=aK3 c0 (T9.lown (gt h.pm.ne))
  omega
 generalize (tq p).dx ((tq q).dx x y z) ((tq q).dy x y z) ((tq q).dz x y z)=X2 at *
 generalize (tq p).dy ((tq q).dx x y z) ((tq q).dy x y z) ((tq q).dz x y z)=Y2 at *
 generalize (tq p).dz ((tq q).dx x y z) ((tq q).dy x y z) ((tq q).dz x y z)=Z2 at *
 have hL:=MT (ns:=[(tq p).n*(tq q).n,X2,Y2,Z2]) (n0:=(tq p).n*(tq q).n) (mG (k:=130) (by decide) (aF7 rfl) (by
  intro t ht
  simp only[aF8,aG4,aI7]at ht
  rcases ht with rfl|rfl|rfl|rfl
  ·exact e0
  ·exact e1
  ·exact e2
  ·exact e3)) (by simp) n0 (ay e0 (by decide)) (aF7 rfl)
 have hL:af (ja [.lst ([(tq p).n*(tq q).n,X2,Y2,Z2].map D.int)]) (.lst ([m,X,Y,Z].map D.int)):=by
  rw[<- hlow,aN3];exact hL
 have u6:∀{t:Int},t.natAbs<=2 ^ 100->t.natAbs<=2 ^ 600:=λh=>aF5 h (aG8 (by decide) (by decide))
 have u1:∀{t:Int},t.natAbs<=2 ^ 25->t.natAbs<=2 ^ 150:=λh=>aF5 h (aG8 (by decide) (by decide))
 obtain⟨t,hS,ht⟩:=WP (a:=A) (b:=B) (c:=C) (d:=E) (e:=F) (f:=G) (x:=x) (y:=y) (z:=z) ⟨hB.a0,hB.d0,hB.f0,u1 hb.a,u1 hb.b,u1 hb.c,u1 hb.e,u1 hb.f,u1 hb.g,u6 hx,u6 hy,u6 hz⟩
 have tm:t=decide (m=1):=by
  rw[aN1,decide_eq_true_iff,ht,U6 hB,KK P]
 have nB:=ay np (by decide)
 have nB':=ay nq (by decide)
 refine bG (aN (bI (ax (aJ (fu ∅ (aJ (qC (k:=0) (j:=0) ∅ (ju ∅ (aJ (cY (l:=[x,y,z]) (g:=D.int) (f:=cC) ∅ rfl (aF7 rfl) (.inl rfl) ?_) bD) hj) hc) bD) rfl hTl) (aJ ∅ bD)) hN)) (aN (bI (ax ∅ (F:=jG) (v:=ln p) (bv rfl ⟨lp7,True.intro⟩))) (aN (bI (ax ∅ (F:=jG) (v:=ln q) (bv rfl ⟨lq7,True.intro⟩))) (aN (bI (ax (aJ ∅ (aJ (ax ∅ g1) bD)) g2)) (aD (t:=false) (k:=0) (d6 (cH (k:=0) ∅ (cH (k:=0) (cn ∅ (ax ∅ hL) (af.eq (SX _ _) (by rw[aI4 rfl];rfl))) gy))) rfl (cf (bP (cn (x:=.bl (decide (m=1))) (y:=.bl t) (k:=0) (j:=0) (∅.bl (eO _ _)) (ax ∅ hS) ?_))))))))
 ·intro n hn
  have:n.natAbs<10 ^ 40:=by
   simp only[aF8,aG4,aI7]at hn
   rcases hn with rfl|rfl|rfl
   ·exact hx4
   ·exact hy4
   ·exact hz4
  exact⟨_,rfl,dN (B:=lN) ∅ (pJ this)⟩
 ·rw[tm]
  cases decide (m=1)<;>exact bv rfl (by walk_at "ob")
noncomputable def Eg:Fx:=Tb [] [] BL IL ML TL aO
noncomputable def Ek:List D->Rs D:=bH Eg (ae (ag 105)) ["_law_script", "_law_k"] (ai (ag 105))
noncomputable def jH:List D->Rs D:=xt dL dI λl k=>.ok (.int (bK l k)) [jP l]
theorem xg:∀ds r,af (jH ds) r->af (Ek ds) r:=by
 intro ds r h
 obtain⟨l,k,rfl,h⟩:=nC h
 obtain⟨rfl,⟨ns,rfl⟩,_⟩:=eh h
 refine bG (bV 1 (bv rfl True.intro) (yB (bv rfl True.intro) (λht=>?_) (λhf=>?_)))
 ·have hl:(ns.map D.int).length=ns.length:=by simp
  have hp:(0:Int)<((ns.map D.int).length:Nat):=by simpa using ht
  have hi:L2.atI (ns.map D.int) (k.fmod (((ns.map D.int).length:Nat):Int))=some (.int (mU ns k)):=by
   rw[hl]at hp⊢
   have hne:ns≠[]:=by intro z;subst z;simp at hp
   unfold mU
   rw[if_neg hne]
   exact Kg (aI8 _ hp) (aJ3 _ hp)
  refine aN (bI (d:=.int (mU ns k)) (dY (bv rfl True.intro) (bv rfl ⟨Int.ne_of_gt hp,True.intro⟩) rfl hi)) ?_
  refine ∅.eq ?_
  unfold bK FT;rw[pB]
 ·have hp:ns=[]:=by
   cases ns with
   | nil=>rfl
   | cons n ns=>simp at hf
  subst hp
  refine ∅.eq ?_
  rfl
noncomputable def Ef:Fx:=Tb [("_law_cell", jH)] [] BL IL ML TL aO
noncomputable def o9:List D->Rs D:=bH Ef (ae (ag 107)) ["_law_script", "_law_k"] (ai (ag 107))
noncomputable def iL(L:List D)(k j:Int):Int:=if ((bK L k).fdiv 2).fmod 4=1 then 2*((bK L (k+1+j)*48271).fmod (2*10 ^ 20+1)-10 ^ 20)+(bK L k).fmod 2 else 2*(((bK L (k+1+j)).fdiv 5).fmod 13-6)+(bK L k).fmod 2
theorem Nr(hl:jP L)(k:Int):af (o9 [.lst L,.int k]) (.tup [.int (iL L k 0),.int (iL L k 1),.int (iL L k 2),.int (iL L k 3)]):=by
 refine bG (bV 2 ∅ (kG [.int 0,.int 1,.int 2,.int 3] ∅ ?_))
 refine kP (C:=aS [("_law_script", .lst L,false),("_law_k", .int k,false),("_law_head", .int (bK L k),true),("_law_parts", .lst [],true)]) (P:=λρ=>tO _ _ _ _ _ _ _ ρ) (ah rfl (ah rfl (ah rfl (ah rfl aC)))) λρ s=>?_
 by_cases h:((bK L k).fdiv 2).fmod 4=1
 ·unfold iL
  simp only[if_pos h]
  refine⟨_,rfl,.inl (bN (s.put _ _) (bV 2 ∅ (cy ∅ (vZ h) ∅)) λρ s'=>?_)⟩
  replace s:=(show Sub (aS [("_law_script", .lst L,false),("_law_k", .int k,false),("_law_head", .int (bK L k),true),("_law_parts", .lst [.int (2*((bK L (k+1+0)*48271).fmod (2*10 ^ 20+1)-10 ^ 20)+(bK L k).fmod 2)],true)]) ρ from ah s'.get (ah s'.get (ah s'.get (ah s'.get aC))))
  clear s'
  refine⟨_,rfl,.inl (bN (s.put _ _) (bV 2 ∅ (cy ∅ (vZ h) ∅)) λρ s'=>?_)⟩
  replace s:=(show Sub (aS [("_law_script", .lst L,false),("_law_k", .int k,false),("_law_head", .int (bK L k),true),("_law_parts", .lst [.int (2*((bK L (k+1+0)*48271).fmod (2*10 ^ 20+1)-10 ^ 20)+(bK L k).fmod 2),.int (2*((bK L (k+1+1)*48271).fmod (2*10 ^ 20+1)-10 ^ 20)+(bK L k).fmod 2)],true)]) ρ from ah s'.get (ah s'.get (ah s'.get (ah s'.get aC))))
  clear s'
  refine⟨_,rfl,.inl (bN (s.put _ _) (bV 2 ∅ (cy ∅ (vZ h) ∅)) λρ s'=>?_)⟩
  replace s:=(show Sub (aS [("_law_script", .lst L,false),("_law_k", .int k,false),("_law_head", .int (bK L k),true),("_law_parts", .lst [.int (2*((bK L (k+1+0)*48271).fmod (2*10 ^ 20+1)-10 ^ 20)+(bK L k).fmod 2),.int (2*((bK L (k+1+1)*48271).fmod (2*10 ^ 20+1)-10 ^ 20)+(bK L k).fmod 2),.int (2*((bK L (k+1+2)*48271).fmod (2*10 ^ 20+1)-10 ^ 20)+(bK L k).fmod 2)],true)]) ρ from ah s'.get (ah s'.get (ah s'.get (ah s'.get aC))))
  clear s'
  refine⟨_,rfl,.inl (bN (s.put _ _) (bV 2 ∅ (cy ∅ (vZ h) ∅)) λρ s'=>?_)⟩
  replace s:=(show Sub (aS [("_law_script", .lst L,false),("_law_k", .int k,false),("_law_head", .int (bK L k),true),("_law_parts", .lst [.int (2*((bK L (k+1+0)*48271).fmod (2*10 ^ 20+1)-10 ^ 20)+(bK L k).fmod 2),.int (2*((bK L (k+1+1)*48271).fmod (2*10 ^ 20+1)-10 ^ 20)+(bK L k).fmod 2),.int (2*((bK L (k+1+2)*48271).fmod (2*10 ^ 20+1)-10 ^ 20)+(bK L k).fmod 2),.int (2*((bK L (k+1+3)*48271).fmod (2*10 ^ 20+1)-10 ^ 20)+(bK L k).fmod 2)],true)]) ρ from ah s'.get (ah s'.get (ah s'.get (ah s'.get aC))))
  clear s'
  exact eJ s ∅
 ·unfold iL
  simp only[if_neg h]
  refine⟨_,rfl,.inl (bN (s.put _ _) (bV 2 ∅ (aD ∅ ((eO _ _).trans (aH6 h)) ∅)) λρ s'=>?_)⟩
  replace s:=(show Sub (aS [("_law_script", .lst L,false),("_law_k", .int k,false),("_law_head", .int (bK L k),true),("_law_parts", .lst [.int (2*(((bK L (k+1+0)).fdiv 5).fmod 13-6)+(bK L k).fmod 2)],true)]) ρ from ah s'.get (ah s'.get (ah s'.get (ah s'.get aC))))
  clear s'
  refine⟨_,rfl,.inl (bN (s.put _ _) (bV 2 ∅ (aD ∅ ((eO _ _).trans (aH6 h)) ∅)) λρ s'=>?_)⟩
  replace s:=(show Sub (aS [("_law_script", .lst L,false),("_law_k", .int k,false),("_law_head", .int (bK L k),true),("_law_parts", .lst [.int (2*(((bK L (k+1+0)).fdiv 5).fmod 13-6)+(bK L k).fmod 2),.int (2*(((bK L (k+1+1)).fdiv 5).fmod 13-6)+(bK L k).fmod 2)],true)]) ρ from ah s'.get (ah s'.get (ah s'.get (ah s'.get aC))))
  clear s'
  refine⟨_,rfl,.inl (bN (s.put _ _) (bV 2 ∅ (aD ∅ ((eO _ _).trans (aH6 h)) ∅)) λρ s'=>?_)⟩
  replace s:=(show Sub (aS [("_law_script", .lst L,false),("_law_k", .int k,false),("_law_head", .int (bK L k),true),("_law_parts", .lst [.int (2*(((bK L (k+1+0)).fdiv 5).fmod 13-6)+(bK L k).fmod 2),.int (2*(((bK L (k+1+1)).fdiv 5).fmod 13-6)+(bK L k).fmod 2),.int (2*(((bK L (k+1+2)).fdiv 5).fmod 13-6)+(bK L k).fmod 2)],true)]) ρ from ah s'.get (ah s'.get (ah s'.get (ah s'.get aC))))
  clear s'
  refine⟨_,rfl,.inl (bN (s.put _ _) (bV 2 ∅ (aD ∅ ((eO _ _).trans (aH6 h)) ∅)) λρ s'=>?_)⟩
  replace s:=(show Sub (aS [("_law_script", .lst L,false),("_law_k", .int k,false),("_law_head", .int (bK L k),true),("_law_parts", .lst [.int (2*(((bK L (k+1+0)).fdiv 5).fmod 13-6)+(bK L k).fmod 2),.int (2*(((bK L (k+1+1)).fdiv 5).fmod 13-6)+(bK L k).fmod 2),.int (2*(((bK L (k+1+2)).fdiv 5).fmod 13-6)+(bK L k).fmod 2),.int (2*(((bK L (k+1+3)).fdiv 5).fmod 13-6)+(bK L k).fmod 2)],true)]) ρ from ah s'.get (ah s'.get (ah s'.get (ah s'.get aC))))
  clear s'
  exact eJ s ∅
noncomputable def eQ:Fx:=Tb [("_law_cell", jH)] [] BL IL ML TL aO
noncomputable def nl:List D->Rs D:=bH eQ (ae (ag 117)) ["_law_script", "_law_base"] (ai (ag 117))
noncomputable def gT(l:List V3):Prop:=∀v∈l,v.1.natAbs<=2 ^ 100/\v.2.1.natAbs<=2 ^ 100/\v.2.2.natAbs<=2 ^ 100
theorem gC(c:Int):((c.fdiv 5).fmod 13-6).natAbs<=2 ^ 70:=by
 have h0:=aI8 (c.fdiv 5) (show(0:Int)<13 by decide)
 have h1:=aJ3 (c.fdiv 5) (show(0:Int)<13 by decide)
 exact aF5 (show _<=2 ^ 4 by omega) (by decide)
theorem nV(c:Int):((c*48271).fmod (2*10 ^ Int.toNat 19+1)-10 ^ Int.toNat 19).natAbs<=2 ^ 70:=by
 have e:(10:Int) ^ Int.toNat 19=10000000000000000000:=by decide
 rw[e]
 have h0:=aI8 (c*48271) (show(0:Int)<2*10000000000000000000+1 by decide)
 have h1:=aJ3 (c*48271) (show(0:Int)<2*10000000000000000000+1 by decide)
 exact aF5 (show _<=2 ^ 64 by omega) (by decide)
theorem nA(hw:jP L){B S:List D}{c0 c1 c2:Int}{f:Bool}(e0:bK L (20+3*k+0)=c0)(e1:bK L (20+3*k+1)=c1)(e2:bK L (20+3*k+2)=c2):af (aF eQ ((fq ((ai (ag 117)).getD 1 (.Pass ⟨0,0,0,0⟩))).take 2) (ae (ag 117)) (aS [("_law_script", .lst L,false),("_law_base", .lst B,false),("_law_spots_here", .lst S,f),("_law_k", .int k,false)])) (.nx (bF (bF (aS [("_law_script", .lst L,false),("_law_base", .lst B,false),("_law_spots_here", .lst S,f),("_law_k", .int k,false)]) "_law_cells" (.lst [.int c0,.int c1,.int c2],true)) "_law_spot" (.lst [.int ((c0.fdiv 5).fmod 13-6),.int ((c1.fdiv 5).fmod 13-6),.int ((c2.fdiv 5).fmod 13-6)],true))):=by
 subst e0 e1 e2
 exact bv rfl (by walk_at "ob")
theorem yC{u v w dx dy dz:Int}(h:oA A B C E F G)(hu:u.natAbs<=2 ^ 70)(hv:v.natAbs<=2 ^ 70)(hw:w.natAbs<=2 ^ 70)(h1:dx.natAbs<=1)(h2:dy.natAbs<=1)(h3:dz.natAbs<=1):(u*A+dx).natAbs<=2 ^ 100/\(u*B+v*E+dy).natAbs<=2 ^ 100/\(u*C+v*F+w*G+dz).natAbs<=2 ^ 100:=by
 have m:∀{s t:Int},s.natAbs<=2 ^ 70->t.natAbs<=2 ^ 25->(s*t).natAbs<=2 ^ 95:=λh1 h2=>ml h1 h2
 have a1:=m hu h.a;have a2:=m hu h.b;have a3:=m hu h.c;have a4:=m hv h.e;have a5:=m hv h.f;have a6:=m hw h.g
 have p:4*2 ^ 95<=2 ^ 100:=by decide
 have p1:1<=2 ^ 95:=by decide
 generalize 2 ^ 100=M at *
 generalize 2 ^ 95=N at *
 refine⟨?_,?_,?_⟩<;>omega
theorem MN(c:Int):((c.fdiv 65).fmod 2).natAbs<=1:=by
 have h0:=aI8 (c.fdiv 65) (show(0:Int)<2 by decide)
 have h1:=aJ3 (c.fdiv 65) (show(0:Int)<2 by decide)
 omega
theorem ly:∀S:List V3,aI (S.map v3)=true
 | []=>rfl
 | _::S=>by rw[aH8,aI,ly S];rfl
theorem QG(hw:jP L)(hB:oA A B C E F G)(hS:gT S)(hl:S.length<10)(s:Sub (aS [("_law_script", .lst L,false),("_law_base", .lst ([A,B,C,0,E,F,0,0,G].map D.int),false),("_law_spots_here", .lst (S.map v3),true)]) ρ):∃ρ2,af (aF eQ (fq ((ai (ag 117)).getD 1 (.Pass ⟨0,0,0,0⟩))) (ae (ag 117)) (bF ρ "_law_k" (.int 0,false))) (.nx ρ2)/\∃v:V3,gT (S++[v])/\Sub (aS [("_law_script", .lst L,false),("_law_base", .lst ([A,B,C,0,E,F,0,0,G].map D.int),false),("_law_spots_here", .lst ((S++[v]).map v3),true)]) ρ2:=by
 have i1:=nA (B:=[A,B,C,0,E,F,0,0,G].map D.int) (S:=S.map v3) (f:=true) hw (k:=0) rfl rfl rfl
 have z:(S.map v3).length<cq:=by rw[aH3];exact aK1 hl (by decide)
 have zz:=ly S
 generalize bK L (20+3*0+0)=c0 at i1
 generalize bK L (20+3*0+1)=c1 at i1
 generalize bK L (20+3*0+2)=c2 at i1
 have u7:=gC c0;have v7:=gC c1;have w7:=gC c2
 refine bN (C:=aS [("_law_script", .lst L,false),("_law_base", .lst ([A,B,C,0,E,F,0,0,G].map D.int),false),("_law_spots_here", .lst (S.map v3),true),("_law_k", .int 0,false)]) (ah (s.put _ _).get (ah (s.put _ _).get (ah (s.put _ _).get (ah eL aC)))) (bV 2 i1 (aD (t:=false) (k:=0) ∅ rfl ( (aD (t:=false) (k:=0) ∅ rfl (aN ∅ dh))))) λρ2 s'=>⟨(((c0.fdiv 5).fmod 13-6),((c1.fdiv 5).fmod 13-6),((c2.fdiv 5).fmod 13-6)),(λt ht=>by
  rcases aL9.mp ht with ht|ht
  ·exact hS t ht
  ·rw[aJ8.mp ht];exact⟨aF5 u7 (by decide),aF5 v7 (by decide),aF5 w7 (by decide)⟩),(show Sub (aS [("_law_script", .lst L,false),("_law_base", .lst ([A,B,C,0,E,F,0,0,G].map D.int),false),("_law_spots_here", .lst ((S++[(((c0.fdiv 5).fmod 13-6),((c1.fdiv 5).fmod 13-6),((c2.fdiv 5).fmod 13-6))]).map v3),true)]) ρ2 from(by rw[aN4];exact ah s'.get (ah s'.get (ah s'.get aC))))⟩
theorem QF(hw:jP L)(hB:oA A B C E F G)(hS:gT S)(hl:S.length<10)(s:Sub (aS [("_law_script", .lst L,false),("_law_base", .lst ([A,B,C,0,E,F,0,0,G].map D.int),false),("_law_spots_here", .lst (S.map v3),true)]) ρ):∃ρ2,af (aF eQ (fq ((ai (ag 117)).getD 1 (.Pass ⟨0,0,0,0⟩))) (ae (ag 117)) (bF ρ "_law_k" (.int 1,false))) (.nx ρ2)/\∃v:V3,gT (S++[v])/\Sub (aS [("_law_script", .lst L,false),("_law_base", .lst ([A,B,C,0,E,F,0,0,G].map D.int),false),("_law_spots_here", .lst ((S++[v]).map v3),true)]) ρ2:=by
 have i1:=nA (B:=[A,B,C,0,E,F,0,0,G].map D.int) (S:=S.map v3) (f:=true) hw (k:=1) rfl rfl rfl
 have z:(S.map v3).length<cq:=by rw[aH3];exact aK1 hl (by decide)
 have zz:=ly S
 generalize bK L (20+3*1+0)=c0 at i1
 generalize bK L (20+3*1+1)=c1 at i1
 generalize bK L (20+3*1+2)=c2 at i1
 have u7:=nV c0;have v7:=nV c1;have w7:=nV c2
 refine bN (C:=aS [("_law_script", .lst L,false),("_law_base", .lst ([A,B,C,0,E,F,0,0,G].map D.int),false),("_law_spots_here", .lst (S.map v3),true),("_law_k", .int 1,false)]) (ah (s.put _ _).get (ah (s.put _ _).get (ah (s.put _ _).get (ah eL aC)))) (bV 2 i1 (cy (t:=true) (k:=0) ∅ rfl (aN (bI (d:=.lst [.int ((c0*48271).fmod (2*10 ^ Int.toNat 19+1)-10 ^ Int.toNat 19),.int ((c1*48271).fmod (2*10 ^ Int.toNat 19+1)-10 ^ Int.toNat 19),.int ((c2*48271).fmod (2*10 ^ Int.toNat 19+1)-10 ^ Int.toNat 19)]) ∅)  (aD (t:=false) (k:=0) ∅ rfl (aN ∅ dh))))) λρ2 s'=>⟨(((c0*48271).fmod (2*10 ^ Int.toNat 19+1)-10 ^ Int.toNat 19),((c1*48271).fmod (2*10 ^ Int.toNat 19+1)-10 ^ Int.toNat 19),((c2*48271).fmod (2*10 ^ Int.toNat 19+1)-10 ^ Int.toNat 19)),(λt ht=>by
  rcases aL9.mp ht with ht|ht
  ·exact hS t ht
  ·rw[aJ8.mp ht];exact⟨aF5 u7 (by decide),aF5 v7 (by decide),aF5 w7 (by decide)⟩),(show Sub (aS [("_law_script", .lst L,false),("_law_base", .lst ([A,B,C,0,E,F,0,0,G].map D.int),false),("_law_spots_here", .lst ((S++[(((c0*48271).fmod (2*10 ^ Int.toNat 19+1)-10 ^ Int.toNat 19),((c1*48271).fmod (2*10 ^ Int.toNat 19+1)-10 ^ Int.toNat 19),((c2*48271).fmod (2*10 ^ Int.toNat 19+1)-10 ^ Int.toNat 19))]).map v3),true)]) ρ2 from(by rw[aN4];exact ah s'.get (ah s'.get (ah s'.get aC))))⟩
theorem QE(hw:jP L)(hB:oA A B C E F G)(hS:gT S)(hl:S.length<10)(s:Sub (aS [("_law_script", .lst L,false),("_law_base", .lst ([A,B,C,0,E,F,0,0,G].map D.int),false),("_law_spots_here", .lst (S.map v3),true)]) ρ):∃ρ2,af (aF eQ (fq ((ai (ag 117)).getD 1 (.Pass ⟨0,0,0,0⟩))) (ae (ag 117)) (bF ρ "_law_k" (.int 2,false))) (.nx ρ2)/\∃v:V3,gT (S++[v])/\Sub (aS [("_law_script", .lst L,false),("_law_base", .lst ([A,B,C,0,E,F,0,0,G].map D.int),false),("_law_spots_here", .lst ((S++[v]).map v3),true)]) ρ2:=by
 have i1:=nA (B:=[A,B,C,0,E,F,0,0,G].map D.int) (S:=S.map v3) (f:=true) hw (k:=2) rfl rfl rfl
 have z:(S.map v3).length<cq:=by rw[aH3];exact aK1 hl (by decide)
 have zz:=ly S
 generalize bK L (20+3*2+0)=c0 at i1
 generalize bK L (20+3*2+1)=c1 at i1
 generalize bK L (20+3*2+2)=c2 at i1
 have u7:=gC c0;have v7:=gC c1;have w7:=gC c2
 refine bN (C:=aS [("_law_script", .lst L,false),("_law_base", .lst ([A,B,C,0,E,F,0,0,G].map D.int),false),("_law_spots_here", .lst (S.map v3),true),("_law_k", .int 2,false)]) (ah (s.put _ _).get (ah (s.put _ _).get (ah (s.put _ _).get (ah eL aC)))) (bV 2 i1 (aD (t:=false) (k:=0) ∅ rfl ( (aD (t:=false) (k:=0) ∅ rfl (aN ∅ dh))))) λρ2 s'=>⟨(((c0.fdiv 5).fmod 13-6),((c1.fdiv 5).fmod 13-6),((c2.fdiv 5).fmod 13-6)),(λt ht=>by
  rcases aL9.mp ht with ht|ht
  ·exact hS t ht
  ·rw[aJ8.mp ht];exact⟨aF5 u7 (by decide),aF5 v7 (by decide),aF5 w7 (by decide)⟩),(show Sub (aS [("_law_script", .lst L,false),("_law_base", .lst ([A,B,C,0,E,F,0,0,G].map D.int),false),("_law_spots_here", .lst ((S++[(((c0.fdiv 5).fmod 13-6),((c1.fdiv 5).fmod 13-6),((c2.fdiv 5).fmod 13-6))]).map v3),true)]) ρ2 from(by rw[aN4];exact ah s'.get (ah s'.get (ah s'.get aC))))⟩
theorem QD(hw:jP L)(hB:oA A B C E F G)(hS:gT S)(hl:S.length<10)(s:Sub (aS [("_law_script", .lst L,false),("_law_base", .lst ([A,B,C,0,E,F,0,0,G].map D.int),false),("_law_spots_here", .lst (S.map v3),true)]) ρ):∃ρ2,af (aF eQ (fq ((ai (ag 117)).getD 1 (.Pass ⟨0,0,0,0⟩))) (ae (ag 117)) (bF ρ "_law_k" (.int 3,false))) (.nx ρ2)/\∃v:V3,gT (S++[v])/\Sub (aS [("_law_script", .lst L,false),("_law_base", .lst ([A,B,C,0,E,F,0,0,G].map D.int),false),("_law_spots_here", .lst ((S++[v]).map v3),true)]) ρ2:=by
 have i1:=nA (B:=[A,B,C,0,E,F,0,0,G].map D.int) (S:=S.map v3) (f:=true) hw (k:=3) rfl rfl rfl
 have z:(S.map v3).length<cq:=by rw[aH3];exact aK1 hl (by decide)
 have zz:=ly S
 generalize bK L (20+3*3+0)=c0 at i1
 generalize bK L (20+3*3+1)=c1 at i1
 generalize bK L (20+3*3+2)=c2 at i1
 have u7:=gC c0;have v7:=gC c1;have w7:=gC c2
 have d1:=MN c0
 have ub:=ay u7 (by decide);have vb:=ay v7 (by decide);have wb:=ay w7 (by decide)
 have AB:=ay hB.a (by decide);have BB:=ay hB.b (by decide);have CB:=ay hB.c (by decide);have EB:=ay hB.e (by decide);have FB:=ay hB.f (by decide);have GB:=ay hB.g (by decide)
 have bd:=yC (dx:=(c0.fdiv 65).fmod 2) (dy:=0) (dz:=0) hB u7 v7 w7 d1 (by decide) (by decide)
 simp only[Int.add_zero]at bd
 refine bN (C:=aS [("_law_script", .lst L,false),("_law_base", .lst ([A,B,C,0,E,F,0,0,G].map D.int),false),("_law_spots_here", .lst (S.map v3),true),("_law_k", .int 3,false)]) (ah (s.put _ _).get (ah (s.put _ _).get (ah (s.put _ _).get (ah eL aC)))) (bV 2 i1 (aD (t:=false) (k:=0) ∅ rfl ( (cy (t:=true) (k:=0) ∅ rfl (aN ∅ (aN ∅ (aN ∅ (aN ∅ dh)))))))) λρ2 s'=>⟨(((c0.fdiv 5).fmod 13-6)*A+(c0.fdiv 65).fmod 2,((c0.fdiv 5).fmod 13-6)*B+((c1.fdiv 5).fmod 13-6)*E,((c0.fdiv 5).fmod 13-6)*C+((c1.fdiv 5).fmod 13-6)*F+((c2.fdiv 5).fmod 13-6)*G),(λt ht=>by
  rcases aL9.mp ht with ht|ht
  ·exact hS t ht
  ·rw[aJ8.mp ht];exact bd),(show Sub (aS [("_law_script", .lst L,false),("_law_base", .lst ([A,B,C,0,E,F,0,0,G].map D.int),false),("_law_spots_here", .lst ((S++[(((c0.fdiv 5).fmod 13-6)*A+(c0.fdiv 65).fmod 2,((c0.fdiv 5).fmod 13-6)*B+((c1.fdiv 5).fmod 13-6)*E,((c0.fdiv 5).fmod 13-6)*C+((c1.fdiv 5).fmod 13-6)*F+((c2.fdiv 5).fmod 13-6)*G)]).map v3),true)]) ρ2 from(by rw[aN4];exact ah s'.get (ah s'.get (ah s'.get aC))))⟩
theorem QC(hw:jP L)(hB:oA A B C E F G)(hS:gT S)(hl:S.length<10)(s:Sub (aS [("_law_script", .lst L,false),("_law_base", .lst ([A,B,C,0,E,F,0,0,G].map D.int),false),("_law_spots_here", .lst (S.map v3),true)]) ρ):∃ρ2,af (aF eQ (fq ((ai (ag 117)).getD 1 (.Pass ⟨0,0,0,0⟩))) (ae (ag 117)) (bF ρ "_law_k" (.int 4,false))) (.nx ρ2)/\∃v:V3,gT (S++[v])/\Sub (aS [("_law_script", .lst L,false),("_law_base", .lst ([A,B,C,0,E,F,0,0,G].map D.int),false),("_law_spots_here", .lst ((S++[v]).map v3),true)]) ρ2:=by
 have i1:=nA (B:=[A,B,C,0,E,F,0,0,G].map D.int) (S:=S.map v3) (f:=true) hw (k:=4) rfl rfl rfl
 have z:(S.map v3).length<cq:=by rw[aH3];exact aK1 hl (by decide)
 have zz:=ly S
 generalize bK L (20+3*4+0)=c0 at i1
 generalize bK L (20+3*4+1)=c1 at i1
 generalize bK L (20+3*4+2)=c2 at i1
 have u7:=nV c0;have v7:=nV c1;have w7:=nV c2
 have d1:=MN c0
 have ub:=ay u7 (by decide);have vb:=ay v7 (by decide);have wb:=ay w7 (by decide)
 have AB:=ay hB.a (by decide);have BB:=ay hB.b (by decide);have CB:=ay hB.c (by decide);have EB:=ay hB.e (by decide);have FB:=ay hB.f (by decide);have GB:=ay hB.g (by decide)
 have bd:=yC (dx:=0) (dy:=(c0.fdiv 65).fmod 2) (dz:=0) hB u7 v7 w7 (by decide) d1 (by decide)
 simp only[Int.add_zero]at bd
 refine bN (C:=aS [("_law_script", .lst L,false),("_law_base", .lst ([A,B,C,0,E,F,0,0,G].map D.int),false),("_law_spots_here", .lst (S.map v3),true),("_law_k", .int 4,false)]) (ah (s.put _ _).get (ah (s.put _ _).get (ah (s.put _ _).get (ah eL aC)))) (bV 2 i1 (cy (t:=true) (k:=0) ∅ rfl (aN (bI (d:=.lst [.int ((c0*48271).fmod (2*10 ^ Int.toNat 19+1)-10 ^ Int.toNat 19),.int ((c1*48271).fmod (2*10 ^ Int.toNat 19+1)-10 ^ Int.toNat 19),.int ((c2*48271).fmod (2*10 ^ Int.toNat 19+1)-10 ^ Int.toNat 19)]) ∅)  (cy (t:=true) (k:=0) ∅ rfl (aN ∅ (aN ∅ (aN ∅ (aN ∅ dh)))))))) λρ2 s'=>⟨(((c0*48271).fmod (2*10 ^ Int.toNat 19+1)-10 ^ Int.toNat 19)*A,((c0*48271).fmod (2*10 ^ Int.toNat 19+1)-10 ^ Int.toNat 19)*B+((c1*48271).fmod (2*10 ^ Int.toNat 19+1)-10 ^ Int.toNat 19)*E+(c0.fdiv 65).fmod 2,((c0*48271).fmod (2*10 ^ Int.toNat 19+1)-10 ^ Int.toNat 19)*C+((c1*48271).fmod (2*10 ^ Int.toNat 19+1)-10 ^ Int.toNat 19)*F+((c2*48271).fmod (2*10 ^ Int.toNat 19+1)-10 ^ Int.toNat 19)*G),(λt ht=>by
  rcases aL9.mp ht with ht|ht
  ·exact hS t ht
  ·rw[aJ8.mp ht];exact bd),(show Sub (aS [("_law_script", .lst L,false),("_law_base", .lst ([A,B,C,0,E,F,0,0,G].map D.int),false),("_law_spots_here", .lst ((S++[(((c0*48271).fmod (2*10 ^ Int.toNat 19+1)-10 ^ Int.toNat 19)*A,((c0*48271).fmod (2*10 ^ Int.toNat 19+1)-10 ^ Int.toNat 19)*B+((c1*48271).fmod (2*10 ^ Int.toNat 19+1)-10 ^ Int.toNat 19)*E+(c0.fdiv 65).fmod 2,((c0*48271).fmod (2*10 ^ Int.toNat 19+1)-10 ^ Int.toNat 19)*C+((c1*48271).fmod (2*10 ^ Int.toNat 19+1)-10 ^ Int.toNat 19)*F+((c2*48271).fmod (2*10 ^ Int.toNat 19+1)-10 ^ Int.toNat 19)*G)]).map v3),true)]) ρ2 from(by rw[aN4];exact ah s'.get (ah s'.get (ah s'.get aC))))⟩
theorem QB(hw:jP L)(hB:oA A B C E F G)(hS:gT S)(hl:S.length<10)(s:Sub (aS [("_law_script", .lst L,false),("_law_base", .lst ([A,B,C,0,E,F,0,0,G].map D.int),false),("_law_spots_here", .lst (S.map v3),true)]) ρ):∃ρ2,af (aF eQ (fq ((ai (ag 117)).getD 1 (.Pass ⟨0,0,0,0⟩))) (ae (ag 117)) (bF ρ "_law_k" (.int 5,false))) (.nx ρ2)/\∃v:V3,gT (S++[v])/\Sub (aS [("_law_script", .lst L,false),("_law_base", .lst ([A,B,C,0,E,F,0,0,G].map D.int),false),("_law_spots_here", .lst ((S++[v]).map v3),true)]) ρ2:=by
 have i1:=nA (B:=[A,B,C,0,E,F,0,0,G].map D.int) (S:=S.map v3) (f:=true) hw (k:=5) rfl rfl rfl
 have z:(S.map v3).length<cq:=by rw[aH3];exact aK1 hl (by decide)
 have zz:=ly S
 generalize bK L (20+3*5+0)=c0 at i1
 generalize bK L (20+3*5+1)=c1 at i1
 generalize bK L (20+3*5+2)=c2 at i1
 have u7:=gC c0;have v7:=gC c1;have w7:=gC c2
 have d1:=MN c0
 have ub:=ay u7 (by decide);have vb:=ay v7 (by decide);have wb:=ay w7 (by decide)
 have AB:=ay hB.a (by decide);have BB:=ay hB.b (by decide);have CB:=ay hB.c (by decide);have EB:=ay hB.e (by decide);have FB:=ay hB.f (by decide);have GB:=ay hB.g (by decide)
 have bd:=yC (dx:=0) (dy:=0) (dz:=(c0.fdiv 65).fmod 2) hB u7 v7 w7 (by decide) (by decide) d1
 simp only[Int.add_zero]at bd
 refine bN (C:=aS [("_law_script", .lst L,false),("_law_base", .lst ([A,B,C,0,E,F,0,0,G].map D.int),false),("_law_spots_here", .lst (S.map v3),true),("_law_k", .int 5,false)]) (ah (s.put _ _).get (ah (s.put _ _).get (ah (s.put _ _).get (ah eL aC)))) (bV 2 i1 (aD (t:=false) (k:=0) ∅ rfl ( (cy (t:=true) (k:=0) ∅ rfl (aN ∅ (aN ∅ (aN ∅ (aN ∅ dh)))))))) λρ2 s'=>⟨(((c0.fdiv 5).fmod 13-6)*A,((c0.fdiv 5).fmod 13-6)*B+((c1.fdiv 5).fmod 13-6)*E,((c0.fdiv 5).fmod 13-6)*C+((c1.fdiv 5).fmod 13-6)*F+((c2.fdiv 5).fmod 13-6)*G+(c0.fdiv 65).fmod 2),(λt ht=>by
  rcases aL9.mp ht with ht|ht
  ·exact hS t ht
  ·rw[aJ8.mp ht];exact bd),(show Sub (aS [("_law_script", .lst L,false),("_law_base", .lst ([A,B,C,0,E,F,0,0,G].map D.int),false),("_law_spots_here", .lst ((S++[(((c0.fdiv 5).fmod 13-6)*A,((c0.fdiv 5).fmod 13-6)*B+((c1.fdiv 5).fmod 13-6)*E,((c0.fdiv 5).fmod 13-6)*C+((c1.fdiv 5).fmod 13-6)*F+((c2.fdiv 5).fmod 13-6)*G+(c0.fdiv 65).fmod 2)]).map v3),true)]) ρ2 from(by rw[aN4];exact ah s'.get (ah s'.get (ah s'.get aC))))⟩
theorem V6(hw:jP L)(hB:oA A B C E F G):∃S:List V3,S.length=6/\gT S/\af (nl [.lst L,.lst ([A,B,C,0,E,F,0,0,G].map D.int)]) (.lst (S.map v3)):=by
 have run:∃ρ2,af (aF eQ ((ai (ag 117)).take 2) (ae (ag 117)) (de ["_law_script", "_law_base"] [.lst L,.lst ([A,B,C,0,E,F,0,0,G].map D.int)])) (.nx ρ2)/\∃S:List V3,S.length=6/\gT S/\Sub (aS [("_law_spots_here", .lst (S.map v3),true)]) ρ2:=by
  refine nH ∅ (xY [.int 0,.int 1,.int 2,.int 3,.int 4,.int 5] ∅ ?_)
  obtain⟨r0,h0,v0,b0,s0⟩:=QG hw hB (S:=[]) (λ_ z=>by cases z) (by decide) (ρ:=bF (de ["_law_script", "_law_base"] [.lst L,.lst ([A,B,C,0,E,F,0,0,G].map D.int)]) "_law_spots_here" (.lst [],true)) (ah rfl (ah rfl (ah rfl aC)))
  refine⟨_,rfl,r0,h0,?_⟩
  obtain⟨r1,h1,v1,b1,s1⟩:=QF hw hB b0 (by simp) s0
  refine⟨_,rfl,r1,h1,?_⟩
  obtain⟨r2,h2,v2,b2,s2⟩:=QE hw hB b1 (by simp) s1
  refine⟨_,rfl,r2,h2,?_⟩
  obtain⟨r3,h3,v3',b3,s3⟩:=QD hw hB b2 (by simp) s2
  refine⟨_,rfl,r3,h3,?_⟩
  obtain⟨r4,h4,v4,b4,s4⟩:=QC hw hB b3 (by simp) s3
  refine⟨_,rfl,r4,h4,?_⟩
  obtain⟨r5,h5,v5,b5,s5⟩:=QB hw hB b4 (by simp) s4
  refine⟨_,rfl,r5,h5,?_⟩
  exact⟨_,by simp,b5,ah s5.get aC⟩
 obtain⟨ρ2,h,S,hl,hb,s⟩:=run
 exact⟨S,hl,hb,bG (bV 2 h (eJ s ∅))⟩
noncomputable def hZ:Fx:=mZ [("_law_numbers", iF),("_law_text", o8),("_law_common", eR),("_law_base_form", iZ),("_law_spot_holds", iu),("_law_four", o9),("_law_spots", nl),("_law_cell", jH)] [] BL IL ML TL aO [] [("Desk", [("tell", cV)])]
noncomputable def mM(L:List D)(k j:Int)(e:Int):Int:=(iL L k j).fmod 13*2-12+e.fmod 2
theorem uk(L:List D)(k j e:Int):(mM L k j e).natAbs<=2 ^ 5:=by
 have h0:=aI8 (iL L k j) (show(0:Int)<13 by decide)
 have h1:=aJ3 (iL L k j) (show(0:Int)<13 by decide)
 have f0:=aI8 e (show(0:Int)<2 by decide)
 have f1:=aJ3 e (show(0:Int)<2 by decide)
 unfold mM
 omega
noncomputable def pP(L:List D)(k e:Int):Qd:=(mM L k 0 e,mM L k 1 e,mM L k 2 e,mM L k 3 e)
theorem xy(L:List D)(k e:Int):d8 (pP L k e):=by
 have f0:=aI8 e (show(0:Int)<2 by decide)
 have f1:=aJ3 e (show(0:Int)<2 by decide)
 refine⟨e.fmod 2,(iL L k 0).fmod 13-6,(iL L k 1).fmod 13-6,(iL L k 2).fmod 13-6,(iL L k 3).fmod 13-6,by omega,?_,?_,?_,?_⟩<;>(show mM _ _ _ _=_;unfold mM;omega)
noncomputable def ox(q:Qd):Qd:=if q=(0,0,0,0)then(2,0,0,0)else q
theorem AW(hp:d8 q)(hl:dF (2 ^ 5) q):d8 (ox q)/\dF (2 ^ 5) (ox q)/\sX (ox q):=by
 unfold ox
 split
 ·exact⟨⟨0,1,0,0,0,.inl rfl,rfl,rfl,rfl,rfl⟩,⟨by decide,by decide,by decide,by decide⟩,λz=>absurd z.1 (by decide)⟩
 ·rename_i h
  exact⟨hp,hl,λ⟨a,b,c,d⟩=>h (mB a b c d)⟩
theorem Fj(hl:jP L){F:List D}(hz:F.length<cq)(s:Sub (aS [("_law_script", .lst L,false),("_law_fours", .lst F,true)]) ρ):∃ρ2,af (aF hZ (fq ((ai (ag 119)).getD 1 (.Pass ⟨0,0,0,0⟩))) (ae (ag 119)) (bF ρ "_law_k" (.int k,false))) (.nx ρ2)/\Sub (aS [("_law_script", .lst L,false),("_law_fours", .lst (F++[dq (ox (pP L (3+5*k) (bK L k)))]),true)]) ρ2:=by
 have h4:=Nr hl (3+5*k)
 have hc:af (aF hZ ((fq ((ai (ag 119)).getD 1 (.Pass ⟨0,0,0,0⟩))).take 1) (ae (ag 119)) (aS [("_law_script", .lst L,false),("_law_fours", .lst F,true),("_law_k", .int k,false)])) (.nx (bF (aS [("_law_script", .lst L,false),("_law_fours", .lst F,true),("_law_k", .int k,false)]) "_law_four_here" (dq (pP L (3+5*k) (bK L k)),true))):=by
  unfold pP mM
  generalize iL L (3+5*k) 0=x0 at *
  generalize iL L (3+5*k) 1=x1 at *
  generalize iL L (3+5*k) 2=x2 at *
  generalize iL L (3+5*k) 3=x3 at *
  refine aN (bI (dN (B:=qS) (aJ (cY (l:=[x0,x1,x2,x3]) (g:=D.int) (f:=λx=>D.int (x.fmod 13*2-12+(bK L k).fmod 2)) (ax ∅ h4) rfl (aF7 rfl) (.inl rfl) λx hx=>⟨_,rfl,bv rfl (by walk_at "ob")⟩) bD) ∅)) dh
 generalize pP L (3+5*k) (bK L k)=q at *
 by_cases h0:q=(0,0,0,0)
 ·have e:ox q=(2,0,0,0):=if_pos h0
  rw[e]
  exact bN (C:=aS [("_law_script", .lst L,false),("_law_fours", .lst F,true),("_law_k", .int k,false)]) (ah (s.put _ _).get (ah (s.put _ _).get (ah eL aC))) (bV 1 hc (cy ∅ (Uk (q:=(0,0,0,0)) h0) (aN ∅ (aN ∅ dh)))) λρ2 s'=>ah s'.get (ah s'.get aC)
 ·have e:ox q=q:=if_neg h0
  rw[e]
  exact bN (C:=aS [("_law_script", .lst L,false),("_law_fours", .lst F,true),("_law_k", .int k,false)]) (ah (s.put _ _).get (ah (s.put _ _).get (ah eL aC))) (bV 1 hc (aD ∅ (Ul (q:=(0,0,0,0)) h0) (aN ∅ dh))) λρ2 s'=>ah s'.get (ah s'.get aC)
theorem Tk(hl:jP L):∃(p q:Qd) (ρ:al),(d8 p/\dF (2 ^ 5) p/\sX p)/\(d8 q/\dF (2 ^ 5) q/\sX q)/\af (aF hZ ((ai (ag 119)).take 2) (ae (ag 119)) (de ["_law_script"] [.lst L])) (.nx ρ)/\Sub (aS [("_law_script", .lst L,false),("_law_fours", .lst [dq p,dq q],true)]) ρ:=by
 have run:∃ρ2,af (aF hZ ((ai (ag 119)).take 2) (ae (ag 119)) (de ["_law_script"] [.lst L])) (.nx ρ2)/\Sub (aS [("_law_script", .lst L,false),("_law_fours", .lst [dq (ox (pP L (3+5*0) (bK L 0))),dq (ox (pP L (3+5*1) (bK L 1)))],true)]) ρ2:=by
  refine nH ∅ (xY [.int 0,.int 1] ∅ ?_)
  obtain⟨r0,h0,s0⟩:=Fj hl (k:=0) (F:=[]) (ρ:=bF (de ["_law_script"] [.lst L]) "_law_fours" (.lst [],true)) (by decide) (ah rfl (ah rfl aC))
  refine⟨_,rfl,r0,h0,?_⟩
  obtain⟨r1,h1,s1⟩:=Fj hl (k:=1) (F:=[dq (ox (pP L (3+5*0) (bK L 0)))]) (aF7 rfl) s0
  exact⟨_,rfl,r1,h1,s1⟩
 obtain⟨ρ,h,s⟩:=run
 have lt:∀k e,dF (2 ^ 5) (pP L k e):=λk e=>⟨uk _ _ _ _,uk _ _ _ _,uk _ _ _ _,uk _ _ _ _⟩
 exact⟨_,_,ρ,AW (xy _ _ _) (lt _ _),AW (xy _ _ _) (lt _ _),h,s⟩
theorem HU{C:al}{ss:List Stmt}(h:∀y p,C y=some p->ρ y=some p)(g:fI X H0 C ss (.rt r)):fI X H0 ρ ss (.rt r):=λpins s σ H D I ⟨ow,E,hl,B,q⟩=>g pins s σ H D I ⟨ow,x8 h E,hl,B,q⟩
noncomputable abbrev K4:List bM:=[.inr "one", .inr "other", .inr "both", .inr "turned"]
noncomputable abbrev T4(p q:Qd):List (List Int):=[l4 p,l4 q,l4 (cm p q),l4 (hJ (cm p q))]
theorem yy{m:Nat}(h:dF (2 ^ m) q)(hm:m<=60):(jg q).natAbs<10 ^ 40:=by
 obtain⟨a,b,c,d⟩:=q
 obtain⟨h1,h2,h3,h4⟩:=(show a.natAbs<=2 ^ m/\b.natAbs<=2 ^ m/\c.natAbs<=2 ^ m/\d.natAbs<=2 ^ m from h)
 have e:∀{x:Int},x.natAbs<=2 ^ m->(x*x).natAbs<=2 ^ 120:=λh=>aF5 (ml h h) (aG8 (by decide) (by omega))
 have a1:=e h1;have a2:=e h2;have a3:=e h3;have a4:=e h4
 refine aI1 (gM (by decide)) ?_
 refine aI1 (m:=4*2 ^ 120) ?_ (by decide)
 show(a*a+(b*b+(c*c+(d*d+0)))).natAbs<=_
 generalize 2 ^ 120=M at *
 generalize a*a=x at *
 generalize b*b=y at *
 generalize c*c=z at *
 generalize d*d=w at *
 omega
theorem uh{ns:D}(hw:w = "turn" \/ w = "corner" \/ w = "base")(hT:af (dD [q0]) t)(h:af (dl [.str w,t,ns]) r)(l0:Sp.kn q0 1=0)(l1:Sp.kn ns 1<=1):af (dZ [.str w,q0,ns]) r:=by
 rcases hw with rfl|rfl|rfl<;>exact xm ∅ ∅ ∅ hT h l0 l1
theorem ai6(l:List Nat):jn [l]=l:=by show l++_=l;simp
theorem U7(hB:Bs Q A B C E F G)(hn:(tq Q).low.n.natAbs<=2 ^ 25):oA A B C E F G:=by
 obtain⟨a0,d0,f0,⟨b1,b2⟩,⟨c1,c2⟩,⟨e1,e2⟩,hd,_,_,_,_⟩:=hB
 have le1:∀{x y:Int},0<x->0<y->x<=x*y:=λ{x y} hx hy=>by
  have:=Int.mul_le_mul_of_nonneg_left (show 1<=y by omega) (show 0<=x by omega);omega
 have aE:A<=A*E:=le1 a0 d0
 have aG:A*E<=A*E*G:=le1 (aK3 a0 d0) f0
 have eA:E<=A*E:=by rw[aI2];exact le1 d0 a0
 have gA:G<=A*E*G:=by rw[aI2];exact le1 f0 (aK3 a0 d0)
 rw[<- hd]at hn
 generalize A*E*G=n at *
 generalize A*E=m at *
 constructor<;>omega
theorem Co{nm:Str}{m:Nat}(hs:Txt.split (Str.ofString "size " ++ nm) (Str.ofString " ")=[Str.ofString "size", nm])(hz:(Str.ofString "size " ++ nm).length<=1048576)(k1:fO ks (.inr nm)=true)(k2:kM ks ts (.inr nm)=some (l4 q))(h:dF (2 ^ m) q)(hm:m<=60):af (cV [iP d ks ts,.str (Str.ofString "size " ++ nm)]) (cC (jg q)) :=
 mi (w := "size") (nm:=nm) (ji hs hz) (by decide +kernel) ∅ ∅ k1 k2 (Hg (wn h (aN2 (by decide) (by omega))) (yy h hm) _)
theorem zh(h:n.natAbs<10 ^ 40):af (fV [cC n]) (.int n,0):=by
 have ht:(bE n).length<=640:=by have:=dJ h;omega
 refine bv (l:=[(sN (bE n)).length<=640]) ?_ ⟨by rw[ci];exact ht,True.intro⟩
 unfold fV cC;dsimp only;rw[vK ht]
theorem Tl(hl:jP L)(h:q9 p q Q k):af (aF hZ ((ai (ag 119)).drop 6) (ae (ag 119)) (bF (aS [("_law_script", .lst L,false),("_law_fours", .lst [dq p,dq q],false)]) "_law_desk" (iP d K4 (T4 p q),false))) (.rt (.bl true)):=by
 have w40:∀{t:Int} {j:Nat},t.natAbs<=2 ^ j->j<=130->t.natAbs<10 ^ 40:=λh1 h2=>aI1 (aF5 h1 (aG8 (by decide) h2)) (by decide)
 obtain⟨g,hg,cut,en,ho,hn,g1⟩:=iH Q h.pm
 have hT:=uP h.k0 h.pm (by decide) h.lm (gH h.lQ (by decide))
 rw[<- h.e]at hT
 have lb:∀n∈(tq Q).low.l,n.natAbs<10 ^ 40:=λn hn=>w40 (h.bd n hn) (by decide)
 have nb:=h.bd _ (T9.mem_n _)
 have n4:(tq Q).low.n.natAbs<10 ^ 40:=w40 nb (by decide)
 have t1:af (cV [iP d K4 (T4 p q),dW "turn both"]) (.str (sN (jn ((tq Q).low.l.map bE)))):=mi (w := "turn") (nm := "both") (ji (s := "turn both") (ws:=["turn", "both"]) (by decide +kernel) (by decide +kernel)) (by decide +kernel) ∅ ∅ rfl rfl (uh (.inl rfl) hT (He lb _) rfl (by decide))
 have n1:=za (ns:=(tq Q).low.l) (m:=10) (by simp[T9.l]) (aF7 rfl) rfl lb
 obtain⟨A,B,C,E,F,G,hB,hBase⟩:=OZ h.pm (gH h.lQ (by decide))
 have hb:=U7 hB nb
 have b9:∀n∈[A,B,C,0,E,F,0,0,G],n.natAbs<10 ^ 40:=by
  intro n hn
  simp only[aF8,aG4,aI7]at hn
  rcases hn with rfl|rfl|rfl|rfl|rfl|rfl|rfl|rfl|rfl
  ·exact w40 hb.a (by decide)
  ·exact w40 hb.b (by decide)
  ·exact w40 hb.c (by decide)
  ·decide
  ·exact w40 hb.e (by decide)
  ·exact w40 hb.f (by decide)
  ·decide
  ·decide
  ·exact w40 hb.g (by decide)
 have t2:af (cV [iP d K4 (T4 p q),dW "base both"]) (.str (sN (jn ([A,B,C,0,E,F,0,0,G].map bE)))):=mi (w := "base") (nm := "both") (ji (s := "base both") (ws:=["base", "both"]) (by decide +kernel) (by decide +kernel)) (by decide +kernel) ∅ ∅ rfl rfl (uh (.inr (.inr rfl)) hT (Hf hBase b9 _) rfl (by decide))
 have n2:=za (ns:=[A,B,C,0,E,F,0,0,G]) (m:=9) (by simp) (aF7 rfl) rfl b9
 have t3:af (cV [iP d K4 (T4 p q),dW "corner both"]) (cC (tq Q).low.n):=mi (w := "corner") (nm := "both") (ji (s := "corner both") (ws:=["corner", "both"]) (by decide +kernel) (by decide +kernel)) (by decide +kernel) ∅ ∅ rfl rfl (uh (.inr (.inl rfl)) hT (sQ n4 _) rfl (by decide))
 have n3:=za (ns:=[(tq Q).low.n]) (m:=1) (by simp) (aF7 rfl) rfl (λn hn=>by rw[aJ8.mp hn];exact n4)
 rw[aH8,aN0,ai6]at n3
 obtain⟨e,he,pe⟩:=AK h.pm
 have pe:yj (kq e (bar Q)):=pe
 have e0:e≠0:=by omega
 have ee:e*e=1:=by rcases he with rfl|rfl<;>rfl
 have eb:hJ (cm p q)=kq (k*e) (kq e (bar Q)):=by
  rw[h.e,Fk,aH2,ee,aP8]
  exact O1 k Q
 have lbr:dF (2 ^ 11) (hJ (cm p q)):=by rw[h.e];exact xM h.lm
 have hT':=uP (k:=k*e) (q:=kq e (bar Q)) (Int.mul_ne_zero h.k0 e0) pe (m:=11) (by decide) (by rw[<- eb];exact lbr) (by
  refine Lu (k:=k*e) (Int.mul_ne_zero h.k0 e0) ?_
  rw[<- eb];exact gH lbr (by decide))
 rw[<- eb]at hT'
 have ln':(tq (kq e (bar Q))).low.n=(tq Q).low.n:=by rw[MS h.pm he pe]
 have t4:af (cV [iP d K4 (T4 p q),dW "corner turned"]) (cC (tq Q).low.n):=by
  rw[<- ln']
  exact mi (w := "corner") (nm := "turned") (ji (s := "corner turned") (ws:=["corner", "turned"]) (by decide +kernel) (by decide +kernel)) (by decide +kernel) ∅ ∅ rfl rfl (uh (.inr (.inl rfl)) hT' (sQ (by rw[ln'];exact n4) _) rfl (by decide))
 obtain⟨S,hSl,hSb,hSp⟩:=V6 hl hb
 have lm:dF (2 ^ 11) (cm p q):=by rw[h.e];exact h.lm
 have hcom:af (eR [.lst ((tq Q).low.l.map D.int)]) (.int 1):=af.eq ⟨_,rfl,T9.okT (k:=25) (by decide) h.bd,True.intro⟩ (by rw[kQ,g1])
 have hf:=aw0 hB.a0 hB.d0 hB.f0 hB.b1 hB.c1 hB.e1
 have hm:=HN h.pp h.pq
 have z1:=yy h.lp (by decide);have z2:=yy h.lq (by decide);have z3:=yy lm (by decide)
 have AB:=ay hb.a (by decide);have EB:=ay hb.e (by decide);have GB:=ay hb.g (by decide)
 have AE:(A*E).natAbs<bW:=ay (ml hb.a hb.e) (by decide)
 have zb:(jg p).natAbs<bW:=aK1 z1 (by decide)
 have zb':(jg q).natAbs<bW:=aK1 z2 (by decide)
 refine aN (bI (ax (aJ (fu ∅ ∅ rfl t1) (aJ ∅ bD)) n1)) (aN (bI (ax (aJ (fu ∅ ∅ rfl t2) (aJ ∅ bD)) n2)) (aN (bI (ax (aJ (fu ∅ ∅ rfl t3) (aJ ∅ bD)) n3)) ?_))
 refine aD (t:=false) (k:=0) (d6 (cH (k:=0) ∅ (cH (k:=0) ∅ (cH (k:=0) ∅ (cH (k:=0) (∅.bl (fN rfl)) (cH (k:=0) (cn (ax ∅ (F:=eR) hcom) ∅ ∅) gy)))))) rfl ?_
 refine aD (t:=false) (k:=0) (d6 (cH (k:=0) (vX (b:=true) (ax ∅ hf)) (cH (k:=0) (∅.bl (fN hB.n)) gy))) rfl ?_
 refine aD (t:=false) (k:=0) (vX (b:=true) (dN (B:=iW) (aJ (cY (l:=S) (g:=v3) (f:=λ_=>D.bl true) (ax ∅ hSp) rfl (by rw[hSl];decide) (.inr (by decide)) λv hv=>⟨_,rfl,ax ∅ (QX h rfl rfl hB hb (hSb v hv))⟩) bD) (Gn S))) rfl ?_
 refine aN (bI (cY (l:=[((Str.ofString "one" : Str),jg p),(Str.ofString "other", jg q),(Str.ofString "both", jg (cm p q))]) (g:=λt=>D.str t.1) (f:=λt=>D.int t.2) ∅ rfl (aF7 rfl) (.inl rfl) ?_)) ?_
 ·refine List.forall_mem_cons.mpr ⟨⟨_,rfl,dN (B:=fV) (aJ (fu ∅ ∅ rfl (Co (nm := "one") (by decide +kernel) (by decide +kernel) rfl rfl h.lp (by decide))) bD) (zh z1)⟩,List.forall_mem_cons.mpr ⟨⟨_,rfl,dN (B:=fV) (aJ (fu ∅ ∅ rfl (Co (nm := "other") (by decide +kernel) (by decide +kernel) rfl rfl h.lq (by decide))) bD) (zh z2)⟩,List.forall_mem_cons.mpr ⟨⟨_,rfl,dN (B:=fV) (aJ (fu ∅ ∅ rfl (Co (nm := "both") (by decide +kernel) (by decide +kernel) rfl rfl lm (by decide))) bD) (zh z3)⟩,λ_ z=>nomatch z⟩⟩⟩
 ·have ok:fP (cC (tq Q).low.n) (cC (tq Q).low.n)=true:=jw (nG (mf _)) (nG (mf _))
  refine cf (bP (d6 (lG (k:=0) (cn (fu ∅ ∅ rfl t4) (dN (B:=lN) (aJ (d:=.int (tq Q).low.n) (k:=0) (j:=0) ∅ bD) (pJ n4)) (af.eq (bv rfl ⟨ok,True.intro⟩) (vY _))) (lG (k:=0) (∅.bl (vZ hm.symm)) mR))))
theorem xE(h:d8 q):vt q:=by
 obtain⟨a,b,c,d⟩:=q
 obtain⟨e,x,y,z,w,he,h1,h2,h3,h4⟩:=h
 have f:∀t:Int,(2*t+e).fmod 2=e:=λt=>by rw[fm2];omega
 have h1:a=2*x+e:=h1
 have h2:b=2*y+e:=h2
 have h3:c=2*z+e:=h3
 have h4:d=2*w+e:=h4
 subst h1 h2 h3 h4
 exact⟨(f y).trans (f x).symm,(f z).trans (f x).symm,(f w).trans (f x).symm⟩
theorem pY{m:Nat}(h:dF (2 ^ m) q)(hm:m<=130):jQ q:=by
 have w:∀{t:Int},t.natAbs<=2 ^ m->t.natAbs<10 ^ 40:=λh=>aI1 (aF5 h (aG8 (by decide) hm)) (by decide)
 exact⟨w h.1,w h.2.1,w h.2.2.1,w h.2.2.2⟩
theorem Jq{nm:Str}{n:List Nat}(e:nm=sN n)(q:Qd):Str.ofString "keep " ++ nm++Str.ofString " " ++ iM q=sN (jn (wN "keep" :: n::gq q)):=by
 subst e
 rw[Fy (wN "keep") (by simp),Fy n (by simp[gq]),ql,gu "keep ", gu " ", fg,fg,fg]
 congr 1
 rw[show(("keep ".toList.map Char.toNat:List Nat))=wN "keep" ++ [32] by decide,show((" ".toList.map Char.toNat:List Nat))=[32] by decide]
 simp only[List.append_assoc,List.singleton_append,List.cons_append,List.nil_append]
theorem De{nm:Str}{n:List Nat}(e:nm=sN n)(hf:32∉n)(hn:n.length<=43)(h:jQ q):af (eN (.str (Str.ofString "keep " ++ nm++Str.ofString " " ++ iM q)) [.str (Str.ofString " ")]) (.lst (dW "keep" :: .str nm::(gq q).map λw=>D.str (sN w)),0):=by
 rw[Jq e q]
 have hs:=rK (ws:=wN "keep" :: n::gq q) (by simp) (by
  intro w hw
  simp only[gq,aF8,aG4,aI7]at hw
  rcases hw with rfl|rfl|rfl|rfl|rfl|rfl
  ·exact(by decide:32∉wN "keep")
  ·exact hf
  ·exact kE _
  ·exact kE _
  ·exact kE _
  ·exact kE _) (aF7 rfl) (by
  intro w hw
  simp only[gq,aF8,aG4,aI7]at hw
  rcases hw with rfl|rfl|rfl|rfl|rfl|rfl
  ·decide
  ·exact hn
  ·exact dX h.1
  ·exact dX h.2.1
  ·exact dX h.2.2.1
  ·exact dX h.2.2.2)
 rw[aH8,aH8,wS,<- e]at hs
 exact hs
theorem M0{nm:Str}{n:List Nat}(e:nm=sN n)(hn:n.length<=43)(h:jQ q):(Str.ofString "keep ").length+nm.length<=cq/\(Str.ofString "keep " ++ nm).length+(Str.ofString " ").length<=cq/\(Str.ofString "keep " ++ nm++Str.ofString " ").length+(iM q).length<=cq:=by
 have hj:=A9 (dX h.1) (dX h.2.1) (dX h.2.2.1) (dX h.2.2.2)
 have e1:(Str.ofString "keep ").length=5:=by decide +kernel
 have e2:(Str.ofString " ").length=1:=by decide +kernel
 subst e
 have e3:(Str.ofString "keep " ++ sN n).length=5+n.length:=by rw[gu "keep ", fg,ci,aI6];rfl
 have e4:(Str.ofString "keep " ++ sN n++Str.ofString " ").length=5+n.length+1:=by rw[gu "keep ", gu " ", fg,fg,ci,aI6,aI6];rfl
 have e5:(iM q).length<=200:=by rw[ql,ci];exact hj
 rw[e1,e2,e3,e4,ci]
 have:cq=40000:=rfl
 omega
theorem uj{s:String}(h1:∀c∈wN s,97<=c/\c<=122)(h2:1<=(wN s).length)(h3:(wN s).length<=8):af (dm [dW s]) (.bl true):=by
 have:=SY h1 h2 h3
 rw[wS]at this
 exact this
theorem MG(hp:d8 p)(hq:d8 q)(np:sX p)(nq:sX q):sX (cm p q):=by
 intro h
 have e:=xB hp hq
 have e0:tq (fh p q)=(tq q).bh (tq p):=Ah p q
 have n1:=T9.bhn (gt nq) (gt np)
 rw[<- e0,e]at n1
 have:(tq (kq 2 (cm p q))).n=0:=by
  obtain⟨h1,h2,h3,h4⟩:=h
  show n4 (2*(cm p q).1) (2*(cm p q).2.1) (2*(cm p q).2.2.1) (2*(cm p q).2.2.2)=0
  rw[h1,h2,h3,h4];rfl
 omega
noncomputable abbrev rA(L:List D)(p q:Qd):al:=aS [("_law_script", .lst L,false),("_law_fours", .lst [dq p,dq q],false)]
theorem yD(L:List D)(p q:Qd):Sh (rA L p q):=λx d o hx=>by
 unfold rA aS at hx
 split at hx
 ·cases hx;rfl
 ·unfold aS at hx
  split at hx
  ·cases hx;rfl
  ·cases hx
noncomputable def tlT:Stmt->Expr
 | .If (.Compare (.Call _ [e] _ _) _ _ _) _ _ _=>e
 | _=>.Constant .none 0 ⟨0,0,0,0⟩
theorem Jt{r:Qd}{nm:Str}{n:List Nat}(e:nm=sN n)(hn:n.length<=43)(h:jQ r):af (aH hZ (tlT ((fq ((ai (ag 119)).getD 3 (.Pass ⟨0,0,0,0⟩))).getD 0 (.Pass ⟨0,0,0,0⟩))) false (ae (ag 119)) (bF (bF (rA L p q) "_law_name" (.str nm,false)) "_law_four_here" (dq r,false))) (.str (Str.ofString "keep " ++ nm++Str.ofString " " ++ iM r),0):=by
 obtain⟨k1,k2,k3⟩:=M0 e hn h
 exact qC (k:=0) (j:=0) (qC (k:=0) (j:=0) (qC (k:=0) (j:=0) ∅ ∅ ⟨_,rfl,k1,True.intro⟩) ∅ ⟨_,rfl,k2,True.intro⟩) (ax ∅ (Ff h)) ⟨_,rfl,k3,True.intro⟩
theorem Dt(h:jQ q):af (cU [gQ (l4 q)]) (.str (iM q)):=⟨_,rfl,Fa h,True.intro⟩
theorem xT(G:bA hZ X (ae (ag 119)))(dk:GL X "Desk" "kept" "tell" cU ia){r:Qd}{nm:Str}{n:List Nat}(e:nm=sN n)(hf:32∉n)(hn:n.length<=43)(hi:af (dm [.str nm]) (.bl true))(ho:jQ r)(hp:vt r){i:Nat}{x:Addr}(hx:X.N[i]?=some (Str.ofString "_law_desk"))(hv:eB X.env.scope "_law_desk")(hz:ks.length<sizeLine) :
  eT X (fq ((ai (ag 119)).getD 3 (.Pass ⟨0,0,0,0⟩))) (tX X H0 (bF (bF (rA L p q) "_law_name" (.str nm,false)) "_law_four_here" (dq r,false)) (eU X "Desk" "kept" i x d ks ts) (rA L p q) (eU X "Desk" "kept" i x d (lK ks (.inr nm)) (g8 ks ts (.inr nm) (l4 r)))):=by
 refine KB (ρ1:=bF (bF (rA L p q) "_law_name" (.str nm,false)) "_law_four_here" (dq r,false)) (λy pp hy=>?_) (L7 (Aq (t:=iM r) (k:=0) G.room (jw (Ay r) (Ay r)) (oK dk hx hv rfl (by decide +kernel) (λ_ _ z=>nomatch z) rfl (Az (Az (yD L p q))) (jT (Jt e hn ho) G) hz (List.cons_ne_nil _ _) (Pk (De e hf hn ho) hi ho hp) (Dt ho)) (jT (ax ∅ (Ff ho)) G) (λ_ _ _ _ s j=>j.same s)))
 rw[dr,dr]
 unfold rA aS at hy
 split at hy
 ·rename_i h
  have h:y=Str.ofString "_law_script" := h
  subst h;cases hy;rfl
 ·unfold aS at hy
  split at hy
  ·rename_i h
   have h:y=Str.ofString "_law_fours" := h
   subst h;cases hy;rfl
  ·cases hy
theorem Ko(L:List D)(p q:Qd):af (aH hZ (Ua ((ai (ag 119)).getD 3 (.Pass ⟨0,0,0,0⟩))) true (ae (ag 119)) (rA L p q)) (.lst [.tup [dW "one", dq p],.tup [dW "other", dq q]],1):=bv rfl (by walk_at "ob")
theorem Jp(hl:jP L):re hZ "Desk" "kept" "tell" cU ia (ae (ag 119)) ["_law_script"] (ai (ag 119)) [.lst L] (.bl true):=by
 refine⟨rfl,λX H0 G po dk=>?_⟩
 obtain⟨p,q,ρ,⟨pp,lp,np⟩,⟨pq,lq,nq⟩,h,s⟩:=Tk hl
 obtain⟨k,a,b,c,d,k0,e1,e2,e3,e4,pm,_⟩:=Ix (MG pp pq np nq)
 have T:q9 p q (a,b,c,d) k:=⟨pp,pq,lp,lq,mB e1 e2 e3 e4,k0,pm⟩
 have op:=pY lp (by decide)
 have oq:=pY lq (by decide)
 have lm:dF (2 ^ 11) (cm p q):=by rw[T.e];exact T.lm
 have om:=pY lm (by decide)
 have bp:jF p:=wn lp (aN2 (by decide) (by decide))
 have bq:jF q:=wn lq (aN2 (by decide) (by decide))
 have n1:af (dm [dW "one"]) (.bl true):=uj (by decide) (by decide) (by decide)
 have n2:af (dm [dW "other"]) (.bl true):=uj (by decide) (by decide) (by decide)
 have n3:af (dm [dW "both"]) (.bl true):=uj (by decide) (by decide) (by decide)
 have n4:af (dm [dW "turned"]) (.bl true):=uj (by decide) (by decide) (by decide)
 refine xp 2 G po h (HW (HU (C:=rA L p q) ?_ ?_))
 ·refine ah ?_ (ah ?_ aC)
  ·unfold gZ;rw[s.get (x := "_law_script")];rfl
  ·unfold gZ;rw[s.get (x := "_law_fours")];rfl
 refine Ct (f1 := "kept") (m := "tell") (k1:=[.inr "one", .inr "other"]) (t1:=[l4 p,l4 q]) (k2:=[.inr "one", .inr "other", .inr "both"]) (t2:=[l4 p,l4 q,l4 (cm p q)]) (k3:=K4) (t3:=T4 p q) G dk rfl rfl (yD L p q) (G.gl _ rfl) (by decide +kernel) (λi x d hx hv=>?_) (λi x d hx hv=>?_) (λi x d hx hv=>?_) (λd=>kT _ (Tl hl T) G po)
 ·refine HQ (ds:=[.tup [dW "one", dq p],.tup [dW "other", dq q]]) (k:=1) (Jn:=λj=>match j with|0=>eU X "Desk" "kept" i x d [] []|1=>eU X "Desk" "kept" i x d [.inr "one"] [l4 p]|_=>eU X "Desk" "kept" i x d [.inr "one", .inr "other"] [l4 p,l4 q]) G po rfl rfl ((eM (Ko L p q) G).ie rfl _ _ rfl rfl) (aF9 1) (λj dd hd=>?_) (λj ow σ H H' sm jj=>?_) (λj ow σ H v jx hj jj=>?_) (λ_=>rfl)
  ·match j,hd with
   | 0,hd =>
    cases hd
    exact⟨_,_,rfl,rfl,rfl,xT (ks:=[]) (ts:=[]) G dk (gu "one") (by decide) (by decide) n1 op (xE pp) hx hv (by decide)⟩
   | 1,hd =>
    cases hd
    exact⟨_,_,rfl,rfl,rfl,xT (ks:=[.inr "one"]) (ts:=[l4 p]) G dk (gu "other") (by decide) (by decide) n2 oq (xE pq) hx hv (by decide)⟩
   | j+2,hd=>cases hd
  ·match j,jj with
   | 0,jj=>exact eU.same sm jj
   | 1,jj=>exact eU.same sm jj
   | j+2,jj=>exact eU.same sm jj
  ·have ne:∀y:Str,X.N[jx]?=some y->y=Str.ofString "_law_name" \/ y=Str.ofString "_law_four_here" := λy hy=>by
    rcases hj with hj|hj<;>(rw[hj]at hy;injection hy with hy;subst hy)
    ·exact .inl rfl
    ·exact .inr rfl
   have hne:∀{ks ts},eU X "Desk" "kept" i x d ks ts ow σ H->eU X "Desk" "kept" i x d ks ts ow (σ.set jx (some v)) H:=λjj=>by
    rcases hj with hj|hj
    ·exact jj.setN hx hj (by decide +kernel)
    ·exact jj.setN hx hj (by decide +kernel)
   match j,jj with
   | 0,jj=>exact hne jj
   | 1,jj=>exact hne jj
   | j+2,jj=>exact hne jj
 ·exact pF rfl (oK (ks:=[.inr "one", .inr "other"]) (ts:=[l4 p,l4 q]) dk hx hv rfl (by decide +kernel) (λ_ _ z=>by cases z) rfl (yD L p q) (jT ∅ G) (by decide) (List.cons_ne_nil _ _) (Kk (nm := "both") (n1 := "one") (n2 := "other") (ji (s := "times both one other") (ws:=["times", "both", "one", "other"]) (by decide +kernel) (by decide +kernel)) n3 rfl rfl rfl rfl ⟨bp,bq⟩ om) (Dt om))
 ·exact pF rfl (oK (ks:=[.inr "one", .inr "other", .inr "both"]) (ts:=[l4 p,l4 q,l4 (cm p q)]) dk hx hv rfl (by decide +kernel) (λ_ _ z=>by cases z) rfl (yD L p q) (jT ∅ G) (by decide) (List.cons_ne_nil _ _) (Vv (nm := "turned") (n1 := "both") (ji (s := "bar turned both") (ws:=["bar", "turned", "both"]) (by decide +kernel) (by decide +kernel)) n4 rfl rfl) (Dt (q:=hJ (cm p q)) (pY (xM lm) (by decide))))
noncomputable def rk:List D->Rs D:=λds=>.ok (.bl true) [re hZ "Desk" "kept" "tell" cU ia (ae (ag 119)) ["_law_script"] (ai (ag 119)) ds (.bl true)]
theorem Ej:∀ds r,af (rk ds) r->re hZ "Desk" "kept" "tell" cU ia (ae (ag 119)) ["_law_script"] (ai (ag 119)) ds r:=λds r h=>by
 obtain⟨rfl,h,_⟩:=eh h
 exact h
theorem Db(ns:List Int)(_:ns.length<=63):af (rk [.lst (ns.map D.int)]) (.bl true):=⟨_,rfl,Jp ⟨ns,rfl⟩,True.intro⟩
theorem Rb:au (ao (ae (ag 110))) ["_law_text_here", "_law_many"] (ae (ag 110)):= by walk_at "sc"
theorem Re:au (ao (ae (ag 108))) ["_law_part"] (ae (ag 108)):= by walk_at "sc"
theorem Rc:au (ao (ae (ag 109))) ["_law_four_here"] (ae (ag 109)):= by walk_at "sc"
theorem Q8:au (ao (ae (ag 113))) ["_law_numbers_here"] (ae (ag 113)):= by walk_at "sc"
theorem Q6:au (ao (ae (ag 115))) ["_law_base"] (ae (ag 115)):= by walk_at "sc"
theorem Ra:au (ao (ae (ag 111))) ["_law_four_here"] (ae (ag 111)):= by walk_at "sc"
theorem Q9:au (ao (ae (ag 112))) ["_law_nine_here", "_law_spot"] (ae (ag 112)):= by walk_at "sc"
theorem Q5:au (ao (ae (ag 116))) ["_law_base", "_law_spot"] (ae (ag 116)):= by walk_at "sc"
theorem Q7:au (ao (ae (ag 114))) ["_law_numbers_here"] (ae (ag 114)):= by walk_at "sc"
theorem WT:au (ao (ae (ag 97))) ["word"] (ae (ag 97)):= by walk_at "sc"
theorem W4:au (ao (ae (ag 68))) ["text"] (ae (ag 68)):= by walk_at "sc"
theorem W5:au (ao (ae (ag 67))) ["word"] (ae (ag 67)):= by walk_at "sc"
theorem WU:au (ao (ae (ag 96))) ["kind", "word"] (ae (ag 96)):= by walk_at "sc"
theorem WV:au (ao (ae (ag 95))) ["words"] (ae (ag 95)):= by walk_at "sc"
theorem Ln:au (ao (ae (aM (ag 70) 1))) ["self"] (ae (aM (ag 70) 1)):= by walk_at "sc"
theorem W3:au (ao (ae (ag 83))) ["turn"] (ae (ag 83)):= by walk_at "sc"
theorem Xt:au (ao (ae (ag 23))) ["four"] (ae (ag 23)):= by walk_at "sc"
theorem Xn:au (ao (ae (ag 40))) ["one", "other"] (ae (ag 40)):= by walk_at "sc"
theorem Xi:au (ao (ae (ag 51))) ["rows"] (ae (ag 51)):= by walk_at "sc"
theorem Xj:au (ao (ae (ag 50))) ["table"] (ae (ag 50)):= by walk_at "sc"
theorem Xq:au (ao (ae (ag 37))) ["one", "other"] (ae (ag 37)):= by walk_at "sc"
theorem Xr:au (ao (ae (ag 36))) ["numbers"] (ae (ag 36)):= by walk_at "sc"
theorem Xp:au (ao (ae (ag 38))) ["numbers", "divisor"] (ae (ag 38)):= by walk_at "sc"
theorem Xo:au (ao (ae (ag 39))) ["numbers"] (ae (ag 39)):= by walk_at "sc"
theorem Xg:au (ao (ae (ag 53))) ["table"] (ae (ag 53)):= by walk_at "sc"
theorem Xh:au (ao (ae (ag 52))) ["table"] (ae (ag 52)):= by walk_at "sc"
theorem Xv:au (ao (ae (ag 21))) ["one", "other"] (ae (ag 21)):= by walk_at "sc"
theorem WZ:au (ao (ae (ag 85))) ["turn"] (ae (ag 85)):= by walk_at "sc"
theorem Xx:au (ao (ae (ag 17))) ["one", "other"] (ae (ag 17)):= by walk_at "sc"
theorem Xw:au (ao (ae (ag 18))) ["one", "number"] (ae (ag 18)):= by walk_at "sc"
theorem WX:au (ao (ae (ag 87))) ["spot", "other", "place"] (ae (ag 87)):= by walk_at "sc"
theorem WW:au (ao (ae (ag 88))) ["base"] (ae (ag 88)):= by walk_at "sc"
theorem WY:au (ao (ae (ag 86))) ["spots", "place"] (ae (ag 86)):= by walk_at "sc"
theorem W0:au (ao (ae (ag 84))) ["turn"] (ae (ag 84)):= by walk_at "sc"
theorem Xe:au (ao (ae (ag 58))) ["numbers"] (ae (ag 58)):= by walk_at "sc"
theorem Xf:au (ao (ae (ag 54))) ["rows", "other"] (ae (ag 54)):= by walk_at "sc"
theorem Xl:au (ao (ae (ag 48))) ["table", "spot"] (ae (ag 48)):= by walk_at "sc"
theorem Lm:au (ao (ae (aM (ag 70) 2))) ["self", "spot"] (ae (aM (ag 70) 2)):= by walk_at "sc"
theorem Rh:au (ao (ae (ag 102))) ["word", "turn", "numbers"] (ae (ag 102)):= by walk_at "sc"
theorem Xc:au (ao (ae (ag 60))) ["part"] (ae (ag 60)):= by walk_at "sc"
theorem Xd:au (ao (ae (ag 59))) ["four"] (ae (ag 59)):= by walk_at "sc"
theorem Xs:au (ao (ae (ag 24))) ["four"] (ae (ag 24)):= by walk_at "sc"
theorem Xm:au (ao (ae (ag 47))) ["table"] (ae (ag 47)):= by walk_at "sc"
theorem Xk:au (ao (ae (ag 49))) ["numbers"] (ae (ag 49)):= by walk_at "sc"
theorem Lo:au (ao (ae (aM (ag 70) 0))) ["self", "word", "row", "fractions"] (ae (aM (ag 70) 0)):= by walk_at "sc"
theorem Ll:au (ao (ae (aM (ag 71) 0))) ["self", "numbers"] (ae (aM (ag 71) 0)):= by walk_at "sc"
theorem Ri:au (ao (ae (ag 101))) ["word", "four", "numbers"] (ae (ag 101)):= by walk_at "sc"
theorem WS:au (ao (ae (ag 98))) ["wanted", "form", "words"] (ae (ag 98)):= by walk_at "sc"
theorem W6:au (ao (ae (ag 66))) ["number"] (ae (ag 66)):= by walk_at "sc"
theorem W7:au (ao (ae (ag 65))) ["number"] (ae (ag 65)):= by walk_at "sc"
theorem W8:au (ao (ae (ag 64))) ["number"] (ae (ag 64)):= by walk_at "sc"
theorem W9:au (ao (ae (ag 63))) ["word"] (ae (ag 63)):= by walk_at "sc"
theorem Xa:au (ao (ae (ag 62))) ["words"] (ae (ag 62)):= by walk_at "sc"
theorem Xb:au (ao (ae (ag 61))) ["text"] (ae (ag 61)):= by walk_at "sc"
theorem Xy:au (ao (ae (ag 16))) ["one", "other"] (ae (ag 16)):= by walk_at "sc"
theorem Xu:au (ao (ae (ag 22))) ["one", "other"] (ae (ag 22)):= by walk_at "sc"
theorem WR:au (ao (ae (ag 99))) ["words", "fours"] (ae (ag 99)):= by walk_at "sc"
theorem Lj:au (ao (ae (aM (ag 94) 2))) ["self", "word"] (ae (aM (ag 94) 2)):= by walk_at "sc"
theorem Li:au (ao (ae (aM (ag 94) 3))) ["self", "word", "four"] (ae (aM (ag 94) 3)):= by walk_at "sc"
theorem AG:au (ao (ae (aM (ag 94) 1))) ["self", "line"] (ae (aM (ag 94) 1)):= by walk_at "sc"
theorem Q3:au (ao (ae (ag 118))) ["_law_desk", "_law_fours", "_law_base", "_law_spot"] (ae (ag 118)):= by walk_at "sc"
theorem Rg:au (ao (ae (ag 105))) ["_law_script", "_law_k"] (ae (ag 105)):= by walk_at "sc"
theorem Rf:au (ao (ae (ag 107))) ["_law_script", "_law_k"] (ae (ag 107)):= by walk_at "sc"
theorem Q4:au (ao (ae (ag 117))) ["_law_script", "_law_base"] (ae (ag 117)):= by walk_at "sc"
theorem Lk:au (ao (ae (aM (ag 94) 0))) ["self"] (ae (aM (ag 94) 0)):= by walk_at "sc"
theorem Q2:au (ao (ae (ag 119))) ["_law_script"] (ae (ag 119)):= by walk_at "sc"
theorem bg:∀p∈BL,i6 p:=av (Pr:=i6) (D4) (av (Pr:=i6) (BJ) (av (Pr:=i6) (Ke) (av (Pr:=i6) (Kc) (av (Pr:=i6) (D8) (av (Pr:=i6) (J5) (av (Pr:=i6) (D6) (av (Pr:=i6) (J6) (av (Pr:=i6) (J8) (ak)))))))))
theorem aZ:∀p∈IL,sL p:=av (Pr:=sL) (Bf) (av (Pr:=sL) (Jz) (av (Pr:=sL) (Dn) (ak)))
theorem aY:∀p∈ML,pj p:=av (Pr:=pj) (C6) (av (Pr:=pj) (A1) (av (Pr:=pj) (MO) (av (Pr:=pj) (MQ) (ak))))
theorem aX:∀p∈TL,zY p:=av (Pr:=zY) (y9) (ak)
theorem cL{w:World}{k:Nat}{g:Str}{F:List D->Rs D}{l:List (Str×(List D->Rs D))}(h:cg P w k0 mg base j g F)(t:∀p∈l,tP P w k0 mg base k p)(hj:j<=k:=by decide):∀p∈(g,F)::l,tP P w k0 mg base k p:=av (Pr:=tP P w k0 mg base k) (Or.inl (h.mono hj)) t
theorem cR{w:World}{k:Nat}{g:Str}{F:List D->Rs D}{l:List (Str×(List D->Rs D))}(h:wE P w k0 mg base j g F)(t:∀p∈l,tP P w k0 mg base k p)(hj:j<=k:=by decide):∀p∈(g,F)::l,tP P w k0 mg base k p:=av (Pr:=tP P w k0 mg base k) (Or.inr (h.mono hj)) t
theorem cN{n:Str}{l:List Str}(h:mg n=none)(t:∀m∈l,mg m=none):∀m∈n::l,mg m=none:=av (Pr:=λn=>mg n=none) h t
theorem cM{w:World}{K:W.Frag}{k:Nat}{c:Str}{q:Str×(List D->Rs D)}{qs:List (Str×(List D->Rs D))}(h:fD P w K mg base j c q.1 q.2)(hk:j<=k)(t:∀p∈qs,fD P w K mg base k c p.1 p.2):∀p∈q::qs,fD P w K mg base k c p.1 p.2:=av (Pr:=λp:Str×(List D->Rs D)=>fD P w K mg base k c p.1 p.2) (h.mono hk) t
theorem cO{w:World}{K:W.Frag}{k:Nat}{c:Str}{ms:List (Str×(List D->Rs D))}{r:List (Str×List (Str×(List D->Rs D)))}(h:∀q∈ms,fD P w K mg base k c q.1 q.2)(t:∀p∈r,zX P w K mg base k p):∀p∈(c,ms)::r,zX P w K mg base k p:=av (Pr:=zX P w K mg base k) h t
local macro_rules | `(tactic| walk_at "bn") => `(tactic| (intro _ _ _ _ _ _ us hl;first | (obtain ⟨x0,e⟩:=MX hl;subst e;rfl) | (obtain ⟨x0,x1,e⟩:=MW hl;subst e;rfl) | (obtain ⟨x0,x1,x2,e⟩:=MV hl;subst e;rfl) | (obtain ⟨x0,x1,x2,x3,e⟩:=aa9 hl;subst e;rfl)))
theorem all_mk{l:W.OpenLaw}{w:World}{K:W.Frag}{h:Heap}{fa DF DH DG DC DA DE DD Dz DB f97 f68 f67 f96 f95 uu f83 f23 f40 f51 f50 f37 f36 f38 f39 f53 f52 f21 f85 f17 f18 f87 f88 f86 f84 f58 f54 f48 ut DL f60 f59 f24 f47 f49 uv qu DM f98 f66 f65 f64 f63 f62 f61 f16 f22 f99 ur qp qr Dx DK DJ Dy qt Dw dO eY rz:Addr}(X:K.In h)(G:h.Ns mainGlobals mg)(hfa:mg "law" = some (.ref fa))
  {RY Vn R9 Vp RZ Vo RV Vk RT Vi RX Vm RW Vl RS Vh RU Vj Yr ax9 YA ay8 YB ay9 Ys ay0 Yt ay1 Mh Pd Yz ay7 Y0 aB3 YU aA7 YO aA2 YQ aA3 YX aB0 YY aB1 YW aA9 YV aA8 YM aA0 YN aA1 Y3 aB5 Yx ay5 Y5 aB7 Y4 aB6 Yv ay3 Yu ay2 Yw ay4 Yy ay6 YK az8 YL az9 YS aA5 Mg Pc Sc Vs YI az6 YJ az7 YZ aB2 YT aA6 YR aA4 Mi Pf Mf Pb Sd Vt Yq ax8 YC az0 YD az1 YE az2 YF az3 YG az4 YH az5 Y6 aB8 Y1 aB4 Yp ax7 Mc O8 Mb O7 Md O9 RP Vf Sb Vr Sa Vq RQ Vg Me Pa RO Gm:Option Addr} {QQ QS QR QN QL QP QO QK QM V9 Wi Wj Wa Wb Lb Wh WJ WD Wy Wz WG WH WF WE Ww Wx WL Wf WN WM Wd Wc We Wg Wu Wv WB La QV Wr Ws WI WC WA Lc K9 QW V8 Wl Wm Wn Wo Wp Wq WO WK V7 K6 K5 K7 QI QU QT QJ K8 QH:Array (Option Value)} {Sq TM Uz Rz Gb UR Ss TQ UB RB Gd UT Sr TN UA RA Gc US Sm TH Uw Rw FZ UO Sk TC Uu Ru FX UM So TK Uy Ry Ga UQ Sn TJ Ux Rx F9 UP Sj TB Ut Rt FW UL Sl TF Uv Rv FY UN Y9 ad1 ak2 XH Od ap4 Zi ae0 al8 XS On aq3 Zj ae1 al9 XT Oo aq4 Za ad2 ak3 XI Oe ap5 Zb ad3 ak4 XJ Of ap6 Mr Nb NY LF Bw N8 Zh ad9 al7 XR Om aq2 ZJ ag5 ao3 Yi OP at6 ZD af9 an7 Yc OJ as9 Zy af4 an2 X7 OE as4 Zz af5 an3 X8 OF as5 ZG ag2 ao0 Yf OM at3 ZH ag3 ao1 Yg ON at4 ZF ag1 an9 Ye OL at2 ZE ag0 an8 Yd OK at1 Zw af2 an0 X5 OB as2 Zx af3 an1 X6 OC as3 ZL ag7 ao5 Yk OR at8 Zf ad7 ak8 XO Oj aq0 ZN ag9 ao7 Ym OT au0 ZM ag8 ao6 Yl OS at9 Zd ad5 ak6 XM Oh ap8 Zc ad4 ak5 XL Og ap7 Ze ad6 ak7 XN Oi ap9 Zg ad8 ak9 XQ Ol aq1 Zu af0 am8 X3 Oz as0 Zv af1 am9 X4 OA as1 ZB af7 an5 Ya OH as7 Mq Na NX LE Bv N7 Sw TV UE RE Gg UW Zr ae8 am6 X0 Ox ar8 Zt ae9 am7 X1 Oy ar9 ZI ag4 ao2 Yh OO at5 ZC af8 an6 Yb OI as8 ZA af6 an4 X9 OG as6 Ms Nc NZ LG Bx N9 Mp M9 NW LD Bu N6 Sx TX UF RF Gh UX Y8 ad0 ak1 XG Oc ap3 Zk ae2 am0 XU Op aq5 Zl ae3 am1 XV Oq aq6 Zm ae4 am2 XW Os aq7 Zo ae5 am3 XX Ot aq8 Zp ae6 am4 XY Ou aq9 Zq ae7 am5 XZ Ov ar7 ZO ah0 ao8 Yn OU au1 ZK ag6 ao4 Yj OQ at7 Y7 ac9 ak0 XF Ob ap2 Ml M6 NT LA Bq N2 Mj M5 NS Lz Bp N1 Mm M7 NU LB Br N3 Sf Ty Ur Rq FU UJ Sv TU UD RD Gf UV Su TR UC RC Ge UU Si Tz Us Rr FV UK Mn M8 NV LC Bt N5 Se Fm FP EX zt FR:Value}
  (jd:W.nsIn K mainGlobals "Turn" = some (some (.ref dO)))
  (II:W.plainGet K dO Str.empty=true)
  (JA:W.hasDictIn K dO=true)
  (IB:W.plainOver K dO=true)
  (Ij:W.findIn K (.ref dO) "__setattr__" = some (some (.builtin "object.__setattr__")))
  (Jf:W.makesIn K dO=true)
  (Dh:W.findIn K (.ref dO) "__init__" = some (some (.ref qu)))
  (Dj:W.isFn K (.ref qu)=true)
  (DW:W.keepIn K (.ref dO)=true)
  (vy:W.findIn K (.ref dO) "word" = some none)
  (wL:W.findIn K (.ref dO) "row" = some none)
  (i7:W.findIn K (.ref dO) "fractions" = some none)
  (je:W.nsIn K mainGlobals "Desk" = some (some (.ref eY)))
  (IJ:W.plainGet K eY Str.empty=true)
  (JB:W.hasDictIn K eY=true)
  (IC:W.plainOver K eY=true)
  (Ik:W.findIn K (.ref eY) "__setattr__" = some (some (.builtin "object.__setattr__")))
  (Jg:W.makesIn K eY=true)
  (Di:W.findIn K (.ref eY) "__init__" = some (some (.ref qt)))
  (Dk:W.isFn K (.ref qt)=true)
  (DX:W.keepIn K (.ref eY)=true)
  (mH:W.findIn K (.ref eY) "kept" = some none)
  (pZ:W.findIn K (.ref eY) "four_by" = some (some (.ref ur))) (p9:W.isFn K (.ref ur)=true)
  (n9:W.findIn K (.ref eY) "keep_four" = some (some (.ref qp))) (og:W.isFn K (.ref qp)=true)
  (mI:W.findIn K (.ref eY) "tell" = some (some (.ref qr))) (mK:W.isFn K (.ref qr)=true)
  (tT:W.findIn K (.ref dO) "place" = some (some (.ref ut))) (tV:W.isFn K (.ref ut)=true)
  (tS:W.findIn K (.ref dO) "table" = some (some (.ref uu))) (tU:W.isFn K (.ref uu)=true)
  (J0:W.nsIn K mainGlobals "Deed" = some (some (.ref rz))) (JF:W.specialIn K (.ref rz) "__getattribute__" = some (some (.builtin "type.__getattribute__"))) (Im:W.readsIn K rz (.type "type")=true) (JI:W.findCls K (.ref rz) (.type "type") "__init__" = some (.val (.ref uv)))
  (aD0:W.nsIn K mainGlobals "_law_numbers" = some (some (.ref DF)))    (ab9:K.lookup DF=some ⟨Sq,RY,.func (W.fnOf "_law_numbers" "_law_numbers" (aA (ag 110)) (ai (ag 110)) (ae (ag 110)) .none TM Uz Rz Vn Gb UR),QQ⟩) (av2:W.codeIn K Gb "_law_numbers" = true) (ah9:W.keepIn K (.ref DF)=true)
  (aD2:W.nsIn K mainGlobals "_law_part_text" = some (some (.ref DH)))    (ac1:K.lookup DH=some ⟨Ss,R9,.func (W.fnOf "_law_part_text" "_law_part_text" (aA (ag 108)) (ai (ag 108)) (ae (ag 108)) .none TQ UB RB Vp Gd UT),QS⟩) (av4:W.codeIn K Gd "_law_part_text" = true) (ai1:W.keepIn K (.ref DH)=true)
  (aD1:W.nsIn K mainGlobals "_law_text" = some (some (.ref DG)))    (ac0:K.lookup DG=some ⟨Sr,RZ,.func (W.fnOf "_law_text" "_law_text" (aA (ag 109)) (ai (ag 109)) (ae (ag 109)) .none TN UA RA Vo Gc US),QR⟩) (av3:W.codeIn K Gc "_law_text" = true) (ai0:W.keepIn K (.ref DG)=true)
  (aC7:W.nsIn K mainGlobals "_law_common" = some (some (.ref DC)))    (ab6:K.lookup DC=some ⟨Sm,RV,.func (W.fnOf "_law_common" "_law_common" (aA (ag 113)) (ai (ag 113)) (ae (ag 113)) .none TH Uw Rw Vk FZ UO),QN⟩) (au9:W.codeIn K FZ "_law_common" = true) (ah7:W.keepIn K (.ref DC)=true)
  (aC5:W.nsIn K mainGlobals "_law_base_form" = some (some (.ref DA)))    (ab4:K.lookup DA=some ⟨Sk,RT,.func (W.fnOf "_law_base_form" "_law_base_form" (aA (ag 115)) (ai (ag 115)) (ae (ag 115)) .none TC Uu Ru Vi FX UM),QL⟩) (au7:W.codeIn K FX "_law_base_form" = true) (ah5:W.keepIn K (.ref DA)=true)
  (aC9:W.nsIn K mainGlobals "_law_nine" = some (some (.ref DE)))    (ab8:K.lookup DE=some ⟨So,RX,.func (W.fnOf "_law_nine" "_law_nine" (aA (ag 111)) (ai (ag 111)) (ae (ag 111)) .none TK Uy Ry Vm Ga UQ),QP⟩) (av1:W.codeIn K Ga "_law_nine" = true) (Nd:W.keepIn K (.ref DE)=true)
  (aC8:W.nsIn K mainGlobals "_law_brought" = some (some (.ref DD)))    (ab7:K.lookup DD=some ⟨Sn,RW,.func (W.fnOf "_law_brought" "_law_brought" (aA (ag 112)) (ai (ag 112)) (ae (ag 112)) .none TJ Ux Rx Vl F9 UP),QO⟩) (av0:W.codeIn K F9 "_law_brought" = true) (ah8:W.keepIn K (.ref DD)=true)
  (aC4:W.nsIn K mainGlobals "_law_sum_in" = some (some (.ref Dz)))    (ab3:K.lookup Dz=some ⟨Sj,RS,.func (W.fnOf "_law_sum_in" "_law_sum_in" (aA (ag 116)) (ai (ag 116)) (ae (ag 116)) .none TB Ut Rt Vh FW UL),QK⟩) (au6:W.codeIn K FW "_law_sum_in" = true) (ah4:W.keepIn K (.ref Dz)=true)
  (aC6:W.nsIn K mainGlobals "_law_lowest" = some (some (.ref DB)))    (ab5:K.lookup DB=some ⟨Sl,RU,.func (W.fnOf "_law_lowest" "_law_lowest" (aA (ag 114)) (ai (ag 114)) (ae (ag 114)) .none TF Uv Rv Vj FY UN),QM⟩) (au8:W.codeIn K FY "_law_lowest" = true) (ah6:W.keepIn K (.ref DB)=true)
  (a97:W.nsIn K mainGlobals "is_name" = some (some (.ref f97)))    (l97:K.lookup f97=some ⟨Y9,Yr,.func (W.fnOf "is_name" "is_name" (aA (ag 97)) (ai (ag 97)) (ae (ag 97)) .none ad1 ak2 XH ax9 Od ap4),V9⟩) (c97:W.codeIn K Od "is_name" = true) (k97:W.keepIn K (.ref f97)=true)
  (a68:W.nsIn K mainGlobals "are_figures" = some (some (.ref f68)))    (l68:K.lookup f68=some ⟨Zi,YA,.func (W.fnOf "are_figures" "are_figures" (aA (ag 68)) (ai (ag 68)) (ae (ag 68)) .none ae0 al8 XS ay8 On aq3),Wi⟩) (c68:W.codeIn K On "are_figures" = true) (k68:W.keepIn K (.ref f68)=true)
  (a67:W.nsIn K mainGlobals "whole_read" = some (some (.ref f67)))    (l67:K.lookup f67=some ⟨Zj,YB,.func (W.fnOf "whole_read" "whole_read" (aA (ag 67)) (ai (ag 67)) (ae (ag 67)) .none ae1 al9 XT ay9 Oo aq4),Wj⟩) (c67:W.codeIn K Oo "whole_read" = true) (k67:W.keepIn K (.ref f67)=true)
  (a96:W.nsIn K mainGlobals "is_right" = some (some (.ref f96)))    (l96:K.lookup f96=some ⟨Za,Ys,.func (W.fnOf "is_right" "is_right" (aA (ag 96)) (ai (ag 96)) (ae (ag 96)) .none ad2 ak3 XI ay0 Oe ap5),Wa⟩) (c96:W.codeIn K Oe "is_right" = true) (k96:W.keepIn K (.ref f96)=true)
  (a95:W.nsIn K mainGlobals "form_of" = some (some (.ref f95)))    (l95:K.lookup f95=some ⟨Zb,Yt,.func (W.fnOf "form_of" "form_of" (aA (ag 95)) (ai (ag 95)) (ae (ag 95)) .none ad3 ak4 XJ ay1 Of ap6),Wb⟩) (c95:W.codeIn K Of "form_of" = true) (k95:W.keepIn K (.ref f95)=true)
  (Ts:K.lookup uu=some ⟨Mr,Mh,.func (W.fnOf "table" "Deed.table" (aA (aM (ag 70) 1)) (ai (aM (ag 70) 1)) (ae (aM (ag 70) 1)) .none Nb NY LF Pd Bw N8),Lb⟩) (U4:W.codeIn K Bw "Deed.table" = true) (Fv:W.keepIn K (.ref uu)=true)
  (a83:W.nsIn K mainGlobals "corner_number" = some (some (.ref f83)))    (l83:K.lookup f83=some ⟨Zh,Yz,.func (W.fnOf "corner_number" "corner_number" (aA (ag 83)) (ai (ag 83)) (ae (ag 83)) .none ad9 al7 XR ay7 Om aq2),Wh⟩) (c83:W.codeIn K Om "corner_number" = true) (k83:W.keepIn K (.ref f83)=true)
  (a23:W.nsIn K mainGlobals "other_signed" = some (some (.ref f23)))    (l23:K.lookup f23=some ⟨ZJ,Y0,.func (W.fnOf "other_signed" "other_signed" (aA (ag 23)) (ai (ag 23)) (ae (ag 23)) .none ag5 ao3 Yi aB3 OP at6),WJ⟩) (c23:W.codeIn K OP "other_signed" = true) (k23:W.keepIn K (.ref f23)=true)
  (a40:W.nsIn K mainGlobals "added_products" = some (some (.ref f40)))    (l40:K.lookup f40=some ⟨ZD,YU,.func (W.fnOf "added_products" "added_products" (aA (ag 40)) (ai (ag 40)) (ae (ag 40)) .none af9 an7 Yc aA7 OJ as9),WD⟩) (c40:W.codeIn K OJ "added_products" = true) (k40:W.keepIn K (.ref f40)=true)
  (a51:W.nsIn K mainGlobals "determinant" = some (some (.ref f51)))    (l51:K.lookup f51=some ⟨Zy,YO,.func (W.fnOf "determinant" "determinant" (aA (ag 51)) (ai (ag 51)) (ae (ag 51)) .none af4 an2 X7 aA2 OE as4),Wy⟩) (c51:W.codeIn K OE "determinant" = true) (k51:W.keepIn K (.ref f51)=true)
  (a50:W.nsIn K mainGlobals "table_fault" = some (some (.ref f50)))    (l50:K.lookup f50=some ⟨Zz,YQ,.func (W.fnOf "table_fault" "table_fault" (aA (ag 50)) (ai (ag 50)) (ae (ag 50)) .none af5 an3 X8 aA3 OF as5),Wz⟩) (c50:W.codeIn K OF "table_fault" = true) (k50:W.keepIn K (.ref f50)=true)
  (a37:W.nsIn K mainGlobals "shared_by" = some (some (.ref f37)))    (l37:K.lookup f37=some ⟨ZG,YX,.func (W.fnOf "shared_by" "shared_by" (aA (ag 37)) (ai (ag 37)) (ae (ag 37)) .none ag2 ao0 Yf aB0 OM at3),WG⟩) (c37:W.codeIn K OM "shared_by" = true) (k37:W.keepIn K (.ref f37)=true)
  (a36:W.nsIn K mainGlobals "common_divisor" = some (some (.ref f36)))    (l36:K.lookup f36=some ⟨ZH,YY,.func (W.fnOf "common_divisor" "common_divisor" (aA (ag 36)) (ai (ag 36)) (ae (ag 36)) .none ag3 ao1 Yg aB1 ON at4),WH⟩) (c36:W.codeIn K ON "common_divisor" = true) (k36:W.keepIn K (.ref f36)=true)
  (a38:W.nsIn K mainGlobals "shortened" = some (some (.ref f38)))    (l38:K.lookup f38=some ⟨ZF,YW,.func (W.fnOf "shortened" "shortened" (aA (ag 38)) (ai (ag 38)) (ae (ag 38)) .none ag1 an9 Ye aA9 OL at2),WF⟩) (c38:W.codeIn K OL "shortened" = true) (k38:W.keepIn K (.ref f38)=true)
  (a39:W.nsIn K mainGlobals "upright" = some (some (.ref f39)))    (l39:K.lookup f39=some ⟨ZE,YV,.func (W.fnOf "upright" "upright" (aA (ag 39)) (ai (ag 39)) (ae (ag 39)) .none ag0 an8 Yd aA8 OK at1),WE⟩) (c39:W.codeIn K OK "upright" = true) (k39:W.keepIn K (.ref f39)=true)
  (a53:W.nsIn K mainGlobals "multiples" = some (some (.ref f53)))    (l53:K.lookup f53=some ⟨Zw,YM,.func (W.fnOf "multiples" "multiples" (aA (ag 53)) (ai (ag 53)) (ae (ag 53)) .none af2 an0 X5 aA0 OB as2),Ww⟩) (c53:W.codeIn K OB "multiples" = true) (k53:W.keepIn K (.ref f53)=true)
  (a52:W.nsIn K mainGlobals "number_of" = some (some (.ref f52)))    (l52:K.lookup f52=some ⟨Zx,YN,.func (W.fnOf "number_of" "number_of" (aA (ag 52)) (ai (ag 52)) (ae (ag 52)) .none af3 an1 X6 aA1 OC as3),Wx⟩) (c52:W.codeIn K OC "number_of" = true) (k52:W.keepIn K (.ref f52)=true)
  (a21:W.nsIn K mainGlobals "plain_product" = some (some (.ref f21)))    (VC:K.lookup f21=some ⟨ZL,Y3,.func (W.fnOf "plain_product" "plain_product" (aA (ag 21)) (ai (ag 21)) (ae (ag 21)) .none ag7 ao5 Yk aB5 OR at8),WL⟩) (c21:W.codeIn K OR "plain_product" = true) (k21:W.keepIn K (.ref f21)=true)
  (a85:W.nsIn K mainGlobals "staying_spots" = some (some (.ref f85)))    (l85:K.lookup f85=some ⟨Zf,Yx,.func (W.fnOf "staying_spots" "staying_spots" (aA (ag 85)) (ai (ag 85)) (ae (ag 85)) .none ad7 ak8 XO ay5 Oj aq0),Wf⟩) (c85:W.codeIn K Oj "staying_spots" = true) (k85:W.keepIn K (.ref f85)=true)
  (a17:W.nsIn K mainGlobals "less" = some (some (.ref f17)))    (l17:K.lookup f17=some ⟨ZN,Y5,.func (W.fnOf "less" "less" (aA (ag 17)) (ai (ag 17)) (ae (ag 17)) .none ag9 ao7 Ym aB7 OT au0),WN⟩) (c17:W.codeIn K OT "less" = true) (k17:W.keepIn K (.ref f17)=true)
  (a18:W.nsIn K mainGlobals "many_times" = some (some (.ref f18)))    (l18:K.lookup f18=some ⟨ZM,Y4,.func (W.fnOf "many_times" "many_times" (aA (ag 18)) (ai (ag 18)) (ae (ag 18)) .none ag8 ao6 Yl aB6 OS at9),WM⟩) (c18:W.codeIn K OS "many_times" = true) (k18:W.keepIn K (.ref f18)=true)
  (a87:W.nsIn K mainGlobals "brought_below" = some (some (.ref f87)))    (l87:K.lookup f87=some ⟨Zd,Yv,.func (W.fnOf "brought_below" "brought_below" (aA (ag 87)) (ai (ag 87)) (ae (ag 87)) .none ad5 ak6 XM ay3 Oh ap8),Wd⟩) (c87:W.codeIn K Oh "brought_below" = true) (k87:W.keepIn K (.ref f87)=true)
  (a88:W.nsIn K mainGlobals "reduced" = some (some (.ref f88)))    (l88:K.lookup f88=some ⟨Zc,Yu,.func (W.fnOf "reduced" "reduced" (aA (ag 88)) (ai (ag 88)) (ae (ag 88)) .none ad4 ak5 XL ay2 Og ap7),Wc⟩) (c88:W.codeIn K Og "reduced" = true) (k88:W.keepIn K (.ref f88)=true)
  (a86:W.nsIn K mainGlobals "swept" = some (some (.ref f86)))    (l86:K.lookup f86=some ⟨Ze,Yw,.func (W.fnOf "swept" "swept" (aA (ag 86)) (ai (ag 86)) (ae (ag 86)) .none ad6 ak7 XN ay4 Oi ap9),We⟩) (c86:W.codeIn K Oi "swept" = true) (k86:W.keepIn K (.ref f86)=true)
  (a84:W.nsIn K mainGlobals "base_of" = some (some (.ref f84)))    (l84:K.lookup f84=some ⟨Zg,Yy,.func (W.fnOf "base_of" "base_of" (aA (ag 84)) (ai (ag 84)) (ae (ag 84)) .none ad8 ak9 XQ ay6 Ol aq1),Wg⟩) (c84:W.codeIn K Ol "base_of" = true) (k84:W.keepIn K (.ref f84)=true)
  (a58:W.nsIn K mainGlobals "row_text" = some (some (.ref f58)))    (l58:K.lookup f58=some ⟨Zu,YK,.func (W.fnOf "row_text" "row_text" (aA (ag 58)) (ai (ag 58)) (ae (ag 58)) .none af0 am8 X3 az8 Oz as0),Wu⟩) (c58:W.codeIn K Oz "row_text" = true) (k58:W.keepIn K (.ref f58)=true)
  (a54:W.nsIn K mainGlobals "each_with" = some (some (.ref f54)))    (l54:K.lookup f54=some ⟨Zv,YL,.func (W.fnOf "each_with" "each_with" (aA (ag 54)) (ai (ag 54)) (ae (ag 54)) .none af1 am9 X4 az9 OA as1),Wv⟩) (c54:W.codeIn K OA "each_with" = true) (k54:W.keepIn K (.ref f54)=true)
  (a48:W.nsIn K mainGlobals "place_by" = some (some (.ref f48)))    (l48:K.lookup f48=some ⟨ZB,YS,.func (W.fnOf "place_by" "place_by" (aA (ag 48)) (ai (ag 48)) (ae (ag 48)) .none af7 an5 Ya aA5 OH as7),WB⟩) (c48:W.codeIn K OH "place_by" = true) (k48:W.keepIn K (.ref f48)=true)
  (Tr:K.lookup ut=some ⟨Mq,Mg,.func (W.fnOf "place" "Deed.place" (aA (aM (ag 70) 2)) (ai (aM (ag 70) 2)) (ae (aM (ag 70) 2)) .none Na NX LE Pc Bv N7),La⟩) (U3:W.codeIn K Bv "Deed.place" = true) (Fu:W.keepIn K (.ref ut)=true)
  (aD5:W.nsIn K mainGlobals "told_of_turn" = some (some (.ref DL)))    (ac4:K.lookup DL=some ⟨Sw,Sc,.func (W.fnOf "told_of_turn" "told_of_turn" (aA (ag 102)) (ai (ag 102)) (ae (ag 102)) .none TV UE RE Vs Gg UW),QV⟩) (av7:W.codeIn K Gg "told_of_turn" = true) (ai4:W.keepIn K (.ref DL)=true)
  (a60:W.nsIn K mainGlobals "part_text" = some (some (.ref f60)))    (l60:K.lookup f60=some ⟨Zr,YI,.func (W.fnOf "part_text" "part_text" (aA (ag 60)) (ai (ag 60)) (ae (ag 60)) .none ae8 am6 X0 az6 Ox ar8),Wr⟩) (c60:W.codeIn K Ox "part_text" = true) (k60:W.keepIn K (.ref f60)=true)
  (a59:W.nsIn K mainGlobals "four_text" = some (some (.ref f59)))    (mM:K.lookup f59=some ⟨Zt,YJ,.func (W.fnOf "four_text" "four_text" (aA (ag 59)) (ai (ag 59)) (ae (ag 59)) .none ae9 am7 X1 az7 Oy ar9),Ws⟩) (c59:W.codeIn K Oy "four_text" = true) (k59:W.keepIn K (.ref f59)=true)
  (a24:W.nsIn K mainGlobals "size" = some (some (.ref f24)))    (l24:K.lookup f24=some ⟨ZI,YZ,.func (W.fnOf "size" "size" (aA (ag 24)) (ai (ag 24)) (ae (ag 24)) .none ag4 ao2 Yh aB2 OO at5),WI⟩) (c24:W.codeIn K OO "size" = true) (k24:W.keepIn K (.ref f24)=true)
  (a47:W.nsIn K mainGlobals "lowest" = some (some (.ref f47)))    (l47:K.lookup f47=some ⟨ZC,YT,.func (W.fnOf "lowest" "lowest" (aA (ag 47)) (ai (ag 47)) (ae (ag 47)) .none af8 an6 Yb aA6 OI as8),WC⟩) (c47:W.codeIn K OI "lowest" = true) (k47:W.keepIn K (.ref f47)=true)
  (a49:W.nsIn K mainGlobals "table_of" = some (some (.ref f49)))    (l49:K.lookup f49=some ⟨ZA,YR,.func (W.fnOf "table_of" "table_of" (aA (ag 49)) (ai (ag 49)) (ae (ag 49)) .none af6 an4 X9 aA4 OG as6),WA⟩) (c49:W.codeIn K OG "table_of" = true) (k49:W.keepIn K (.ref f49)=true)
  (Tt:K.lookup uv=some ⟨Ms,Mi,.func (W.fnOf "__init__" "Deed.__init__" (aA (aM (ag 70) 0)) (ai (aM (ag 70) 0)) (ae (aM (ag 70) 0)) .none Nc NZ LG Pf Bx N9),Lc⟩) (U5:W.codeIn K Bx "Deed.__init__" = true) (Fw:W.keepIn K (.ref uv)=true)
  (Tq:K.lookup qu=some ⟨Mp,Mf,.func (W.fnOf "__init__" "Turn.__init__" (aA (aM (ag 71) 0)) (ai (aM (ag 71) 0)) (ae (aM (ag 71) 0)) .none M9 NW LD Pb Bu N6),K9⟩) (U2:W.codeIn K Bu "Turn.__init__" = true) (TZ:W.keepIn K (.ref qu)=true)
  (aD6:W.nsIn K mainGlobals "told_of_one" = some (some (.ref DM)))    (ac5:K.lookup DM=some ⟨Sx,Sd,.func (W.fnOf "told_of_one" "told_of_one" (aA (ag 101)) (ai (ag 101)) (ae (ag 101)) .none TX UF RF Vt Gh UX),QW⟩) (av8:W.codeIn K Gh "told_of_one" = true) (ai5:W.keepIn K (.ref DM)=true)
  (a98:W.nsIn K mainGlobals "words_like" = some (some (.ref f98)))    (l98:K.lookup f98=some ⟨Y8,Yq,.func (W.fnOf "words_like" "words_like" (aA (ag 98)) (ai (ag 98)) (ae (ag 98)) .none ad0 ak1 XG ax8 Oc ap3),V8⟩) (c98:W.codeIn K Oc "words_like" = true) (k98:W.keepIn K (.ref f98)=true)
  (a66:W.nsIn K mainGlobals "has_too_many_figures" = some (some (.ref f66)))    (l66:K.lookup f66=some ⟨Zk,YC,.func (W.fnOf "has_too_many_figures" "has_too_many_figures" (aA (ag 66)) (ai (ag 66)) (ae (ag 66)) .none ae2 am0 XU az0 Op aq5),Wl⟩) (c66:W.codeIn K Op "has_too_many_figures" = true) (k66:W.keepIn K (.ref f66)=true)
  (a65:W.nsIn K mainGlobals "doubled_or_none" = some (some (.ref f65)))    (l65:K.lookup f65=some ⟨Zl,YD,.func (W.fnOf "doubled_or_none" "doubled_or_none" (aA (ag 65)) (ai (ag 65)) (ae (ag 65)) .none ae3 am1 XV az1 Oq aq6),Wm⟩) (c65:W.codeIn K Oq "doubled_or_none" = true) (k65:W.keepIn K (.ref f65)=true)
  (a64:W.nsIn K mainGlobals "odd_or_none" = some (some (.ref f64)))    (l64:K.lookup f64=some ⟨Zm,YE,.func (W.fnOf "odd_or_none" "odd_or_none" (aA (ag 64)) (ai (ag 64)) (ae (ag 64)) .none ae4 am2 XW az2 Os aq7),Wn⟩) (c64:W.codeIn K Os "odd_or_none" = true) (k64:W.keepIn K (.ref f64)=true)
  (a63:W.nsIn K mainGlobals "part_read" = some (some (.ref f63)))    (l63:K.lookup f63=some ⟨Zo,YF,.func (W.fnOf "part_read" "part_read" (aA (ag 63)) (ai (ag 63)) (ae (ag 63)) .none ae5 am3 XX az3 Ot aq8),Wo⟩) (c63:W.codeIn K Ot "part_read" = true) (k63:W.keepIn K (.ref f63)=true)
  (a62:W.nsIn K mainGlobals "parts_read" = some (some (.ref f62)))    (l62:K.lookup f62=some ⟨Zp,YG,.func (W.fnOf "parts_read" "parts_read" (aA (ag 62)) (ai (ag 62)) (ae (ag 62)) .none ae6 am4 XY az4 Ou aq9),Wp⟩) (c62:W.codeIn K Ou "parts_read" = true) (k62:W.keepIn K (.ref f62)=true)
  (a61:W.nsIn K mainGlobals "four_read" = some (some (.ref f61)))    (l61:K.lookup f61=some ⟨Zq,YH,.func (W.fnOf "four_read" "four_read" (aA (ag 61)) (ai (ag 61)) (ae (ag 61)) .none ae7 am5 XZ az5 Ov ar7),Wq⟩) (c61:W.codeIn K Ov "four_read" = true) (k61:W.keepIn K (.ref f61)=true)
  (a16:W.nsIn K mainGlobals "total" = some (some (.ref f16)))    (l16:K.lookup f16=some ⟨ZO,Y6,.func (W.fnOf "total" "total" (aA (ag 16)) (ai (ag 16)) (ae (ag 16)) .none ah0 ao8 Yn aB8 OU au1),WO⟩) (c16:W.codeIn K OU "total" = true) (k16:W.keepIn K (.ref f16)=true)
  (a22:W.nsIn K mainGlobals "product" = some (some (.ref f22)))    (l22:K.lookup f22=some ⟨ZK,Y1,.func (W.fnOf "product" "product" (aA (ag 22)) (ai (ag 22)) (ae (ag 22)) .none ag6 ao4 Yj aB4 OQ at7),WK⟩) (c22:W.codeIn K OQ "product" = true) (k22:W.keepIn K (.ref f22)=true)
  (a99:W.nsIn K mainGlobals "made" = some (some (.ref f99)))    (l99:K.lookup f99=some ⟨Y7,Yp,.func (W.fnOf "made" "made" (aA (ag 99)) (ai (ag 99)) (ae (ag 99)) .none ac9 ak0 XF ax7 Ob ap2),V7⟩) (c99:W.codeIn K Ob "made" = true) (k99:W.keepIn K (.ref f99)=true)
  (Tn:K.lookup ur=some ⟨Ml,Mc,.func (W.fnOf "four_by" "Desk.four_by" (aA (aM (ag 94) 2)) (ai (aM (ag 94) 2)) (ae (aM (ag 94) 2)) .none M6 NT LA O8 Bq N2),K6⟩) (UZ:W.codeIn K Bq "Desk.four_by" = true) (Fs:W.keepIn K (.ref ur)=true)
  (Tm:K.lookup qp=some ⟨Mj,Mb,.func (W.fnOf "keep_four" "Desk.keep_four" (aA (aM (ag 94) 3)) (ai (aM (ag 94) 3)) (ae (aM (ag 94) 3)) .none M5 NS Lz O7 Bp N1),K5⟩) (UY:W.codeIn K Bp "Desk.keep_four" = true) (Fq:W.keepIn K (.ref qp)=true)
  (To:K.lookup qr=some ⟨Mm,Md,.func (W.fnOf "tell" "Desk.tell" (aA (aM (ag 94) 1)) (ai (aM (ag 94) 1)) (ae (aM (ag 94) 1)) .none M7 NU LB O9 Br N3),K7⟩) (U0:W.codeIn K Br "Desk.tell" = true) (zf:W.keepIn K (.ref qr)=true)
  (aC2:W.nsIn K mainGlobals "_law_spot_holds" = some (some (.ref Dx)))    (ab1:K.lookup Dx=some ⟨Sf,RP,.func (W.fnOf "_law_spot_holds" "_law_spot_holds" (aA (ag 118)) (ai (ag 118)) (ae (ag 118)) .none Ty Ur Rq Vf FU UJ),QI⟩) (au4:W.codeIn K FU "_law_spot_holds" = true) (ah2:W.keepIn K (.ref Dx)=true)
  (aD4:W.nsIn K mainGlobals "_law_cell" = some (some (.ref DK)))    (ac3:K.lookup DK=some ⟨Sv,Sb,.func (W.fnOf "_law_cell" "_law_cell" (aA (ag 105)) (ai (ag 105)) (ae (ag 105)) .none TU UD RD Vr Gf UV),QU⟩) (av6:W.codeIn K Gf "_law_cell" = true) (ai3:W.keepIn K (.ref DK)=true)
  (aD3:W.nsIn K mainGlobals "_law_four" = some (some (.ref DJ)))    (ac2:K.lookup DJ=some ⟨Su,Sa,.func (W.fnOf "_law_four" "_law_four" (aA (ag 107)) (ai (ag 107)) (ae (ag 107)) .none TR UC RC Vq Ge UU),QT⟩) (av5:W.codeIn K Ge "_law_four" = true) (ai2:W.keepIn K (.ref DJ)=true)
  (aC3:W.nsIn K mainGlobals "_law_spots" = some (some (.ref Dy)))    (ab2:K.lookup Dy=some ⟨Si,RQ,.func (W.fnOf "_law_spots" "_law_spots" (aA (ag 117)) (ai (ag 117)) (ae (ag 117)) .none Tz Us Rr Vg FV UK),QJ⟩) (au5:W.codeIn K FV "_law_spots" = true) (ah3:W.keepIn K (.ref Dy)=true)
  (Tp:K.lookup qt=some ⟨Mn,Me,.func (W.fnOf "__init__" "Desk.__init__" (aA (aM (ag 94) 0)) (ai (aM (ag 94) 0)) (ae (aM (ag 94) 0)) .none M8 NV LC Pa Bt N5),K8⟩) (U1:W.codeIn K Bt "Desk.__init__" = true) (TY:W.keepIn K (.ref qt)=true)
  (aC1:W.nsIn K mainGlobals "law" = some (some (.ref Dw)))    (ab0:K.lookup Dw=some ⟨Se,RO,.func (W.fnOf "law" "law" (aA (ag 119)) (ai (ag 119)) (ae (ag 119)) .none Fm FP EX Gm zt FR),QH⟩) (au3:W.codeIn K zt "law" = true) (ah1:W.keepIn K (.ref Dw)=true)
  {tk0:Tok} (g0:W.nsIn K mainGlobals "FIGURES" = some (some (.str "0123456789" tk0)))
  {ca1 uH uG uF uE uD uC uA uz uy ux qQ qP qO qN qM qL qK:Addr} {nn1:Nat} {EI EH EG EF EE EC EA Ez Ey Ex Ao An Am Al Ak Aj Ai:Tok} (g1:W.nsIn K mainGlobals "FORMS" = some (some (.ref ca1))) (m1:K.lookup ca1=some ⟨.type "dict", none,.dict #[⟨PyData.keyHash w.params "keep", .str "keep" EI,.ref uH⟩,⟨PyData.keyHash w.params "sum", .str "sum" EH,.ref uG⟩,⟨PyData.keyHash w.params "times", .str "times" EG,.ref uF⟩,⟨PyData.keyHash w.params "bar", .str "bar" EF,.ref uE⟩,⟨PyData.keyHash w.params "drop", .str "drop" EE,.ref uD⟩,⟨PyData.keyHash w.params "names", .str "names" EC,.ref uC⟩,⟨PyData.keyHash w.params "show", .str "show" EA,.ref uA⟩,⟨PyData.keyHash w.params "size", .str "size" Ez,.ref uz⟩,⟨PyData.keyHash w.params "divide", .str "divide" Ey,.ref uy⟩,⟨PyData.keyHash w.params "shared", .str "shared" Ex,.ref ux⟩,⟨PyData.keyHash w.params "apart", .str "apart" Ao,.ref qQ⟩,⟨PyData.keyHash w.params "turn", .str "turn" An,.ref qP⟩,⟨PyData.keyHash w.params "place", .str "place" Am,.ref qO⟩,⟨PyData.keyHash w.params "corner", .str "corner" Al,.ref qN⟩,⟨PyData.keyHash w.params "base", .str "base" Ak,.ref qM⟩,⟨PyData.keyHash w.params "ways", .str "ways" Aj,.ref qL⟩,⟨PyData.keyHash w.params "squares", .str "squares" Ai,.ref qK⟩] nn1,#[]⟩) (e1:(ca1==sysModules)=false)
  {Hd Hc Hb Ha G9:Tok} {QA:Array (Option Value)} {SW:Nat} (aa7:K.lookup uH=some ⟨.type "tuple", none,.seq #[.str "new" Hd,.str "part" Hc,.str "part" Hb,.str "part" Ha,.str "part" G9] SW,QA⟩)
  {G8 G7 G6:Tok} {Qz:Array (Option Value)} {SV:Nat} (aa6:K.lookup uG=some ⟨.type "tuple", none,.seq #[.str "new" G8,.str "name" G7,.str "name" G6] SV,Qz⟩)
  {G5 G4 G3:Tok} {Qy:Array (Option Value)} {SU:Nat} (aa5:K.lookup uF=some ⟨.type "tuple", none,.seq #[.str "new" G5,.str "name" G4,.str "name" G3] SU,Qy⟩)
  {G2 G1:Tok} {Qx:Array (Option Value)} {ST:Nat} (aa4:K.lookup uE=some ⟨.type "tuple", none,.seq #[.str "new" G2,.str "name" G1] ST,Qx⟩)
  {G0:Tok} {Qw:Array (Option Value)} {SS:Nat} (aa3:K.lookup uD=some ⟨.type "tuple", none,.seq #[.str "name" G0] SS,Qw⟩)
  {Qv:Array (Option Value)} {SR:Nat} (aa2:K.lookup uC=some ⟨.type "tuple", none,.seq #[] SR,Qv⟩)
  {GZ:Tok} {Qu:Array (Option Value)} {SQ:Nat} (aa1:K.lookup uA=some ⟨.type "tuple", none,.seq #[.str "name" GZ] SQ,Qu⟩)
  {GY:Tok} {Qt:Array (Option Value)} {SO:Nat} (aa0:K.lookup uz=some ⟨.type "tuple", none,.seq #[.str "name" GY] SO,Qt⟩)
  {GX GW GV:Tok} {Qs:Array (Option Value)} {SN:Nat} (Z9:K.lookup uy=some ⟨.type "tuple", none,.seq #[.str "side" GX,.str "name" GW,.str "name" GV] SN,Qs⟩)
  {GU GT GS:Tok} {Qr:Array (Option Value)} {SM:Nat} (Z4:K.lookup ux=some ⟨.type "tuple", none,.seq #[.str "side" GU,.str "name" GT,.str "name" GS] SM,Qr⟩)
  {Ci:Tok} {KY:Array (Option Value)} {ME:Nat} (Tc:K.lookup qQ=some ⟨.type "tuple", none,.seq #[.str "name" Ci] ME,KY⟩)
  {Ch:Tok} {KW:Array (Option Value)} {MD:Nat} (Ta:K.lookup qP=some ⟨.type "tuple", none,.seq #[.str "name" Ch] MD,KW⟩)
  {Cg Cf Ce Cd:Tok} {KU:Array (Option Value)} {MC:Nat} (S9:K.lookup qO=some ⟨.type "tuple", none,.seq #[.str "name" Cg,.str "number" Cf,.str "number" Ce,.str "number" Cd] MC,KU⟩)
  {Cc:Tok} {KS:Array (Option Value)} {MB:Nat} (S8:K.lookup qN=some ⟨.type "tuple", none,.seq #[.str "name" Cc] MB,KS⟩)
  {Cb:Tok} {KR:Array (Option Value)} {MA:Nat} (S7:K.lookup qM=some ⟨.type "tuple", none,.seq #[.str "name" Cb] MA,KR⟩)
  {Ca:Tok} {KQ:Array (Option Value)} {Mz:Nat} (S6:K.lookup qL=some ⟨.type "tuple", none,.seq #[.str "number" Ca] Mz,KQ⟩)
  {B9:Tok} {KO:Array (Option Value)} {Mx:Nat} (S5:K.lookup qK=some ⟨.type "tuple", none,.seq #[.str "number" B9] Mx,KO⟩)
  {tk2:Tok} (g2:W.nsIn K mainGlobals "LETTERS" = some (some (.str "abcdefghijklmnopqrstuvwxyz" tk2)))
  {tk3:Tok} (g3:W.nsIn K mainGlobals "MOST_FIGURES" = some (some (.int (40) tk3)))
  {tk4:Tok} (g4:W.nsIn K mainGlobals "MOST_LETTERS" = some (some (.int (8) tk4)))
  {tk5:Tok} (g5:W.nsIn K mainGlobals "MOST_NUMBERS" = some (some (.int (40) tk5)))
  {ca6 zE zD zC zB zA zy:Addr} {ss6:Array (Option Value)} {nn6:Nat} (g6:W.nsIn K mainGlobals "PAIRS" = some (some (.ref ca6))) (m6:K.lookup ca6=some ⟨.type "tuple", none,.seq #[.ref zE,.ref zD,.ref zC,.ref zB,.ref zA,.ref zy] nn6,ss6⟩)
  {Qk:Array (Option Value)} {SG:Nat} {HB HA:Tok} (ZW:K.lookup zy=some ⟨.type "tuple", none,.seq #[.int (2) HB,.int (2) HA] SG,Qk⟩)
  {Ql:Array (Option Value)} {SH:Nat} {HD HC:Tok} (ZX:K.lookup zA=some ⟨.type "tuple", none,.seq #[.int (1) HD,.int (2) HC] SH,Ql⟩)
  {Qn:Array (Option Value)} {SI:Nat} {HF HE:Tok} (ZY:K.lookup zB=some ⟨.type "tuple", none,.seq #[.int (1) HF,.int (1) HE] SI,Qn⟩)
  {Qo:Array (Option Value)} {SJ:Nat} {HH HG:Tok} (ZZ:K.lookup zC=some ⟨.type "tuple", none,.seq #[.int (0) HH,.int (2) HG] SJ,Qo⟩)
  {Qp:Array (Option Value)} {SK:Nat} {HJ HI:Tok} (Z0:K.lookup zD=some ⟨.type "tuple", none,.seq #[.int (0) HJ,.int (1) HI] SK,Qp⟩)
  {Qq:Array (Option Value)} {SL:Nat} {HL HK:Tok} (Z3:K.lookup zE=some ⟨.type "tuple", none,.seq #[.int (0) HL,.int (0) HK] SL,Qq⟩)
  {ca7 zx zw zv zu:Addr} {ss7:Array (Option Value)} {nn7:Nat} (g7:W.nsIn K mainGlobals "UNITS" = some (some (.ref ca7))) (m7:K.lookup ca7=some ⟨.type "tuple", none,.seq #[.ref zx,.ref zw,.ref zv,.ref zu] nn7,ss7⟩)
  {Qg:Array (Option Value)} {Sz:Nat} {Hm Hl Hk Hj:Tok} (ZS:K.lookup zu=some ⟨.type "tuple", none,.seq #[.int (0) Hm,.int (0) Hl,.int (0) Hk,.int (1) Hj] Sz,Qg⟩)
  {Qh:Array (Option Value)} {SA:Nat} {Hr Hq Ho Hn:Tok} (ZT:K.lookup zv=some ⟨.type "tuple", none,.seq #[.int (0) Hr,.int (0) Hq,.int (1) Ho,.int (0) Hn] SA,Qh⟩)
  {Qi:Array (Option Value)} {SE:Nat} {Hv Hu Ht Hs:Tok} (ZU:K.lookup zw=some ⟨.type "tuple", none,.seq #[.int (0) Hv,.int (1) Hu,.int (0) Ht,.int (0) Hs] SE,Qi⟩)
  {Qj:Array (Option Value)} {SF:Nat} {Hz Hy Hx Hw:Tok} (ZV:K.lookup zx=some ⟨.type "tuple", none,.seq #[.int (1) Hz,.int (0) Hy,.int (0) Hx,.int (0) Hw] SF,Qj⟩)
  (z0:W.nsIn K mainGlobals "len" = some none)    (z1:W.nsIn K mainGlobals "tuple" = some none)    (z2:W.nsIn K mainGlobals "list" = some none)    (z3:W.nsIn K mainGlobals "abs" = some none)    (z4:W.nsIn K mainGlobals "all" = some none)    (z5:W.nsIn K mainGlobals "sum" = some none)    (z6:W.nsIn K mainGlobals "isinstance" = some none)    (z7:W.nsIn K mainGlobals "set" = some none)    (z8:W.nsIn K mainGlobals "int" = some none)    (z9:W.nsIn K mainGlobals "bool" = some none)    (z10:W.nsIn K mainGlobals "str" = some none)    (z11:W.nsIn K mainGlobals "range" = some none)    (z12:W.nsIn K mainGlobals "zip" = some none)    (z13:W.nsIn K mainGlobals "enumerate" = some none)    (z14:W.nsIn K mainGlobals "any" = some none)    (z15:W.nsIn K mainGlobals "sorted" = some none)    (z16:W.nsIn K mainGlobals "min" = some none)    (z17:W.nsIn K mainGlobals "max" = some none)    (z18:W.nsIn K mainGlobals "reversed" = some none) :
  ∃fd:FuncData,(∀(s:Shared) (v:Value),BindsTo s fd ⟨[v],[]⟩ [("_law_script", v)])/\∀base:Heap,K.In base->base.Ns mainGlobals mg->bT l.prog w K mg base df 11 fa fd ["_law_script"] (jO K rk):=by
 have e:=hfa.symm.trans (aH1 X G aC1)
 cases e
 have hbl:∀n∈iQ,mg n=none:=cN (aJ5 X G z0) (cN (aJ5 X G z1) (cN (aJ5 X G z2) (cN (aJ5 X G z3) (cN (aJ5 X G z4) (cN (aJ5 X G z5) (cN (aJ5 X G z6) (cN (aJ5 X G z7) (cN (aJ5 X G z8) (cN (aJ5 X G z9) (cN (aJ5 X G z10) (cN (aJ5 X G z11) (cN (aJ5 X G z12) (cN (aJ5 X G z13) (cN (aJ5 X G z14) (cN (aJ5 X G z15) (cN (aJ5 X G z16) (cN (aJ5 X G z17) (cN (aJ5 X G z18) (ak)))))))))))))))))))
 have sr:eV K dO:=⟨II,JA,IB,Ij⟩
 have su:eV K eY:=⟨IJ,JB,IC,Ik⟩
 have PD:=aP (st:=(ag 110)) ab9 av2 ah9
 have aw9:=PD.binds (ps:=["_law_text_here", "_law_many"]) (by walk_at "bn")
 have PH:=aP (st:=(ag 108)) ac1 av4 ai1
 have ax1:=PH.binds (ps:=["_law_part"]) (by walk_at "bn")
 have PF:=aP (st:=(ag 109)) ac0 av3 ai0
 have ax0:=PF.binds (ps:=["_law_four_here"]) (by walk_at "bn")
 have Pz:=aP (st:=(ag 113)) ab6 au9 ah7
 have aw6:=Pz.binds (ps:=["_law_numbers_here"]) (by walk_at "bn")
 have Px:=aP (st:=(ag 115)) ab4 au7 ah5
 have aw4:=Px.binds (ps:=["_law_base"]) (by walk_at "bn")
 have PC:=aP (st:=(ag 111)) ab8 av1 Nd
 have aw8:=PC.binds (ps:=["_law_four_here"]) (by walk_at "bn")
 have PB:=aP (st:=(ag 112)) ab7 av0 ah8
 have aw7:=PB.binds (ps:=["_law_nine_here", "_law_spot"]) (by walk_at "bn")
 have Pw:=aP (st:=(ag 116)) ab3 au6 ah4
 have aw3:=Pw.binds (ps:=["_law_base", "_law_spot"]) (by walk_at "bn")
 have Py:=aP (st:=(ag 114)) ab5 au8 ah6
 have aw5:=Py.binds (ps:=["_law_numbers_here"]) (by walk_at "bn")
 have F97:=aP (st:=(ag 97)) l97 c97 k97
 have b97:=F97.binds (ps:=["word"]) (by walk_at "bn")
 have F68:=aP (st:=(ag 68)) l68 c68 k68
 have b68:=F68.binds (ps:=["text"]) (by walk_at "bn")
 have F67:=aP (st:=(ag 67)) l67 c67 k67
 have b67:=F67.binds (ps:=["word"]) (by walk_at "bn")
 have F96:=aP (st:=(ag 96)) l96 c96 k96
 have b96:=F96.binds (ps:=["kind", "word"]) (by walk_at "bn")
 have F95:=aP (st:=(ag 95)) l95 c95 k95
 have b95:=F95.binds (ps:=["words"]) (by walk_at "bn")
 have GI:=aP (st:=(aM (ag 70) 1)) Ts U4 Fv
 have Vd:=GI.binds (ps:=["self"]) (by walk_at "bn")
 have F83:=aP (st:=(ag 83)) l83 c83 k83
 have b83:=F83.binds (ps:=["turn"]) (by walk_at "bn")
 have F23:=aP (st:=(ag 23)) l23 c23 k23
 have b23:=F23.binds (ps:=["four"]) (by walk_at "bn")
 have F40:=aP (st:=(ag 40)) l40 c40 k40
 have b40:=F40.binds (ps:=["one", "other"]) (by walk_at "bn")
 have F51:=aP (st:=(ag 51)) l51 c51 k51
 have b51:=F51.binds (ps:=["rows"]) (by walk_at "bn")
 have F50:=aP (st:=(ag 50)) l50 c50 k50
 have b50:=F50.binds (ps:=["table"]) (by walk_at "bn")
 have F37:=aP (st:=(ag 37)) l37 c37 k37
 have b37:=F37.binds (ps:=["one", "other"]) (by walk_at "bn")
 have F36:=aP (st:=(ag 36)) l36 c36 k36
 have b36:=F36.binds (ps:=["numbers"]) (by walk_at "bn")
 have F38:=aP (st:=(ag 38)) l38 c38 k38
 have b38:=F38.binds (ps:=["numbers", "divisor"]) (by walk_at "bn")
 have F39:=aP (st:=(ag 39)) l39 c39 k39
 have b39:=F39.binds (ps:=["numbers"]) (by walk_at "bn")
 have F53:=aP (st:=(ag 53)) l53 c53 k53
 have b53:=F53.binds (ps:=["table"]) (by walk_at "bn")
 have F52:=aP (st:=(ag 52)) l52 c52 k52
 have b52:=F52.binds (ps:=["table"]) (by walk_at "bn")
 have F21:=aP (st:=(ag 21)) VC c21 k21
 have b21:=F21.binds (ps:=["one", "other"]) (by walk_at "bn")
 have F85:=aP (st:=(ag 85)) l85 c85 k85
 have b85:=F85.binds (ps:=["turn"]) (by walk_at "bn")
 have F17:=aP (st:=(ag 17)) l17 c17 k17
 have b17:=F17.binds (ps:=["one", "other"]) (by walk_at "bn")
 have F18:=aP (st:=(ag 18)) l18 c18 k18
 have b18:=F18.binds (ps:=["one", "number"]) (by walk_at "bn")
 have F87:=aP (st:=(ag 87)) l87 c87 k87
 have b87:=F87.binds (ps:=["spot", "other", "place"]) (by walk_at "bn")
 have F88:=aP (st:=(ag 88)) l88 c88 k88
 have b88:=F88.binds (ps:=["base"]) (by walk_at "bn")
 have F86:=aP (st:=(ag 86)) l86 c86 k86
 have b86:=F86.binds (ps:=["spots", "place"]) (by walk_at "bn")
 have F84:=aP (st:=(ag 84)) l84 c84 k84
 have b84:=F84.binds (ps:=["turn"]) (by walk_at "bn")
 have F58:=aP (st:=(ag 58)) l58 c58 k58
 have b58:=F58.binds (ps:=["numbers"]) (by walk_at "bn")
 have F54:=aP (st:=(ag 54)) l54 c54 k54
 have b54:=F54.binds (ps:=["rows", "other"]) (by walk_at "bn")
 have F48:=aP (st:=(ag 48)) l48 c48 k48
 have b48:=F48.binds (ps:=["table", "spot"]) (by walk_at "bn")
 have GH:=aP (st:=(aM (ag 70) 2)) Tr U3 Fu
 have Vc:=GH.binds (ps:=["self", "spot"]) (by walk_at "bn")
 have PL:=aP (st:=(ag 102)) ac4 av7 ai4
 have ax4:=PL.binds (ps:=["word", "turn", "numbers"]) (by walk_at "bn")
 have F60:=aP (st:=(ag 60)) l60 c60 k60
 have b60:=F60.binds (ps:=["part"]) (by walk_at "bn")
 have F59:=aP (st:=(ag 59)) mM c59 k59
 have b59:=F59.binds (ps:=["four"]) (by walk_at "bn")
 have F24:=aP (st:=(ag 24)) l24 c24 k24
 have b24:=F24.binds (ps:=["four"]) (by walk_at "bn")
 have F47:=aP (st:=(ag 47)) l47 c47 k47
 have b47:=F47.binds (ps:=["table"]) (by walk_at "bn")
 have F49:=aP (st:=(ag 49)) l49 c49 k49
 have b49:=F49.binds (ps:=["numbers"]) (by walk_at "bn")
 have GK:=aP (st:=(aM (ag 70) 0)) Tt U5 Fw
 have Ve:=GK.binds (ps:=["self", "word", "row", "fractions"]) (by walk_at "bn")
 have GG:=aP (st:=(aM (ag 71) 0)) Tq U2 TZ
 have Vb:=GG.binds (ps:=["self", "numbers"]) (by walk_at "bn")
 have PM:=aP (st:=(ag 101)) ac5 av8 ai5
 have ax5:=PM.binds (ps:=["word", "four", "numbers"]) (by walk_at "bn")
 have F98:=aP (st:=(ag 98)) l98 c98 k98
 have b98:=F98.binds (ps:=["wanted", "form", "words"]) (by walk_at "bn")
 have F66:=aP (st:=(ag 66)) l66 c66 k66
 have b66:=F66.binds (ps:=["number"]) (by walk_at "bn")
 have F65:=aP (st:=(ag 65)) l65 c65 k65
 have b65:=F65.binds (ps:=["number"]) (by walk_at "bn")
 have F64:=aP (st:=(ag 64)) l64 c64 k64
 have b64:=F64.binds (ps:=["number"]) (by walk_at "bn")
 have F63:=aP (st:=(ag 63)) l63 c63 k63
 have b63:=F63.binds (ps:=["word"]) (by walk_at "bn")
 have F62:=aP (st:=(ag 62)) l62 c62 k62
 have b62:=F62.binds (ps:=["words"]) (by walk_at "bn")
 have F61:=aP (st:=(ag 61)) l61 c61 k61
 have b61:=F61.binds (ps:=["text"]) (by walk_at "bn")
 have F16:=aP (st:=(ag 16)) l16 c16 k16
 have b16:=F16.binds (ps:=["one", "other"]) (by walk_at "bn")
 have F22:=aP (st:=(ag 22)) l22 c22 k22
 have b22:=F22.binds (ps:=["one", "other"]) (by walk_at "bn")
 have F99:=aP (st:=(ag 99)) l99 c99 k99
 have b99:=F99.binds (ps:=["words", "fours"]) (by walk_at "bn")
 have GE:=aP (st:=(aM (ag 94) 2)) Tn UZ Fs
 have U9:=GE.binds (ps:=["self", "word"]) (by walk_at "bn")
 have GC:=aP (st:=(aM (ag 94) 3)) Tm UY Fq
 have U8:=GC.binds (ps:=["self", "word", "four"]) (by walk_at "bn")
 have zZ:=aP (st:=(aM (ag 94) 1)) To U0 zf
 have Gk:=zZ.binds (ps:=["self", "line"]) (by walk_at "bn")
 have Pu:=aP (st:=(ag 118)) ab1 au4 ah2
 have aw1:=Pu.binds (ps:=["_law_desk", "_law_fours", "_law_base", "_law_spot"]) (by walk_at "bn")
 have PK:=aP (st:=(ag 105)) ac3 av6 ai3
 have ax3:=PK.binds (ps:=["_law_script", "_law_k"]) (by walk_at "bn")
 have PJ:=aP (st:=(ag 107)) ac2 av5 ai2
 have ax2:=PJ.binds (ps:=["_law_script", "_law_k"]) (by walk_at "bn")
 have Pv:=aP (st:=(ag 117)) ab2 au5 ah3
 have aw2:=Pv.binds (ps:=["_law_script", "_law_base"]) (by walk_at "bn")
 have GF:=aP (st:=(aM (ag 94) 0)) Tp U1 TY
 have Va:=GF.binds (ps:=["self"]) (by walk_at "bn")
 have aE1:=aP (st:=(ag 119)) ab0 au3 ah1
 refine⟨W.fnOf "law" "law" (aA (ag 119)) (ai (ag 119)) (ae (ag 119)) .none Fm FP EX Gm zt FR,λs v=>.of_eq rfl,λbase _ _=>?_⟩
 have nA0:∀C,W.nsIn K mainGlobals "Turn" = some (some (.ref C))->∀f∈[("fractions" : Str)],cr K C f:=by intro C hC;cases (jd.symm.trans hC);exact av (Pr:=λf=>cr K dO f) (i7) (ak)
 have fL0:∀p∈([("Turn", ["fractions"])]:List (Str×List Str)),wI K p:=av (Pr:=wI K) ((λf hf C hC=>nA0 C hC f hf)) (ak)
 have nA1:∀C,W.nsIn K mainGlobals "Turn" = some (some (.ref C))->∀f∈[("word" : Str),("row" : Str),("fractions" : Str)],cr K C f:=by intro C hC;cases (jd.symm.trans hC);exact av (Pr:=λf=>cr K dO f) (vy) (av (Pr:=λf=>cr K dO f) (wL) (av (Pr:=λf=>cr K dO f) (i7) (ak)))
 have nA2:∀C,W.nsIn K mainGlobals "Desk" = some (some (.ref C))->∀f∈[("kept" : Str)],cr K C f:=by intro C hC;cases (je.symm.trans hC);exact av (Pr:=λf=>cr K eY f) (mH) (ak)
 have fL1:∀p∈([("Desk", ["kept"])]:List (Str×List Str)),wI K p:=av (Pr:=wI K) ((λf hf C hC=>nA2 C hC f hf)) (ak)
 have PP:cg l.prog w K mg base 1 "_law_numbers" iF:=aW PD Rb (aH1 X G aD0) aw9 (by decide +kernel) (aV (ak) (ak) bg aZ aY aX ar hbl) bR.self
 have aF0:cg l.prog w K mg base 1 "_law_part_text" iY:=aW PH Re (aH1 X G aD2) ax1 (by decide +kernel) (aV (ak) (ak) bg aZ aY aX ar hbl) bR.self
 have aE9:cg l.prog w K mg base 2 "_law_text" o8:=aW PF Rc (aH1 X G aD1) ax0 (by decide +kernel) (aV (cL aF0 (ak)) (ak) bg aZ aY aX ar hbl) bR.self
 have PN:cg l.prog w K mg base 1 "_law_common" eR:=aW Pz Q8 (aH1 X G aC7) aw6 (by decide +kernel) (aV (ak) (ak) bg aZ aY aX ar hbl) t8
 have aE5:cg l.prog w K mg base 1 "_law_base_form" iZ:=aW Px Q6 (aH1 X G aC5) aw4 (by decide +kernel) (aV (ak) (ak) bg aZ aY aX ar hbl) bR.self
 have aE8:cg l.prog w K mg base 1 "_law_nine" jG:=vR (JH PC Ra (aV (ak) (ak) bg aZ aY aX ar hbl) xf) (aH1 X G aC9) Nd aw8 (by decide +kernel)
 have aE7:cg l.prog w K mg base 1 "_law_brought" iG:=aW PB Q9 (aH1 X G aC8) aw7 (by decide +kernel) (aV (ak) (ak) bg aZ aY aX ar hbl) bR.self
 have aE4:cg l.prog w K mg base 1 "_law_sum_in" lR:=aW Pw Q5 (aH1 X G aC4) aw3 (by decide +kernel) (aV (ak) (ak) bg aZ aY aX ar hbl) bR.self
 have aE6:cg l.prog w K mg base 2 "_law_lowest" ja:=aW Py Q7 (aH1 X G aC6) aw5 (by decide +kernel) (aV (cL PN (ak)) (ak) bg aZ aY aX ar hbl) bR.self
 have D97:cg l.prog w K mg base 1 "is_name" dm:=aW F97 WT (aH1 X G a97) b97 (by decide +kernel) (aV (ak) (av (Pr:=iz mg K) (nR (aH1 X G g4)) (av (Pr:=iz mg K) (yg (aH1 X G g2)) (ak))) bg aZ aY aX ar hbl) bR.self
 have D68:cg l.prog w K mg base 1 "are_figures" i5:=aW F68 W4 (aH1 X G a68) b68 (by decide +kernel) (aV (ak) (av (Pr:=iz mg K) (nR (aH1 X G g3)) (av (Pr:=iz mg K) (yg (aH1 X G g0)) (ak))) bg aZ aY aX ar hbl) bR.self
 have D67:cg l.prog w K mg base 2 "whole_read" fx:=aW F67 W5 (aH1 X G a67) b67 (by decide +kernel) (aV (cL D68 (ak)) (ak) bg aZ aY aX ar hbl) bR.self
 have D96:cg l.prog w K mg base 3 "is_right" dS:=aW F96 WU (aH1 X G a96) b96 (by decide +kernel) (aV (cL D97 (cL D67 (ak))) (ak) bg aZ aY aX ar hbl) bR.self
 have D95:cg l.prog w K mg base 4 "form_of" eS:=vR (Dv F95 WV (aV (cL D96 (ak)) (av (Pr:=iz mg K) (nR (aH1 X G g5)) (ak)) bg aZ aY aX ar hbl) (Nw (av (Pr:=λq:Str×List (Str×List Str)=>pv l.prog w K mg q.1 q.2) (Uc (d := "FORMS") (kvs:=[("keep", ["new", "part", "part", "part", "part"]),("sum", ["new", "name", "name"]),("times", ["new", "name", "name"]),("bar", ["new", "name"]),("drop", ["name"]),("names", []),("show", ["name"]),("size", ["name"]),("divide", ["side", "name", "name"]),("shared", ["side", "name", "name"]),("apart", ["name"]),("turn", ["name"]),("place", ["name", "number", "number", "number"]),("corner", ["name"]),("base", ["name"]),("ways", ["number"]),("squares", ["number"])]) (r:=[("keep", .ref uH),("sum", .ref uG),("times", .ref uF),("bar", .ref uE),("drop", .ref uD),("names", .ref uC),("show", .ref uA),("size", .ref uz),("divide", .ref uy),("shared", .ref ux),("apart", .ref qQ),("turn", .ref qP),("place", .ref qO),("corner", .ref qN),("base", .ref qM),("ways", .ref qL),("squares", .ref qK)]) (ts:=[EI,EH,EG,EF,EE,EC,EA,Ez,Ey,Ex,Ao,An,Am,Al,Ak,Aj,Ai]) (aH1 X G g1) e1 (by decide +kernel) rfl (⟨rfl,⟨uH,rfl,cS (ws:=["new", "part", "part", "part", "part"]) aa7 (show 5<=sizeLine by decide) (.cons ⟨_,rfl⟩ (.cons ⟨_,rfl⟩ (.cons ⟨_,rfl⟩ (.cons ⟨_,rfl⟩ (.cons ⟨_,rfl⟩ (.nil))))))⟩,⟨rfl,⟨uG,rfl,cS (ws:=["new", "name", "name"]) aa6 (show 3<=sizeLine by decide) (.cons ⟨_,rfl⟩ (.cons ⟨_,rfl⟩ (.cons ⟨_,rfl⟩ (.nil))))⟩,⟨rfl,⟨uF,rfl,cS (ws:=["new", "name", "name"]) aa5 (show 3<=sizeLine by decide) (.cons ⟨_,rfl⟩ (.cons ⟨_,rfl⟩ (.cons ⟨_,rfl⟩ (.nil))))⟩,⟨rfl,⟨uE,rfl,cS (ws:=["new", "name"]) aa4 (show 2<=sizeLine by decide) (.cons ⟨_,rfl⟩ (.cons ⟨_,rfl⟩ (.nil)))⟩,⟨rfl,⟨uD,rfl,cS (ws:=["name"]) aa3 (show 1<=sizeLine by decide) (.cons ⟨_,rfl⟩ (.nil))⟩,⟨rfl,⟨uC,rfl,cS (ws:=[]) aa2 (show 0<=sizeLine by decide) (.nil)⟩,⟨rfl,⟨uA,rfl,cS (ws:=["name"]) aa1 (show 1<=sizeLine by decide) (.cons ⟨_,rfl⟩ (.nil))⟩,⟨rfl,⟨uz,rfl,cS (ws:=["name"]) aa0 (show 1<=sizeLine by decide) (.cons ⟨_,rfl⟩ (.nil))⟩,⟨rfl,⟨uy,rfl,cS (ws:=["side", "name", "name"]) Z9 (show 3<=sizeLine by decide) (.cons ⟨_,rfl⟩ (.cons ⟨_,rfl⟩ (.cons ⟨_,rfl⟩ (.nil))))⟩,⟨rfl,⟨ux,rfl,cS (ws:=["side", "name", "name"]) Z4 (show 3<=sizeLine by decide) (.cons ⟨_,rfl⟩ (.cons ⟨_,rfl⟩ (.cons ⟨_,rfl⟩ (.nil))))⟩,⟨rfl,⟨qQ,rfl,cS (ws:=["name"]) Tc (show 1<=sizeLine by decide) (.cons ⟨_,rfl⟩ (.nil))⟩,⟨rfl,⟨qP,rfl,cS (ws:=["name"]) Ta (show 1<=sizeLine by decide) (.cons ⟨_,rfl⟩ (.nil))⟩,⟨rfl,⟨qO,rfl,cS (ws:=["name", "number", "number", "number"]) S9 (show 4<=sizeLine by decide) (.cons ⟨_,rfl⟩ (.cons ⟨_,rfl⟩ (.cons ⟨_,rfl⟩ (.cons ⟨_,rfl⟩ (.nil)))))⟩,⟨rfl,⟨qN,rfl,cS (ws:=["name"]) S8 (show 1<=sizeLine by decide) (.cons ⟨_,rfl⟩ (.nil))⟩,⟨rfl,⟨qM,rfl,cS (ws:=["name"]) S7 (show 1<=sizeLine by decide) (.cons ⟨_,rfl⟩ (.nil))⟩,⟨rfl,⟨qL,rfl,cS (ws:=["number"]) S6 (show 1<=sizeLine by decide) (.cons ⟨_,rfl⟩ (.nil))⟩,⟨rfl,⟨qK,rfl,cS (ws:=["number"]) S5 (show 1<=sizeLine by decide) (.cons ⟨_,rfl⟩ (.nil))⟩,trivial⟩⟩⟩⟩⟩⟩⟩⟩⟩⟩⟩⟩⟩⟩⟩⟩⟩) m1) (ak))) wB) (aH1 X G a95) k95 b95 (by decide +kernel)
 have jK:fD l.prog w K mg base 1 "Turn" "table" ii:=lw GI Ln jd sr ⟨tS,tU,Fv⟩ Vd (fo (ak) (ak) bg aZ aY aX ar (fL0) (ak) hbl) bR.self
 have D83:cg l.prog w K mg base 2 "corner_number" fX:=aW F83 W3 (aH1 X G a83) b83 (by decide +kernel) (fo (ak) (ak) bg aZ aY aX ar (ak) (cO (cM jK (by decide) (ak)) (ak)) hbl) bR.self
 have D23:cg l.prog w K mg base 1 "other_signed" fw:=aW F23 Xt (aH1 X G a23) b23 (by decide +kernel) (aV (ak) (ak) bg aZ aY aX ar hbl) oj
 have D40:cg l.prog w K mg base 1 "added_products" fC:=aW F40 Xn (aH1 X G a40) b40 (by decide +kernel) (aV (ak) (ak) bg aZ aY aX ar hbl) bR.self
 have D51:cg l.prog w K mg base 2 "determinant" i0:=aW F51 Xi (aH1 X G a51) b51 (by decide +kernel) (aV (cL D40 (ak)) (ak) bg aZ aY aX ar hbl) bR.self
 have D50:cg l.prog w K mg base 3 "table_fault" gE:=aW F50 Xj (aH1 X G a50) b50 (by decide +kernel) (aV (cL D40 (cL D51 (ak))) (av (Pr:=iz mg K) (wc (ds:=[.tup [.int 0,.int 0],.tup [.int 0,.int 1],.tup [.int 0,.int 2],.tup [.int 1,.int 1],.tup [.int 1,.int 2],.tup [.int 2,.int 2]]) (vs:=[.ref zE,.ref zD,.ref zC,.ref zB,.ref zA,.ref zy]) (aH1 X G g6) m6 (show 6<=sizeLine by decide) (.cons rfl (.cons rfl (.cons rfl (.cons rfl (.cons rfl (.cons rfl (.nil))))))) (λH P=>am.cons (fJ (ns:=[0,0]) Z3 (show 2<=sizeLine by decide) (.cons ⟨_,rfl⟩ (.cons ⟨_,rfl⟩ (.nil))) H P) (am.cons (fJ (ns:=[0,1]) Z0 (show 2<=sizeLine by decide) (.cons ⟨_,rfl⟩ (.cons ⟨_,rfl⟩ (.nil))) H P) (am.cons (fJ (ns:=[0,2]) ZZ (show 2<=sizeLine by decide) (.cons ⟨_,rfl⟩ (.cons ⟨_,rfl⟩ (.nil))) H P) (am.cons (fJ (ns:=[1,1]) ZY (show 2<=sizeLine by decide) (.cons ⟨_,rfl⟩ (.cons ⟨_,rfl⟩ (.nil))) H P) (am.cons (fJ (ns:=[1,2]) ZX (show 2<=sizeLine by decide) (.cons ⟨_,rfl⟩ (.cons ⟨_,rfl⟩ (.nil))) H P) (am.cons (fJ (ns:=[2,2]) ZW (show 2<=sizeLine by decide) (.cons ⟨_,rfl⟩ (.cons ⟨_,rfl⟩ (.nil))) H P) (am.nil)))))))) (ak)) bg aZ aY aX ar hbl) bR.self
 have D37:cg l.prog w K mg base 1 "shared_by" ku:=aW F37 Xq (aH1 X G a37) b37 (by decide +kernel) (aV (ak) (ak) bg aZ aY aX ar hbl) bR.self
 have D36:cg l.prog w K mg base 2 "common_divisor" dg:=aW F36 Xr (aH1 X G a36) b36 (by decide +kernel) (aV (cL D37 (ak)) (ak) bg aZ aY aX ar hbl) lZ
 have D38:cg l.prog w K mg base 1 "shortened" gB:=aW F38 Xp (aH1 X G a38) b38 (by decide +kernel) (aV (ak) (ak) bg aZ aY aX ar hbl) bR.self
 have D39:cg l.prog w K mg base 3 "upright" iR:=aW F39 Xo (aH1 X G a39) b39 (by decide +kernel) (aV (cL D36 (cL D38 (ak))) (ak) bg aZ aY aX ar hbl) bR.self
 have D53:cg l.prog w K mg base 1 "multiples" kA:=aW F53 Xg (aH1 X G a53) b53 (by decide +kernel) (aV (ak) (ak) bg aZ aY aX ar hbl) bR.self
 have D52:cg l.prog w K mg base 4 "number_of" iE:=aW F52 Xh (aH1 X G a52) b52 (by decide +kernel) (aV (cL D50 (cL D39 (cL D53 (ak)))) (ak) bg aZ aY aX ar hbl) bR.self
 have D21:cg l.prog w K mg base 1 "plain_product" fW:=aW F21 Xv (aH1 X G a21) b21 (by decide +kernel) (aV (ak) (ak) bg aZ aY aX ar hbl) nj
 have D85:cg l.prog w K mg base 5 "staying_spots" ic:=aW F85 WZ (aH1 X G a85) b85 (by decide +kernel) (fo (cL D83 (cL D23 (cL D52 (cL D21 (ak))))) (av (Pr:=iz mg K) (wc (ds:=[.tup [.int 1,.int 0,.int 0,.int 0],.tup [.int 0,.int 1,.int 0,.int 0],.tup [.int 0,.int 0,.int 1,.int 0],.tup [.int 0,.int 0,.int 0,.int 1]]) (vs:=[.ref zx,.ref zw,.ref zv,.ref zu]) (aH1 X G g7) m7 (show 4<=sizeLine by decide) (.cons rfl (.cons rfl (.cons rfl (.cons rfl (.nil))))) (λH P=>am.cons (fJ (ns:=[1,0,0,0]) ZV (show 4<=sizeLine by decide) (.cons ⟨_,rfl⟩ (.cons ⟨_,rfl⟩ (.cons ⟨_,rfl⟩ (.cons ⟨_,rfl⟩ (.nil))))) H P) (am.cons (fJ (ns:=[0,1,0,0]) ZU (show 4<=sizeLine by decide) (.cons ⟨_,rfl⟩ (.cons ⟨_,rfl⟩ (.cons ⟨_,rfl⟩ (.cons ⟨_,rfl⟩ (.nil))))) H P) (am.cons (fJ (ns:=[0,0,1,0]) ZT (show 4<=sizeLine by decide) (.cons ⟨_,rfl⟩ (.cons ⟨_,rfl⟩ (.cons ⟨_,rfl⟩ (.cons ⟨_,rfl⟩ (.nil))))) H P) (am.cons (fJ (ns:=[0,0,0,1]) ZS (show 4<=sizeLine by decide) (.cons ⟨_,rfl⟩ (.cons ⟨_,rfl⟩ (.cons ⟨_,rfl⟩ (.cons ⟨_,rfl⟩ (.nil))))) H P) (am.nil)))))) (ak)) bg aZ aY aX ar (ak) (cO (cM jK (by decide) (ak)) (ak)) hbl) bR.self
 have D17:cg l.prog w K mg base 1 "less" BU:=aW F17 Xx (aH1 X G a17) b17 (by decide +kernel) (aV (ak) (ak) bg aZ aY aX ar hbl) bR.self
 have D18:cg l.prog w K mg base 1 "many_times" nk:=aW F18 Xw (aH1 X G a18) b18 (by decide +kernel) (aV (ak) (ak) bg aZ aY aX ar hbl) bR.self
 have D87:cg l.prog w K mg base 2 "brought_below" fY:=aW F87 WX (aH1 X G a87) b87 (by decide +kernel) (aV (cL D17 (cL D18 (ak))) (ak) bg aZ aY aX ar hbl) bR.self
 have D88:cg l.prog w K mg base 3 "reduced" jV:=aW F88 WW (aH1 X G a88) b88 (by decide +kernel) (aV (cL D87 (ak)) (ak) bg aZ aY aX ar hbl) bR.self
 have D86:cg l.prog w K mg base 3 "swept" sJ:=aW F86 WY (aH1 X G a86) b86 (by decide +kernel) (aV (cL D87 (ak)) (ak) bg aZ aY aX ar hbl) bR.self
 have D84:cg l.prog w K mg base 6 "base_of" iS:=aW F84 W0 (aH1 X G a84) b84 (by decide +kernel) (aV (cL D85 (cL D88 (cL D86 (ak)))) (ak) bg aZ aY aX ar hbl) bR.self
 have D58:cg l.prog w K mg base 1 "row_text" lP:=aW F58 Xe (aH1 X G a58) b58 (by decide +kernel) (aV (ak) (ak) bg aZ aY aX ar hbl) bR.self
 have D54:cg l.prog w K mg base 2 "each_with" oB:=aW F54 Xf (aH1 X G a54) b54 (by decide +kernel) (aV (cL D40 (ak)) (ak) bg aZ aY aX ar hbl) bR.self
 have D48:cg l.prog w K mg base 3 "place_by" gk:=aW F48 Xl (aH1 X G a48) b48 (by decide +kernel) (aV (cL D54 (cL D36 (cL D38 (ak)))) (ak) bg aZ aY aX ar hbl) bR.self
 have wF:fD l.prog w K mg base 4 "Turn" "place" jI:=lw GH Lm jd sr ⟨tT,tV,Fu⟩ Vc (fo (cL D48 (ak)) (ak) bg aZ aY aX ar (fL0) (ak) hbl) bR.self
 have aF2:cg l.prog w K mg base 7 "told_of_turn" dl:=aW PL Rh (aH1 X G aD5) ax4 (by decide +kernel) (fo (cL D84 (cL D58 (cL D83 (ak)))) (ak) bg aZ aY aX ar (ak) (cO (cM wF (by decide) (cM jK (by decide) (ak))) (ak)) hbl) bR.self
 have D60:cg l.prog w K mg base 1 "part_text" kr:=vR (Nv (pre:=(ai (ag 60)).take 1) F60 Xc (aV (ak) (ak) bg aZ aY aX ar hbl) rfl (sH)) (aH1 X G a60) k60 b60 (by decide +kernel)
 have D59:cg l.prog w K mg base 2 "four_text" cU:=aW F59 Xd (aH1 X G a59) b59 (by decide +kernel) (aV (cL D60 (ak)) (ak) bg aZ aY aX ar hbl) sI
 have D24:cg l.prog w K mg base 1 "size" rh:=aW F24 Xs (aH1 X G a24) b24 (by decide +kernel) (aV (ak) (ak) bg aZ aY aX ar hbl) BS
 have D47:cg l.prog w K mg base 3 "lowest" o7:=aW F47 Xm (aH1 X G a47) b47 (by decide +kernel) (aV (cL D36 (cL D38 (ak))) (ak) bg aZ aY aX ar hbl) bR.self
 have D49:cg l.prog w K mg base 4 "table_of" lO:=aW F49 Xk (aH1 X G a49) b49 (by decide +kernel) (aV (cL D39 (cL D47 (ak))) (ak) bg aZ aY aX ar hbl) bR.self
 have Vy:bT l.prog w K mg base df 1 uv _ ["self", "word", "row", "fractions"] (KZ K ["word", "row", "fractions"]):=J4 GK rfl Lo (av (Pr:=λx=>eB (ae (aM (ag 70) 0)) x) (Or.inl rfl) (av (Pr:=λx=>eB (ae (aM (ag 70) 0)) x) (Or.inl rfl) (av (Pr:=λx=>eB (ae (aM (ag 70) 0)) x) (Or.inl rfl) (av (Pr:=λx=>eB (ae (aM (ag 70) 0)) x) (Or.inl rfl) (ak))))) (av (Pr:=λx=>fH x=true) (rfl) (av (Pr:=λx=>fH x=true) (rfl) (av (Pr:=λx=>fH x=true) (rfl) (av (Pr:=λx=>fH x=true) (rfl) (ak))))) rfl (by decide) (by decide) (by decide)
 have Vw:bT l.prog w K mg base df 5 qu _ ["self", "numbers"] (Ax K "Turn" dD):=Jw (n := "Turn") (b := "Deed") GG Ll (aV (cL D39 (cL D49 (ak))) (ak) bg aZ aY aX ar hbl) (Vy.mono (by decide)) Ve Fw rfl (aH1 X G J0) JF Im JI rfl rfl rfl (by decide +kernel) rfl (by decide) nA1
 have Vx:wE l.prog w K mg base 6 "Turn" dD:=MK zi ⟨Jf,Dh,Dj,DW⟩ Vw (aH1 X G jd) jd sr Vb (by decide +kernel)
 have PQ:cg l.prog w K mg base 8 "told_of_one" dZ:=aW PM Ri (aH1 X G aD6) ax5 (by decide +kernel) (aV (cL aF2 (cL D59 (cL D24 (cR Vx (ak))))) (ak) bg aZ aY aX ar hbl) bR.self
 have D98:cg l.prog w K mg base 1 "words_like" cj:=aW F98 WS (aH1 X G a98) b98 (by decide +kernel) (aV (ak) (ak) bg aZ aY aX ar hbl) bR.self
 have D66:cg l.prog w K mg base 1 "has_too_many_figures" dU:=aW F66 W6 (aH1 X G a66) b66 (by decide +kernel) (aV (ak) (av (Pr:=iz mg K) (nR (aH1 X G g3)) (ak)) bg aZ aY aX ar hbl) bR.self
 have D65:cg l.prog w K mg base 2 "doubled_or_none" gp:=aW F65 W7 (aH1 X G a65) b65 (by decide +kernel) (aV (cL D66 (ak)) (ak) bg aZ aY aX ar hbl) bR.self
 have D64:cg l.prog w K mg base 1 "odd_or_none" iX:=aW F64 W8 (aH1 X G a64) b64 (by decide +kernel) (aV (ak) (ak) bg aZ aY aX ar hbl) bR.self
 have D63:cg l.prog w K mg base 3 "part_read" kz:=aW F63 W9 (aH1 X G a63) b63 (by decide +kernel) (aV (cL D65 (cL D64 (cL D67 (ak)))) (ak) bg aZ aY aX ar hbl) bR.self
 have D62:cg l.prog w K mg base 4 "parts_read" ig:=aW F62 Xa (aH1 X G a62) b62 (by decide +kernel) (aV (cL D63 (ak)) (ak) bg aZ aY aX ar hbl) bR.self
 have D61:cg l.prog w K mg base 5 "four_read" kB:=aW F61 Xb (aH1 X G a61) b61 (by decide +kernel) (aV (cL D62 (ak)) (ak) bg aZ aY aX ar hbl) bR.self
 have D16:cg l.prog w K mg base 1 "total" sG:=aW F16 Xy (aH1 X G a16) b16 (by decide +kernel) (aV (ak) (ak) bg aZ aY aX ar hbl) zT
 have D22:cg l.prog w K mg base 2 "product" jU:=aW F22 Xu (aH1 X G a22) b22 (by decide +kernel) (aV (cL D21 (ak)) (ak) bg aZ aY aX ar hbl) wA
 have D99:cg l.prog w K mg base 6 "made" kY:=aW F99 WR (aH1 X G a99) b99 (by decide +kernel) (aV (cL D61 (cL D23 (cL D16 (cL D22 (cL D66 (ak)))))) (ak) bg aZ aY aX ar hbl) bR.self
 have kZ:fD l.prog w K mg base 1 "Desk" "four_by" gm:=lw GE Lj je su ⟨pZ,p9,Fs⟩ U9 (fo (ak) (ak) bg aZ aY aX ar (fL1) (ak) hbl) bR.self
 have KP:bT l.prog w K mg base df 3 qp _ ["self", "word", "four"] (Cw K "kept" cU):=Tu GC rfl Li (av (Pr:=λx=>eB (ae (aM (ag 94) 3)) x) (Or.inl rfl) (av (Pr:=λx=>eB (ae (aM (ag 94) 3)) x) (Or.inl rfl) (av (Pr:=λx=>eB (ae (aM (ag 94) 3)) x) (Or.inl rfl) (ak)))) (av (Pr:=λx=>fH x=true) (rfl) (av (Pr:=λx=>fH x=true) (rfl) (av (Pr:=λx=>fH x=true) (rfl) (ak)))) (fo (cL D59 (ak)) (ak) bg aZ aY aX ar (fL1) (ak) hbl) rfl ac6
 have TW:bT l.prog w K mg base df 9 qr _ ["self", "line"] (Av K "Desk" "kept" cU ia):=P3 (pre:=(ai (aM (ag 94) 1)).take 4) (rest:=(ai (aM (ag 94) 1)).drop 5) (n := "Desk") (mk := "keep_four") zZ AG rfl (fo (cL D95 (cL D67 (cL PQ (cL D98 (cL D99 (ak)))))) (ak) bg aZ aY aX ar (ak) (cO (cM kZ (by decide) (ak)) (ak)) hbl) rfl (λ_ _ z=>nomatch z) (λ_ _ z=>nomatch z) (by decide +kernel) rfl KP (by decide) (λC hC=>by cases (je.symm.trans hC);exact⟨n9,og,Fq⟩) U8 (λ_ _ _ _ _ _ h=>h)
 have oC:fD l.prog w K mg base 9 "Desk" "tell" cV:=lw zZ AG je su ⟨mI,mK,zf⟩ Gk (fo (cL D95 (cL D67 (cL PQ (cL D98 (cL D99 (ak)))))) (ak) bg aZ aY aX ar (ak) (cO (cM kZ (by decide) (ak)) (ak)) hbl) bR.self
 have aE2:cg l.prog w K mg base 10 "_law_spot_holds" iu:=aW Pu Q3 (aH1 X G aC2) aw1 (by decide +kernel) (fo (cL PP (cL aE8 (cL aE7 (cL aE4 (cL aE6 (ak)))))) (ak) bg aZ aY aX ar (ak) (cO (cM oC (by decide) (ak)) (ak)) hbl) bR.self
 have En:cg l.prog w K mg base 1 "_law_cell" jH:=aW PK Rg (aH1 X G aD4) ax3 (by decide +kernel) (aV (ak) (ak) bg aZ aY aX ar hbl) xg
 have aF1:cg l.prog w K mg base 2 "_law_four" o9:=aW PJ Rf (aH1 X G aD3) ax2 (by decide +kernel) (aV (cL En (ak)) (ak) bg aZ aY aX ar hbl) bR.self
 have aE3:cg l.prog w K mg base 2 "_law_spots" nl:=aW Pv Q4 (aH1 X G aC3) aw2 (by decide +kernel) (aV (cL En (ak)) (ak) bg aZ aY aX ar hbl) bR.self
 have DI:bT l.prog w K mg base df 1 qt _ ["self"] (Aw K "kept"):=JW GF rfl Lk (Or.inl rfl) rfl rfl
 exact Du aE1 Q2 (fo (cL PP (cL aE9 (cL PN (cL aE5 (cL aE2 (cL aF1 (cL aE3 (cL En (ak))))))))) (ak) bg aZ aY aX ar (ak) (cO (cM oC (by decide) (ak)) (ak)) hbl) ⟨Jg,Di,Dk,DX⟩ DI (by decide) Va (aH1 X G je) je su mH ⟨mI,mK,zf⟩ TW (by decide) Gk Ej
theorem walkX{q:Program}{r:W.RowW}{d:DefRec}{kwd:List (Str×Expr)}{run:Value->List Value->Sem Value}{K:Params->W.Frag}{as:List Addr}{n t:Nat}
  (e:∀P,as=(K P).map (·.1)) (h:W.WalkO q loose XP (W.InK K) r d kwd run):W.WalkX q loose XP (W.X.obsZ as) (W.X.valZ K n t) r d kwd run :=
 λw _ _ mg mb G y a o pm cd doc dV kV h1 h2 h3 h4 h5 h6 args vals as' L =>
  h w _ _ mg mb G (W.InK.keeps w _ _ (W.X.z_facts e y).2.1 L.keeps) a o pm cd doc dV kV h1 h2 h3 h4 h5 h6 args vals as'
theorem walk{l:W.OpenLaw}{q:Program}{YP:World->Heap->Prop}{d:DefRec}{K:Params->W.Frag}(hn:l.most=some 63)(hdf:d.params.defaults=[])
  (hY:∀(w:World) (h:Heap),YP w h->(K w.params).In h)
  (F:∀(w:World) (mg:Str->Option Value) (fa:Addr) (h:Heap),(K w.params).In h->h.Ns mainGlobals mg->mg d.name=some (.ref fa) ->
   ∃fd:FuncData,(∀(s:Shared) (u:Value),BindsTo s fd ⟨[u],[]⟩ [("_law_script", u)])/\∀base:Heap,(K w.params).In base->base.Ns mainGlobals mg->bT l.prog w (K w.params) mg base df 11 fa fd ["_law_script"] (jO (K w.params) rk)) :
  W.WalkO q loose XP YP l.row.toRowW d [] (λf vs=>PySem.call f vs) :=
 L2.walk_of (n:=63) (k:=11) (x := "_law_script") (CX:=λ_=>df) (sp:=λw=>jO (K w.params) rk) hn (by decide) hdf ⟨rfl,by decide,by decide⟩ hY F (λ_ _ a ns hl hO hS=>Nn hO hS (Db ns hl)) λ_ _ _ _ _ z=>z
end K
open PySem PySem.W PyProof.Rows
set_option maxRecDepth 100000 in
set_option maxHeartbeats 0 in
theorem PySem.Challenge.cw_spaceturns_k59_whole_from_lines_to_turns_holds : PySem.Challenge.rw_spaceturns_k59_whole_from_lines_to_turns.Holds := by
 refine PHD ?_
 k_fill
 refine K.walkX (λ_=>rfl) (K.walk (l:=PySem.Challenge.rw_spaceturns_k59_whole_from_lines_to_turns) rfl rfl (λw h Y=>Y) ?F)
 case F =>
  intro w mg fa h KX G hmg
  refine' K.all_mk KX G hmg ?_ ?_ ?_ ?_ ?_ ?_ ?_ ?_ ?_ ?_ ?_ ?_ ?_ ?_ ?_ ?_ ?_ ?_ ?_ ?_ ?_ ?_ ?_ ?_ ?_ ?_ ?_ ?_ ?_ ?_ ?_ ?_ ?_ ?_ ?_ ?_ ?_ ?_ ?_ ?_ ?_ ?_ ?_ ?_ ?_ ?_ ?_ ?_ ?_ ?_ ?_ ?_ ?_ ?_ ?_ ?_ ?_ ?_ ?_ ?_ ?_ ?_ ?_ ?_ ?_ ?_ ?_ ?_ ?_ ?_ ?_ ?_ ?_ ?_ ?_ ?_ ?_ ?_ ?_ ?_ ?_ ?_ ?_ ?_ ?_ ?_ ?_ ?_ ?_ ?_ ?_ ?_ ?_ ?_ ?_ ?_ ?_ ?_ ?_ ?_ ?_ ?_ ?_ ?_ ?_ ?_ ?_ ?_ ?_ ?_ ?_ ?_ ?_ ?_ ?_ ?_ ?_ ?_ ?_ ?_ ?_ ?_ ?_ ?_ ?_ ?_ ?_ ?_ ?_ ?_ ?_ ?_ ?_ ?_ ?_ ?_ ?_ ?_ ?_ ?_ ?_ ?_ ?_ ?_ ?_ ?_ ?_ ?_ ?_ ?_ ?_ ?_ ?_ ?_ ?_ ?_ ?_ ?_ ?_ ?_ ?_ ?_ ?_ ?_ ?_ ?_ ?_ ?_ ?_ ?_ ?_ ?_ ?_ ?_ ?_ ?_ ?_ ?_ ?_ ?_ ?_ ?_ ?_ ?_ ?_ ?_ ?_ ?_ ?_ ?_ ?_ ?_ ?_ ?_ ?_ ?_ ?_ ?_ ?_ ?_ ?_ ?_ ?_ ?_ ?_ ?_ ?_ ?_ ?_ ?_ ?_ ?_ ?_ ?_ ?_ ?_ ?_ ?_ ?_ ?_ ?_ ?_ ?_ ?_ ?_ ?_ ?_ ?_ ?_ ?_ ?_ ?_ ?_ ?_ ?_ ?_ ?_ ?_ ?_ ?_ ?_ ?_ ?_ ?_ ?_ ?_ ?_ ?_ ?_ ?_ ?_ ?_ ?_ ?_ ?_ ?_ ?_ ?_ ?_ ?_ ?_ ?_ ?_ ?_ ?_ ?_ ?_ ?_ ?_ ?_ ?_ ?_ ?_ ?_ ?_ ?_ ?_ ?_ ?_ ?_ ?_ ?_ ?_ ?_ ?_ ?_ ?_ ?_ ?_ ?_ ?_ ?_ ?_ ?_ ?_ ?_ ?_ ?_ ?_ ?_ ?_ ?_ ?_ ?_ ?_ ?_ ?_ ?_ ?_ ?_ ?_ ?_ ?_ ?_ ?_ ?_ ?_ ?_ ?_ ?_ ?_ ?_ ?_ ?_ ?_ ?_ ?_ ?_ ?_ ?_ ?_ ?_ ?_ ?_ ?_ ?_ ?_ ?_ ?_ ?_ ?_ ?_ ?_ ?_ ?_ ?_ ?_ ?_ ?_ ?_
  all_goals try first|k_is|kernel_rfl
