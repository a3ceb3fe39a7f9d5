import PyProof.Rows.All
import Wide.All
import OpenK.AllK
import Wide.FinOn
import Lean
import PyProof.EqAt
import PyProof.EqKinds
import PyProof.TupleCall
import PySem.Challenge.RW_spaceturns_k51_fours_at_the_desk
set_option Elab.async false
set_option linter.all false
set_option maxRecDepth 100000
structure PySem.W.Fast:Prop where(tw8401625146949402724 tw17555736408910323207 tw7069636101203076130 tw6637147887529910510 tw3203448220135052028 tw817948489036400903 tw7327797993587778256 tw13512356487834685986 tw12841955966982174828 tw15581749874668574347 tw4155781740165070903 tw15806025300662867292 tw9901585916286890584 tw4152737271505641435 tw5127910391845572045 tw10212324332407837054 tw6916048176177060145 tw59836108309854689 tw16661469462383631205 tw6760930895050947861 tw14919224624155002464 tw16998876814975046082 tw9759213822114098452 tw15926664592372446086 tw1286306078060725715 tw17146925644499521399 tw8779779207839095132 tw5382513782174479081 tw5316783371713480155 tw16856319339396054453 tw1032792464319099740 tw2625892780696068933 tw9044868750778097269 tw675403759046294537 tw17580721078246668286 tw18326197983399767404 tw13702936435737259199 tw8287657807154769499 tw1010414596229704972 tw7162222432828043734 tw6862567656389305469 tw18166035241171752057 tw10443492874387825588 tw16053107267372148875 tw7509343709865891651 tw3222279859750286510 tw7123337719133394144 tw5658432112655097031 tw11647225249703479517 tw17853261591495986703 tw8822540230347553172 tw4437185822188913996 tw14782698573800328603 tw7492701598276097908 tw15236165012339151470 tw15503772772213300343 tw10622073926825898408 tw15197007442922741896 tw4327715550934325276 tw8393703412576150815 tw2291139154331692572 tw16313432384326360324 tw2265379253927957672 tw18063352055149736732 tw12219891909690335166 tw13231271370242787995 tw14398672318516754218 tw7960889009764148687 tw18419197462368725929 tw3476345336238339936 tw15520536139278476497 tw1354262734917854434 tw11611500585602020853 tw16725298516486141247 tw14120122351221788604 tw17532532552417398756 tw9081266762069158382 tw10492286233327484062 tw5539725482131909959 tw13369839244398513647 tw12513917736383712878 tw17117127069804941061 tw15014737595312889524 tw8625277820742083479 tw10663766464536860147 tw2319954613694448264 tw18247543640619593459 tw8789217233685451896 tw11720010361178580760 tw17799847676641277159 tw1322882418797126179 tw1688216791124651584 tw9897554307405609084 tw9999309852442518083 tw4271622021254044372 tw10928568996872667816 tw9577672852142538299 tw9075765156342870644 tw3816173790484761322 tw11316814754130853272 tw3465009907703336868 tw13384732074718308418 tw7606956748274312922 tw8828044929954527387 tw14479666856363101050 tw18351707075203877150 tw619336149907941847 tw7220825896254437547 tw14599502092471327583 tw2308602414333839625 tw10363472403589986710 tw3214405323452884078 tw10715814130445429371 tw5151348607391611019 tw2252895149470637075 tw17923825818842250223 tw290453734399065850 tw16988583237916393842 tw11755710117141864555 tw6045879781355252035 tw5555486746220010037 tw17743567119088187137 tw2443604113829375326 tw7193452188160258275 tw17179345527923752483 tw6537694646393116148 tw1975783946515750470 tw10179928274299692532 tw5918354643510122386 tw15761635026593125981 tw15784778325926473351 tw7043455709306594171 tw416063763884539304 tw4824715423179187470 tw11694204120538679057 tw14411781226364071962 tw8772075893989721704 tw13382685811643751448 tw15046548314770538479 tw8191315765098567146 tw11832998510034631149 tw16724618789068904785 tw12765466607799682792 tw11305993602192862930 tw7694787463637446955 tw7194096615459620478 tw16308769968055146232 tw3519033972229392192 tw16318340106133531604 tw1798891879452024559 tw9912098238486393810 tw2260438014226073996 tw18399840190882186195 tw3620666190848817118 tw18097149905323939663 tw11861622935673930908 tw13499103080870278885 tw8978072719660334638 tw13312055533407171579 tw13266023059114672030 tw13566030990178539884 tw7642196293358235041 tw12854735539845139456 tw16910690400090927716 tw13683071634991370726 tw12778567841071702052 tw9452722053481656397 tw15249604235052340885 tw112551042064438095 tw15352303336885385062 tw17926720724770260134 tw7623326814672971152 tw4580625776331148507 tw8281464342664285858 tw17935715964520216975 tw2163766715438493247 tw14606980169706692672 tw70760448038085376 tw3737397788964087830 tw13841010413214405458 tw11731319695611751897 tw6044143531674540950 tw519977471367713497 tw14980180710276893415 tw5373756923042897121 tw18396629949405454418 tw13068295557092812493 tw11094186230954221808 tw15331721473323249378 tw6185038645008259980 tw18128032549589475361 tw7702393470982571120 tw13067999507748198292 tw14470564634446367636 tw8416780217541291654 tw2427122198276630510 tw10150170286556248081 tw16277903560453639557 tw10516490180077846463 tw4400514386655201658 tw11502176635725102345 tw17740548537043120181 tw14186323651618819876 tw5587556687106855595 tw2184184738209431550 tw16256076804053385144 tw15327460873030904192 tw17800170826594416640 tw741411957096958962 tw6235022237080429424 tw15812507597991475862 tw14607929902555677396 tw7091810799937990217 tw9874938087572387263 tw10574640290774307567 tw7044286236120275895 tw463259802879759381 tw10353289910821635827 tw7818485316909692412 tw12054752660237902977 tw16202850058553620202 tw13909054242759352279 tw616396092630496999 tw13284548488685296568 tw4948368125307931262 tw14350119730234154427 tw13438814683804361068 tw4200911431683605211 tw11248659979964903507 tw3395730807515228526 tw5552342036239334845 tw1785314998763512545 tw2093511362000946407 tw3257363604293333589 tw7024750755712040095 tw12207300154476546080 tw6656094710270560364 tw3658760320496997662 tw7859227597522330616 tw3430644312066686128 tw13484448530337672982 tw4200313041858291736 tw4648647013768018218 tw3005405057568102179 tw5857293233561778507 tw9019925525059666567 tw17403997436577400847 tw5369887543134081795 tw3951913563859441273 tw4430979368660703266 tw12036921487400680597 tw15008821555139139594 tw4019928525460105936 tw3549667167354600653 tw16228469083286452194 tw8032269262085652515 tw14454513989748868817 tw16582344452575229094 tw8409360119305684984 tw9501132236299217076 tw15455508587947550220 tw12602326959921774500 tw7127838546819860902 tw1805499209536546177 tw7452980894265670897 tw9372261991869429534 tw15430502586142613736 tw1479225699075493539 tw10900405657512079052 tw7849172724882137858 tw17994964568852099612 tw16173677611767388773 tw3510295122156117883 tw6340275665525994488 tw4081433438041325965 tw7517124532123417894 tw3609482256910774481 tw15137602614486899834 tw12027110074945408060 tw10698910812721135831 tw1609473853357930353 tw10538131266206007122 tw18015390556384125729 tw4156909411637626442 tw14866170458359867817 tw11667060623029837123 tw3911398505281785722 tw13290893369102406509 tw7942676223022512536 tw965941208345437960 tw17123140988223625514 tw3456545523316918981 tw15492053728092750426 tw13587473392816834463 tw8998582251840573361 tw1308410974294692801 tw12013133539356439166 tw3022440801233257619 tw15949265429213795952 tw4915844097188466692 tw1662064836271653739 tw7727701319528903058 tw14921874235902430769 tw1310594179853855927 tw1075398060953703755 tw12195588550648779805 tw3128561101853596565 tw11862642838894353205 tw2644247923804128376 tw3279695908837007008 tw1297787228675835171 tw14499397693551877735 tw2813918831072732842 tw13487891458955403871 tw12487969595802999622 tw1474497090490572466 tw11027113512555806067 tw2955602357159610071 tw16102614879882926484 tw2410079247933342674 tw10939761696318378966 tw3149725750036671038 tw8140300083288252357 tw2976590738506094455 tw13145522674836498243 tw2312150997833995978 tw11237860072047540303 tw6585687098855267135 tw596919007422792766 tw13335234086882490854 tw10039059436766322866 tw9855260739646901986 tw5855200154110616630 tw1963314523129718174 tw13062516524637437700 tw12169373862870261085 tw13283737864346417063 tw15176857419896933023 tw4808114062198796182 tw16853032308443131949 tw7183194117319778033 tw11984254600005508886 tw7150103893950416607 tw4180769152588022130 tw4559278747096032334 tw11958780497165767272 tw10918358332356050934 tw5257729114190619500 tw3994596796393579288 tw18259736900080385792 tw17437073013826178953 tw4387690157051949319 tw17293577485270034445 tw12527571454671400058 tw5596330151107294739 tw16491766741390598502 tw11508324067785472008 tw13046751256599720622 tw18429058278274660910 tw13064780462761333979 tw5429750956752631224 tw7614486187707181439 tw5978694894803353756 tw8317110658260956901 tw2344126536400927097 tw16664543027084230862 tw12170240824812141599 tw11100185886203295743 tw7436194989417799731 tw12298937179081994786 tw4518004291308605021 tw9065957846947812460 tw7073196002039970019 tw4130930782254625003 tw2919599742660719926 tw10328579331632327228 tw12667015202192037961 tw16654764131113458311 tw17586751773882752762 tw2101896733774414851 tw10834069863437866535 tw4624936680676998112 tw10675507018112651690 tw2831579867575657020 tw7035414145352908712 tw4186707217543967558 tw3909527104897693687 tw7266405933821778662 tw10830983731743950071 tw17109811070354822926 tw16963561174612496315 tw1976574550614988542 tw11362286722097250458 tw8090357472127611156 tw3245683650750863313 tw15508529954019018906 tw11703106135352179070 tw8633952050744829970 tw11967720066853469978 tw5920032989270501214 tw15929518812999325623 tw9203745615139471615 tw12379643074041362249 tw6821064594798849511 tw6848359694178175967 tw62994972408030563 tw738587716204500301 tw10108215033140026871 tw18031775090816254135 tw1250283286152091312 tw7032545957077171527 tw7652577523054089359 tw8506766916927658003 tw12999151494984471689 tw4212650362295077295 tw15905007684923877647 tw14078942138037284797 tw4883632055161438804 tw3240306855605343589 tw3827367796904922568 tw17746047203356086233 tw9555538036176079232 tw8049984767227962538 tw11277460076887496221 tw16866645154199925409 tw16597574113686003966 tw1510102292944051854 tw8272752660466320951 tw14877002666534084935 tw7840720148198700736 tw15619442318353038808 tw16993129229345733917 tw4005588648401354554 tw15710920959237836800 tw3170923427306280642 tw4289253739176572091 tw3598046915201828311 tw17951581171230070319 tw4460778385462778208 tw392697559216221413 tw3074316889677396222 tw18431929216609852141 tw1416458689306680510 tw11271658613880089332 tw16080257501702099000 tw3580445436264458260 tw15934043366825833027 tw6814614161079431528 tw185222871269786746 tw6578831320258001850 tw2017979072993408804 tw2931142607493530196 tw14468379379204008374 tw1905277283507928711 tw15829221881879797926 tw12638232935988775594 tw7800081806374332345 tw16348072016683461797 tw3899022760509560206 tw11910722829554530703 tw10129823612155715136 tw3392257742307276538 tw17321057853522308259 tw5447599629913583807 tw13282820098232780998 tw15898467285509049389 tw16238342431497640480 tw1272739295899893863 tw17135701021590728635 tw12914409731494764208 tw12904244398739140255 tw18268865465246832778 tw8505093077938572120 tw16795695862666024534 tw5225469053126506304 tw5769288158783771996 tw11693132156787976815 tw6000060458097329343 tw14919286027432689898 tw8342974365677758072 tw2149900391412025805 tw17244207163084005381 tw2037499293904842491 tw2049333282804438713 tw7888686807310024173 tw5139589957835346964 tw309123120723350660 tw9369392670648904746 tw14729050779642868226 tw8303676596403656820 tw17510853910591932011 tw9627145834075636980 tw14656471692038482010 tw484196714005888435 tw14429093874989461029 tw18363179838711214949 tw1020697489655540837 tw8749580075699453766 tw5546838054662641421 tw14126145101034195692 tw4709123922183433812 tw15087695083933062418 tw5963950846210368070 tw12244356201003696599 tw18042714548906731338 tw1026546515927082348 tw12062846742767501926 tw11477754392938154849:True)
local macro_rules | `(tactic| k_head) => `(tactic| z_head)
set_option maxHeartbeats 0 in
theorem SO:type_of%@PySem.wpAny_bind:=@PySem.wpAny_bind
theorem SQ:type_of%@PySem.Heap.get?_push_of_some:=@PySem.Heap.get?_push_of_some
theorem SR:type_of%@List.mem_cons_of_mem:=@List.mem_cons_of_mem
theorem SS:type_of%@List.mem_cons:=@List.mem_cons
theorem SU:type_of%@PySem.wpAny_pure:=@PySem.wpAny_pure
theorem SV:type_of%@List.mem_cons_self:=@List.mem_cons_self
theorem SW:type_of%@Nat.le_of_ble_eq_true:=@Nat.le_of_ble_eq_true
theorem SX:type_of%@Nat.le_refl:=@Nat.le_refl
theorem SY:type_of%@List.length_map:=@List.length_map
theorem SZ:type_of%@Nat.le_trans:=@Nat.le_trans
theorem S1:type_of%@PySem.Heap.lt_size:=@PySem.Heap.lt_size
theorem S2:type_of%@List.map_cons:=@List.map_cons
theorem S4:type_of%@Nat.lt_of_lt_of_le:=@Nat.lt_of_lt_of_le
theorem S5:type_of%@PySem.mem_of_lookup:=@PySem.mem_of_lookup
theorem S6:type_of%@PySem.Heap.get?_push_size:=@PySem.Heap.get?_push_size
theorem S7:type_of%@List.length_cons:=@List.length_cons
theorem S8:type_of%@List.length_append:=@List.length_append
theorem S9:type_of%@List.lookup_cons:=@List.lookup_cons
theorem Ta:type_of%@Bool.false_ne_true:=@Bool.false_ne_true
theorem Tc:type_of%@Nat.zero_le:=@Nat.zero_le
theorem Te:type_of%@PySem.Heap.get?_update_other:=@PySem.Heap.get?_update_other
theorem Tg:type_of%@List.not_mem_nil:=@List.not_mem_nil
theorem Th:type_of%@decide_eq_false:=@decide_eq_false
theorem Tj:type_of%@Bool.and_eq_true:=@Bool.and_eq_true
theorem Tk:type_of%@List.getElem?_eq_getElem:=@List.getElem?_eq_getElem
theorem Tl:type_of%@List.getElem?_eq_some_iff:=@List.getElem?_eq_some_iff
theorem Tn:type_of%@PySem.wpAny_mono:=@PySem.wpAny_mono
theorem To:type_of%@List.mem_append_right:=@List.mem_append_right
theorem Tp:type_of%@List.size_toArray:=@List.size_toArray
theorem Tq:type_of%@List.mem_singleton:=@List.mem_singleton
theorem Tr:type_of%@PySem.wpAny_field:=@PySem.wpAny_field
theorem Ts:type_of%@Nat.ne_of_lt:=@Nat.ne_of_lt
theorem Tt:type_of%@Int.fmod_nonneg_of_pos:=@Int.fmod_nonneg_of_pos
theorem Tu:type_of%@Nat.lt_of_le_of_lt:=@Nat.lt_of_le_of_lt
theorem Tv:type_of%@decide_eq_true:=@decide_eq_true
theorem Tw:type_of%@List.append_nil:=@List.append_nil
theorem Tx:type_of%@Nat.lt_succ_self:=@Nat.lt_succ_self
theorem Tz:type_of%@Int.fmod_lt_of_pos:=@Int.fmod_lt_of_pos
theorem TB:type_of%@PySem.wpAny_holding:=@PySem.wpAny_holding
theorem TC:type_of%@or_false:=@or_false
theorem TF:type_of%@beq_eq_false_iff_ne:=@beq_eq_false_iff_ne
theorem TH:type_of%@Nat.lt_irrefl:=@Nat.lt_irrefl
theorem TJ:type_of%@List.all_eq_true:=@List.all_eq_true
theorem TK:type_of%@PySem.W.mg_none_of:=@PySem.W.mg_none_of
theorem TM:type_of%@Nat.le_succ:=@Nat.le_succ
theorem TN:type_of%@Option.some.inj:=@Option.some.inj
theorem TQ:type_of%@List.getElem?_map:=@List.getElem?_map
theorem TR:type_of%@Nat.ne_of_gt:=@Nat.ne_of_gt
theorem TU:type_of%@List.length_set:=@List.length_set
theorem TV:type_of%@PySem.PassesOwn.never:=@PySem.PassesOwn.never
theorem TW:type_of%@PySem.sizeLine_eq:=@PySem.sizeLine_eq
theorem TX:type_of%@Nat.add_le_add_right:=@Nat.add_le_add_right
theorem TY:type_of%@PySem.Obj.data_mapFields:=@PySem.Obj.data_mapFields
theorem TZ:type_of%@List.mem_append:=@List.mem_append
theorem T0:type_of%@List.mem_map:=@List.mem_map
theorem T3:type_of%@PySem.wpAny_truthy_bool:=@PySem.wpAny_truthy_bool
theorem T5:type_of%@PySem.Heap.size_push:=@PySem.Heap.size_push
theorem T6:type_of%@List.getD_eq_getElem?_getD:=@List.getD_eq_getElem?_getD
theorem T7:type_of%@List.zip_cons_cons:=@List.zip_cons_cons
theorem T9:type_of%@PySem.wpAny_setField_rec:=@PySem.wpAny_setField_rec
theorem Ua:type_of%@Array.getElem?_eq_none:=@Array.getElem?_eq_none
theorem Ub:type_of%@Ne.symm:=@Ne.symm
theorem Uc:type_of%@PySem.wpAny_pyIter_list:=@PySem.wpAny_pyIter_list
theorem Ud:type_of%@Nat.le_of_lt:=@Nat.le_of_lt
theorem Ue:type_of%@congrArg:=@congrArg
theorem Uf:type_of%@PySem.Heap.get?_update_self:=@PySem.Heap.get?_update_self
theorem Ug:type_of%@List.map_map:=@List.map_map
theorem Uh:type_of%@PySem.wpAny_Call_Name_kw:=@PySem.wpAny_Call_Name_kw
theorem Uj:type_of%@PySem.F.attrBase_ValueError:=@PySem.F.attrBase_ValueError
theorem Uk:type_of%@PySem.wpAny_callSpecial?_slot:=@PySem.wpAny_callSpecial?_slot
theorem Ul:type_of%@List.getElem?_set_ne:=@List.getElem?_set_ne
theorem Um:type_of%@List.length_take:=@List.length_take
theorem Uo:type_of%@PySem.Str.empty_append:=@PySem.Str.empty_append
theorem Up:type_of%@PySem.SeqAt.canLay_of_shaped:=@PySem.SeqAt.canLay_of_shaped
theorem Uq:type_of%@PySem.W.mg_of:=@PySem.W.mg_of
theorem Ur:type_of%@PySem.wpAny_newObj_type:=@PySem.wpAny_newObj_type
theorem Ut:type_of%@List.filterMap_cons:=@List.filterMap_cons
theorem Uv:type_of%@PySem.wpAny_loadPart':=@PySem.wpAny_loadPart'
theorem Uw:type_of%@PySem.wpAny_ite_false:=@PySem.wpAny_ite_false
theorem Ux:type_of%@List.mem_of_getElem?:=@List.mem_of_getElem?
theorem Uy:type_of%@PySem.W.Looks.at:=@PySem.W.Looks.at
theorem Uz:type_of%@Nat.add_le_add:=@Nat.add_le_add
theorem UA:type_of%@List.length_eq_zero_iff:=@List.length_eq_zero_iff
theorem UB:type_of%@PySem.wpAny_loadPart_at:=@PySem.wpAny_loadPart_at
theorem UC:type_of%@List.flatMap_cons:=@List.flatMap_cons
theorem UD:type_of%@PyProof.Rows.callWith_type1:=@PyProof.Rows.callWith_type1
theorem UE:type_of%@Array.length_toList:=@Array.length_toList
theorem UF:type_of%@List.getElem?_set_self:=@List.getElem?_set_self
theorem UG:type_of%@PySem.wpAny_standAt:=@PySem.wpAny_standAt
theorem UH:type_of%@PySem.wpAny_call_entry:=@PySem.wpAny_call_entry
theorem UI:type_of%@List.filter_cons:=@List.filter_cons
theorem UJ:type_of%@Nat.eq_zero_or_pos:=@Nat.eq_zero_or_pos
theorem UK:type_of%@PySem.Heap.get?_none_of_le:=@PySem.Heap.get?_none_of_le
theorem UL:type_of%@PySem.wpAny_call:=@PySem.wpAny_call
theorem UM:type_of%@PySem.W.callWith_K:=@PySem.W.callWith_K
theorem UN:type_of%@Nat.lt_trans:=@Nat.lt_trans
theorem UO:type_of%@of_decide_eq_true:=@of_decide_eq_true
theorem UP:type_of%@List.length_range:=@List.length_range
theorem UQ:type_of%@PySem.Str.length_append:=@PySem.Str.length_append
theorem UR:type_of%@List.mergeSort_perm:=@List.mergeSort_perm
theorem US:type_of%@List.mem_range:=@List.mem_range
theorem UT:type_of%@PySem.wpAny_seqItems:=@PySem.wpAny_seqItems
theorem UU:type_of%@PySem.F.plainAttrs_str:=@PySem.F.plainAttrs_str
theorem UV:type_of%@PySem.codeAny_mono:=@PySem.codeAny_mono
theorem UW:type_of%@List.map_nil:=@List.map_nil
theorem UX:type_of%@Nat.lt_or_ge:=@Nat.lt_or_ge
theorem UY:type_of%@List.mem_filter:=@List.mem_filter
theorem UZ:type_of%@PySem.Obj.isFreed_of_fields:=@PySem.Obj.isFreed_of_fields
theorem U0:type_of%@Nat.not_lt_zero:=@Nat.not_lt_zero
theorem U3:type_of%@List.map_append:=@List.map_append
theorem U4:type_of%@List.singleton_append:=@List.singleton_append
theorem U5:type_of%@PySem.wpAny_attempt:=@PySem.wpAny_attempt
theorem U6:type_of%@Bool.not_eq_true':=@Bool.not_eq_true'
theorem U7:type_of%@Int.natAbs_add_le:=@Int.natAbs_add_le
theorem U8:type_of%@PySem.wpAny_setField:=@PySem.wpAny_setField
theorem U9:type_of%@List.any_cons:=@List.any_cons
theorem Va:type_of%@PySem.wpAny_execs_nil:=@PySem.wpAny_execs_nil
theorem Vb:type_of%@PySem.wpAny_pyIter_tuple:=@PySem.wpAny_pyIter_tuple
theorem Vc:type_of%@PySem.W.methodCall_KW:=@PySem.W.methodCall_KW
theorem Vd:type_of%@List.nodup_cons:=@List.nodup_cons
theorem Ve:type_of%@List.contains_cons:=@List.contains_cons
theorem Vf:type_of%@List.find?_cons:=@List.find?_cons
theorem Vg:type_of%@List.length_nil:=@List.length_nil
theorem Vh:type_of%@List.forIn_cons:=@List.forIn_cons
theorem Vi:type_of%@List.getElem_idxOf:=@List.getElem_idxOf
theorem Vj:type_of%@Nat.lt_succ_of_lt:=@Nat.lt_succ_of_lt
theorem Vk:type_of%@List.append_assoc:=@List.append_assoc
theorem Vl:type_of%@if_true:=@if_true
theorem Vm:type_of%@List.length_drop:=@List.length_drop
theorem Vn:type_of%@List.getElem_mem:=@List.getElem_mem
theorem Vo:type_of%@List.cons_append:=@List.cons_append
theorem Vp:type_of%@Bool.false_or:=@Bool.false_or
theorem Vr:type_of%@Bool.eq_iff_iff:=@Bool.eq_iff_iff
theorem Vs:type_of%@Bool.or_eq_true:=@Bool.or_eq_true
theorem Vt:type_of%@List.length_zip:=@List.length_zip
theorem Vu:type_of%@List.nil_append:=@List.nil_append
theorem Vw:type_of%@beq_iff_eq:=@beq_iff_eq
theorem Vz:type_of%@Bool.and_false:=@Bool.and_false
theorem VA:type_of%@Nat.log2_lt:=@Nat.log2_lt
set_option maxHeartbeats 0 in
open_top PHD for PySem.Challenge.rw_spaceturns_k51_fours_at_the_desk
noncomputable section
namespace L2
open PySem PySem.Spec PyProof.Rows
variable{us:List Value}{C a b dx it:Addr}{P:Program}{w:World}{base h:Heap}{o:Obj}{g':Array GenState}{ch fp:List Addr}{qual x:Str}{N ps:List Str}{i j k n:Nat}{M:Model}{A:Around}{E Q:Value->Shared->Prop}{u:Value}{s s':Shared}{e l tg:Expr}{α:Type}{dl:List (Addr×Obj)}{p pos:Pos}{K:W.Frag}{es:List Expr}{body:List Stmt}{f:Value->Value->Sem Value}{g:Int->Int->Int}{op op':CmpOp}{mA mg:Str->Option Value}{pl:Sem Bool}{kw:List (Str×Value)}{fd:FuncData}{outer:List Env}{scope:Scope}
abbrev av:=Sum Int Str
def nO:av->Value->Bool
 | .inl k,v=>Value.isInt k v
 | .inr x,v=>Value.isStrOf x v
def Rj(w:World):av->Int
 | .inl k=>hashInt k
 | .inr x=>hashStr w x
theorem cG:∀{k:av} {v:Value},nO k v=true->(∃i t,k=Sum.inl i/\v=Value.int i t)\/(∃x t,k=Sum.inr x/\v=Value.str x t)
 | .inl i,v,h=>by
  obtain⟨t,e⟩:=Value.isInt_shape (k:=i) (v:=v) h;exact .inl ⟨i,t,rfl,e⟩
 | .inr x,v,h=>by
  obtain⟨t,e⟩:=Value.isStrOf_shape (x:=x) (v:=v) h;exact .inr ⟨x,t,rfl,e⟩
theorem BZ(i:Int)(t:Tok):nO (.inl i) (.int i t)=true:=by simp[nO,Value.isInt]
theorem BY(x:Str)(t:Tok):nO (.inr x) (.str x t)=true:=by simp[nO,Value.isStrOf]
theorem MQ(a b:Int):decide ((Sum.inl a:av)=Sum.inl b)=(a==b):=by
 by_cases e:a=b
 ·subst e;simp
 ·have h:¬ (Sum.inl a:av)=Sum.inl b:=λq=>e (Sum.inl.inj q)
  rw[Th h];exact(TF.mpr e).symm
theorem MN(a b:Str):decide ((Sum.inr a:av)=Sum.inr b)=decide (a=b):=by
 by_cases e:a=b
 ·subst e;simp
 ·have h:¬ (Sum.inr a:av)=Sum.inr b:=λq=>e (Sum.inr.inj q)
  rw[Th h,Th e]
theorem MP(a:Int)(b:Str):decide ((Sum.inl a:av)=Sum.inr b)=false:=Th (λq=>nomatch q)
theorem MO(a:Str)(b:Int):decide ((Sum.inr a:av)=Sum.inl b)=false:=Th (λq=>nomatch q)
noncomputable def dE(prog:Program)(w:World):PySem.KeyKind prog w av where
 is:=nO
 hash:=Rj w
 inj:=λv a b ha hb=>by
  rcases cG ha with⟨i,t,rfl,rfl⟩|⟨x,t,rfl,rfl⟩
  ·rcases cG hb with⟨j,u,rfl,e⟩|⟨y,u,rfl,e⟩
   ·injection e with e1 _;rw[e1]
   ·exact nomatch e
  ·rcases cG hb with⟨j,u,rfl,e⟩|⟨y,u,rfl,e⟩
   ·exact nomatch e
   ·injection e with e1 _;rw[e1]
 byValue:=λk v h=>by
  rcases cG h with⟨i,t,rfl,rfl⟩|⟨x,t,rfl,rfl⟩<;>rfl
 pyHash:=λhv h=>by
  rcases cG hv with⟨i,t,rfl,rfl⟩|⟨x,t,rfl,rfl⟩
  ·exact wpAny_pyHash_int h
  ·exact wpAny_pyHash_str h
 eqBool:=λhu hv h=>by
  rcases cG hu with⟨i,t,rfl,rfl⟩|⟨x,t,rfl,rfl⟩
  ·rcases cG hv with⟨j,u,rfl,rfl⟩|⟨y,u,rfl,rfl⟩
   ·rw[MQ]at h;exact wpAny_eqBool_int h
   ·rw[MP]at h;exact SeqAt.EqAt.int_str i t y u _ _ _ _ h
  ·rcases cG hv with⟨j,u,rfl,rfl⟩|⟨y,u,rfl,rfl⟩
   ·rw[MO]at h;exact SeqAt.EqAt.str_int x t j u _ _ _ _ h
   ·rw[MN]at h;exact wpAny_eqBool_str h
 «strs» := λk x t v h=>by
  rcases cG h with⟨i,u,rfl,e⟩|⟨y,u,rfl,e⟩
  ·exact nomatch e
  ·injection e with e1 _;subst e1;cases v<;>rfl
theorem xt(prog:Program)(w:World)(i:Int)(t:Tok):(dE prog w).is (.inl i) (.int i t)=true:=BZ i t
theorem xr(prog:Program)(w:World)(x:Str)(t:Tok):(dE prog w).is (.inr x) (.str x t)=true:=BY x t
inductive V where
 | non|bl (b:Bool)|int (i:Int)|str (x:Str)|byt (b:Array UInt8)|flt (b:UInt64)|ref (a:Addr)|ty (n:String)
 deriving DecidableEq
noncomputable def aW:V->Value->Prop
 | .non,u=>u=Value.none
 | .bl b,u=>u=Value.bool b
 | .int i,u => ∃t,u=Value.int i t
 | .str x,u => ∃t,u=Value.str x t
 | .byt b,u => ∃t,u=Value.bytes b t
 | .flt b,u => ∃t,u=Value.float b t
 | .ref a,u=>u=Value.ref a
 | .ty n,u=>u=Value.type n
abbrev aP:List V->List Value->Prop:=Paired aW
theorem aP.length{xs:List V}(r:aP xs us):xs.length=us.length:=Paired.length r
theorem aP.get:∀{xs:List V} {us:List Value} {i:Nat} {x:V},aP xs us->xs[i]?=some x->∃u,us[i]?=some u/\aW x u
 | _,_,_,_,.nil,e=>by simp at e
 | _,_,0,_,.cons r _,e=>by simp at e;subst e;exact⟨_,rfl,r⟩
 | _,_,i+1,x,.cons _ t,e=>by
  obtain⟨u,h1,h2⟩:=aP.get (i:=i) (x:=x) t (by simpa using e);exact⟨u,by simpa using h1,h2⟩
theorem aP.append:∀{xs ys:List V} {us ws:List Value},aP xs us->aP ys ws->aP (xs++ys) (us++ws)
 | _,_,_,_,.nil,s=>s
 | _,_,_,_,.cons r t,s=>.cons r (aP.append t s)
theorem aP.take:∀{xs:List V} {us:List Value} (n:Nat),aP xs us->aP (xs.take n) (us.take n)
 | _,_,0,_=>.nil
 | _,_,_+1,.nil=>.nil
 | _,_,n+1,.cons r t=>.cons r (aP.take n t)
theorem aP.drop:∀{xs:List V} {us:List Value} (n:Nat),aP xs us->aP (xs.drop n) (us.drop n)
 | _,_,0,r=>r
 | _,_,_+1,.nil=>.nil
 | _,_,n+1,.cons _ t=>aP.drop n t
def gO:Option V->Option Value->Prop
 | some v,some u=>aW v u
 | none,none=>True
 | _,_=>False
def KV{κ:Type}:List (κ×V)->List (κ×Value)->Prop:=Paired λ(p:κ×V) (q:κ×Value)=>p.1=q.1/\aW p.2 q.2
def kV:av->V
 | .inl i=>.int i
 | .inr x=>.str x
inductive HO where
  | lst (xs:List V)
  | tup (xs:List V)
  | dK (kvs:List (av×V))|dT (kvs:List (List av×V))
  | set (S:Int->Bool) (n:Nat)
  | ins (C dx:Addr) (fs:List (Str×V))
  | own (x:Addr)
  | xd (fs:List (Str×V))
  | met (f x:Addr)
  | rng (lo hi:Int)
  | frz (o:Obj) (u:HO)
  | tbl (ps:Array Value)
  | ext (φ:Heap->Prop)
abbrev Hp:=Addr->Option HO
def aA(H:Hp)(a:Addr)(o:HO):Hp:=λb=>if b=a then some o else H b
theorem aw{H:Hp}{o:HO}:aA H a o a=some o:=by unfold aA;rw[if_pos rfl]
theorem aq{H:Hp}{o:HO}(h:b≠a):aA H a o b=H b:=by unfold aA;rw[if_neg h]
theorem iw{H:Hp}{o u:HO}:aA (aA H a o) a u=aA H a u:=by
 funext b;unfold aA;split<;>rfl
theorem aR{H:Hp}{o:HO}(h:H a=some o)(h':H b=none):a≠b:=by
 intro e;subst e;rw[h]at h';cases h'
section
variable(P:Program)(w:World)
def ny(h:Heap)(a:Addr)(items:Array Value):Prop:=IsTup h a items/\∃o,h.get? a=some o/\o.dict=none
theorem ny.new(h:Heap)(items:Array Value):ny (h.push { cls:=.type "tuple", data:=.seq items }) h.objs.size items:=⟨IsTup.new h items,_,S6 _ rfl,rfl⟩
noncomputable def bz(H:Hp)(h:Heap)(a:Addr):HO->Prop
  | .lst xs=>xs.length<=sizeLine/\∃(its:List Value) (n:Nat),aP xs its/\h.get? a=some { cls:=.type "list", data:=.seq its.toArray n }
  | .tup xs=>xs.length<=sizeLine/\∃its:List Value,aP xs its/\ny h a its.toArray
  | .dK kvs=>kvs.length<=sizeLine/\(a==sysModules)=false/\∃vs,KV kvs vs/\h.DictOf (dE P w) a vs
  | .dT kvs=>kvs.length<=sizeLine/\(a==sysModules)=false/\∃xs:List (List av×Addr×Value),
      Paired (λ(p:List av×V) (q:List av×Addr×Value)=>p.1=q.1/\H q.2.1=some (.tup (p.1.map kV))/\aW p.2 q.2.2) kvs xs /\
      ∃o es ep,h.get? a=some o/\o.ExactDict/\o.data=.dict es ep/\es.toList=xs.map (entryOfKey (tupleKind (dE P w)))/\(xs.map (·.1)).Nodup
  | .set S n=>h.SetOf (intKind P w) a S n
  | .ins C dx fs=>H dx=some (.own a)/\fs.length<=1000/\dx≠a/\h.get? a=some (W.instObj C dx) /\
      ∃mA,h.Ns1 dx mA/\(∀f,gO (fs.lookup f) (mA f))/\PySem.Within mA (fs.map (·.1))
  | .own _ => ∃o,h.get? a=some o
  | .xd fs => ∃mA,h.Ns1 a mA/\∀f,gO (fs.lookup f) (mA f)
  | .rng lo hi => ∃t u v,h.get? a=some { cls:=.type "range", data:=.fields #[.int lo t,.int hi u,.int 1 v] }
  | .frz o u=>h.get? a=some o/\bz H h a u
  | .tbl ps=>h.get? a=some { cls:=.none,data:=.fields ps }
  | .met f x=>h.get? a=some (W.methodObj (.ref f) (.ref x))
  | .ext φ=>φ h/\(∃o,h.get? a=some o)/\∀h1 h2:Heap,φ h1->(∀o,h1.get? a=some o->h2.get? a=some o)->φ h2
def df(H:Hp)(h:Heap):Prop:=∀a o,H a=some o->bz P w H h a o
end
section
variable{H H':Hp}{h':Heap}{o:HO}
theorem bz.lt(x:bz P w H h a o):a<h.objs.size:=by
 cases o with
 | lst xs=>obtain⟨_,_,_,_,e⟩:=x;exact S1 e
 | tup xs=>obtain⟨_,_,_,p⟩:=x;exact p.1.lt
 | dK kvs=>obtain⟨_,_,_,_,o,_,_,e,_⟩:=x;exact S1 e
 | dT kvs=>obtain⟨_,_,_,_,o,_,_,e,_⟩:=x;exact S1 e
 | set S n=>obtain⟨o,_,_,_,e,_⟩:=x;exact S1 e
 | ins C dx fs=>obtain⟨_,_,_,e,_⟩:=x;exact S1 e
 | own y=>obtain⟨_,e⟩:=x;exact S1 e
 | xd fs=>obtain⟨_,⟨_,_,_,e,_⟩,_⟩:=x;exact S1 e
 | rng lo hi=>obtain⟨_,_,_,e⟩:=x;exact S1 e
 | frz ob u=>obtain⟨e,_⟩:=x;exact S1 e
 | tbl ps=>exact S1 (show h.get? a=some _ from x)
 | met f y=>exact S1 (show h.get? a=some _ from x)
 | ext φ=>obtain⟨_,⟨_,e⟩,_⟩:=x;exact S1 e
theorem Paired.mapP{α β:Type}{F G:α->β->Prop}:∀{l₁:List α} {l₂:List β},Paired F l₁ l₂->(∀a b,F a b->G a b)->Paired G l₁ l₂
 | _,_,.nil,_=>.nil
 | _,_,.cons r t,f=>.cons (f _ _ r) (Paired.mapP t f)
theorem bz.stay(x:bz P w H h a o)(k:∀b u,(b=a\/H b=some (.own a))->h.get? b=some u->h'.get? b=some u)
  (ho:∀b,H b=some (.own a)->H' b=some (.own a)) (ht:∀b xs,H b=some (.tup xs)->H' b=some (.tup xs)):bz P w H' h' a o:=by
 induction o with
 | lst xs=>obtain⟨z,its,n,r,e⟩:=x;exact⟨z,its,n,r,k _ _ (.inl rfl) e⟩
 | tup xs=>obtain⟨z,its,r,⟨ob,e,c⟩,o2,e2,d2⟩:=x;exact⟨z,its,r,⟨ob,k _ _ (.inl rfl) e,c⟩,o2,k _ _ (.inl rfl) e2,d2⟩
 | dK kvs=>obtain⟨z,y,vs,r,ob,es,ep,e,c⟩:=x;exact⟨z,y,vs,r,ob,es,ep,k _ _ (.inl rfl) e,c⟩
 | dT kvs =>
  obtain⟨z,y,xs,r,ob,es,ep,e,c⟩:=x;exact⟨z,y,xs,Paired.mapP r λp q z=>⟨z.1,ht _ _ z.2.1,z.2.2⟩,ob,es,ep,k _ _ (.inl rfl) e,c⟩
 | set S n=>obtain⟨ob,es,ep,t,e,c⟩:=x;exact⟨ob,es,ep,t,k _ _ (.inl rfl) e,c⟩
 | ins C dx fs =>
  obtain⟨d,z,ne,e,mA,⟨od,es,ep,e2,c⟩,r⟩:=x;exact⟨ho _ d,z,ne,k _ _ (.inl rfl) e,mA,⟨od,es,ep,k _ _ (.inr d) e2,c⟩,r⟩
 | own y=>obtain⟨ob,e⟩:=x;exact⟨ob,k _ _ (.inl rfl) e⟩
 | xd fs=>obtain⟨mA,⟨od,es,ep,e,c⟩,r⟩:=x;exact⟨mA,⟨od,es,ep,k _ _ (.inl rfl) e,c⟩,r⟩
 | rng lo hi=>obtain⟨t,u,v,e⟩:=x;exact⟨t,u,v,k _ _ (.inl rfl) e⟩
 | frz ob u ih=>obtain⟨e,q⟩:=x;exact⟨k _ _ (.inl rfl) e,ih q⟩
 | tbl ps =>
  have e:h.get? a=some { cls:=.none,data:=.fields ps }:=x;show h'.get? a=some { cls:=.none,data:=.fields ps };exact k a _ (.inl rfl) e
 | met f y =>
  have e:h.get? a=some (W.methodObj (.ref f) (.ref y)):=x;show h'.get? a=some (W.methodObj (.ref f) (.ref y));exact k a _ (.inl rfl) e
 | ext φ=>obtain⟨p,⟨o,e⟩,st⟩:=x;exact⟨st _ _ p λo q=>k _ _ (.inl rfl) q,⟨o,k _ _ (.inl rfl) e⟩,st⟩
theorem df.lt(x:df P w H h)(e:H a=some o):a<h.objs.size:=(x a o e).lt
theorem df.fresh(x:df P w H h)(e:h.objs.size<=a):H a=none:=by
 cases q:H a with
 | none=>rfl
 | some u=>exact absurd (S4 (x.lt q) e) (TH _)
theorem df.kept(x:df P w H h)(k:∀b u,h.get? b=some u->h'.get? b=some u):df P w H h':=λa o e =>
 (x a o e).stay (λb u _ q=>k b u q) (λ_ q=>q) λ_ _ q=>q
theorem df.laid(x:df P w H h)(k:∀b u,h.get? b=some u->h'.get? b=some u)(hp:h.objs.size<=a)(new:bz P w (aA H a o) h' a o):df P w (aA H a o) h':=λb u e=>by
 have hn:=x.fresh hp;by_cases hb:b=a
 ·subst hb;rw[aw]at e;cases e;exact new
 ·rw[aq hb]at e;exact(x b u e).stay (λc v _ q=>k c v q) (λc q=>by rw[aq (aR q hn)];exact q) λc xs q=>by rw[aq (aR q hn)];exact q
end
def Rd(H:Hp)(a:Addr)(u:HO):Prop:=H a=some u\/∃o,H a=some (.frz o u)
theorem Rd.ok{H:Hp}{u:HO}(r:Rd H a u)(x:df P w H h):bz P w H h a u:=by
 rcases r with r|⟨o,r⟩
 ·exact x a u r
 ·obtain⟨_,q⟩:=x a _ r;exact q
noncomputable def GU:Option HO->Prop
 | some (.lst _)=>True
 | some (.dK _)=>True
 | some (.dT _)=>True
 | some (.set _ _)=>True
 | some (.ins _ _ _)=>True
 | some (.ext _)=>True
 | _=>False
section
variable{H:Hp}{h':Heap}{x e:Addr}{o':HO}
theorem df.write(ok:df P w H h)(mu:GU (H x))(he:e=x\/H e=some (.own x))(k:∀b u,b≠e->h.get? b=some u->h'.get? b=some u)(heo:∃u,h'.get? e=some u)
  (new:bz P w (aA H x o') h' x o'):df P w (aA H x o') h':=λb u q=>by
 have nown:∀c y,H c=some (.own y)->c≠x:=λc y r z=>by subst z;rw[r]at mu;exact mu
 have ntup:∀c xs,H c=some (.tup xs)->c≠x:=λc xs r z=>by subst z;rw[r]at mu;exact mu
 by_cases hb:b=x
 ·subst hb;rw[aw]at q;cases q;exact new
 ·rw[aq hb]at q;by_cases hbe:b=e
  ·have q':H b=some (.own x):=by
    rcases he with z|z
    ·exact absurd (hbe.trans z) hb
    ·rw[hbe];exact z
   rw[q]at q';cases q';obtain⟨v,hv⟩:=heo;exact⟨v,by rw[hbe];exact hv⟩
  ·refine(ok b u q).stay (λc v hc r=>k c v ?_ r) (λc r=>by rw[aq (nown c b r)];exact r) λc xs r=>by rw[aq (ntup c xs r)];exact r
   rcases hc with rfl|hc
   ·exact hbe
   ·rintro rfl;rcases he with z|z
    ·exact nown c b hc z
    ·rw[hc]at z;cases z;exact hb rfl
end
structure Un(fs ex:List Addr)(H H':Hp)(h h':Heap):Prop where
 keep:∀b o,h.get? b=some o->H b=none->b∉fs->b∉ex->h'.get? b=some o
 slot:∀b o,h.get? b=some o->H b=none->b∈fs->b∉ex->∃sl,h'.get? b=some { o with slots:=sl }
 free:∀b o,h.get? b=some o->H b=none->b∉ex->H' b=none
 there:∀b o,h.get? b=some o->b∉ex->∃o',h'.get? b=some o'
 tups:∀b xs,H b=some (.tup xs)->H' b=some (.tup xs)
 frzs:∀b o u,H b=some (.frz o u)->H' b=some (.frz o u)
 tbls:∀b ps,H b=some (.tbl ps)->∃more,H' b=some (.tbl (ps++more))
section
variable{fs fs' ex ex':List Addr}{H H1 H2:Hp}{h1 h2 h':Heap}{x e:Addr}{o:HO}
theorem Un.any(u:Un fs ex H H1 h h1){ob:Obj}(q:h.get? b=some ob)(n:H b=none)(hx:b∉ex):∃sl,h1.get? b=some { ob with slots:=sl }:=by
 by_cases hb:b∈fs
 ·exact u.slot b ob q n hb hx
 ·exact⟨ob.slots,u.keep b ob q n hb hx⟩
theorem Un.kept(k:∀b u,h.get? b=some u->h'.get? b=some u):Un fs ex H H h h' :=
 ⟨λb ob q _ _ _=>k b ob q,λb ob q _ _ _=>⟨ob.slots,k b ob q⟩,λ_ _ _ n _=>n,λb ob q _=>⟨ob,k b ob q⟩,λ_ _ q=>q,λ_ _ _ q=>q,λ_ ps q=>⟨#[],by rw[q];simp⟩⟩
theorem Un.refl:Un fs ex H H h h:=Un.kept λ_ _ q=>q
theorem Un.laid(k:∀b u,h.get? b=some u->h'.get? b=some u)(hp:h.objs.size<=a)(hn:H a=none):Un fs ex H (aA H a o) h h' where
 keep:=λb u q _ _ _=>k b u q
 slot:=λb u q _ _ _=>⟨u.slots,k b u q⟩
 free:=λb u q n _=>by rw[aq (Ts (S4 (S1 q) hp))];exact n
 there:=λb u q _=>⟨u,k b u q⟩
 tups:=λb xs q=>by rw[aq (aR q hn)];exact q
 frzs:=λb u xs q=>by rw[aq (aR q hn)];exact q
 tbls:=λb ps q=>⟨#[],by rw[aq (aR q hn),q];simp⟩
theorem Un.write(mu:GU (H x))(he:e=x\/H e=some (.own x))(k:∀b u,b≠e->h.get? b=some u->h'.get? b=some u)(heo:∃u,h'.get? e=some u):Un fs ex H (aA H x o) h h':=by
 have hx:∀b,H b=none->b≠x:=λb n z=>by subst z;rw[n]at mu;exact mu
 have hb:∀b,H b=none->b≠e:=λb n z=>by
  subst z;rcases he with r|r
  ·exact hx b n r
  ·rw[n]at r;cases r
 have hm:∀b u,H b=some u -> ¬ GU (some u)->b≠x:=λb u q nm z=>by subst z;rw[q]at mu;exact nm mu
 refine⟨λb u q n _ _=>k b u (hb b n) q,λb u q n _ _=>⟨u.slots,k b u (hb b n) q⟩,λb u q n _=>by rw[aq (hx b n)];exact n,λb u q _=>?_,
  λb xs q=>by rw[aq (hm b _ q λz=>z)];exact q,λb u xs q=>by rw[aq (hm b _ q λz=>z)];exact q,λb ps q=>⟨#[],by rw[aq (hm b _ q λz=>z),q];simp⟩⟩
 by_cases hbe:b=e
 ·subst hbe;exact heo
 ·exact⟨u,k b u hbe q⟩
end
def FC(h:Heap)(H:Hp):List Addr:=(List.range h.objs.size).filter λa=>(H a).isSome
def lR(h:Heap)(H:Hp):Heap:=W.hideAll h (FC h H)
theorem Ce(h:Heap)(H:Hp):(lR h H).objs.size=h.objs.size:=W.hideAll_size _ _
theorem Em{H:Hp}(e:h.get? b=some o)(n:H b=none):(lR h H).get? b=some o :=
 W.hideAll_get _ e λhm=>by
  have q:(H b).isSome=true:=(UY.mp hm).2;rw[n]at q;simp at q
theorem IR{H:Hp}(e:(lR h H).get? b=some o):h.get? b=some o/\H b=none:=by
 have e':h.get? b=some o:=W.of_hideAll (FC h H) e;refine⟨e',?_⟩;cases q:H b with
 | none=>rfl
 | some x =>
  have hm:b∈FC h H:=UY.mpr ⟨US.mpr (S1 e'),by simp[q]⟩;have z:(lR h H).get? b=none:=W.hideAll_none (FC h H) hm;rw[z]at e;cases e
variable{v y:V}{H:Hp}{R:V->V->Hp->Prop}{vs:List V}
structure Mod(K:W.Frag)(mg:Str->Option Value)(base:Heap):Prop where
 kin:K.In base
 glob:base.Ns mainGlobals mg
 blt:∃mb,base.Ns builtinsNs mb/\∀x:Str,x ≠ "__name__" -> mb x=bootBuiltins x
 nolimit:base.NoLimit
structure Cx where
 prog:Program
 w:World
 K:W.Frag
 mg:Str->Option Value
 base:Heap
 A:Around
 N:List Str
 s₀:Shared
 H₀:Hp
 env:Env
 outer:List Env
 stack:List Env
 ex:List Addr
 fn:Str->Bool
 calm:Bool
 pn:List (Addr×Obj)
 xe:Value->Shared->Prop
def bW(l:List Env):List Addr:=l.filterMap (·.frame)
abbrev Cx.fs(X:Cx):List Addr:=bW X.outer
def me(sc:Scope)(x:Str):Prop:=sc.names.lookup x=some .local\/sc.names.lookup x=some .cell\/sc.names.lookup x=some .free
def yQ(sc:Scope)(x:Str):Prop:=sc.names.lookup x=some .local\/sc.names.lookup x=some .cell
noncomputable def R4(env:Env)(h:Heap)(m:Str->Option Value)(x:Str)(u:Value):Prop :=
 (env.kindOf x=some .local/\m x=some u)\/((env.kindOf x=some .cell\/env.kindOf x=some .free)/\∃c,env.cells.lookup x=some c/\h.IsCell c (some u))
structure Cx.Ok(X:Cx):Prop where
 mod:Mod X.K X.mg X.base
 kind:X.env.scope.kind=.function
 glob:X.env.globals=mainGlobals
 blt:X.env.builtins=builtinsNs
 above:X.s₀.heap.objs.size<=X.env.locals
 inj:∀x y c,X.env.cells.lookup x=some c->X.env.cells.lookup y=some c->x=y
 has:∀x,(X.env.kindOf x=some .cell\/X.env.kindOf x=some .free)->∃c,X.env.cells.lookup x=some c
 cab:∀x c,X.fn x=true->X.env.cells.lookup x=some c->X.s₀.heap.objs.size<=c
 hd:X.calm=true->X.A.handled=none
 frames:X.A.frames=some X.stack
 stk:X.stack=X.outer\/(X.stack=X.env::X.outer/\X.env.frame=some X.env.locals)
 exf:∀b∈X.ex,b≠X.env.locals/\∀x c,X.env.cells.lookup x=some c->c≠b
 bs:∀b o,X.base.get? b=some o->X.s₀.heap.get? b=some o/\X.H₀ b=none
 bsz:X.base.objs.size<=X.s₀.heap.objs.size
 noex:∀b o,X.base.get? b=some o->b∉X.ex
 exfs:∀b∈X.ex,b∉X.fs
 funs:X.s₀.heap.FunFrames X.base X.outer
 frf:∀b∈X.fs,X.H₀ b=none
structure aj(X:Cx)(dl:List (Addr×Obj))(Z:List (Option V))(H:Hp)(s:Shared):Prop where
 ok:X.Ok
 os:s.os=X.s₀.os
 bare:AllBare s.gens
 base:Un X.fs X.ex X.H₀ H X.s₀.heap s.heap
 loc:∃m,s.heap.Ns X.env.locals m/\∀(i:Nat) (x:Str) (v:V),X.N[i]?=some x->Z[i]?=some (some v)->me X.env.scope x->∃u,aW v u/\R4 X.env s.heap m x u
 cell:∀x c,X.env.cells.lookup x=some c->∃v,s.heap.IsCell c v
 free:H X.env.locals=none
 freeC:∀x c,X.env.cells.lookup x=some c->H c=none
 pin:∀p∈X.pn++dl,s.heap.get? p.1=some p.2/\H p.1=none/\p.1≠X.env.locals/\p.1∉X.fs/\∀v,p.2.data ≠ .cell v
 hok:df X.prog X.w H s.heap
 len:Z.length=X.N.length
section
variable{X:Cx}{Z:List (Option V)}{H':Hp}{h':Heap}
theorem Cx.Ok.nofr(ok:X.Ok)(e:X.base.get? b=some o):b∉X.fs:=λhb=>by
 have:=(ok.funs.mem hb).1;rw[e]at this;cases this
theorem aj.bs(I:aj X dl Z H s):∀b o,X.base.get? b=some o->s.heap.get? b=some o/\H b=none:=λb o e =>
 ⟨I.base.keep b o (I.ok.bs b o e).1 (I.ok.bs b o e).2 (I.ok.nofr e) (I.ok.noex b o e),I.base.free b o (I.ok.bs b o e).1 (I.ok.bs b o e).2 (I.ok.noex b o e)⟩
theorem aj.bk(I:aj X dl Z H s):∀b o,X.base.get? b=some o->s.heap.get? b=some o:=λb o e=>(I.bs b o e).1
theorem aj.mod(I:aj X dl Z H s):Mod X.K X.mg X.base:=I.ok.mod
theorem aj.kIn(I:aj X dl Z H s):X.K.In s.heap:=I.ok.mod.kin.keeps I.bk
theorem aj.nolimit(I:aj X dl Z H s):s.heap.NoLimit:=I.ok.mod.nolimit.keeps I.bk
theorem aj.lt(I:aj X dl Z H s):X.env.locals<s.heap.objs.size:=let ⟨_,hn,_⟩:=I.loc;hn.lt
theorem aj.sz(I:aj X dl Z H s):X.s₀.heap.objs.size<=s.heap.objs.size:=SZ I.ok.above (Ud I.lt)
theorem aj.nofs(I:aj X dl Z H s)(h:s.heap.objs.size<=a):a∉X.fs:=λhb=>by
 obtain⟨_,o,ho,_⟩:=I.ok.funs.mem hb;exact absurd (S4 (S1 ho) (SZ I.sz h)) (TH _)
theorem aj.cne(I:aj X dl Z H s):∀x c,X.env.cells.lookup x=some c->c≠X.env.locals:=λx c e z=>by
 obtain⟨v,o,ho,hd⟩:=I.cell x c e;obtain⟨m,⟨o',es,ep,ho',hd',_⟩,_⟩:=I.loc;rw[z,ho']at ho;cases ho;rw[hd']at hd;cases hd
theorem aj.funs(I:aj X dl Z H s):s.heap.FunFrames X.base X.outer:=by
 have all:∀(l:List Env),(∀b∈bW l,b∈X.fs)->X.s₀.heap.FunFrames X.base l->s.heap.FunFrames X.base l:=by
  intro l;induction l with
  | nil=>intro _ _;trivial
  | cons env r ih =>
   intro hs hl;obtain⟨hk,⟨L,o,hf,hn,ho,hd⟩,hr⟩:=hl;have hL:L∈X.fs:=hs L (by unfold bW;rw[Ut,hf];exact SV);obtain⟨sl,e⟩:=I.base.slot L o ho (I.ok.frf L hL) hL λz=>I.ok.exfs L z hL
   exact⟨hk,⟨L,_,hf,hn,e,hd⟩,ih (λb hb=>hs b (by unfold bW;rw[Ut,hf];exact SR _ hb)) hr⟩
 exact all X.outer (λ_ hb=>hb) I.ok.funs
theorem aj.stack(I:aj X dl Z H s):s.heap.FunFrames X.base X.stack:=by
 rcases I.ok.stk with e|⟨e,hf⟩
 ·rw[e];exact I.funs
 ·rw[e];obtain⟨m,hn,_⟩:=I.loc;refine .cons (by rw[I.ok.kind];decide) hf hn ?_ I.funs;exact UK (SZ I.ok.bsz I.ok.above)
theorem aj.stkSub(I:aj X dl Z H s):∀b∈bW X.stack,b∈X.env.locals::X.fs:=λb hb=>by
 rcases I.ok.stk with e|⟨e,hf⟩
 ·rw[e]at hb;exact SR _ hb
 ·rw[e]at hb;unfold bW at hb;rw[Ut,hf]at hb;exact hb
theorem aj.stkFree(I:aj X dl Z H s):∀b∈bW X.stack,H b=none:=λb hb=>by
 rcases SS.mp (I.stkSub b hb)with e|hb
 ·rw[e];exact I.free
 ·obtain⟨_,o,ho,_⟩:=I.ok.funs.mem hb;exact I.base.free b o ho (I.ok.frf b hb) λz=>I.ok.exfs b z hb
theorem aj.step{t':Nat}{d':Drawn}(I:aj X dl Z H s)
  (hch:∀b∈ch,(b∈X.ex\/X.s₀.heap.objs.size<=b)/\b≠X.env.locals/\(∀x c,X.env.cells.lookup x=some c->c≠b)/\∀p∈X.pn++dl,p.1≠b)
  (keep:∀b o,b≠X.env.locals->b∉X.fs->b∉ch->s.heap.get? b=some o->H b=none->h'.get? b=some o)
  (slot:∀b o,b≠X.env.locals->b∈X.fs->b∉ch->s.heap.get? b=some o->H b=none->∃sl,h'.get? b=some { o with slots:=sl }) (free:∀b o,b∉ch->s.heap.get? b=some o->H b=none->H' b=none)
  (there:∀b o,b∉ch->s.heap.get? b=some o->∃o',h'.get? b=some o')
  (tups:∀b xs,H b=some (.tup xs)->H' b=some (.tup xs)) (frzs:∀b o u,H b=some (.frz o u)->H' b=some (.frz o u)) (tbls:∀b ps,H b=some (.tbl ps)->∃more,H' b=some (.tbl (ps++more)))
  (ns:∀m,s.heap.Ns X.env.locals m->h'.Ns X.env.locals m) (hok:df X.prog X.w H' h') (hg:AllBare g') :
  aj X dl Z H' { s with heap:=h',gens:=g',drawn:=d',toks:=t' }:=by
 have neL:∀b o,X.s₀.heap.get? b=some o->b≠X.env.locals:=λb o e=>Ts (S4 (S1 e) I.ok.above)
 have neC:∀b o,X.s₀.heap.get? b=some o->b∉X.ex->b∉ch:=λb o e hx hb=>by
  rcases(hch b hb).1 with z|z
  ·exact hx z
  ·exact absurd (S4 (S1 e) z) (TH _)
 have cellK:∀x c,X.env.cells.lookup x=some c->∀v,s.heap.IsCell c v->h'.IsCell c v:=λx c e v ⟨o,ho,hd⟩=>by
  have nch:c∉ch:=λz=>(hch c z).2.2.1 x c e rfl
  by_cases hc:c∈X.fs
  ·obtain⟨sl,q⟩:=slot c o (I.cne x c e) hc nch ho (I.freeC x c e);exact⟨_,q,hd⟩
  ·exact⟨o,keep c o (I.cne x c e) hc nch ho (I.freeC x c e),hd⟩
 refine⟨I.ok,I.os,hg,⟨λb o e n hb hx=>?_,λb o e n hb hx=>?_,λb o e n hx=>?_,λb o e hx=>?_,λb xs e=>tups b xs (I.base.tups b xs e),λb o xs e=>frzs b o xs (I.base.frzs b o xs e),λb ps e=>?_⟩,?_,λx c e=>?_,?_,λx c e=>?_,λp hp=>?_,hok,I.len⟩
 ·exact keep b o (neL b o e) hb (neC b o e hx) (I.base.keep b o e n hb hx) (I.base.free b o e n hx)
 ·obtain⟨sl,e1⟩:=I.base.slot b o e n hb hx;obtain⟨sl',e2⟩:=slot b _ (neL b o e) hb (neC b o e hx) e1 (I.base.free b o e n hx);exact⟨sl',e2⟩
 ·obtain⟨o',e1⟩:=I.base.there b o e hx;exact free b o' (neC b o e hx) e1 (I.base.free b o e n hx)
 ·obtain⟨o',e1⟩:=I.base.there b o e hx;exact there b o' (neC b o e hx) e1
 ·obtain⟨m1,e1⟩:=I.base.tbls b ps e;obtain⟨m2,e2⟩:=tbls b _ e1;exact⟨m1++m2,by rw[e2,Array.append_assoc]⟩
 ·obtain⟨m,hn,hl⟩:=I.loc;refine⟨m,ns m hn,λi x v e1 e2 e3=>?_⟩;obtain⟨u,r,l⟩:=hl i x v e1 e2 e3;refine⟨u,r,?_⟩;rcases l with l|⟨k,c,e,z⟩
  ·exact .inl l
  ·exact .inr ⟨k,c,e,cellK x c e _ z⟩
 ·obtain⟨v,z⟩:=I.cell x c e;exact⟨v,cellK x c e v z⟩
 ·obtain⟨m,⟨o,_,_,ho,_⟩,_⟩:=I.loc;exact free _ o (λz=>(hch _ z).2.1 rfl) ho I.free
 ·obtain⟨v,o,ho,hd⟩:=I.cell x c e;exact free c o (λz=>(hch c z).2.2.1 x c e rfl) ho (I.freeC x c e)
 ·obtain⟨e,n,ne,nf,d⟩:=I.pin p hp;have nch:p.1∉ch:=λz=>(hch p.1 z).2.2.2 p hp rfl
  exact⟨keep p.1 p.2 ne nf nch e n,free p.1 p.2 nch e n,ne,nf,d⟩
theorem aj.un{t':Nat}(I:aj X dl Z H s)(u:Un X.fs [] H H' s.heap h')(hok:df X.prog X.w H' h'):aj X dl Z H' { s with heap:=h',toks:=t' }:=by
 obtain⟨m,⟨o,es,ep,ho,r⟩,_⟩:=id I.loc;obtain⟨sl,hL⟩:=u.any ho I.free (by simp);exact I.step (g':=s.gens) (d':=s.drawn) (ch:=[]) (λ_ z=>nomatch z) (λb o _ hb _ e n=>u.keep b o e n hb (by simp)) (λb o _ hb _ e n=>u.slot b o e n hb (by simp)) (λb o _ e n=>u.free b o e n (by simp)) (λb o _ e=>u.there b o e (by simp)) u.tups u.frzs u.tbls (λm' hm=>by
  obtain⟨o',es',ep',ho',r'⟩:=hm;rw[ho]at ho';cases ho';exact⟨_,es',ep',hL,r'⟩) hok I.bare
theorem aj.call{t':Nat}{d':Drawn}(I:aj X dl Z H s)(u:Un (bW X.stack) ch H H' s.heap h')(hok:df X.prog X.w H' h')(hg:AllBare g')
  (hch:∀b∈ch,(b∈X.ex\/X.s₀.heap.objs.size<=b)/\b≠X.env.locals/\(∀x c,X.env.cells.lookup x=some c->c≠b)/\∀p∈X.pn++dl,p.1≠b) :
  aj X dl Z H' { s with heap:=h',gens:=g',drawn:=d',toks:=t' }:=by
 obtain⟨m,⟨o,es,ep,ho,r⟩,_⟩:=id I.loc;obtain⟨sl,hL⟩:=u.any ho I.free λz=>(hch _ z).2.1 rfl
 exact I.step (ch:=ch) hch (λb o hL hb hc e n=>u.keep b o e n (λz=>(SS.mp (I.stkSub b z)).elim hL hb) hc) (λb o _ _ hc e n=>u.any e n hc) (λb o hc e n=>u.free b o e n hc) (λb o hc e=>u.there b o e hc) u.tups u.frzs u.tbls (λm' hm=>by
  obtain⟨o',es',ep',ho',r'⟩:=hm;rw[ho]at ho';cases ho';exact⟨_,es',ep',hL,r'⟩) hok hg
theorem aj.turned{t':Nat}(I:aj X dl Z H s)(k:∀b o,b≠it->s.heap.get? b=some o->h'.get? b=some o)(hn:H it=none)(hL:it≠X.env.locals)
  (h1:it∈X.ex\/X.s₀.heap.objs.size<=it) (h2:∀x c,X.env.cells.lookup x=some c->c≠it) (h3:∀p∈X.pn++dl,p.1≠it):aj X dl Z H { s with heap:=h',toks:=t' }:=by
 have nit:∀b u,H b=some u->b≠it:=λb u e z=>by rw[z,hn]at e;cases e
 refine I.step (g':=s.gens) (d':=s.drawn) (ch:=[it]) (λb hb=>?_) (λb o _ _ hc e _=>k b o (λz=>hc (by simp[z])) e) (λb o _ _ hc e _=>⟨o.slots,k b o (λz=>hc (by simp[z])) e⟩) (λ_ _ _ _ n=>n)
  (λb o hc e=>⟨o,k b o (λz=>hc (by simp[z])) e⟩) (λ_ _ e=>e) (λ_ _ _ e=>e) (λb ps e=>⟨#[],by rw[e];simp⟩) (λm hm=>?_) (λb u e=>?_) I.bare
 ·have e:b=it:=by simpa using hb
  subst e;exact⟨h1,hL,h2,h3⟩
 ·obtain⟨o,es,ep,ho,r⟩:=hm;exact⟨o,es,ep,k _ o (Ub hL) ho,r⟩
 ·refine(I.hok b u e).stay (λc v hc q=>k c v ?_ q) (λ_ q=>q) λ_ _ q=>q
  rcases hc with z|z
  ·rw[z];exact nit b u e
  ·exact nit c _ z
theorem aj.tok(I:aj X dl Z H s)(t:Nat):aj X dl Z H { s with toks:=t }:=I.un (h':=s.heap) (t':=t) Un.refl I.hok
theorem aj.kept{t':Nat}(I:aj X dl Z H s)(k:∀b u,s.heap.get? b=some u->h'.get? b=some u):aj X dl Z H { s with heap:=h',toks:=t' }:=I.un (Un.kept k) (I.hok.kept k)
theorem aj.laid{o:HO}{t':Nat}(I:aj X dl Z H s)(k:∀b u,s.heap.get? b=some u->h'.get? b=some u)(hp:s.heap.objs.size<=a)(new:bz X.prog X.w (aA H a o) h' a o) :
  aj X dl Z (aA H a o) { s with heap:=h',toks:=t' }:=I.un (Un.laid k hp (I.hok.fresh hp)) (I.hok.laid k hp new)
theorem aj.write{x e:Addr}{o:HO}{t':Nat}(I:aj X dl Z H s)(mu:GU (H x))(he:e=x\/H e=some (.own x))(k:∀b u,b≠e->s.heap.get? b=some u->h'.get? b=some u)(heo:∃u,h'.get? e=some u)
  (new:bz X.prog X.w (aA H x o) h' x o):aj X dl Z (aA H x o) { s with heap:=h',toks:=t' }:=I.un (Un.write mu he k heo) (I.hok.write mu he k heo new)
theorem aj.pins_of{pins':List (Addr×Obj)}(I:aj X dl Z H s)(h:∀p∈pins',s.heap.get? p.1=some p.2/\H p.1=none/\p.1≠X.env.locals/\p.1∉X.fs/\∀v,p.2.data ≠ .cell v):aj X pins' Z H s :=
 ⟨I.ok,I.os,I.bare,I.base,I.loc,I.cell,I.free,I.freeC,λp hp=>(TZ.mp hp).elim (λz=>I.pin p (List.mem_append_left _ z)) (h p),I.hok,I.len⟩
theorem lO(hN:N.Nodup)(a:N[i]?=some x)(b:N[j]?=some x):i=j:=by
 obtain⟨h1,e1⟩:=Tl.mp a;obtain⟨h2,e2⟩:=Tl.mp b;exact(List.getElem_inj hN).mp (e1.trans e2.symm)
theorem A7{Q:Unit->Shared->Prop}(I:aj X dl Z H s)(hN:X.N.Nodup)(hi:X.N[i]?=some x)(hx:yQ X.env.scope x)(r:aW v u)
  (h:∀s',aj X dl (Z.set i (some v)) H s'->(∃a,Heap.SameBut a s.heap s'.heap/\(a=X.env.locals\/X.env.cells.lookup x=some a))->Q () s') (hf:X.fn x=true\/X.env.scope.names.lookup x=some .local:=by first|exact .inl rfl|exact .inr rfl|assumption):wpAny M A (storeName X.env x u) Q E s:=by
 obtain⟨m,hn,hl⟩:=id I.loc;have hcls:(X.env.scope.kind == .class || (X.env.scope.kind == .module&&X.env.locals != X.env.globals))=false:=by rw[I.ok.kind];rfl
 have hiZ:i<Z.length:=by rw[I.len];exact(Tl.mp hi).1
 have cne:=I.cne;have tracked:∀{a:Addr} {h':Heap},(∃o,s.heap.get? a=some o/\H a=none)->Heap.SameBut a s.heap h'->df X.prog X.w H h':=λ{a h'} ha hs b ob e=>by
  obtain⟨_,_,hfree⟩:=ha;refine(I.hok b ob e).stay (λc w' hc q=>(hs.2 c ?_).trans q) (λ_ q=>q) λ_ _ q=>q
  rintro rfl;rcases hc with rfl|hc
  ·rw[hfree]at e;cases e
  ·rw[hfree]at hc;cases hc
 rcases hx with hk|hk
 ·refine wpAny_storeName_local hk hn (λh' hn' hs=>?_) hcls;obtain⟨oL,_,_,hoL,_⟩:=id hn;refine h _ ⟨I.ok,I.os,I.bare,⟨λb o e n hb hx=>?_,λb o e n hb hx=>?_,I.base.free,λb o e hx=>?_,I.base.tups,I.base.frzs,I.base.tbls⟩,⟨_,hn',λj y v' e1 e2 e3=>?_⟩,λy c e=>?_,I.free,I.freeC,λp hp=>?_,tracked ⟨oL,hoL,I.free⟩ hs,by simpa using I.len⟩ ⟨_,hs,.inl rfl⟩
  ·exact(hs.2 b (Ts (S4 (S1 e) I.ok.above))).trans (I.base.keep b o e n hb hx)
  ·obtain⟨sl,e1⟩:=I.base.slot b o e n hb hx;exact⟨sl,(hs.2 b (Ts (S4 (S1 e) I.ok.above))).trans e1⟩
  ·obtain⟨o',e1⟩:=I.base.there b o e hx;exact⟨o',(hs.2 b (Ts (S4 (S1 e) I.ok.above))).trans e1⟩
  ·by_cases hj:j=i
   ·subst hj;rw[hi]at e1;cases e1;rw[UF hiZ]at e2;cases e2;exact⟨u,r,.inl ⟨hk,by simp⟩⟩
   ·rw[Ul (Ub hj)]at e2;obtain⟨u',r',q⟩:=hl j y v' e1 e2 e3;refine⟨u',r',?_⟩;rcases q with⟨k,e⟩|⟨k,c,e,z⟩
    ·refine .inl ⟨k,?_⟩;have:y≠x:=λe=>hj (lO hN e1 (e ▸ hi))
     simp[this,e]
    ·exact .inr ⟨k,c,e,z.sameBut hs (cne y c e)⟩
  ·obtain⟨w',z⟩:=I.cell y c e;exact⟨w',z.sameBut hs (cne y c e)⟩
  ·obtain⟨e,n,ne,nf,d⟩:=I.pin p hp;exact⟨(hs.2 p.1 ne).trans e,n,ne,nf,d⟩
 ·have hfn:X.fn x=true:=by
   rcases hf with z|z
   ·exact z
   ·rw[z]at hk;cases hk
  obtain⟨c,hc⟩:=I.ok.has x (.inl hk);obtain⟨w',z⟩:=I.cell x c hc;refine wpAny_storeName_cell I.ok.kind hk hc z (λh' hc' hs=>?_);obtain⟨oc,hoc,hocd⟩:=id z;refine h { s with heap:=h' } ⟨I.ok,I.os,I.bare,⟨λb o e n hb hx=>?_,λb o e n hb hx=>?_,I.base.free,λb o e hx=>?_,I.base.tups,I.base.frzs,I.base.tbls⟩,⟨m,hn.sameBut hs (Ub (cne x c hc)),λj y v' e1 e2 e3=>?_⟩,λy c' e=>?_,I.free,I.freeC,λp hp=>?_,tracked ⟨oc,hoc,I.freeC x c hc⟩ hs,by simpa using I.len⟩ ⟨c,hs,.inr hc⟩
  ·exact(hs.2 b (Ts (S4 (S1 e) (I.ok.cab x c hfn hc)))).trans (I.base.keep b o e n hb hx)
  ·obtain⟨sl,e1⟩:=I.base.slot b o e n hb hx;exact⟨sl,(hs.2 b (Ts (S4 (S1 e) (I.ok.cab x c hfn hc)))).trans e1⟩
  ·obtain⟨o',e1⟩:=I.base.there b o e hx;exact⟨o',(hs.2 b (Ts (S4 (S1 e) (I.ok.cab x c hfn hc)))).trans e1⟩
  ·by_cases hj:j=i
   ·subst hj;rw[hi]at e1;cases e1;rw[UF hiZ]at e2;cases e2;exact⟨u,r,.inr ⟨.inl hk,c,hc,hc'⟩⟩
   ·rw[Ul (Ub hj)]at e2;obtain⟨u',r',q⟩:=hl j y v' e1 e2 e3;refine⟨u',r',?_⟩;rcases q with q|⟨k,c',e,z'⟩
    ·exact .inl q
    ·refine .inr ⟨k,c',e,z'.sameBut hs ?_⟩;rintro rfl;exact hj (lO hN e1 (I.ok.inj _ _ _ e hc ▸ hi))
  ·by_cases hcc:c'=c
   ·subst hcc;exact⟨_,hc'⟩
   ·obtain⟨w2,z2⟩:=I.cell y c' e;exact⟨w2,z2.sameBut hs hcc⟩
  ·obtain⟨e,n,ne,nf,d⟩:=I.pin p hp;refine⟨(hs.2 p.1 ?_).trans e,n,ne,nf,d⟩;intro q;rw[q,hoc]at e;have q':oc=p.2:=TN e;exact d w' (by rw[<- q'];exact hocd)
theorem oW{Q:Unit->Shared->Prop}(I:aj X dl Z H s)(hN:X.N.Nodup)(hi:X.N[i]?=some x)(hx:yQ X.env.scope x)(r:aW v u)
  (h:∀s',aj X dl (Z.set i (some v)) H s'->Q () s') (hf:X.fn x=true\/X.env.scope.names.lookup x=some .local:=by first|exact .inl rfl|exact .inr rfl|assumption):wpAny M A (storeName X.env x u) Q E s :=
 A7 I hN hi hx r (λs' I' _=>h s' I') hf
theorem aj.call'(I:aj X dl Z H s)(ho:s'.os=s.os)(u:Un (bW X.stack) ch H H' s.heap s'.heap)(hok:df X.prog X.w H' s'.heap)(hg:AllBare s'.gens)
  (hch:∀b∈ch,(b∈X.ex\/X.s₀.heap.objs.size<=b)/\b≠X.env.locals/\(∀x c,X.env.cells.lookup x=some c->c≠b)/\∀p∈X.pn++dl,p.1≠b):aj X dl Z H' s':=by
 obtain⟨h',g',d',t',o'⟩:=s';have e:o'=s.os:=ho;subst e;exact I.call (g':=g') (t':=t') (d':=d') u hok hg hch
end
abbrev XK:=Value->Option Addr->Hp->Prop
abbrev St:=List (Option V)
abbrev VK:=V->Hp->Prop
abbrev TE:=St->Hp->VK->Prop
abbrev TT:=St->Hp->(Bool->Hp->Prop)->Prop
abbrev TA:=St->Hp->(List V->Hp->Prop)->Prop
structure kl where
 nx:St->Hp->Prop
 rt:VK
 bk:St->Hp->Prop:=λ_ _=>False
 ct:St->Hp->Prop:=λ_ _=>False
abbrev TS:=kl->St->Hp->Prop
def EP(X:Cx)(dl:List (Addr×Obj))(Z:St)(Q:VK)(u:Value)(s':Shared):Prop:=∃v H',aj X dl Z H' s'/\aW v u/\Q v H'
def TP(X:Cx)(dl:List (Addr×Obj))(Z:St)(Q:Bool->Hp->Prop)(b:Bool)(s':Shared):Prop:=∃H',aj X dl Z H' s'/\Q b H'
def AP(X:Cx)(dl:List (Addr×Obj))(Z:St)(Q:List V->Hp->Prop)(us:List Value)(s':Shared):Prop:=∃vs H',aj X dl Z H' s'/\aP vs us/\Q vs H'
noncomputable def SP(X:Cx)(dl:List (Addr×Obj))(D:kl)(f:Flow)(s':Shared):Prop :=
 match f with
 | .next => ∃Z' H',aj X dl Z' H' s'/\D.nx Z' H'
 | .brk => ∃Z' H',aj X dl Z' H' s'/\D.bk Z' H'
 | .cont => ∃Z' H',aj X dl Z' H' s'/\D.ct Z' H'
 | .ret u => ∃v Z' H',aj X dl Z' H' s'/\aW v u/\D.rt v H'
noncomputable def PE(X:Cx)(e:Expr)(t:TE):Prop :=
 ∀(dl:List (Addr×Obj)) (s:Shared) (Z:St) (H:Hp) (Q:VK),aj X dl Z H s->t Z H Q->wpAny (model X.prog X.w) X.A (eval e X.env) (EP X dl Z Q) X.xe s
noncomputable def PT(X:Cx)(e:Expr)(t:TT):Prop :=
 ∀(dl:List (Addr×Obj)) (s:Shared) (Z:St) (H:Hp) (Q:Bool->Hp->Prop),aj X dl Z H s->t Z H Q->wpAny (model X.prog X.w) X.A (isTrue e X.env (eval e X.env)) (TP X dl Z Q) X.xe s
noncomputable def PW(X:Cx)(e:Expr)(t:TT):Prop :=
 ∀(whole:Sem Value) (dl:List (Addr×Obj)) (s:Shared) (Z:St) (H:Hp) (Q:Bool->Hp->Prop),aj X dl Z H s->t Z H Q->wpAny (model X.prog X.w) X.A (isTrue e X.env whole) (TP X dl Z Q) X.xe s
theorem PW.pt{X:Cx}{t:TT}(h:PW X e t):PT X e t:=h _
noncomputable def PA(X:Cx)(es:List Expr)(t:TA):Prop :=
 ∀(pos:Pos) (dl:List (Addr×Obj)) (s:Shared) (Z:St) (H:Hp) (Q:List V->Hp->Prop),aj X dl Z H s->t Z H Q->wpAny (model X.prog X.w) X.A (spliced (backTo pos (starEach es X.env))) (AP X dl Z Q) X.xe s
noncomputable def PS(X:Cx)(st:Stmt)(t:TS):Prop :=
 ∀(dl:List (Addr×Obj)) (s:Shared) (Z:St) (H:Hp) (D:kl),aj X dl Z H s->t D Z H->wpAny (model X.prog X.w) X.A (exec st X.env) (SP X dl D) X.xe s
noncomputable def fD(X:Cx)(st:List Stmt)(t:TS):Prop :=
 ∀(dl:List (Addr×Obj)) (s:Shared) (Z:St) (H:Hp) (D:kl),aj X dl Z H s->t D Z H->wpAny (model X.prog X.w) X.A (execs st X.env) (SP X dl D) X.xe s
theorem aG{t:Sem α}{Q Q':α->Shared->Prop}(h:wpAny M A t Q E s)(hQ:∀a s,Q a s->Q' a s):wpAny M A t Q' E s:=Tn h hQ λ_ _ x=>x
variable{Z:St}{t te tl:TE}{X:Cx}{ta:TA}
section
theorem Qw{a b:Expr}{ta tb:TE}(ha:PE X a ta)(hb:PE X b tb)(I:aj X dl Z H s)(h:ta Z H λx H1=>tb Z H1 λy H2=>R x y H2)
  {Q:α->Shared->Prop} {f:Value->Value->Sem α}
  (hf:∀v u s2 x y H2,aj X dl Z H2 s2->aW x v->aW y u->R x y H2->wpAny (model X.prog X.w) X.A (f v u) Q X.xe s2) :
  wpAny (model X.prog X.w) X.A (eval a X.env) (λv s₁=>wpAny (model X.prog X.w) X.A (eval b X.env) (λu s₂=>wpAny (model X.prog X.w) X.A (f v u) Q X.xe s₂) X.xe s₁) X.xe s:=by
 refine aG (ha dl s Z H _ I h) λv s1 ⟨x,H1,I1,r1,q1⟩=>?_
 refine aG (hb dl s1 Z H1 _ I1 q1) λu s2 ⟨y,H2,I2,r2,q2⟩=>?_
 exact hf v u s2 x y H2 I2 r1 r2 q2
def vb(i:Nat):TE:=λZ H Q => ∃v,Z[i]?=some (some v)/\Q v H
def tC(v:V):TE:=λ_ H Q=>Q v H
theorem mI(hN:X.N[i]?=some x)(hv:me X.env.scope x)(hd:(x==("__debug__" : Str))=false:=by decide)(hcd:(x==("__classdict__" : Str))=false:=by decide):PE X (.Name x pos) (vb i):=by
 intro dl s Z H Q I h;obtain⟨v,e,h⟩:=h;obtain⟨m,hn,hl⟩:=I.loc;obtain⟨u,r,l⟩:=hl i x v hN e hv;have fin:EP X dl Z Q u s:=⟨v,H,I,r,h⟩;rcases l with⟨hk,hm⟩|⟨hk,c,hc,hcell⟩
 ·exact wpAny_Name (wpAny_loadName_local I.ok.kind hk hn hm fin) hd
 ·rcases hk with hk|hk
  ·exact wpAny_Name (wpAny_loadName_cell I.ok.kind hk hc hcell fin) hd
  ·exact wpAny_Name (wpAny_loadName_free I.ok.kind hk hc hcell fin hcd) hd
theorem LR{i j pos}:PE X (.Constant (.int i) j pos) (tC (.int i)):=λ_ _ _ H _ I h=>wpAny_Constant_int ⟨.int i,H,I.tok _,⟨_,rfl⟩,h⟩
theorem OO{b j pos}:PE X (.Constant (.bool b) j pos) (tC (.bl b)):=λ_ _ _ H _ I h=>Constant_bool ⟨.bl b,H,I,rfl,h⟩
theorem LQ{j pos}:PE X (.Constant .none j pos) (tC .non):=λ_ _ _ H _ I h=>Constant_none ⟨.non,H,I,rfl,h⟩
theorem LN{x j pos}:PE X (.Constant (.str x) j pos) (tC (.str x)):=λ_ _ _ H _ I h=>Calls.Constant_str ⟨.str x,H,I.tok _,⟨_,rfl⟩,h⟩
def Gl(X:Cx)(x:Str):Prop:=X.env.kindOf x=some .globalImplicit
theorem dP(I:aj X dl Z H s)(hg:Gl X x)(hm:X.mg x=some u)(h:Q u s)
  (hd:(x==("__debug__" : Str))=false:=by decide):wpAny (model X.prog X.w) X.A (eval (.Name x pos) X.env) Q E s :=
 Calls.Name_function_global I.ok.kind hg (Calls.loadGlobal_global (by rw[I.ok.glob];exact I.mod.glob.keeps I.bk) hm h) hd
theorem jQ(I:aj X dl Z H s)(hg:Gl X x)(hm:X.mg x=none)(hv:bootBuiltins x=some u)(h:Q u s)
  (hn:x ≠ "__name__" := by decide) (hd:(x==("__debug__" : Str))=false:=by decide):wpAny (model X.prog X.w) X.A (eval (.Name x pos) X.env) Q E s:=by
 obtain⟨mb,h1,h2⟩:=I.mod.blt;exact Calls.Name_function_global I.ok.kind hg (Calls.loadGlobal_builtin (by rw[I.ok.glob];exact I.mod.glob.keeps I.bk) hm (by rw[I.ok.blt];exact h1.keeps I.bk) ((h2 x hn).trans hv) h) hd
theorem ya(hg:Gl X x)(hm:X.mg x=some u)(r:aW v u)(hd:(x==("__debug__" : Str))=false:=by decide):PE X (.Name x pos) (tC v) :=
 λ_ _ _ H _ I h=>dP I hg hm ⟨v,H,I,r,h⟩ hd
theorem IJ(hg:Gl X x)(hm:X.mg x=none)(hv:bootBuiltins x=some u)(r:aW v u)(hn:x ≠ "__name__" := by decide)(hd:(x==("__debug__" : Str))=false:=by decide):PE X (.Name x pos) (tC v) :=
 λ_ _ _ H _ I h=>jQ I hg hm hv ⟨v,H,I,r,h⟩ hn hd
variable{a b:Expr}{ta tb:TE}
def tB(t:TE):TT:=λZ H Q=>t Z H λx H1 => ∃c,x=.bl c/\Q c H1
theorem LF(h:PE X e t)(he:∀whole,isTrue e X.env whole=(do let v <- whole;standAt e.pos;holding [v] (truthy v)):=by intro _;rfl):PT X e (tB t):=by
 intro dl s Z H Q I hw;refine isTrue_plain (aG (h dl s Z H _ I hw) λv s1 ⟨x,H1,I1,r1,q1⟩=>?_) (he _);obtain⟨d,rfl,q⟩:=q1;cases r1;exact T3 ⟨H1,I1,q⟩
variable{tA tB':TT}{rest:List Expr}
def QR(t u:TT):TT:=λZ H Q=>t Z H λc H1=>if c=true then u Z H1 Q else Q false H1
def Sn(t u:TT):TT:=λZ H Q=>t Z H λc H1=>if c=true then Q true H1 else u Z H1 Q
def QL(t:TT):TT:=λZ H Q=>t Z H λc H1=>Q (!c) H1
theorem Io(ha:PT X a tA):PW X (.BoolOp .And [a] pos) tA:=by
 intro wh dl s Z H Q I h;refine isTrue_and (aG (ha dl s Z H Q I h) λc s1 e=>?_);cases c with
 | true=>exact isTrue_and_nil e
 | false=>exact e
theorem LC(ha:PT X a tA):PW X (.BoolOp .Or [a] pos) tA:=by
 intro wh dl s Z H Q I h;refine isTrue_or (aG (ha dl s Z H Q I h) λc s1 e=>?_);cases c with
 | false=>exact isTrue_or_nil e
 | true=>exact e
theorem Br(ha:PT X a tA)(hb:PW X (.BoolOp .And (b::rest) pos) tB'):PW X (.BoolOp .And (a::b::rest) pos) (QR tA tB'):=by
 intro wh dl s Z H Q I h;refine isTrue_and (aG (ha dl s Z H _ I h) λc s1 ⟨H1,I1,q1⟩=>?_);cases c with
 | true=>exact hb wh dl s1 Z H1 Q I1 q1
 | false=>exact⟨H1,I1,q1⟩
theorem F3(ha:PT X a tA)(hb:PW X (.BoolOp .Or (b::rest) pos) tB'):PW X (.BoolOp .Or (a::b::rest) pos) (Sn tA tB'):=by
 intro wh dl s Z H Q I h;refine isTrue_or (aG (ha dl s Z H _ I h) λc s1 ⟨H1,I1,q1⟩=>?_);cases c with
 | true=>exact⟨H1,I1,q1⟩
 | false=>exact hb wh dl s1 Z H1 Q I1 q1
theorem LG(ha:PT X a tA):PT X (.UnaryOp .Not a pos) (QL tA):=by
 intro dl s Z H Q I h;exact isTrue_not (ha dl s Z H (λc H1=>Q (!c) H1) I h)
def Oo(ta tb:TE):TE:=λZ H Q=>ta Z H λx H1 => ∃c,x=.bl c/\if c=true then tb Z H1 Q else Q (.bl false) H1
def QK(ta tb:TE):TE:=λZ H Q=>ta Z H λx H1 => ∃c,x=.bl c/\if c=true then Q (.bl true) H1 else tb Z H1 Q
def Oj(ta:TE):TE:=λZ H Q=>ta Z H λx H1 => ∃c,x=.bl c/\Q (.bl (!c)) H1
theorem LO{op}(h:PE X a t):PE X (.BoolOp op [a] pos) t:=λdl s Z H Q I hw=>BoolOp_one (h dl s Z H Q I hw)
theorem By(ha:PE X a ta)(hb:PE X (.BoolOp .And (b::rest) pos) tb):PE X (.BoolOp .And (a::b::rest) pos) (Oo ta tb):=by
 intro dl s Z H Q I h;refine BoolOp_and (aG (ha dl s Z H _ I h) λv s1 ⟨x,H1,I1,r1,q1⟩=>?_);obtain⟨c,rfl,q1⟩:=q1;cases r1;refine T3 ?_;cases c with
 | true=>exact hb dl s1 Z H1 Q I1 q1
 | false=>exact⟨.bl false,H1,I1,rfl,q1⟩
theorem F5(ha:PE X a ta)(hb:PE X (.BoolOp .Or (b::rest) pos) tb):PE X (.BoolOp .Or (a::b::rest) pos) (QK ta tb):=by
 intro dl s Z H Q I h;refine BoolOp_or (aG (ha dl s Z H _ I h) λv s1 ⟨x,H1,I1,r1,q1⟩=>?_);obtain⟨c,rfl,q1⟩:=q1;cases r1;refine T3 ?_;cases c with
 | false=>exact hb dl s1 Z H1 Q I1 q1
 | true=>exact⟨.bl true,H1,I1,rfl,q1⟩
theorem LP(ha:PE X a ta):PE X (.UnaryOp .Not a pos) (Oj ta):=by
 intro dl s Z H Q I h;refine UnaryOp_ (aG (ha dl s Z H _ I h) λv s1 ⟨x,H1,I1,r1,q1⟩=>?_);obtain⟨c,rfl,q1⟩:=q1;cases r1;exact not_of (T3 ⟨.bl (!c),H1,I1,rfl,q1⟩)
end
noncomputable def cF(K:W.Frag)(H:Hp)(a:Addr)(xs:List V):Prop :=
 Rd H a (.lst xs) \/
  ∃(o:Obj) (its:Array Value) (n:Nat),K.lookup a=some o/\o.cls=.type "list" /\ o.dict=none/\o.data=.seq its n/\its.size<=sizeLine/\aP xs its.toList
noncomputable def bX(K:W.Frag)(H:Hp)(a:Addr)(xs:List V):Prop :=
 Rd H a (.tup xs) \/
  ∃(o:Obj) (its:Array Value) (n:Nat),K.lookup a=some o/\o.cls=.type "tuple" /\ o.dict=none/\o.data=.seq its n/\its.size<=sizeLine/\aP xs its.toList
noncomputable def RU:Value->Option V
 | .none=>some .non
 | .bool b=>some (.bl b)
 | .int i _=>some (.int i)
 | .str x _=>some (.str x)
 | .bytes b _=>some (.byt b)
 | .float b _=>some (.flt b)
 | .ref a=>some (.ref a)
 | .type n=>some (.ty n)
 | _=>none
theorem aW.abs{x:V}(r:aW x u):RU u=some x:=by
 cases x with
 | non=>cases r;rfl
 | bl _=>cases r;rfl
 | int _=>obtain⟨t,rfl⟩:=r;rfl
 | str _=>obtain⟨t,rfl⟩:=r;rfl
 | byt _=>obtain⟨t,rfl⟩:=r;rfl
 | flt _=>obtain⟨t,rfl⟩:=r;rfl
 | ref _=>cases r;rfl
 | ty _=>cases r;rfl
theorem aW.inj{x:V}(r:aW x u)(q:aW y u):x=y:=TN (r.abs.symm.trans q.abs)
theorem aP.inj:∀{xs ys:List V} {us:List Value},aP xs us->aP ys us->xs=ys
 | _,_,_,.nil,.nil=>rfl
 | _,_,_,.cons r t,.cons r' t'=>by rw[r.inj r',aP.inj t t']
section
variable{xs ys:List V}
theorem cF.of(h:H a=some (.lst xs)):cF K H a xs:=.inl (.inl h)
theorem bX.of(h:H a=some (.tup xs)):bX K H a xs:=.inl (.inl h)
theorem aj.list(I:aj X dl Z H s)(h:cF X.K H a xs):∃its:List Value,aP xs its/\PlainL s.heap a its.toArray/\xs.length<=sizeLine:=by
 rcases h with h|⟨o,its,n,hk,hc,hd,hs,hz,r⟩
 ·obtain⟨z,its,n,r,e⟩:=h.ok I.hok;exact⟨its,r,⟨_,n,e,rfl,rfl,rfl⟩,z⟩
 ·refine⟨its.toList,r,⟨o,n,I.kIn a o hk,hc,hd,by simpa using hs⟩,?_⟩;have e:=r.length;simp only[UE]at e;omega
theorem aj.tuple(I:aj X dl Z H s)(h:bX X.K H a xs):∃its:List Value,aP xs its/\IsTup s.heap a its.toArray/\xs.length<=sizeLine:=by
 rcases h with h|⟨o,its,n,hk,hc,hd,hs,hz,r⟩
 ·obtain⟨z,its,r,p⟩:=h.ok I.hok;exact⟨its,r,p.1,z⟩
 ·refine⟨its.toList,r,⟨o,I.kIn a o hk,hc,n,by simpa using hs⟩,?_⟩;have e:=r.length;simp only[UE]at e;omega
theorem aj.tupN(I:aj X dl Z H s)(h:bX X.K H a xs):∃o,s.heap.get? a=some o/\o.cls=.type "tuple" /\ o.dict=none:=by
 obtain h|⟨o,_,_,hk,hc,hd,_⟩:=h
 ·obtain⟨z,its,r,⟨o,e,c,_⟩,o2,e2,d⟩:=h.ok I.hok;rw[e]at e2;cases e2;exact⟨o,e,c,d⟩
 ·exact⟨o,I.kIn a o hk,hc,hd⟩
theorem aj.list_inj(I:aj X dl Z H s)(h:cF X.K H a xs)(h':cF X.K H a ys):xs=ys:=by
 obtain⟨its,r,⟨o,n,e,_,_,d⟩,_⟩:=I.list h;obtain⟨its',r',⟨o',n',e',_,_,d'⟩,_⟩:=I.list h';rw[e]at e';cases e';rw[d]at d';injection d' with d1 _;have:its=its':=by simpa using Ue Array.toList d1
 subst this;exact r.inj r'
theorem aj.tuple_inj(I:aj X dl Z H s)(h:bX X.K H a xs)(h':bX X.K H a ys):xs=ys:=by
 obtain⟨its,r,⟨o,e,_,n,d⟩,_⟩:=I.tuple h;obtain⟨its',r',⟨o',e',_,n',d'⟩,_⟩:=I.tuple h';rw[e]at e';cases e';rw[d]at d';injection d' with d1 _;have:its=its':=by simpa using Ue Array.toList d1
 subst this;exact r.inj r'
end
abbrev Cx.wish(X:Cx)(E:Value->Shared->Prop):Cx:={ X with xe:=E }
abbrev Cx.nox(X:Cx):Cx:=X.wish λ_ _=>False
theorem Cx.Ok.wish(ok:X.Ok)(E:Value->Shared->Prop):(X.wish E).Ok :=
 ⟨ok.mod,ok.kind,ok.glob,ok.blt,ok.above,ok.inj,ok.has,ok.cab,ok.hd,ok.frames,ok.stk,ok.exf,ok.bs,ok.bsz,ok.noex,ok.exfs,ok.funs,ok.frf⟩
theorem Cx.Ok.unwish(ok:(X.wish E).Ok):X.Ok :=
 ⟨ok.mod,ok.kind,ok.glob,ok.blt,ok.above,ok.inj,ok.has,ok.cab,ok.hd,ok.frames,ok.stk,ok.exf,ok.bs,ok.bsz,ok.noex,ok.exfs,ok.funs,ok.frf⟩
section
theorem aj.wish(I:aj X dl Z H s)(E:Value->Shared->Prop):aj (X.wish E) dl Z H s:=⟨I.ok.wish E,I.os,I.bare,I.base,I.loc,I.cell,I.free,I.freeC,I.pin,I.hok,I.len⟩
theorem aj.unwish(I:aj (X.wish E) dl Z H s):aj X dl Z H s:=⟨I.ok.unwish,I.os,I.bare,I.base,I.loc,I.cell,I.free,I.freeC,I.pin,I.hok,I.len⟩
theorem SP.unwish{D:kl}{f:Flow}(h:SP (X.wish E) dl D f s'):SP X dl D f s':=by
 cases f with
 | next=>obtain⟨Z',H',I,q⟩:=h;exact⟨Z',H',I.unwish,q⟩
 | brk=>obtain⟨Z',H',I,q⟩:=h;exact⟨Z',H',I.unwish,q⟩
 | cont=>obtain⟨Z',H',I,q⟩:=h;exact⟨Z',H',I.unwish,q⟩
 | ret u=>obtain⟨v,Z',H',I,r,q⟩:=h;exact⟨v,Z',H',I.unwish,r,q⟩
theorem PE.nox(h:PE X.nox e t):PE X e t:=λdl s Z H Q I hw =>
 Tn (h dl s Z H Q (I.wish _) hw) (λ_ _ ⟨v,H',I',r,q⟩=>⟨v,H',I'.unwish,r,q⟩) λ_ _ z=>False.elim z
theorem PT.nox{t:TT}(h:PT X.nox e t):PT X e t:=λdl s Z H Q I hw =>
 Tn (h dl s Z H Q (I.wish _) hw) (λ_ _ ⟨H',I',q⟩=>⟨H',I'.unwish,q⟩) λ_ _ z=>False.elim z
theorem fD.nox{st:List Stmt}{t:TS}(h:fD X.nox st t):fD X st t:=λdl s Z H D I hw =>
 Tn (h dl s Z H D (I.wish _) hw) (λ_ _ q=>q.unwish) λ_ _ z=>False.elim z
end
section
variable{st:Stmt}{rest:List Stmt}{t u:TS}
def FS:TS:=λD Z H=>D.nx Z H
def QI(t u:TS):TS:=λD Z H=>t { D with nx:=u D } Z H
theorem rK:fD X [] FS:=λ_ _ Z H _ I h=>Va ⟨Z,H,I,h⟩
theorem ef(h1:PS X st t)(h2:fD X rest u):fD X (st::rest) (QI t u):=by
 intro dl s Z H D I h;refine wpAny_execs_cons (aG (h1 dl s Z H { D with nx:=u D } I h) λf s1 q=>?_);cases f with
 | next =>
  obtain⟨Z',H',I',q⟩:=q;exact h2 dl s1 Z' H' D I' q
 | ret v=>exact q
 | brk=>exact q
 | cont=>exact q
theorem nK(h1:PS X st t):fD X [st] t:=by
 intro dl s Z H D I h;refine wpAny_execs_cons (aG (h1 dl s Z H D I h) λf s1 q=>?_);cases f with
 | next=>exact Va q
 | ret v=>exact q
 | brk=>exact q
 | cont=>exact q
def KZ:TS:=λD Z H=>D.bk Z H
def Om:TS:=λD Z H=>D.ct Z H
theorem Iv:PS X (.Pass pos) FS:=λ_ _ Z H _ I h=>wpAny_Pass ⟨Z,H,I,h⟩
theorem DJ:PS X (.Break pos) KZ:=λ_ _ Z H _ I h=>wpAny_Break ⟨Z,H,I,h⟩
theorem xp:PS X (.Continue pos) Om:=λ_ _ Z H _ I h=>wpAny_Continue ⟨Z,H,I,h⟩
theorem aj.quiet(I:aj X dl Z H s):interactive X.env=false:=by simp[interactive,I.ok.kind]
def Ol(te:TE):TS:=λD Z H=>te Z H λ_ H1=>D.nx Z H1
theorem ll(he:PE X e te)(hs:swapsWith e none pos.line X.env=pure false:=by rfl):PS X (.Expr e pos) (Ol te):=by
 intro dl s Z H D I h;exact wpAny_Expr_any (aG (he dl s Z H _ I h) λv s1 ⟨x,H1,I1,r1,q1⟩=>⟨Z,H1,I1,q1⟩) I.quiet hs
def QJ(te:TE):TS:=λD Z H=>te Z H D.rt
theorem mF(he:PE X e te):PS X (.Return (some e) pos) (QJ te):=by
 intro dl s Z H D I h;exact wpAny_Return_some (aG (he dl s Z H _ I h) λv s1 ⟨x,H1,I1,r1,q1⟩=>⟨x,Z,H1,I1,r1,q1⟩)
def Oh:TS:=λD _ H=>D.rt .non H
theorem Iu:PS X (.Return none pos) Oh:=λ_ _ Z H _ I h=>wpAny_Return_none ⟨.non,Z,H,I,rfl,h⟩
def QN(c:TT)(t u:TS):TS:=λD Z H=>c Z H λb H1=>if b=true then t D Z H1 else u D Z H1
theorem qc{c:Expr}{a b:List Stmt}{tc:TT}(hc:PT X c tc)(ha:fD X a t)(hb:fD X b u):PS X (.If c a b pos) (QN tc t u):=by
 intro dl s Z H D I h;refine wpAny_If (aG (hc dl s Z H _ I h) λd s1 ⟨H1,I1,q1⟩=>?_);cases d with
 | true=>exact ha dl s1 Z H1 D I1 q1
 | false=>exact hb dl s1 Z H1 D I1 q1
def KY:TS:=λ_ _ _=>False
theorem eZ{sts:List Stmt}:fD X sts KY:=λ_ _ _ _ _ _ h=>h.elim
end
abbrev TG:=V->St->Hp->(St->Hp->Prop)->Prop
abbrev re:=List V->St->Hp->(St->Hp->Prop)->Prop
noncomputable def PG(X:Cx)(target:Expr)(t:TG):Prop :=
 ∀(dl:List (Addr×Obj)) (s:Shared) (Z:St) (H:Hp) (v:V) (u:Value) (Q:St->Hp->Prop),aj X dl Z H s->aW v u->t v Z H Q ->
  wpAny (model X.prog X.w) X.A (assign target X.env u) (λ_ s' => ∃Z' H',aj X dl Z' H' s'/\Q Z' H') X.xe s
noncomputable def yP(X:Cx)(ts:List Expr)(t:re):Prop :=
 ∀(dl:List (Addr×Obj)) (s:Shared) (Z:St) (H:Hp) (vs:List V) (us:List Value) (Q:St->Hp->Prop),aj X dl Z H s->aP vs us->t vs Z H Q ->
  wpAny (model X.prog X.w) X.A (assignInOrder ((assignEach ts X.env).map (·.2)) us) (λ_ s' => ∃Z' H',aj X dl Z' H' s'/\Q Z' H') X.xe s
abbrev wO:=V->V->V->Hp->(Hp->Prop)->Prop
noncomputable def Fj(X:Cx)(t:wO):Prop :=
 ∀(dl:List (Addr×Obj)) (s:Shared) (Z:St) (H:Hp) (o i v:V) (ov iv u:Value) (Q:Hp->Prop),aj X dl Z H s->aW o ov->aW i iv->aW v u->t o i v H Q ->
  wpAny (model X.prog X.w) X.A (setItem ov iv u) (λ_ s' => ∃H',aj X dl Z H' s'/\Q H') X.xe s
section
def Gs(i:Nat):TG:=λv Z H Q=>Q (Z.set i (some v)) H
theorem gR(hN:X.N.Nodup)(hi:X.N[i]?=some x)(hx:yQ X.env.scope x)(hf:X.fn x=true\/X.env.scope.names.lookup x=some .local:=by first|exact .inl rfl|exact .inr rfl|assumption):PG X (.Name x pos) (Gs i):=by
 intro dl s Z H v u Q I r h;exact wpAny_assign_Name (oW I hN hi hx r (λs' I'=>⟨_,H,I',h⟩) hf)
def RE:re:=λvs Z H Q=>vs=[]/\Q Z H
def PR(t:TG)(u:re):re:=λvs Z H Q => ∃v r,vs=v::r/\t v Z H λZ' H'=>u r Z' H' Q
theorem rN:yP X [] RE:=by
 intro dl s Z H vs us Q I r h;obtain⟨e,h⟩:=h;subst e;cases r;exact assignInOrder_nil ⟨Z,H,I,h⟩
theorem jL{t:TG}{u:re}(h1:PG X e t)(h2:yP X es u)
  (hs:(assignEach (e::es) X.env).map (·.2)=assign e X.env::(assignEach es X.env).map (·.2):=by rfl):yP X (e::es) (PR t u):=by
 intro dl s Z H vs us Q I r h;obtain⟨v,vr,e1,h⟩:=h;subst e1;cases r with
 | cons r rr =>
  rw[hs];refine assignInOrder_cons (aG (h1 dl s Z H _ _ _ I r h) λ_ s1 ⟨σ1,H1,I1,q1⟩=>?_);exact h2 dl s1 σ1 H1 _ _ Q I1 rr q1
def RC(K:W.Frag)(n:Nat)(t:re):TG:=λv Z H Q => ∃a xs,v=.ref a/\bX K H a xs/\xs.length=n/\t xs Z H Q
theorem qd{t:re}(hc:X.calm=true)(h:yP X es t)
  (hn:(assignEach es X.env).length=n:=by rfl) (hst:(assignEach es X.env).findIdx? (·.1)=none:=by rfl):PG X (.Tuple es k pos) (RC X.K n t):=by
 intro dl s Z H v u Q I r hw;obtain⟨a,xs,e1,hq,hl,hw⟩:=hw;subst e1;cases r;obtain⟨its,rv,ht,hz⟩:=I.tuple hq;refine assign_Tuple_tuple (I.ok.hd hc) ht (by simp[hn,<- hl,rv.length]) hst λh' hx=>?_
 have I1:aj X dl Z H { s with heap:=h' }:=I.kept (t':=s.toks) λb o e=>hx b o (Ts (S1 e)) e
 exact h dl _ Z H xs _ Q I1 (by simpa using rv) hw
def RD(to ti:TE)(t:wO):TG:=λv Z H Q=>to Z H λo H1=>ti Z H1 λi H2=>t o i v H2 λH3=>Q Z H3
theorem LL{o i:Expr}{to ti:TE}{t:wO}(ho:PE X o to)(hi:PE X i ti)(hs:Fj X t)
  (ha:∀v,assign (.Subscript o i pos) X.env v=(do
   let ov <- holding [v] (eval o X.env)
   let iv <- holding [v,ov] (eval i X.env)
   standAt pos
   holding [v,ov,iv] (setItem ov iv v)
   release [v,ov,iv] []):=by intro _;rfl):PG X (.Subscript o i pos) (RD to ti t):=by
 intro dl s Z H v u Q I r h;rw[ha];refine SO (TB (aG (ho dl s Z H _ I h) λov s1 ⟨x,H1,I1,r1,q1⟩=>?_));refine SO (TB (aG (hi dl s1 Z H1 _ I1 q1) λiv s2 ⟨y,H2,I2,r2,q2⟩=>?_));refine SO (UG (SO (TB (aG (hs dl s2 Z H2 x y v ov iv u _ I2 r1 r2 r q2) λ_ s3 ⟨H3,I3,q3⟩=>?_))));exact wpAny_release ⟨Z,H3,I3,q3⟩
def K2(te:TE)(g:TG):TS:=λD Z H=>te Z H λx H1=>g x Z H1 D.nx
theorem mG{g:TG}(he:PE X e te)(hg:PG X tg g)(hs:swapsWithSole [tg] e pos.line X.env=pure false:=by rfl)(hw:swappedStores [tg] e X.env=pure none:=by rfl)
  (h1:(assignEach [tg] X.env).map (·.2)=[assign tg X.env]:=by rfl):PS X (.Assign [tg] e pos) (K2 te g):=by
 intro dl s Z H D I h;refine wpAny_Assign_stores (aG (he dl s Z H _ I h) λv s1 ⟨x,H1,I1,r1,q1⟩=>?_) hs hw;rw[h1];exact aG (hg dl s1 Z H1 x v _ I1 r1 q1) λ_ s2 q=>q
theorem qb{pos':Pos}(hN:X.N.Nodup)(hi:X.N[i]?=some x)(hx:yQ X.env.scope x)(he:PE X e te)(hs:swapsWith e (some (.Name x pos')) pos.line X.env=pure false:=by rfl)(hf:X.fn x=true\/X.env.scope.names.lookup x=some .local:=by first|exact .inl rfl|exact .inr rfl|assumption) :
  PS X (.Assign [.Name x pos'] e pos) (K2 te (Gs i)):=by
 intro dl s Z H D I h;refine wpAny_Assign_Name (aG (he dl s Z H _ I h) λv s1 ⟨y,H1,I1,r1,q1⟩=>?_) hs;exact oW I1 hN hi hx r1 (λs2 I2=>⟨_,H1,I2,q1⟩) hf
end
section
end
structure It where
 go:Nat->Hp->Prop
 yld:Nat->Hp->V->Hp->Prop
 stop:Nat->Hp->Prop
noncomputable def gP(X:Cx)(dl:List (Addr×Obj))(H:Hp)(b:Addr):Prop :=
 H b=none/\b≠X.env.locals/\b∉X.fs/\(b∈X.ex\/X.s₀.heap.objs.size<=b)/\(∀x c,X.env.cells.lookup x=some c->c≠b)/\∀p∈X.pn++dl,p.1≠b
theorem aj.fpOk{H':Hp}(I:aj X dl Z H s)(hb:s.heap.objs.size<=b)(hn:H' b=none):gP X dl H' b:=by
 refine⟨hn,TR (S4 I.lt hb),I.nofs hb,.inr (SZ I.sz hb),λx c e z=>?_,λp hp z=>?_⟩
 ·obtain⟨v,q⟩:=I.cell x c e;exact absurd (S4 q.lt (by rw[z];exact hb)) (TH _)
 ·exact absurd (S4 (S1 (I.pin p hp).1) (by rw[z];exact hb)) (TH _)
structure Turn(P:Program)(w:World)(K:W.Frag)(tg:Expr)(J:It)(fp:List Addr)(it:Addr)(tn:Nat->Heap->Prop):Prop where
 mem:it∈fp
 obj:∀i h,tn i h->∀b∈fp,∃o,h.get? b=some o/\∀v,o.data ≠ .cell v
 keep:∀i h h',tn i h->(∀b∈fp,∀o,h.get? b=some o->h'.get? b=some o)->tn i h'
 item:∀(X:Cx),X.prog=P->X.w=w->X.K=K->X.calm=true->∀(i:Nat) (dl:List (Addr×Obj)) (s:Shared) (Z:St) (H:Hp) (E:Value->Shared->Prop),aj X dl Z H s->(∀b∈fp,gP X dl H b)->tn i s.heap->J.go i H ->
  wpAny (model P w) X.A (pyNext (.ref it)) (λr s1 => ∃u,r=some u /\
   wpAny (model P w) X.A (letOwnedTupleGo tg (.ref it) u) (λ_ s2 => ∃x H',aj X dl Z H' s2/\aW x u/\J.yld i H x H'/\tn (i+1) s2.heap/\∀b∈fp,H' b=none) E s1) E s
 done:∀(X:Cx),X.prog=P->X.w=w->X.K=K->X.calm=true->∀(i:Nat) (dl:List (Addr×Obj)) (s:Shared) (Z:St) (H:Hp) (E:Value->Shared->Prop),aj X dl Z H s->(∀b∈fp,gP X dl H b)->tn i s.heap->J.stop i H ->
  wpAny (model P w) X.A (pyNext (.ref it)) (λr s1=>r=none/\aj X dl Z H s1) E s
 self:∀(A:Around) (i:Nat) (s:Shared) (Q:Value->Shared->Prop) (E:Value->Shared->Prop),tn i s.heap->Q (.ref it) s->wpAny (model P w) A (pyIter (.ref it)) Q E s
abbrev TI:=St->Hp->(It->Hp->Prop)->Prop
noncomputable def Qz(X:Cx)(dl:List (Addr×Obj))(Z:St)(tg:Expr)(R:It->Hp->Prop)(itv:Value)(s2:Shared):Prop :=
 ∃(it:Addr) (fp:List Addr) (tn:Nat->Heap->Prop) (J:It) (H':Hp),itv=.ref it/\aj X dl Z H' s2/\Turn X.prog X.w X.K tg J fp it tn/\tn 0 s2.heap/\(∀b∈fp,gP X dl H' b)/\R J H'
noncomputable def PI(X:Cx)(tg iter:Expr)(wi:TI):Prop :=
 ∀(dl:List (Addr×Obj)) (s:Shared) (Z:St) (H:Hp) (R:It->Hp->Prop),aj X dl Z H s->wi Z H R ->
  wpAny (model X.prog X.w) X.A (eval iter X.env) (λv s1=>wpAny (model X.prog X.w) X.A (pyIter v) (Qz X dl Z tg R) X.xe s1) X.xe s
theorem uB{n:String}{vs:Array Value}{Q:Unit->Shared->Prop}(ho:s.heap.get? it=some o)(hc:o.cls=.type n)(hd:o.data=.fields vs)
    (hn:["enumerate", "zip", "dict_itemiterator", "dict_reverseitemiterator", "odict_iterator", "itertools.zip_longest", "itertools.pairwise"].contains n=false) (hQ:Q () s):wpAny M A (letOwnedTupleGo tg (.ref it) u) Q E s:=by
  unfold letOwnedTupleGo;cases tg<;>first
    | exact SU hQ
    | (cases u<;>first
        | exact SU hQ
        | (refine SO (wpAny_load ho ?_)
           rw[hc,hd];show wpAny M A (if (["enumerate", "zip", "dict_itemiterator", "dict_reverseitemiterator", "odict_iterator", "itertools.zip_longest", "itertools.pairwise"].contains n&&vs[0]? == some (rawInt _))=true then _ else _) Q E s;rw[if_neg (by intro h;rw[hn,Bool.false_and]at h;cases h)];exact SU hQ))
noncomputable def QB(K:W.Frag)(a:Addr):It :=
 ⟨λi H => ∃xs x,cF K H a xs/\xs[i]?=some x,λi H x H'=>H'=H/\∀xs,cF K H a xs->xs[i]?=some x,λi H => ∃xs,cF K H a xs/\xs.length<=i⟩
noncomputable def QA(K:W.Frag)(a:Addr):It :=
 ⟨λi H => ∃xs x,bX K H a xs/\xs[i]?=some x,λi H x H'=>H'=H/\∀xs,bX K H a xs->xs[i]?=some x,λi H => ∃xs,bX K H a xs/\xs.length<=i⟩
def GX(lo:Int)(n:Nat):It:=⟨λi _=>i<n,λi H x H'=>H'=H/\x=.int (lo+i),λi _=>n<=i⟩
theorem AN(a it:Addr):Turn P w K tg (QB K a) [it] it (λi h=>h.IsListIter it a i) where
 mem:=by simp
 obj:=λi h st b hb=>by
  have e:b=it:=by simpa using hb
  subst e;obtain⟨o,e,c,d⟩:=st;exact⟨o,e,λv z=>by rw[d]at z;cases z⟩
 keep:=λi h h' st k=>st.at λo e=>k it (by simp) o e
 item:=by
  intro X hP hw hK hc i dl s Z H E I hf st hg;subst hP hw hK;obtain⟨xs,x,hq,hx⟩:=hg;obtain⟨its,rv,p,hz⟩:=I.list hq;obtain⟨u,hu,ru⟩:=rv.get hx;obtain⟨f0,f1,f2,f3,f4,f5⟩:=hf it (by simp);refine wpAny_pyNext_list_item st p.isList (x:=u) (by simpa using hu) λh' st' sb=>?_
  have I1:aj X dl Z H { s with heap:=h' }:=I.turned (t':=s.toks) (λb o hb e=>(sb.2 b hb).trans e) f0 f1 f3 f4 f5;obtain⟨o,e,c,d⟩:=id st';exact⟨u,rfl,uB (s:={ s with heap:=h' }) e c d (by decide) ⟨x,H,I1,ru,⟨rfl,λys hy=>by rw[I.list_inj hy hq];exact hx⟩,st',λb hb=>(hf b hb).1⟩⟩
 done:=by
  intro X hP hw hK hc i dl s Z H E I hf st hg;subst hP hw hK;obtain⟨xs,hq,hx⟩:=hg;obtain⟨its,rv,p,hz⟩:=I.list hq;obtain⟨f0,f1,f2,f3,f4,f5⟩:=hf it (by simp);have hl:=rv.length;exact wpAny_pyNext_list_end (I.ok.hd hc) st p.isList (by simp;omega) λh' eb=>⟨rfl,I.turned (t':=s.toks) (λb o hb e=>eb b o hb e) f0 f1 f3 f4 f5⟩
 self:=λ_ _ _ _ _ st h=>wpAny_pyIter_listiter st h
theorem yU(a it:Addr):Turn P w K tg (QA K a) [it] it (λi h=>h.IsTupleIter it a i) where
 mem:=by simp
 obj:=λi h st b hb=>by
  have e:b=it:=by simpa using hb
  subst e;obtain⟨o,e,c,d⟩:=st;exact⟨o,e,λv z=>by rw[d]at z;cases z⟩
 keep:=λi h h' st k=>st.at λo e=>k it (by simp) o e
 item:=by
  intro X hP hw hK hc i dl s Z H E I hf st hg;subst hP hw hK;obtain⟨xs,x,hq,hx⟩:=hg;obtain⟨its,rv,p,hz⟩:=I.tuple hq;obtain⟨u,hu,ru⟩:=rv.get hx;obtain⟨f0,f1,f2,f3,f4,f5⟩:=hf it (by simp);refine wpAny_pyNext_tuple_item st (show s.heap.IsTuple a its.toArray from p) (x:=u) (by simpa using hu) λh' st' sb=>?_
  have I1:aj X dl Z H { s with heap:=h' }:=I.turned (t':=s.toks) (λb o hb e=>(sb.2 b hb).trans e) f0 f1 f3 f4 f5;obtain⟨o,e,c,d⟩:=id st';exact⟨u,rfl,uB (s:={ s with heap:=h' }) e c d (by decide) ⟨x,H,I1,ru,⟨rfl,λys hy=>by rw[I.tuple_inj hy hq];exact hx⟩,st',λb hb=>(hf b hb).1⟩⟩
 done:=by
  intro X hP hw hK hc i dl s Z H E I hf st hg;subst hP hw hK;obtain⟨xs,hq,hx⟩:=hg;obtain⟨its,rv,p,hz⟩:=I.tuple hq;obtain⟨f0,f1,f2,f3,f4,f5⟩:=hf it (by simp);have hl:=rv.length;exact wpAny_pyNext_tuple_end (I.ok.hd hc) st (show s.heap.IsTuple a its.toArray from p) (by simp;omega) λh' eb=>⟨rfl,I.turned (t':=s.toks) (λb o hb e=>eb b o hb e) f0 f1 f3 f4 f5⟩
 self:=λ_ _ _ _ _ st h=>wpAny_pyIter_tupleiter st h
theorem yV(it:Addr)(lo:Int)(n:Nat):Turn P w K tg (GX lo n) [it] it (λi h=>IsRangeIter h it (lo+(i:Nat)*1) ((n:Int)-(i:Nat)) 1) where
 mem:=by simp
 obj:=λi h st b hb=>by
  have e:b=it:=by simpa using hb
  subst e;exact⟨_,st,λv z=>by
   have z':Data.fields _=Data.cell v:=z;cases z'⟩
 keep:=λi h h' st k=>k it (by simp) _ st
 item:=by
  intro X hP hw hK hc i dl s Z H E I hf st hg;subst hP hw hK;obtain⟨f0,f1,f2,f3,f4,f5⟩:=hf it (by simp);have W:=Walks.range (prog:=X.prog) (w:=X.w) (I.ok.hd hc) it lo 1 n;refine W.item i s _ _ hg st λv h' tk hv st' kk=>?_
  obtain⟨t,rfl⟩:=hv;have I1:aj X dl Z H { s with heap:=h',toks:=tk }:=I.turned (λb o hb e=>kk b o (by simpa using hb) e) f0 f1 f3 f4 f5;refine⟨_,rfl,uB (s:={ s with heap:=h',toks:=tk }) (n := "range_iterator") st' rfl rfl (by decide) ⟨.int (lo+i),H,I1,⟨t,?_⟩,⟨rfl,rfl⟩,st',λb hb=>(hf b hb).1⟩⟩;rw[Int.mul_one]
 done:=by
  intro X hP hw hK hc i dl s Z H E I hf st hg;subst hP hw hK;obtain⟨f0,f1,f2,f3,f4,f5⟩:=hf it (by simp);exact wpAny_pyNext_range_end (I.ok.hd hc) st (by have:n<=i:=hg;omega) λh' eb=>⟨rfl,I.turned (t':=s.toks) (λb o hb e=>eb b o hb e) f0 f1 f3 f4 f5⟩
 self:=λ_ _ _ _ _ st h=>wpAny_pyIter_rangeiter st h
section
def PH(K:W.Frag)(tl:TE):TI:=λZ H R=>tl Z H λx H1 => ∃a,x=.ref a/\(∃xs,cF K H1 a xs)/\R (QB K a) H1
def Rl(K:W.Frag)(tl:TE):TI:=λZ H R=>tl Z H λx H1 => ∃a,x=.ref a/\(∃xs,bX K H1 a xs)/\R (QA K a) H1
theorem IC(hl:PE X l tl):PI X tg l (PH X.K tl):=by
 intro dl s Z H R I h;refine aG (hl dl s Z H _ I h) λv s1 ⟨x,H1,I1,r1,q1⟩=>?_
 obtain⟨a,e,⟨xs,hq⟩,q⟩:=q1;subst e;cases r1;obtain⟨its,rv,p,hz⟩:=I1.list hq;refine Uc p.isList ?_;refine⟨s1.heap.objs.size,[s1.heap.objs.size],_,_,H1,rfl,I1.kept (t':=s1.toks) λb o e=>SQ _ e,AN a _,⟨_,S6 _ rfl,rfl,rfl⟩,λb hb=>?_,q⟩;have e:b=s1.heap.objs.size:=by simpa using hb
 subst e;exact I1.fpOk (SX _) (I1.hok.fresh (SX _))
theorem LK(hl:PE X l tl):PI X tg l (Rl X.K tl):=by
 intro dl s Z H R I h;refine aG (hl dl s Z H _ I h) λv s1 ⟨x,H1,I1,r1,q1⟩=>?_
 obtain⟨a,e,⟨xs,hq⟩,q⟩:=q1;subst e;cases r1;obtain⟨its,rv,p,hz⟩:=I1.tuple hq;refine Vb (show s1.heap.IsTuple a its.toArray from p) ?_;refine⟨s1.heap.objs.size,[s1.heap.objs.size],_,_,H1,rfl,I1.kept (t':=s1.toks) λb o e=>SQ _ e,yU a _,⟨_,S6 _ rfl,rfl,rfl⟩,λb hb=>?_,q⟩;have e:b=s1.heap.objs.size:=by simpa using hb
 subst e;exact I1.fpOk (SX _) (I1.hok.fresh (SX _))
theorem vB{R:It->Hp->Prop}{lo hi:Int}{t u v:Tok}{tk:Nat}(I:aj X dl Z H s)(h1:-(2 ^ 62)<=lo)(h2:lo<2 ^ 62)(h3:-(2 ^ 62)<=hi)(h4:hi<2 ^ 62)
  (q:R (GX lo (hi-lo).toNat) H):wpAny (model X.prog X.w) X.A (pyIter (.ref s.heap.objs.size)) (Qz X dl Z tg R) E { s with heap:=s.heap.push { cls:=.type "range", data:=.fields #[.int lo t,.int hi u,.int 1 v] },toks:=tk }:=by
 refine wpAny_pyIter_range (IsRange.new ..) (small_one h1 h2 h3 h4) ?_;have I1:aj X dl Z H { s with heap:=s.heap.push { cls:=.type "range", data:=.fields #[.int lo t,.int hi u,.int 1 v] },toks:=tk }:=I.kept λb o e=>SQ _ e
 refine⟨(s.heap.push { cls:=.type "range", data:=.fields #[.int lo t,.int hi u,.int 1 v] }).objs.size,[(s.heap.push { cls:=.type "range", data:=.fields #[.int lo t,.int hi u,.int 1 v] }).objs.size],_,_,H,rfl,
  I1.kept (t':=tk) λb o e=>SQ _ e,yV _ lo (hi-lo).toNat,?_,λb hb=>?_,q⟩
 ·have e1:lo+((0:Nat):Int)*1=lo:=by simp
  have e2:(((hi-lo).toNat:Nat):Int)-((0:Nat):Int)=Builtin.Range.rangeSize lo hi 1:=by rw[rangeSize_one];split<;>omega
  show IsRangeIter _ _ (lo+((0:Nat):Int)*1) ((((hi-lo).toNat:Nat):Int)-((0:Nat):Int)) 1;rw[e1,e2];exact S6 _ rfl
 ·have e:b=(s.heap.push { cls:=.type "range", data:=.fields #[.int lo t,.int hi u,.int 1 v] }).objs.size:=by simpa using hb
  subst e;exact I1.fpOk (SX _) (I1.hok.fresh (SX _))
def PF(ta:TA):TI:=λZ H R=>ta Z H λvs H1 => ∃j:Int,vs=[.int j] /\ -(2 ^ 62)<=j/\j<2 ^ 62/\R (GX 0 j.toNat) H1
def PD(ta:TA):TI:=λZ H R=>ta Z H λvs H1 => ∃i j:Int,vs=[.int i,.int j]/\(-(2 ^ 62)<=i/\i<2 ^ 62 /\ -(2 ^ 62)<=j/\j<2 ^ 62)/\R (GX i (j-i).toNat) H1
theorem Bu{a:Expr}(hg:Gl X "range")(hm:X.mg "range" = none)(ha:PA X [a] ta)(hs:starEach [a] X.env=[(false,eval a X.env)]:=by rfl):PI X tg (.Call (.Name "range" p) [a] [] pos) (PF ta):=by
 intro dl s Z H R I h;refine Call_ (jQ I hg hm boot_range (UD (aG (ha pos dl s Z H _ I h) λus s1 ⟨vs,H1,I1,r1,q1⟩=>?_) hs rfl));obtain⟨j,e,q1,q2,q⟩:=q1;subst e;cases r1 with
 | cons r rr =>
  cases rr;obtain⟨t,rfl⟩:=r;exact call_range_1 (vB I1 (by omega) (by omega) q1 q2 (by simpa using q))
theorem Bt{a b:Expr}(hg:Gl X "range")(hm:X.mg "range" = none)(ha:PA X [a,b] ta)(hs:starEach [a,b] X.env=[(false,eval a X.env),(false,eval b X.env)]:=by rfl)(hs2:starEach [b] X.env=[(false,eval b X.env)]:=by rfl) :
  PI X tg (.Call (.Name "range" p) [a,b] [] pos) (PD ta):=by
 intro dl s Z H R I h;refine Call_ (jQ I hg hm boot_range (UD (aG (ha pos dl s Z H _ I h) λus s1 ⟨vs,H1,I1,r1,q1⟩=>?_) (by rw[hs,hs2]) (by rw[hs2];rfl)));obtain⟨i,j,e,⟨q1,q2,q3,q4⟩,q⟩:=q1;subst e;cases r1 with
 | cons r rr =>
  cases rr with
  | cons r' rr =>
   cases rr;obtain⟨t,rfl⟩:=r;obtain⟨t',rfl⟩:=r';exact call_range_2 (vB I1 q1 q2 q3 q4 q)
noncomputable def QO(wi:TI)(g:TG)(tb:TS):TS:=λD Z H=>wi Z H λJ H1 => ∃W:Nat->Nat->St->Hp->Prop,(∃m,W 0 m Z H1)/\∀i m Z H,W i m Z H ->
 (J.stop i H/\D.nx Z H)\/(J.go i H/\∃N:St->Hp->Prop,(∀Z' H',N Z' H'->∃m',m' < m/\W (i+1) m' Z' H')/\∀x H',J.yld i H x H'->g x Z H' λσ2 H2=>tb { D with nx:=N,ct:=N,bk:=D.nx } σ2 H2)
def jK(fp:List Addr)(h:Heap):List (Addr×Obj):=fp.filterMap λb=>(h.get? b).map λo=>(b,o)
theorem gb(hb:b∈fp)(e:h.get? b=some o):(b,o)∈jK fp h:=List.mem_filterMap.mpr ⟨b,hb,by rw[e];rfl⟩
theorem BA{p:Addr×Obj}(hp:p∈jK fp h):p.1∈fp/\h.get? p.1=some p.2:=by
 obtain⟨b,hb,e⟩:=List.mem_filterMap.mp hp;cases q:h.get? b with
 | none=>rw[q]at e;cases e
 | some o =>
  rw[q]at e;have e':(b,o)=p:=TN e;subst e';exact⟨hb,q⟩
theorem aj.pinned(I:aj X dl Z H s)(hf:∀b∈fp,gP X dl H b)(ho:∀b∈fp,∃o,s.heap.get? b=some o/\∀v,o.data ≠ .cell v):aj X (dl++jK fp s.heap) Z H s :=
 I.pins_of λp hp=>(TZ.mp hp).elim (λz=>I.pin p (To _ z)) λz=>by
  obtain⟨hb,e⟩:=BA z;obtain⟨f0,f1,f2,_⟩:=hf p.1 hb;obtain⟨o,e',d⟩:=ho p.1 hb;rw[e]at e';cases e';exact⟨e,f0,f1,f2,d⟩
theorem aj.unpinned{pl:List (Addr×Obj)}(I:aj X (dl++pl) Z H s):aj X dl Z H s:=I.pins_of λp hp=>I.pin p (To _ (List.mem_append_left _ hp))
theorem vF{iter:Expr}{wi:TI}{g:TG}{tb:TS}(hp:PassesOwn (model X.prog X.w) X.A X.env X.xe)(hc:X.calm=true)(hi:PI X tg iter wi)(hg:PG X tg g)(hb:fD X body tb)
  (hs:∀x,foldedSetIterable iter X.env x=pure x:=by intro _;rfl):PS X (.For tg iter body [] pos) (QO wi g tb):=by
 intro dl s Z H D I h;refine wpAny_For (aG (hi dl s Z H _ I h) λv s1 h1=>aG h1 λitv s2 h2=>?_) hs;obtain⟨it,fp,tn,J,H2,e,I2,T,st2,f2,W,⟨m0,w0⟩,turn⟩:=h2;subst e;have stat:∀{H':Hp},(∀b∈fp,H' b=none)->∀b∈fp,gP X dl H' b:=λhn b hb=>⟨hn b hb,(f2 b hb).2⟩
 refine codeAny_forLoop_any (λn s' => ∃i Z' H',aj X dl Z' H' s'/\tn i s'.heap/\(∀b∈fp,H' b=none)/\W i n Z' H') ?_ m0 ⟨0,Z,H2,I2,st2,λb hb=>(f2 b hb).1,w0⟩;rintro n s3 ⟨i,Z3,H3,I3,st3,fr3,w3⟩;rcases turn i n Z3 H3 w3 with⟨stop,qn⟩|⟨go,N,hN,step⟩
 ·refine wpAny_passesOwn hp (aG (T.done X rfl rfl rfl hc i dl s3 Z3 H3 X.xe I3 (stat fr3) st3 stop) λr s4 ⟨hr,I4⟩=>?_);subst hr;exact Va ⟨Z3,H3,I4,qn⟩
 ·refine wpAny_passesOwn hp (aG (T.item X rfl rfl rfl hc i dl s3 Z3 H3 X.xe I3 (stat fr3) st3 go) λr s4 ⟨u,hr,h4⟩=>?_);subst hr;refine wpAny_passesOwn hp (aG h4 λ_ s5 ⟨x,H5,I5,r5,y5,st5,fr5⟩=>?_);have I5':=I5.pinned (stat fr5) (T.obj _ _ st5);refine wpAny_passesOwn hp (aG (hg _ s5 Z3 H5 x u _ I5' r5 (step x H5 y5)) λ_ s6 ⟨σ6,H6,I6,q6⟩=>?_);refine wpAny_passesOwn hp (aG (hb _ s6 σ6 H6 _ I6 q6) λf s7 q7=>?_);have again:∀{σ7:St} {H7:Hp},aj X (dl++jK fp s5.heap) σ7 H7 s7->N σ7 H7->∃m,m<n/\∃i Z' H',aj X dl Z' H' s7/\tn i s7.heap/\(∀b∈fp,H' b=none)/\W i m Z' H':=λ{σ7 H7} I7 n7=>by
   obtain⟨m',hm,w7⟩:=hN σ7 H7 n7;refine⟨m',hm,i+1,σ7,H7,I7.unpinned,T.keep _ _ _ st5 λb hb o e=>(I7.pin (b,o) (To _ (To _ (gb hb e)))).1,λb hb=>?_,w7⟩;obtain⟨o,e,d⟩:=T.obj _ _ st5 b hb;exact(I7.pin (b,o) (To _ (To _ (gb hb e)))).2.1
  cases f with
  | next=>obtain⟨σ7,H7,I7,n7⟩:=q7;exact again I7 n7
  | cont=>obtain⟨σ7,H7,I7,n7⟩:=q7;exact again I7 n7
  | brk=>obtain⟨σ7,H7,I7,q7⟩:=q7;exact⟨σ7,H7,I7.unpinned,q7⟩
  | ret v=>obtain⟨x7,σ7,H7,I7,r7,q7⟩:=q7;exact⟨x7,σ7,H7,I7.unpinned,r7,q7⟩
end
abbrev R2:=V->V->Hp->VK->Prop
noncomputable def eV(X:Cx)(f:Value->Value->Sem Value)(r:R2):Prop :=
 ∀(dl:List (Addr×Obj)) (s:Shared) (Z:St) (H:Hp) (x y:V) (v u:Value) (Q:VK),aj X dl Z H s->aW x v->aW y u->r x y H Q ->
  wpAny (model X.prog X.w) X.A (f v u) (EP X dl Z Q) X.xe s
noncomputable def N1(X:Cx)(f:Value->Sem Value)(r:V->Hp->VK->Prop):Prop :=
 ∀(dl:List (Addr×Obj)) (s:Shared) (Z:St) (H:Hp) (x:V) (v:Value) (Q:VK),aj X dl Z H s->aW x v->r x H Q ->
  wpAny (model X.prog X.w) X.A (f v) (EP X dl Z Q) X.xe s
noncomputable def dm(X:Cx)(f:Value)(r:List V->Hp->VK->Prop):Prop :=
 ∀(dl:List (Addr×Obj)) (s:Shared) (Z:St) (H:Hp) (xs:List V) (us:List Value) (Q:VK),aj X dl Z H s->aP xs us->r xs H Q ->
  wpAny (model X.prog X.w) X.A (call f us) (EP X dl Z Q) X.xe s
def FR(r:R2)(ta tb:TE):TE:=λZ H Q=>ta Z H λx H1=>tb Z H1 λy H2=>r x y H2 Q
def Sl(r:V->Hp->VK->Prop)(ta:TE):TE:=λZ H Q=>ta Z H λx H1=>r x H1 Q
def rI(C:Int->Int->Prop)(g:Int->Int->V):R2:=λx y H Q => ∃i j,x=.int i/\y=.int j/\C i j/\Q (g i j) H
def oy(g:Int->Int->V):R2:=λx y H Q => ∃i j,x=.int i/\y=.int j/\Q (g i j) H
def rU(g:Int->V):V->Hp->VK->Prop:=λx H Q => ∃i,x=.int i/\Q (g i) H
section
variable{a b c:Expr}{ta tb tc:TE}
theorem EJ(ha:PE X a ta)(hb:PE X b tb)(I:aj X dl Z H s)
  (h:ta Z H λx H1=>tb Z H1 λy H2=>R x y H2)
  (hf:∀v u s2 x y H2,aj X dl Z H2 s2->aW x v->aW y u->R x y H2->wpAny (model X.prog X.w) X.A (f v u) Q X.xe s2) :
  wpAny (model X.prog X.w) X.A (eval a X.env) (λv s₁=>wpAny (model X.prog X.w) X.A (eval b X.env) (λu s₂=>wpAny (model X.prog X.w) X.A (f v u) Q X.xe s₂) X.xe s₁) X.xe s:=by
 refine aG (ha dl s Z H _ I h) λv s1 ⟨x,H1,I1,r1,q1⟩=>?_
 refine aG (hb dl s1 Z H1 _ I1 q1) λu s2 ⟨y,H2,I2,r2,q2⟩=>?_
 exact hf v u s2 x y H2 I2 r1 r2 q2
theorem ON{op:Operator}{r:R2}(ho:eV X (binaryOp op) r)(ha:PE X a ta)(hb:PE X b tb):PE X (.BinOp a op b pos) (FR r ta tb):=by
 intro dl s Z H Q I h;exact wpAny_BinOp (EJ ha hb I h λv u s2 x y H2 I2 rx ry q=>ho dl s2 Z H2 x y v u Q I2 rx ry q)
theorem OM{op:UnaryOp}{r:V->Hp->VK->Prop}(ho:N1 X (unaryOp op) r)(ha:PE X a ta):PE X (.UnaryOp op a pos) (Sl r ta):=by
 intro dl s Z H Q I h;exact UnaryOp_ (aG (ha dl s Z H _ I h) λv s1 ⟨x,H1,I1,r1,q1⟩=>ho dl s1 Z H1 x v Q I1 r1 q1)
theorem F7{C:Int->Int->Prop}
  (rule:∀(i j:Int) (t u:Tok) (s:Shared) (Q:Value->Shared->Prop) (E:Value->Shared->Prop),C i j->Q (.int (g i j) s.toks) { s with toks:=s.toks+1 }->wpAny (model X.prog X.w) X.A (f (.int i t) (.int j u)) Q E s) :
  eV X f (rI C λi j=>.int (g i j)):=by
 intro dl s Z H x y v u Q I rx ry h;obtain⟨i,j,rfl,rfl,hc,q⟩:=h;obtain⟨t,rfl⟩:=rx;obtain⟨t',rfl⟩:=ry;exact rule i j t t' s _ _ hc ⟨.int (g i j),H,I.tok _,⟨_,rfl⟩,q⟩
theorem L6
  (rule:∀(i j:Int) (t u:Tok) (s:Shared) (Q:Value->Shared->Prop) (E:Value->Shared->Prop),Q (.int (g i j) s.toks) { s with toks:=s.toks+1 }->wpAny (model X.prog X.w) X.A (f (.int i t) (.int j u)) Q E s) :
  eV X f (oy λi j=>.int (g i j)):=by
 intro dl s Z H x y v u Q I rx ry h;obtain⟨i,j,rfl,rfl,q⟩:=h;obtain⟨t,rfl⟩:=rx;obtain⟨t',rfl⟩:=ry;exact rule i j t t' s _ _ ⟨.int (g i j),H,I.tok _,⟨_,rfl⟩,q⟩
theorem zm{g:Int->Int->Bool}
  (rule:∀(i j:Int) (t u:Tok) (s:Shared) (Q:Value->Shared->Prop) (E:Value->Shared->Prop),Q (.bool (g i j)) s->wpAny (model X.prog X.w) X.A (f (.int i t) (.int j u)) Q E s) :
  eV X f (oy λi j=>.bl (g i j)):=by
 intro dl s Z H x y v u Q I rx ry h;obtain⟨i,j,rfl,rfl,q⟩:=h;obtain⟨t,rfl⟩:=rx;obtain⟨t',rfl⟩:=ry;exact rule i j t t' s _ _ ⟨.bl (g i j),H,I,rfl,q⟩
def Si(i j:Int):Prop:=0<=j/\j<=1000000/\i.natAbs<2 ^ 64
theorem L5:eV X (binaryOp .Add) (oy λi j=>.int (i+j)):=L6 λ_ _ _ _ _ _ _ q=>add_int q
theorem L1:eV X (binaryOp .Sub) (oy λi j=>.int (i-j)):=L6 λ_ _ _ _ _ _ _ q=>sub_int q
theorem IQ:eV X (binaryOp .Mod) (rI (λ_ j=>j≠0) λi j=>.int (i.fmod j)):=F7 λ_ _ _ _ _ _ _ hc q=>mod_int' hc q
theorem L3:eV X (binaryOp .Pow) (rI Si λi j=>.int (i ^ j.toNat)):=F7 λ_ _ _ _ _ _ _ hc q=>pow_int_small hc.1 hc.2.1 hc.2.2 q
theorem Sj{f:Value->Sem Value}{g:Int->Int}
  (rule:∀(i:Int) (t:Tok) (s:Shared) (Q:Value->Shared->Prop) (E:Value->Shared->Prop),Q (.int (g i) s.toks) { s with toks:=s.toks+1 }->wpAny (model X.prog X.w) X.A (f (.int i t)) Q E s) :
  N1 X f (rU λi=>.int (g i)):=by
 intro dl s Z H x v Q I rx h;obtain⟨i,rfl,q⟩:=h;obtain⟨t,rfl⟩:=rx;exact rule i t s _ _ ⟨.int (g i),H,I.tok _,⟨_,rfl⟩,q⟩
theorem KJ:N1 X (unaryOp .USub) (rU λi=>.int (-i)):=Sj λ_ _ _ _ _ q=>neg_int q
end
section
variable{a b c:Expr}{ta tb tc:TE}
theorem Ch{Q:VK}{k k':Bool}(I:aj X dl Z H s)(q:Q (.bl k) H)(e:k=k'):EP X dl Z Q (.bool k') s:=by
 subst e;exact⟨.bl k,H,I,rfl,q⟩
theorem OR:eV X (compareOp .Lt) (oy λi j=>.bl (decide (i<j))):=zm λ_ _ _ _ _ _ _ q=>lt_int q
theorem OS:eV X (compareOp .LtE) (oy λi j=>.bl (decide (i<=j))):=zm λ_ _ _ _ _ _ _ q=>le_int q
theorem OT:eV X (compareOp .Gt) (oy λi j=>.bl (decide (j<i))):=zm λ_ _ _ _ _ _ _ q=>gt_int q
theorem OU:eV X (compareOp .GtE) (oy λi j=>.bl (decide (j<=i))):=zm λ_ _ _ _ _ _ _ q=>ge_int q
theorem L4:eV X (compareOp .Is) (λx y H Q=>y=.non/\Q (.bl (decide (x=.non))) H):=by
 intro dl s Z H x y v u Q I rx ry h;obtain⟨rfl,q⟩:=h;cases ry;refine is_none_gen (Ch I q ?_);cases x<;>first
  | (cases rx;rfl)
  | (obtain⟨t,rfl⟩:=rx;rfl)
theorem IN:eV X (compareOp .IsNot) (λx y H Q=>y=.non/\Q (.bl (!decide (x=.non))) H):=by
 intro dl s Z H x y v u Q I rx ry h;obtain⟨rfl,q⟩:=h;cases ry;refine isnot_none_gen (Ch I q ?_);cases x<;>first
  | (cases rx;rfl)
  | (obtain⟨t,rfl⟩:=rx;rfl)
theorem BD(b:Expr)(h:op ≠ .In:=by decide)(h2:op ≠ .NotIn:=by decide):behindInMarks op b=false:=by
 have e1:(op==CmpOp.In)=false:=by cases op<;>first|rfl|exact absurd rfl h
 have e2:(op==CmpOp.NotIn)=false:=by cases op<;>first|rfl|exact absurd rfl h2
 cases b<;>simp[behindInMarks,e1,e2]
def FP(t:TE):TT:=λZ H Q=>t Z H λx H' => ∃k,x=.bl k/\Q k H'
theorem Iq{r:R2}(ho:eV X (compareOp op) r)(ha:PE X a ta)(hb:PE X b tb)(hm:behindInMarks op b=false):PT X (.Compare a [op] [b] pos) (FP (FR r ta tb)):=by
 intro dl s Z H Q I h;refine wpAny_isTrue_Compare1 (aG (ha dl s Z H _ I h) λv s1 ⟨x,H1,I1,r1,q1⟩=>aG (hb dl s1 Z H1 _ I1 q1) λu s2 ⟨y,H2,I2,r2,q2⟩ =>
  aG (ho dl s2 Z H2 x y v u _ I2 r1 r2 q2) λc s3 ⟨z,H3,I3,r3,k,e,q3⟩=>?_) hm
 subst e;cases r3;exact T3 ⟨H3,I3,q3⟩
noncomputable def A3(r r':R2)(ta tb tc:TE):TE:=λZ H Q=>ta Z H λx H1=>tb Z H1 λy H2=>r x y H2 λz H3 => ∃k,z=.bl k /\
 (if k=true then tc Z H3 λw' H4=>r' y w' H4 Q else Q (.bl false) H3)
theorem DM{r r':R2}(ho:eV X (compareOp op) r)(ho':eV X (compareOp op') r')(ha:PE X a ta)(hb:PE X b tb)(hc:PE X c tc)
  (hm:lastMarks [op,op'] [b,c]=false:=by with_unfolding_all rfl):PE X (.Compare a [op,op'] [b,c] pos) (A3 r r' ta tb tc):=by
 intro dl s Z H Q I h;refine Compare_chain (aG (ha dl s Z H _ I h) λv s1 ⟨x,H1,I1,r1,q1⟩=>chain_link (aG (hb dl s1 Z H1 _ I1 q1) λu s2 ⟨y,H2,I2,r2,q2⟩ =>
  aG (ho dl s2 Z H2 x y v u _ I2 r1 r2 q2) λd s3 ⟨z,H3,I3,r3,k,e,q3⟩=>?_)) hm
 subst e;cases r3;refine T3 ?_;cases k with
 | false=>exact ite_ff ⟨.bl false,H3,I3,rfl,q3⟩
 | true=>exact ite_tt (chain_last (aG (hc dl s3 Z H3 _ I3 q3) λw' s4 ⟨z',H4,I4,r4,q4⟩=>ho' dl s4 Z H4 y z' u w' Q I4 r2 r4 q4))
theorem DH{r r':R2}(ho:eV X (compareOp op) r)(ho':eV X (compareOp op') r')(ha:PE X a ta)(hb:PE X b tb)(hc:PE X c tc)
  (hm:lastMarks [op,op'] [b,c]=false:=by with_unfolding_all rfl):PT X (.Compare a [op,op'] [b,c] pos) (FP (A3 r r' ta tb tc)):=by
 intro dl s Z H Q I h;refine isTrue_chain (aG (ha dl s Z H _ I h) λv s1 ⟨x,H1,I1,r1,q1⟩=>test_link (aG (hb dl s1 Z H1 _ I1 q1) λu s2 ⟨y,H2,I2,r2,q2⟩ =>
  aG (ho dl s2 Z H2 x y v u _ I2 r1 r2 q2) λd s3 ⟨z,H3,I3,r3,k,e,q3⟩=>?_)) hm
 subst e;cases r3;refine T3 ?_;cases k with
 | false =>
  obtain⟨k',e',q'⟩:=q3;cases e';exact ite_ff ⟨H3,I3,q'⟩
 | true =>
  refine ite_tt (test_last (aG (hc dl s3 Z H3 _ I3 q3) λw' s4 ⟨z',H4,I4,r4,q4⟩=>aG (ho' dl s4 Z H4 y z' u w' _ I4 r2 r4 q4) λd' s5 ⟨z2,H5,I5,r5,k2,e2,q5⟩=>?_));subst e2;cases r5;exact T3 ⟨H5,I5,q5⟩
theorem qj:(sizeLine:Nat)<2 ^ 63:=by rw[TW];decide
theorem zk:eV X (binaryOp .Add) (λx y H Q => ∃i j,x=.str i/\y=.str j/\i.length+j.length<=sizeLine/\Q (.str (i++j)) H):=by
 intro dl s Z H x y v u Q I rx ry h;obtain⟨i,j,rfl,rfl,hz,q⟩:=h;obtain⟨t,rfl⟩:=rx;obtain⟨t',rfl⟩:=ry;exact add_str (λt' tk=>⟨.str (i++j),H,I.tok _,⟨_,rfl⟩,q⟩) hz
def Fh(b:Expr):Prop:=∀o i,subscripted b false o i=operate [o,i] (getItem o i)
theorem xq(ha:PE X a ta)(hb:PE X b tb)(hs:Fh b) :
  PE X (.Subscript a b pos) (FR (λx y H Q => ∃z i c,x=.str z/\y=.int i/\0<=i/\i<2 ^ 63/\i<z.length/\z.cps[i.toNat]?=some c/\Q (.str ⟨#[c]⟩) H) ta tb):=by
 intro dl s Z H Q I h;refine Subscript_ (EJ ha hb I h λv u s2 x y H2 I2 rx ry q=>?_);obtain⟨z,i,c,rfl,rfl,h0,h63,h1,hc,q⟩:=q;obtain⟨t,rfl⟩:=rx;obtain⟨t',rfl⟩:=ry;have e:seqIndex? i z.length=some i.toNat:=PySem.StrLaws.seqIndex_nonneg h0 h1;exact tail_any (typeIs_str s2 z t) slot_str_getitem.lookup (getItem_str (c:=c) (by
  have e1:decide (i < -(2 ^ 63:Int))=false:=Th (by omega);have e2:decide (i >= 2 ^ 63)=false:=Th (by omega);rw[e1,e2]<;>rfl) (by rw[e];exact hc) ⟨.str ⟨#[c]⟩,H2,I2.tok _,⟨_,rfl⟩,q⟩) (hs _ _)
theorem bY{x:V}(r:aP [x] us):∃u,us=[u]/\aW x u:=by
 cases r with
 | cons r1 r2=>cases r2;exact⟨_,rfl,r1⟩
theorem FA{x:V}(r:aP [x,y] us):∃u w',us=[u,w']/\aW x u/\aW y w':=by
 cases r with
 | cons r1 r2 =>
  cases r2 with
  | cons r3 r4=>cases r4;exact⟨_,_,rfl,r1,r3⟩
theorem EF:dm X (.builtin "abs") (λxs H Q => ∃i,xs=[.int i]/\Q (.int (if i<0 then -i else i)) H):=by
 intro dl s Z H xs us Q I r h;obtain⟨i,rfl,q⟩:=h;obtain⟨u,rfl,t,rfl⟩:=bY r;exact call_abs_int λu tk=>⟨.int (if i<0 then -i else i),H,I.tok _,⟨_,rfl⟩,q⟩
theorem tW:dm X (.type "int") (λxs H Q=>(∃i,xs=[.int i]/\Q (.int i) H)\/∃k,xs=[.bl k]/\Q (.int (if k then 1 else 0)) H):=by
 intro dl s Z H xs us Q I r h;rcases h with⟨i,rfl,q⟩|⟨k,rfl,q⟩
 ·obtain⟨u,rfl,t,rfl⟩:=bY r;exact call_int_int ⟨.int i,H,I,⟨_,rfl⟩,q⟩
 ·obtain⟨u,rfl,r1⟩:=bY r;cases r1;exact call_int_bool ⟨.int (if k then 1 else 0),H,I.tok _,⟨_,rfl⟩,q⟩
theorem wz:dm X (.type "str") (λxs H Q => ∃i,xs=[.int i]/\i.natAbs.log2<1920/\Q (.str (toString i)) H):=by
 intro dl s Z H xs us Q I r h;obtain⟨i,rfl,hz,q⟩:=h;obtain⟨u,rfl,t,rfl⟩:=bY r;exact PySem.P.str_of_int hz ⟨.str _,H,I.tok _,⟨_,rfl⟩,q⟩
end
structure pE(h:Heap)(x dx C:Addr)(mA:Str->Option Value):Prop where
 obj:h.get? x=some (W.instObj C dx)
 ns:h.Ns1 dx mA
 ne:dx≠x
theorem tG(n:h.Ns1 dx mA):∃od,h.get? dx=some od/\∀name,W.lookIn name od=some (mA name):=by
 obtain⟨o,es,ep,ho,hd,hk,_,hm⟩:=n;refine⟨o,ho,λname=>?_⟩;have e:=hm name;unfold nsFind findBy at e;rw[<- Array.find?_toList]at e;unfold W.lookIn;rw[hd];dsimp only;split
 ·rename_i y q;rw[q]at e;exact Ue some e
 ·rename_i q;rw[q]at e;have a:es.toList.any (·.refKey)=false:=by
   rw[List.any_eq_false];intro y hy;obtain⟨z,t,hkey⟩:=hk y (Array.mem_toList_iff.mp hy);simp[DictEntry.refKey,hkey]
  have a':¬ es.toList.any (·.refKey)=true:=by rw[a];exact Ta
  rw[if_neg a'];exact Ue some e
theorem pE.look{x:Addr}(I:pE h x dx C mA):∃od,W.InstAt h x (W.instObj C dx) C (some od)/\∀name,W.lookIn name od=some (mA name) :=
 let ⟨od,ho,hl⟩:=tG I.ns
 ⟨od,⟨I.obj,rfl,rfl,ho⟩,hl⟩
section
variable{prog:Program}{x f:Addr}{name:Str}{v:Value}
theorem Jy{expr:Bool}(X:K.In s.heap)(I:pE s.heap x dx C mA)(hg:W.plainGet K C name=true)(hh:W.hasDictIn K C=true)
  (ha:W.findIn K (.ref C) name=some none) (hv:mA name=some v) (hv':W.handedIn v=true) (h:Q v { s with toks:=s.toks+1 }) :
  wpAny (model prog w) A (getAttr (.ref x) name expr) Q E s:=by
 obtain⟨od,J,hl⟩:=I.look;exact W.get_value X J (W.plainGet_of hg).1 (W.findObj_own hh ha rfl (by rw[hl,hv])) hv' h
theorem En{Q:Value×List Value->Shared->Prop}(X:K.In s.heap)(I:pE s.heap x dx C mA)(hg:W.plainGet K C name=true)
  (hf:W.findIn K (.ref C) name=some (some (.ref f))) (ht:W.isFn K (.ref f)=true) (hv:mA name=none) (h:Q (.ref f,[.ref x]) s) :
  wpAny (model prog w) A (getMethod (.ref x) name pl) Q E s:=by
 obtain⟨od,J,hl⟩:=I.look;exact W.method_fn X J (W.plainGet_of hg).1 (W.plainGet_of hg).2 hf (Vw.mp ht) (by show(W.lookIn name od).map (·.isSome)=some false;rw[hl,hv];rfl) h
theorem HU{ns:List Str}{Q:Unit->Shared->Prop}(X:K.In s.heap)(I:pE s.heap x dx C mA)
  (hs:W.findIn K (.ref C) "__setattr__" = some (some (.builtin "object.__setattr__"))) (hp:W.plainOver K C=true) (ht:W.takerIn K C name=some none) (hh:W.hasDictIn K C=true)
  (hw:PySem.Within mA ns) (hsz:ns.length<=sizeLine)
  (h:∀h',pE h' x dx C (λy=>if y=name then some v else mA y)->Heap.SameBut dx s.heap h'->Q () { s with heap:=h',toks:=s.toks+2 }) :
  wpAny (model prog w) A (setAttr (.ref x) name v) Q E s:=by
 obtain⟨od,J,hl⟩:=I.look;refine W.set_plain X J hs (W.osa_open (s:={ s with toks:=s.toks+1 }) (r:=none) X J hp ht λb=>?_);obtain⟨cd,hc,hd'⟩:=W.any_some hh;have hx:s.heap.get? x=some ⟨.ref C,some dx,.plain,#[]⟩:=I.obj;refine SO (SU (SO (SO (wpAny_loadPart hx (SO (W.Looks.here (s:={ s with toks:=s.toks+1 }) (W.looks_clsIn X hc) ?_))))));rw[hd'];refine SU (a:=some dx) (SO (SU (SO ?_)));refine wpAny_nsSet1 (s:={ s with toks:=s.toks+1 }) I.ns λh' hn2 hs2=>?_
 obtain⟨oD,esD,epD,hoD,hdD,hcD⟩:=hn2.count (PySem.Within.cons name v hw);refine SO (wpAny_lookBehind hoD (by rw[hdD];exact pastItsLine_dict (SZ hcD (by rw[S7];omega))) ?_);exact SU (h _ ⟨(hs2.2 _ (Ub I.ne)).trans I.obj,hn2,I.ne⟩ hs2)
theorem vS{R:Result->Shared->Prop}{vs:List Value}(X:K.In s.heap)(hm:W.makesIn K C=true)
  (hi:W.findIn K (.ref C) "__init__" = some (some (.ref f))) (hf:W.typeIn K (.ref f)=some (.type "function"))
  (h:codeAny (model prog w) (A.under (.builtin "type.__call__" ⟨.ref C::vs,kw⟩)) (.call (.ref f) ⟨.ref (s.heap.objs.size+1)::vs,kw⟩) (W.InitBack (s.heap.objs.size+1) R)
   { s with heap:=(s.heap.push W.emptyDict).push (W.instObj C s.heap.objs.size) }) :
  codeAny (model prog w) A (.call (.ref C) ⟨vs,kw⟩) R s:=by
 obtain⟨hh,g,d,t,os⟩:=s;exact W.make_core (W.makes_of X hm) (W.looks_findIn X hi) (λself=>W.bind_fn X self hf) (.inl rfl) h
end
def gn(f:Str)(v:V):List (Str×V)->List (Str×V)
 | []=>[(f,v)]
 | (g,x)::r=>if g=f then(g,v)::r else(g,x)::gn f v r
theorem oC(f g:Str)(v:V):∀fs:List (Str×V),(gn f v fs).lookup g=if g=f then some v else fs.lookup g
 | []=>by
  show List.lookup g [(f,v)]=_;by_cases h:g=f
  ·have hb:(g==f)=true:=Vw.mpr h;simp only[List.lookup,hb,if_pos h]
  ·have hb:(g==f)=false:=TF.mpr h;simp only[List.lookup,hb,if_neg h]
 | (k,x)::r=>by
  have ih:=oC f g v r;rw[show gn f v ((k,x)::r)=(if k=f then(k,v)::r else(k,x)::gn f v r)from rfl];by_cases hk:k=f
  ·rw[if_pos hk];by_cases h:g=k
   ·have hb:(g==k)=true:=Vw.mpr h;simp only[List.lookup,hb,if_pos (h.trans hk)]
   ·have hb:(g==k)=false:=TF.mpr h;simp only[List.lookup,hb,if_neg (λe:g=f=>h (e.trans hk.symm))]
  ·rw[if_neg hk];by_cases h:g=k
   ·have hb:(g==k)=true:=Vw.mpr h;simp only[List.lookup,hb,if_neg (λe:g=f=>hk (h.symm.trans e))]
   ·have hb:(g==k)=false:=TF.mpr h;simp only[List.lookup,hb];exact ih
theorem mR(f:Str)(v:V):∀fs:List (Str×V),f∈(gn f v fs).map (·.1)/\∀g,g∈fs.map (·.1)->g∈(gn f v fs).map (·.1)
 | []=>⟨by simp[gn],λg h=>by simp at h⟩
 | (k,x)::r=>by
  obtain⟨i1,i2⟩:=mR f v r;rw[show gn f v ((k,x)::r)=(if k=f then(k,v)::r else(k,x)::gn f v r)from rfl];by_cases hk:k=f
  ·rw[if_pos hk];subst hk;exact⟨by simp,λg h=>by simpa using h⟩
  ·rw[if_neg hk];refine⟨?_,λg h=>?_⟩
   ·rw[S2];exact SR _ i1
   ·rw[S2]at h⊢;rcases SS.mp h with e|e
    ·exact SS.mpr (.inl e)
    ·exact SR _ (i2 g e)
theorem oE(f:Str)(v:V):∀fs:List (Str×V),(gn f v fs).length<=fs.length+1
 | []=>by simp[gn]
 | (k,x)::r=>by
  have ih:=oE f v r;rw[show gn f v ((k,x)::r)=(if k=f then(k,v)::r else(k,x)::gn f v r)from rfl];by_cases hk:k=f
  ·rw[if_pos hk,S7,S7];omega
  ·rw[if_neg hk,S7,S7];omega
theorem gO.some_of{o:Option Value}(r:gO (some v) o):∃u,o=some u/\aW v u:=by
 cases o with
 | none=>exact(show False from r).elim
 | some u=>exact⟨u,rfl,r⟩
theorem gO.none_of{o:Option Value}(r:gO none o):o=none:=by
 cases o with
 | none=>rfl
 | some u=>exact(show False from r).elim
theorem tN(r:aW v u):W.handedIn u=true:=by
 cases v with
 | non=>cases (show u=Value.none from r);rfl
 | bl b=>cases (show u=Value.bool b from r);rfl
 | int i=>obtain⟨t,e⟩:=(show ∃t,u=Value.int i t from r);cases e;rfl
 | str x=>obtain⟨t,e⟩:=(show ∃t,u=Value.str x t from r);cases e;rfl
 | byt b=>obtain⟨t,e⟩:=(show ∃t,u=Value.bytes b t from r);cases e;rfl
 | flt b=>obtain⟨t,e⟩:=(show ∃t,u=Value.float b t from r);cases e;rfl
 | ref a=>cases (show u=Value.ref a from r);rfl
 | ty n=>cases (show u=Value.type n from r);rfl
section
variable{H':Hp}{h':Heap}{fs fs':List (Str×V)}
theorem r8(hok:df P w H h)(e:H a=some (.ins C dx fs)):∃mA,pE h a dx C mA/\(∀f,gO (fs.lookup f) (mA f))/\PySem.Within mA (fs.map (·.1))/\fs.length<=1000/\H dx=some (.own a):=by
 obtain⟨d,z,ne,ob,mA,n,r,q⟩:=(show bz P w H h a (.ins C dx fs)from hok a _ e);exact⟨mA,⟨ob,n,ne⟩,r,q,z,d⟩
end
structure eY(K:W.Frag)(C:Addr):Prop where
 pg:W.plainGet K C Str.empty=true
 hd:W.hasDictIn K C=true
 po:W.plainOver K C=true
 sa:W.findIn K (.ref C) "__setattr__" = some (some (.builtin "object.__setattr__"))
theorem eY.get(c:eY K C)(f:Str):W.plainGet K C f=true:=c.pg
def dZ(K:W.Frag)(C:Addr)(f:Str):Prop:=W.findIn K (.ref C) f=some none
theorem dZ.taker{f:Str}(n:dZ K C f):W.takerIn K C f=some none:=by
 unfold W.takerIn;rw[show W.findIn K (.ref C) f=some none from n];rfl
structure iL(K:W.Frag)(C:Addr)(m:Str)(f:Addr):Prop where
 at_:W.findIn K (.ref C) m=some (some (.ref f))
 fn:W.isFn K (.ref f)=true
 kp:W.keepIn K (.ref f)=true
section
variable{fs:List (Str×V)}{f:Str}
theorem zL{b:Bool}(I:aj X dl Z H s)(e:H a=some (.ins C dx fs))(c:eY X.K C)(n:dZ X.K C f)(l:fs.lookup f=some v)
  (h:∀u s',aj X dl Z H s'->aW v u->Q u s'):wpAny (model X.prog X.w) A (getAttr (.ref a) f b) Q E s:=by
 obtain⟨mA,Oou,r,_,_,_⟩:=r8 I.hok e;obtain⟨u,hu,ru⟩:=gO.some_of (v:=v) (o:=mA f) (by rw[<- l];exact r f);exact Jy I.kIn Oou (c.get f) c.hd n hu (tN ru) (h u _ (I.tok _) ru)
theorem hZ{m:Str}{g:Addr}{Q:Value×List Value->Shared->Prop}(I:aj X dl Z H s)(e:H a=some (.ins C dx fs))(c:eY X.K C)(k:iL X.K C m g)(l:fs.lookup m=none)
  (h:Q (.ref g,[.ref a]) s):wpAny (model X.prog X.w) A (getMethod (.ref a) m pl) Q E s:=by
 obtain⟨mA,Oou,r,_,_,_⟩:=r8 I.hok e;have hn:mA m=none:=gO.none_of (by rw[<- l];exact r m);exact En I.kIn Oou (c.get m) k.at_ k.fn hn h
theorem za{Q:Unit->Shared->Prop}(I:aj X dl Z H s)(e:H a=some (.ins C dx fs))(c:eY X.K C)(n:dZ X.K C f)(hl:fs.length<1000)(ry:aW y u)
  (h:∀s',aj X dl Z (aA H a (.ins C dx (gn f y fs))) s'->Q () s'):wpAny (model X.prog X.w) A (setAttr (.ref a) f u) Q E s:=by
 obtain⟨mA,Oou,r,wi,_,ho⟩:=r8 I.hok e;have hz:(fs.map (·.1)).length<=sizeLine:=by rw[SY,TW];omega
 refine HU I.kIn Oou c.sa c.po n.taker c.hd wi hz λh' O' sb=>h _ ?_
 have hd:∃o,h'.get? dx=some o:=let ⟨o,_,_,e',_⟩:=O'.ns;⟨o,e'⟩
 refine I.write (x:=a) (e:=dx) (by rw[e];exact True.intro) (.inr ho) (λb q hb z=>(sb.2 b hb).trans z) hd ?_;refine⟨by rw[aq Oou.ne];exact ho,?_,Oou.ne,O'.obj,_,O'.ns,λg=>?_,λg hg=>?_⟩
 ·have:=oE f y fs;omega
 ·show gO ((gn f y fs).lookup g) (if g=f then some u else mA g);rw[oC];by_cases q:g=f
  ·rw[if_pos q,if_pos q];exact ry
  ·rw[if_neg q,if_neg q];exact r g
 ·by_cases q:g=f
  ·rw[q];exact(mR f y fs).1
  ·refine(mR f y fs).2 g (wi g λz=>hg ?_);show(if g=f then some u else mA g)=none;rw[if_neg q];exact z
theorem aj.made(I:aj X dl Z H s):aj X dl Z (aA (aA H s.heap.objs.size (.own (s.heap.objs.size+1))) (s.heap.objs.size+1) (.ins C s.heap.objs.size []))
  { s with heap:=(s.heap.push W.emptyDict).push (W.instObj C s.heap.objs.size) }:=by
 have e1:(s.heap.push W.emptyDict).get? s.heap.objs.size=some W.emptyDict:=S6 s.heap rfl;have e2:((s.heap.push W.emptyDict).push (W.instObj C s.heap.objs.size)).get? (s.heap.objs.size+1)=some (W.instObj C s.heap.objs.size):=by
  have:=S6 (s.heap.push W.emptyDict) (o:=W.instObj C s.heap.objs.size) rfl;rwa [T5]at this
 have e3:(s.heap.push W.emptyDict).Ns s.heap.objs.size (λ_=>none):=⟨W.emptyDict,#[],_,e1,rfl,(λe he=>absurd he (by simp)),λ_=>rfl⟩;have I1:=I.laid (a:=s.heap.objs.size) (o:=.own (s.heap.objs.size+1)) (h':=s.heap.push W.emptyDict) (t':=s.toks) (λb u q=>SQ _ q) (SX _) ⟨_,e1⟩;refine I1.laid (a:=s.heap.objs.size+1) (o:=.ins C s.heap.objs.size []) (t':=s.toks) (λb u q=>SQ _ q) (Nat.le_of_eq (T5 _ _)) ?_;have ne:s.heap.objs.size≠s.heap.objs.size+1:=Ts (Tx _);refine⟨by rw[aq ne,aw],Tc _,ne,e2,λ_=>none,(Heap.Ns1.of_empty e3).at λo q=>SQ _ q,λ_=>True.intro,λy hy=>absurd rfl hy⟩
theorem yK{prog:Program}{env:Env}{f:Str}(hb:attributeBase e f env (eval e env)=eval e env)
  (h:wpAny (model prog w) A (eval e env) (λo s₁=>wpAny (model prog w) A (getAttr o f true) Q E s₁) E s):wpAny (model prog w) A (eval (.Attribute e f pos) env) Q E s :=
 Attribute_any_ h (by rw[arm_eval_Attribute,hb])
end
noncomputable def QP(K:W.Frag)(ta:TE)(f:Str):TE:=λZ H Q=>ta Z H λx H1 => ∃a C dx fs v,x=.ref a/\H1 a=some (.ins C dx fs)/\eY K C/\dZ K C f/\fs.lookup f=some v/\Q v H1
noncomputable def QU(K:W.Frag)(ta tv:TE)(f:Str):TS:=λD Z H=>tv Z H λy H1=>ta Z H1 λx H2 => ∃a C dx fs,x=.ref a/\H2 a=some (.ins C dx fs)/\eY K C/\dZ K C f/\fs.length<1000 /\
 D.nx Z (aA H2 a (.ins C dx (gn f y fs)))
section
variable{o value:Expr}{f:Str}{pos' tpos:Pos}{ta tv:TE}
theorem LX(he:PE X e ta)(hb:attributeBase e f X.env (eval e X.env)=eval e X.env):PE X (.Attribute e f pos) (QP X.K ta f):=by
 intro dl s Z H Q I h;refine yK hb (aG (he dl s Z H _ I h) λu s1 ⟨x,H1,I1,rx,a,C,dx,fs,v,ex,ea,c,n,l,q⟩=>?_);subst ex;obtain rfl:u=Value.ref a:=rx;exact zL I1 ea c n l λu' s2 I2 ru=>⟨v,H1,I2,ru,q⟩
theorem LH(ha:PE X o ta)(hv:PE X value tv)(hs:swapsWith value (some (.Attribute o f pos')) pos.line X.env=pure false):PS X (.Assign [.Attribute o f pos'] value pos) (QU X.K ta tv f):=by
 intro dl s Z H D I h;refine plainObj_wpAny_Assign_Attribute (aG (hv dl s Z H _ I h) λu s1 ⟨y,H1,I1,ry,q⟩=>aG (ha dl s1 Z H1 _ I1 q) λov s2 ⟨x,H2,I2,rx,a,C,dx,fs,ex,ea,c,n,l,q2⟩=>?_) hs;subst ex;obtain rfl:ov=Value.ref a:=rx;exact za I2 ea c n l ry λs3 I3=>⟨Z,_,I3,q2⟩
end
section
variable{c:Value}{b:Bool}
end
structure bJ(k:Nat)(A:Around):Prop where
 hd:A.handled=none
 dp:A.depth+3*k+5<recursionLimit
 un:A.units+16*k+200<cLine
theorem bJ.mono(r:bJ k A)(h:j<=k):bJ j A:=⟨r.hd,by have:=r.dp;omega,by have:=r.un;omega⟩
theorem bJ.deeper(r:bJ (k+1) A)(env:Env):bJ k (A.deeper env) :=
 ⟨r.hd,by have:=r.dp;show A.depth+1+3*k+5<_;omega,by have:=r.un;show A.units+3+16*k+200<_;omega⟩
theorem zt:(A.under (.builtin "type.__call__" ⟨.ref C::us,kw⟩)).depth=A.depth+1:=by
 first|rfl|simp[Around.under,Code.weight,Code.isCreation,Code.isGuard,Code.isCaller,Code.frames,Code.isFrame,guardIds]
theorem zr:(A.under (.builtin "type.__call__" ⟨.ref C::us,kw⟩)).units=A.units+1:=by
 first|rfl|simp[Around.under,Code.cUnits,Code.frames,Code.isFrame]
theorem bJ.make(r:bJ (k+1) A)(C:Addr)(us:List Value)(kw:List (Str×Value)):bJ k (A.under (.builtin "type.__call__" ⟨.ref C::us,kw⟩)) :=
 ⟨r.hd,by have:=r.dp;rw[zt];omega,by have:=r.un;rw[zr];omega⟩
theorem bJ.depth(r:bJ k A):A.depth<recursionLimit:=by have:=r.dp;omega
def yZ:TA:=λ_ H Q=>Q [] H
def On(ta:TE)(tr:TA):TA:=λZ H Q=>ta Z H λx H1=>tr Z H1 λxs H2=>Q (x::xs) H2
section
variable{t:TA}
theorem mK:PA X [] yZ:=λ_ _ _ _ H Q I h=>Calls.spliced_nil ⟨[],H,I,.nil,h⟩
theorem fZ(ha:PE X e te)(hr:PA X es t)(hs:starEach (e::es) X.env=(false,eval e X.env)::starEach es X.env:=by rfl):PA X (e::es) (On te t):=by
 intro pos dl s Z H Q I h;rw[hs];show wpAny _ _ (spliced ((false,eval e X.env)::backTo pos (starEach es X.env))) _ _ s;refine Calls.spliced_cons (aG (ha dl s Z H _ I h) λu s1 ⟨x,H1,I1,r1,q1⟩=>?_);exact aG (hr pos dl s1 Z H1 _ I1 q1) λus s2 ⟨xs,H2,I2,r2,q2⟩=>⟨x::xs,H2,I2,.cons r1 r2,q2⟩
def QH(t:TA):TE:=λZ H Q=>t Z H λxs H1=>xs.length<=sizeLine/\∀p,H1 p=none->Q (.ref p) (aA H1 p (.tup xs))
def QM(t:TA):TE:=λZ H Q=>t Z H λxs H1=>xs.length<=sizeLine/\∀p,H1 p=none->Q (.ref p) (aA H1 p (.lst xs))
theorem Bv{x1}(h:PA X es t):PE X (.Tuple es x1 pos) (QH t):=by
 intro dl s Z H Q I hq;refine wpAny_Tuple_spliced (aG (h pos dl s Z H _ I hq) λus s1 ⟨xs,H1,I1,r,z,q⟩=>⟨by rw[<- r.length];exact z,?_⟩);have hf:H1 s1.heap.objs.size=none:=I1.hok.fresh (SX _);refine⟨.ref s1.heap.objs.size,aA H1 s1.heap.objs.size (.tup xs),I1.laid (t':=s1.toks) (λb u e=>SQ _ e) (SX _) ?_,rfl,q _ hf⟩;exact⟨z,us,r,⟨_,S6 _ rfl,rfl,_,rfl⟩,_,S6 _ rfl,rfl⟩
theorem Bw(h:PA X es t):PE X (.List es pos) (QM t):=by
 intro dl s Z H Q I hq;refine wpAny_List_spliced (aG (h pos dl s Z H _ I hq) λus s1 ⟨xs,H1,I1,r,z,q⟩=>⟨by rw[<- r.length];exact z,?_⟩);have hf:H1 s1.heap.objs.size=none:=I1.hok.fresh (SX _);refine⟨.ref s1.heap.objs.size,aA H1 s1.heap.objs.size (.lst xs),I1.laid (t':=s1.toks) (λb u e=>SQ _ e) (SX _) ?_,rfl,q _ hf⟩;exact⟨z,us,0,r,S6 _ rfl⟩
end
abbrev Sp:=List V->Hp->VK->XK->Prop
abbrev lH:=List Env->Hp->Shared->XK->Value->Shared->Prop
structure pG(P:Program)(w:World)(K:W.Frag)(mg:Str->Option Value)(base:Heap)(A:Around)(outer:List Env)(s:Shared)(H:Hp):Prop where
 frames:A.frames=some outer
 mod:Mod K mg base
 bs:∀b o,base.get? b=some o->s.heap.get? b=some o/\H b=none
 bsz:base.objs.size<=s.heap.objs.size
 funs:s.heap.FunFrames base outer
 frf:∀b∈bW outer,H b=none
 hok:df P w H s.heap
 bare:AllBare s.gens
noncomputable def CE(outer:List Env)(P:Program)(w:World)(H:Hp)(s:Shared)(Q:VK)(u:Value)(s':Shared):Prop :=
 ∃v H',s'.os=s.os/\AllBare s'.gens/\Un (bW outer) [] H H' s.heap s'.heap/\df P w H' s'.heap/\aW v u/\Q v H'
noncomputable def CR(CX:lH)(outer:List Env)(P:Program)(w:World)(H:Hp)(s:Shared)(Q:VK)(E:XK)(r:Result)(s':Shared):Prop :=
 match r with
 | .ok (.ret u)=>CE outer P w H s Q u s'
 | .ok _=>False
 | .error e=>CX outer H s E e s'
structure bj(P:Program)(w:World)(K:W.Frag)(mg:Str->Option Value)(base:Heap)(CX:lH)(k:Nat)(f:Addr)(fd:FuncData)(ps:List Str)(sp:Sp):Prop where
 len:∀vs H Q E,sp vs H Q E->vs.length=ps.length
 run:∀(A:Around) (outer:List Env) (s:Shared) (H:Hp) (args:Args) (us:List Value) (vs:List V) (Q:VK) (E:XK),bJ k A->pG P w K mg base A outer s H->BindsTo s fd args (ps.zip us)->aP vs us->sp vs H Q E ->
  codeAny (model P w) A (.call (.ref f) args) (CR CX outer P w H s Q E) s
theorem bj.mono{CX:lH}{f:Addr}{sp:Sp}(F:bj P w K mg base CX j f fd ps sp)(h:j<=k) :
  bj P w K mg base CX k f fd ps sp:=⟨F.len,λA outer s H args us vs Q E hr=>F.run A outer s H args us vs Q E (hr.mono h)⟩
theorem pG.make(e:pG P w K mg base A outer s H)(C:Addr)(us:List Value)(kw:List (Str×Value)) :
  pG P w K mg base (A.under (.builtin "type.__call__" ⟨.ref C::us,kw⟩)) outer s H:=⟨by first|exact e.frames|(simpa [Around.under,Code.envs,Code.isFrame,pushEnvs]using e.frames),e.mod,e.bs,e.bsz,e.funs,e.frf,e.hok,e.bare⟩
section
theorem aj.env0(I:aj X dl Z H s):pG X.prog X.w X.K X.mg X.base X.A X.stack s H :=
 ⟨I.ok.frames,I.ok.mod,I.bs,SZ I.ok.bsz I.sz,I.stack,I.stkFree,I.hok,I.bare⟩
theorem aj.after{Q:VK}(I:aj X dl Z H s)(h:CE X.stack X.prog X.w H s Q u s'):EP X dl Z Q u s':=by
 obtain⟨v,H',os,bare,un,hok,r,q⟩:=h;obtain⟨hh,g,d,t,os'⟩:=s';obtain rfl:os'=s.os:=os;exact⟨v,H',I.call (h':=hh) (g':=g) (d':=d) (t':=t) (ch:=[]) un hok bare (λb z=>absurd z (by simp)),r,q⟩
end
def FV(sp:Sp)(dvs:List V)(E:XK)(t:TA):TE:=λZ H Q=>t Z H λvs H1=>sp (vs++dvs) H1 Q E
noncomputable def FT(C:Addr)(m:Str)(sp:Sp)(dvs:List V)(E:XK)(ta:TE)(t:TA):TE:=λZ H Q=>ta Z H λx H1 => ∃a dx fs,x=.ref a/\H1 a=some (.ins C dx fs)/\fs.lookup m=none /\
 t Z H1 λvs H2=>sp (x::(vs++dvs)) H2 Q E
noncomputable def FU(C:Addr)(sp:Sp)(dvs:List V)(E:XK)(t:TA):TE:=λZ H Q=>t Z H λvs H1 => ∀x dx,H1 x=none->H1 dx=none->dx≠x ->
 sp (.ref x::(vs++dvs)) (aA (aA H1 dx (.own x)) x (.ins C dx [])) (λv H2=>v=.non/\Q (.ref x) H2) E
noncomputable def bu(K:W.Frag)(fd:FuncData)(ps:List Str)(ds:List Value):Prop :=
 ∀(s:Shared) (us:List Value),K.In s.heap->(us++ds).length=ps.length->BindsTo s fd ⟨us,[]⟩ (ps.zip (us++ds))
theorem bu.all(h:∀us:List Value,us.length=ps.length->bindArgs fd ⟨us,[]⟩=pure (ps.zip us)):bu K fd ps []:=λs us _ hl=>by
 rw[Tw]at hl⊢;exact .of_eq (h us hl)
def io(CX:lH)(X:Cx)(E:XK):Prop:=∀(dl:List (Addr×Obj)) (Z:St) (H:Hp) (s:Shared) (e:Value) (s':Shared),aj X dl Z H s->CX X.stack H s E e s'->X.xe e s'
section
variable{CX:lH}{f:Addr}{sp:Sp}{dvs:List V}{ds:List Value}{E:XK}{m:Str}{apos:Pos}{o:Expr}{ta:TE}{t:TA}
theorem lh{Q:VK}(F:bj X.prog X.w X.K X.mg X.base CX k f fd ps sp)(hr:bJ k X.A)(hb:bu X.K fd ps ds)(hd:aP dvs ds)(hx:io CX X E)
  (I:aj X dl Z H s) (r:aP vs us) (h:sp (vs++dvs) H Q E):wpAny (model X.prog X.w) X.A (call (.ref f) us) (EP X dl Z Q) X.xe s:=by
 have r2:aP (vs++dvs) (us++ds):=r.append hd;have hl:(us++ds).length=ps.length:=by rw[<- r2.length];exact F.len _ _ _ _ h
 refine UL (UV (F.run X.A X.stack s H ⟨us,[]⟩ (us++ds) (vs++dvs) Q E hr I.env0 (hb s us I.kIn hl) r2 h) λr s' hq=>?_);cases r with
 | error e=>exact hx dl Z H s e s' I hq
 | ok fl =>
  cases fl with
  | ret u=>exact I.after hq
  | next=>exact False.elim hq
  | brk=>exact False.elim hq
  | cont=>exact False.elim hq
theorem II(F:bj X.prog X.w X.K X.mg X.base CX k f fd ps sp)(hr:bJ k X.A)(hg:Gl X x)(hm:X.mg x=some (.ref f))(hk:W.keepIn X.K (.ref f)=true)(hb:bu X.K fd ps ds)(hd:aP dvs ds)(hx:io CX X E)
  (ha:PA X (e::es) t) (hdb:(x==("__debug__" : Str))=false:=by decide) (he:starEach (e::es) X.env=(false,eval e X.env)::starEach es X.env:=by rfl) (hpl:(backTo pos (starEach es X.env)).any (·.1)=false:=by rfl) :
  PE X (.Call (.Name x p) (e::es) [] pos) (FV sp dvs E t):=by
 intro dl s Z H Q I h;refine Uh (dP I hg hm ?_ hdb);refine UM (h₀:=X.base) I.ok.mod.kin hk (aG (ha pos dl s Z H _ I h) λus s1 ⟨vs,H1,I1,r,q⟩=>⟨I1.kIn,?_⟩) he hpl;exact lh F hr hb hd hx I1 r q
theorem DO(F:bj X.prog X.w X.K X.mg X.base CX k f fd ps sp)(hr:bJ k X.A)(hg:Gl X x)(hm:X.mg x=some (.ref f))(hk:W.keepIn X.K (.ref f)=true)(hb:bu X.K fd ps ds)(hd:aP dvs ds)(hx:io CX X E)
  (hdb:(x==("__debug__" : Str))=false:=by decide):PE X (.Call (.Name x p) [] [] pos) (FV sp dvs E yZ):=by
 intro dl s Z H Q I h;refine Uh (dP I hg hm ?_ hdb);exact W.callWith_K0 I.kIn hk (lh (us:=[]) F hr hb hd hx I .nil h)
theorem IG(he:PE X o ta)(c:eY X.K C)(hm:iL X.K C m f)(F:bj X.prog X.w X.K X.mg X.base CX k f fd ps sp)(hr:bJ k X.A)(hb:bu X.K fd ps ds)(hd:aP dvs ds)(hx:io CX X E)(ha:PA X (e::es) t)
  (hst:starEach (e::es) X.env=(false,eval e X.env)::starEach es X.env:=by rfl) (hpl:(backTo pos (starEach es X.env)).any (·.1)=false:=by rfl)
  (ht:eval (.Call (.Attribute o m apos) (e::es) [] pos) X.env=(do
   let ov <- eval o X.env
   standAt apos.atName
   let (f,first) <- holding [ov] (getMethod ov m pl)
   callWith pos f first (backTo pos (starEach (e::es) X.env)) (backToKw pos (keywordEach [] X.env))):=by rfl) :
  PE X (.Call (.Attribute o m apos) (e::es) [] pos) (FT C m sp dvs E ta t):=by
 intro dl s Z H Q I h;refine Vc (pl:=pl) (aG (he dl s Z H _ I h) λu s1 ⟨x,H1,I1,rx,a,dx,fs,ex,ea,l,q⟩=>?_) ht;subst ex;obtain rfl:u=Value.ref a:=rx;refine hZ I1 ea c hm l ?_;refine UM (first:=[.ref a]) (h₀:=X.base) I.ok.mod.kin hm.kp (aG (ha pos dl s1 Z H1 _ I1 q) λus s2 ⟨vs,H2,I2,r,q2⟩=>⟨I2.kIn,?_⟩) hst hpl;exact lh (us:=.ref a::us) (vs:=.ref a::vs) F hr hb hd hx I2 (.cons rfl r) q2
theorem DL(he:PE X o ta)(c:eY X.K C)(hm:iL X.K C m f)(F:bj X.prog X.w X.K X.mg X.base CX k f fd ps sp)(hr:bJ k X.A)(hb:bu X.K fd ps ds)(hd:aP dvs ds)(hx:io CX X E)
  (ht:eval (.Call (.Attribute o m apos) [] [] pos) X.env=(do
   let ov <- eval o X.env
   standAt apos.atName
   let (f,first) <- holding [ov] (getMethod ov m pl)
   callWith pos f first (backTo pos (starEach [] X.env)) (backToKw pos (keywordEach [] X.env))):=by rfl) :
  PE X (.Call (.Attribute o m apos) [] [] pos) (FT C m sp dvs E ta yZ):=by
 intro dl s Z H Q I h;refine Vc (pl:=pl) (aG (he dl s Z H _ I h) λu s1 ⟨x,H1,I1,rx,a,dx,fs,ex,ea,l,q⟩=>?_) ht;subst ex;obtain rfl:u=Value.ref a:=rx;refine hZ I1 ea c hm l ?_;exact W.callWith_K0 (first:=[.ref a]) I1.kIn hm.kp (lh (us:=[.ref a]) (vs:=[.ref a]) F hr hb hd hx I1 (.cons rfl .nil) q)
structure Mk(K:W.Frag)(C f:Addr):Prop where
 makes:W.makesIn K C=true
 init:W.findIn K (.ref C) "__init__" = some (some (.ref f))
 fn:W.isFn K (.ref f)=true
 kp:W.keepIn K (.ref C)=true
theorem vq{Q:VK}(M:Mk X.K C f)(F:bj X.prog X.w X.K X.mg X.base CX k f fd ps sp)(hr:bJ (k+1) X.A)(hb:bu X.K fd ps ds)(hd:aP dvs ds)
  (hx:io CX X E) (I:aj X dl Z H s) (r:aP vs us)
  (h:∀x dx,H x=none->H dx=none->dx≠x->sp (.ref x::(vs++dvs)) (aA (aA H dx (.own x)) x (.ins C dx [])) (λv H2=>v=.non/\Q (.ref x) H2) E) :
  wpAny (model X.prog X.w) X.A (call (.ref C) us) (EP X dl Z Q) X.xe s:=by
 have hq:=h (s.heap.objs.size+1) s.heap.objs.size (I.hok.fresh (TM _)) (I.hok.fresh (SX _)) (Ts (Tx _));have I2:=aj.made (C:=C) I;have r2:aP (V.ref (s.heap.objs.size+1)::(vs++dvs)) (Value.ref (s.heap.objs.size+1)::(us++ds)):=.cons rfl (r.append hd);have hl:(Value.ref (s.heap.objs.size+1)::us++ds).length=ps.length:=by
  have e:=r2.length;rw[F.len _ _ _ _ hq]at e;exact e.symm
 refine UL (vS (f:=f) I.kIn M.makes M.init (Vw.mp M.fn) (UV (F.run _ X.stack _ _ ⟨Value.ref (s.heap.objs.size+1)::us,[]⟩ (Value.ref (s.heap.objs.size+1)::(us++ds)) _ _ E (hr.make C us [])
  (I2.env0.make C us []) (hb _ (Value.ref (s.heap.objs.size+1)::us) I2.kIn hl) r2 hq) λr s' hq'=>?_))
 cases r with
 | error e=>exact hx dl Z _ _ e s' I2 hq'
 | ok fl =>
  cases fl with
  | ret u =>
   obtain⟨v,H',I3,rv,ev,q3⟩:=I2.after hq';subst ev;exact⟨rv,⟨V.ref (s.heap.objs.size+1),H',I3,rfl,q3⟩⟩
  | next=>exact False.elim hq'
  | brk=>exact False.elim hq'
  | cont=>exact False.elim hq'
theorem IH(M:Mk X.K C f)(F:bj X.prog X.w X.K X.mg X.base CX k f fd ps sp)(hr:bJ (k+1) X.A)(hg:Gl X x)(hm:X.mg x=some (.ref C))(hb:bu X.K fd ps ds)(hd:aP dvs ds)(hx:io CX X E)
  (ha:PA X (e::es) t) (hdb:(x==("__debug__" : Str))=false:=by decide) (he:starEach (e::es) X.env=(false,eval e X.env)::starEach es X.env:=by rfl) (hpl:(backTo pos (starEach es X.env)).any (·.1)=false:=by rfl) :
  PE X (.Call (.Name x p) (e::es) [] pos) (FU C sp dvs E t):=by
 intro dl s Z H Q I h;refine Uh (dP I hg hm ?_ hdb);refine UM (h₀:=X.base) I.ok.mod.kin M.kp (aG (ha pos dl s Z H _ I h) λus s1 ⟨vs,H1,I1,r,q⟩=>⟨I1.kIn,?_⟩) he hpl;exact vq M F hr hb hd hx I1 r q
theorem vH(M:Mk X.K C f)(F:bj X.prog X.w X.K X.mg X.base CX k f fd ps sp)(hr:bJ (k+1) X.A)(hg:Gl X x)(hm:X.mg x=some (.ref C))(hb:bu X.K fd ps ds)(hd:aP dvs ds)(hx:io CX X E)
  (hdb:(x==("__debug__" : Str))=false:=by decide):PE X (.Call (.Name x p) [] [] pos) (FU C sp dvs E yZ):=by
 intro dl s Z H Q I h;refine Uh (dP I hg hm ?_ hdb);exact W.callWith_K0 I.kIn M.kp (vq (us:=[]) M F hr hb hd hx I .nil h)
end
section
variable{CX:lH}{f:Addr}{ks:List Str}{sp:Sp}{E:XK}{m:Str}{apos kpos:Pos}{o:Expr}{kws:List Keyword}{ta:TE}{t tk:TA}{nm:Option Str}
variable{g:List Value->List Value->List Value}{gV:List V->List V->List V}
end
structure bG(N P:List Str)(sc:Scope):Prop where
 kind:sc.kind=.function
 co:sc.isCoroutine=false
 gen:sc.isGenerator=false
 nd:N.Nodup
 pre:N.take P.length=P
 par:∀x∈P,sc.names.lookup x=some .local\/sc.names.lookup x=some .cell
 nofree:∀y∈sc.names,y.2 ≠ .free
theorem tX{kindOf:Str->Option NameKind}{x:Str}:∀{binds:List (Str×Value)} {m:Str->Option Value},(∀v,(x,v)∉binds)->bindL kindOf binds m x=m x
 | [],_,_=>rfl
 | (n,v)::r,m,h=>by
  unfold bindL;rw[tX λw hw=>h w (SR _ hw)];split
  ·have:x≠n:=by rintro rfl;exact h v SV
   simp[this]
  ·rfl
theorem t9{kindOf:Str->Option NameKind}{x:Str}:∀{binds:List (Str×Value)} {m:Str->Option Value},(∀v,(x,v)∉binds)->bindC kindOf binds m x=m x
 | [],_,_=>rfl
 | (n,v)::r,m,h=>by
  unfold bindC;rw[t9 λw hw=>h w (SR _ hw)];split
  ·rfl
  ·have:x≠n:=by rintro rfl;exact h v SV
   simp[this]
theorem tY{kindOf:Str->Option NameKind}{x:Str}{v:Value}:∀{P:List Str} {vs:List Value} {i:Nat} {m:Str->Option Value},P.Nodup->P[i]?=some x->vs[i]?=some v->kindOf x=some .local ->
  bindL kindOf (P.zip vs) m x=some v
 | [],_,_,_,_,h,_,_=>by simp at h
 | _::_,[],_,_,_,_,h,_=>by simp at h
 | p::P,w::vs,0,m,nd,h1,h2,hk=>by
  simp at h1 h2;subst h1;subst h2;show bindL kindOf ((p,w)::P.zip vs) m p=_;unfold bindL;rw[tX λv hv=>(Vd.mp nd).1 (List.of_mem_zip hv).1,if_pos hk];simp
 | p::P,w::vs,i+1,m,nd,h1,h2,hk=>by
  show bindL kindOf ((p,w)::P.zip vs) m x=_;unfold bindL;exact tY (i:=i) (Vd.mp nd).2 (by simpa using h1) (by simpa using h2) hk
theorem ua{kindOf:Str->Option NameKind}{x:Str}{v:Value}:∀{P:List Str} {vs:List Value} {i:Nat} {m:Str->Option Value},P.Nodup->P[i]?=some x->vs[i]?=some v->kindOf x≠some .local ->
  bindC kindOf (P.zip vs) m x=some v
 | [],_,_,_,_,h,_,_=>by simp at h
 | _::_,[],_,_,_,_,h,_=>by simp at h
 | p::P,w::vs,0,m,nd,h1,h2,hk=>by
  simp at h1 h2;subst h1;subst h2;show bindC kindOf ((p,w)::P.zip vs) m p=_;unfold bindC;rw[t9 λv hv=>(Vd.mp nd).1 (List.of_mem_zip hv).1,if_neg hk];simp
 | p::P,w::vs,i+1,m,nd,h1,h2,hk=>by
  show bindC kindOf ((p,w)::P.zip vs) m x=_;unfold bindC;exact ua (i:=i) (Vd.mp nd).2 (by simpa using h1) (by simpa using h2) hk
def start(N:List Str)(vs:List V):St:=vs.map some++List.replicate (N.length-vs.length) none
noncomputable def fV(CX:lH)(P:Program)(w:World)(K:W.Frag)(mg:Str->Option Value)(base:Heap)(N:List Str)(qual:Str)(scope:Scope)(f:Addr)(cd:Value)(A:Around)(outer:List Env)(s:Shared)(H:Hp)(E:XK):Cx where
 prog:=P
 w:=w
 K:=K
 mg:=mg
 base:=base
 A:=A.deeper (envOfC qual scope s.heap.objs.size f cd)
 N:=N
 s₀:=s
 H₀:=H
 env:=envOfC qual scope s.heap.objs.size f cd
 outer:=outer
 stack:=envOfC qual scope s.heap.objs.size f cd::outer
 ex:=[]
 calm:=true
 fn:=λ_=>true
 pn:=[]
 xe:=λe s'=>wpAny (model P w) (A.deeper (envOfC qual scope s.heap.objs.size f cd)) (leaving (envOfC qual scope s.heap.objs.size f cd) e) (λ_ s''=>CX outer H s E e s'') (λe' s''=>CX outer H s E e' s'') s'
theorem wx{sc:Scope}(h:sc.names.lookup x=some .cell):∃c,(cellsFrom n sc.names []).lookup x=some c:=by
 have q:=W.cellsFrom_some sc.names n [] (.inl h);exact Option.isSome_iff_exists.mp q
theorem B8{CX:lH}{f:Addr}{cd:Value}{s1:Shared}{E:XK}
  (S:bG N ps scope) (hd:A.handled=none) (e0:pG P w K mg base A outer s H) (hl:vs.length=ps.length) (r:aP vs us)
  (x:InCallC s s.heap.objs.size (bindL (envOfC qual scope s.heap.objs.size f cd).kindOf (ps.zip us) λ_=>none) (cellsFrom (s.heap.objs.size+1) scope.names []) (bindC (envOfC qual scope s.heap.objs.size f cd).kindOf (ps.zip us) λ_=>none) s1) :
  aj (fV CX P w K mg base N qual scope f cd A outer s H E) [] (start N vs) H s1:=by
 have hpl:ps.length<=N.length:=by have:=Ue List.length S.pre;rw[Um]at this;omega
 obtain⟨h1,tk,rfl,hk⟩:=x.done;have noA:∀b:Addr,b∉(fV CX P w K mg base N qual scope f cd A outer s H E).ex:=λb z=>absurd (show b∈([]:List Addr)from z) (by simp)
 refine⟨⟨e0.mod,S.kind,rfl,rfl,SX _,λy z c h1 h2=>?_,λy hy=>?_,λy c _ h=>?_,λ_=>hd,Around.frames_deeper e0.frames,.inr ⟨rfl,rfl⟩,λb z=>absurd z (noA b),e0.bs,e0.bsz,λb _ _=>noA b,λb z=>absurd z (noA b),e0.funs,e0.frf⟩,
  rfl,e0.bare,Un.kept hk,⟨_,x.toInCall.ns,λi y v h1 h2 h3=>?_⟩,λy c h=>⟨_,x.cell y c h⟩,e0.hok.fresh (SX _),λy c h=>?_,λp hp=>absurd (show p∈([]:List (Addr×Obj))from hp) (by simp),e0.hok.kept hk,?_⟩
 ·exact name_of_addr x.apart (S5 h1) (S5 h2)
 ·have hy:scope.names.lookup y=some .cell\/scope.names.lookup y=some .free:=hy;rcases hy with hy|hy
  ·exact wx hy
  ·exact absurd rfl (S.nofree _ (S5 hy))
 ·exact Ud (x.above y c (S5 h))
 ·have hi:i<vs.length:=by
   unfold start at h2;by_cases hi:i<vs.length
   ·exact hi
   ·rw[List.getElem?_append_right (by simpa using hi)]at h2;rw[List.getElem?_replicate]at h2;split at h2<;>cases h2
  have ha:vs[i]?=some v:=by
   unfold start at h2;rw[List.getElem?_append_left (by simpa using hi),TQ]at h2;cases e:vs[i]? with
   | none=>rw[e]at h2;cases h2
   | some a=>rw[e]at h2;cases h2;rfl
  obtain⟨u,hu,rv⟩:=r.get ha;have hp:ps[i]?=some y:=by
   rw[<- S.pre,List.getElem?_take_of_lt (by omega)];exact h1
  have ndP:ps.Nodup:=by rw[<- S.pre];exact S.nd.sublist (List.take_sublist _ _)
  refine⟨u,rv,?_⟩;rcases S.par y (Ux hp)with k|k
  ·exact .inl ⟨k,tY ndP hp hu k⟩
  ·obtain⟨c,e⟩:=wx (n:=s.heap.objs.size+1) k;refine .inr ⟨.inl k,c,e,?_⟩;have q:=x.cell y c e;rw[ua ndP hp hu (by show scope.names.lookup y≠_;rw[k];decide)]at q;exact q
 ·exact e0.hok.fresh (Ud (x.above y c (S5 h)))
 ·unfold start;show _=N.length;rw[S8,SY,List.length_replicate];omega
theorem zM{CX:lH}{f:Addr}{name:Str}{params:Arguments}{dV kV doc pm cdv ct oc:Value}{an od:Option Addr}
  {osl:Array (Option Value)} {sp:Sp} (lk:K.lookup f=some ⟨oc,od,.func (W.fnOf name qual params body scope dV kV doc pm an cdv ct),osl⟩) (hcd:W.codeIn K cdv qual=true) (S:bG N ps scope)
  (len:∀vs H Q E,sp vs H Q E->vs.length=ps.length)
  (hbody:∀(A:Around) (outer:List Env) (s:Shared) (H:Hp) (vs:List V) (Q:VK) (E:XK),bJ k (A.deeper (envOfC qual scope s.heap.objs.size f cdv))->sp vs H Q E ->
   ∃t,fD (fV CX P w K mg base N qual scope f cdv A outer s H E) body t/\t { nx:=λ_ H'=>Q .non H',rt:=Q } (start N vs) H) :
  bj P w K mg base CX (k+1) f (W.fnOf name qual params body scope dV kV doc pm an cdv ct) ps sp:=by
 refine⟨len,λA outer s H args us vs Q E hr e0 hb r hsp=>?_⟩;have hl:=len _ _ _ _ hsp;have KX:K.In s.heap:=e0.mod.kin.keeps λb o e=>(e0.bs b o e).1
 have lim:s.heap.NoLimit:=e0.mod.nolimit.keeps λb o e=>(e0.bs b o e).1
 have hkind:∀y∈ps.zip us,scope.names.lookup y.1=some .local\/(scope.names.lookup y.1=some .cell/\((cellsFrom (s.heap.objs.size+1) scope.names []).lookup y.1).isSome=true):=λ⟨n,v⟩ hy=>by
  rcases S.par n (List.of_mem_zip hy).1 with q|q
  ·exact .inl q
  ·exact .inr ⟨q,W.cellsFrom_some _ _ _ (.inl q)⟩
 refine codeAny_call_function hr.depth (KX _ _ lk) rfl S.co S.gen rfl (W.codeRec_of KX hcd) (hb _ _ _ _ ?_);refine wpAny_newFunctionEnv_cells S.kind hkind λenv he s1 x=>?_
 subst he;refine⟨lim.keeps x.toInCall.keep,codeAny_func ?_⟩;obtain⟨t,ht,hq⟩:=hbody A outer s H vs Q E (hr.deeper _) hsp;have I:aj (fV CX P w K mg base N qual scope f cdv A outer s H E) [] (start N vs) H s1:=B8 S hr.hd e0 hl r x;refine Tn (ht [] s1 (start N vs) H _ I hq) (λfl s' hs=>?_) λe s' hs=>hs
 have fin:∀{Z':St} {H':Hp} {v:V} {u:Value},aj (fV CX P w K mg base N qual scope f cdv A outer s H E) [] Z' H' s'->aW v u->Q v H'->CE outer P w H s Q u s' :=
  λ{Z' H' v u} J rv q=>⟨v,H',J.os,J.bare,J.base,J.hok,rv,q⟩
 cases fl with
 | ret u =>
  obtain⟨v,Z',H',J,rv,q⟩:=hs;exact fin J rv q
 | next =>
  obtain⟨Z',H',J,q⟩:=hs;exact fin (v:=V.non) (u:=Value.none) J rfl q
 | brk =>
  obtain⟨_,_,_,q⟩:=hs;exact False.elim q
 | cont =>
  obtain⟨_,_,_,q⟩:=hs;exact False.elim q
section
variable{t:TA}{id T:String}{r:List V->Hp->VK->Prop}
def Ql(r:List V->Hp->VK->Prop)(t:TA):TE:=λZ H Q=>t Z H λvs H1=>r vs H1 Q
theorem DN(hc:dm X (.builtin id) r)(hg:Gl X x)(hm:X.mg x=none)(hv:bootBuiltins x=some (.builtin id))(ha:PA X (e::es) t)(hn:x ≠ "__name__" := by decide)(hdb:(x==("__debug__" : Str))=false:=by decide)
  (he:starEach (e::es) X.env=(false,eval e X.env)::starEach es X.env:=by rfl) (hpl:(backTo pos (starEach es X.env)).any (·.1)=false:=by rfl):PE X (.Call (.Name x p) (e::es) [] pos) (Ql r t):=by
 intro dl s Z H Q I h;refine Uh (jQ I hg hm hv ?_ hn hdb);exact PyProof.Rows.callWith_builtin1 (aG (ha pos dl s Z H _ I h) λus s1 ⟨vs,H1,I1,r1,q1⟩=>hc dl s1 Z H1 vs us Q I1 r1 q1) he hpl
theorem Bx(hc:dm X (.type T) r)(hg:Gl X x)(hm:X.mg x=none)(hv:bootBuiltins x=some (.type T))(ha:PA X (e::es) t)(hn:x ≠ "__name__" := by decide)(hdb:(x==("__debug__" : Str))=false:=by decide)
  (he:starEach (e::es) X.env=(false,eval e X.env)::starEach es X.env:=by rfl) (hpl:(backTo pos (starEach es X.env)).any (·.1)=false:=by rfl):PE X (.Call (.Name x p) (e::es) [] pos) (Ql r t):=by
 intro dl s Z H Q I h;refine Uh (jQ I hg hm hv ?_ hn hdb);exact UD (aG (ha pos dl s Z H _ I h) λus s1 ⟨vs,H1,I1,r1,q1⟩=>hc dl s1 Z H1 vs us Q I1 r1 q1) he hpl
end
end L2
namespace HT
open PySem PyProof.Rows
variable{sl:Addr}{vl vu:Value}{hi lo:Option Int}
section
open PySem.SeqAt
open PySem.AutoSeq1 (wpAny_loadPart')
open PySem.MeetsSeq PySem.MeetsSeq2 PySem.MeetsSeq3
end
section
variable{prog:Program}{w:World}{A:Around}{E:Value->Shared->Prop}{s:Shared}
def sIx(n d:Nat):Option Int->Nat
 | none=>d
 | some v=>if v<0 then(v+(n:Int)).toNat else min v.toNat n
theorem Lv(n d:Nat)(hd:d<=n)(o:Option Int):sIx n d o<=n:=by
 cases o with
 | none=>exact hd
 | some v =>
  show(if v<0 then(v+(n:Int)).toNat else min v.toNat n)<=n;by_cases hv:v<0
  ·rw[if_pos hv];omega
  ·rw[if_neg hv];exact Nat.min_le_right _ _
theorem yJ(v:Int)(n d:Nat):(if v<0 then max (v+(n:Int)) 0 else min v (n:Int))=((sIx n d (some v):Nat):Int):=by
 show(if v<0 then max (v+(n:Int)) 0 else min v (n:Int))=(((if v<0 then(v+(n:Int)).toNat else min v.toNat n):Nat):Int);by_cases hv:v<0
 ·simp only[if_pos hv];omega
 ·simp only[if_neg hv];omega
theorem Ao(lo hi:Option Int)(n:Nat):Builtin.Slice.sliceAdjust lo hi 1 (n:Int)=(((sIx n 0 lo:Nat):Int),((sIx n n hi:Nat):Int)):=by
 have h1:¬ ((1:Int)<0):=by omega
 unfold Builtin.Slice.sliceAdjust;simp only[h1,if_false];refine Prod.ext ?_ ?_
 ·cases lo with
  | none=>rfl
  | some v=>exact yJ v n 0
 ·cases hi with
  | none=>rfl
  | some v=>exact yJ v n n
theorem zi(i j:Nat):Builtin.Slice.slicePlaces (i:Int) (j:Int) 1=j-i:=by
 unfold Builtin.Slice.slicePlaces;have h1:(1:Int)>0:=by omega
 simp only[h1,Vl,Int.ediv_one];split<;>omega
theorem pY{v:Value}{o:Option Int}{Q:Option Int->Shared->Prop}(p:IsPart v o)(h:Q o s):wpAny (model prog w) A (Builtin.Slice.slicePartIndex v) Q E s:=by
 cases p with
 | none=>exact slicePart_none h
 | int i t=>exact slicePart_int h
theorem oX{n:Nat}{Q:Int×Int×Nat->Shared->Prop}(hs:s.heap.IsSliceOf sl vl vu .none)(pl:IsPart vl lo)(pu:IsPart vu hi)
  (h:Q (((sIx n 0 lo:Nat):Int),1,sIx n n hi-sIx n 0 lo) s):wpAny (model prog w) A (Builtin.Slice.sliceApplied (.ref sl) (pure (n:Int))) Q E s:=by
 obtain⟨os,hos,hcs,hds⟩:=id hs;unfold Builtin.Slice.sliceApplied Builtin.Slice.sliceFields;refine SO (SO (Tr hos hds (x:=vl) rfl (SO (Tr hos hds (x:=vu) rfl (SO (Tr hos hds (x:=.none) rfl (SU ?_)))))));refine SO (slicePart_none ?_);show wpAny _ _ (if ((1:Int)==0)=true then _ else _) _ _ s;rw[if_neg (by decide)];refine SO (pY pl (SO (pY pu (SO (SU ?_)))));show wpAny _ _ (match Builtin.Slice.sliceAdjust lo hi 1 (n:Int)with|(lo,hi)=>pure (lo,(1:Int),Builtin.Slice.slicePlaces lo hi 1)) _ _ s;rw[Ao lo hi n];show wpAny _ _ (pure (((sIx n 0 lo:Nat):Int),(1:Int),Builtin.Slice.slicePlaces ((sIx n 0 lo:Nat):Int) ((sIx n n hi:Nat):Int) 1)) _ _ s;rw[zi];exact SU h
theorem DK(xs:Array Value)(i k:Nat):((List.range k).filterMap λ(m:Nat)=>xs[((i:Int)+(m:Int)*1).toNat]?).toArray=((xs.toList.drop i).take k).toArray:=by
 have e:(λ(m:Nat)=>xs[((i:Int)+(m:Int)*1).toNat]?)=λm=>xs[i+m]?:=by
  funext m;have:((i:Int)+(m:Int)*1).toNat=i+m:=by omega
  rw[this]
 rw[e];have:=pick_run xs i k;rw[List.filterMap_map]at this;have e2:((λx=>xs[x]?) ∘ λx=>i+x)=λm=>xs[i+m]?:=rfl
 rw[e2]at this;rw[this]
theorem getItem_tuple_cut{t:Addr}{items:Array Value}{Q:Value->Shared->Prop}(ht:IsTup s.heap t items)(hs:s.heap.IsSliceOf sl vl vu .none)(pl:IsPart vl lo)(pu:IsPart vu hi)
  (hw:¬ (sIx items.size 0 lo=0/\sIx items.size items.size hi=items.size))
  (h:Q (.ref s.heap.objs.size) { s with heap:=s.heap.push { cls:=.type "tuple", data:=.seq ((items.toList.drop (sIx items.size 0 lo)).take (sIx items.size items.size hi-sIx items.size 0 lo)).toArray } })
  (hsz:items.size<=sizeLine):wpAny (model prog w) A (getItem (.ref t) (.ref sl)) Q E s:=by
 have htake:sizeOk (.seq ((items.toList.drop (sIx items.size 0 lo)).take (sIx items.size items.size hi-sIx items.size 0 lo)).toArray):=by
  show((items.toList.drop (sIx items.size 0 lo)).take (sIx items.size items.size hi-sIx items.size 0 lo)).toArray.size<=sizeLine;rw[Tp,Um,Vm,UE];omega
 have hj:sIx items.size items.size hi<=items.size:=Lv _ _ (SX _) hi;obtain⟨os,hos,hcs,hds⟩:=id hs;have hTs:s.TypeIs (.ref sl) "slice" := ⟨os,hos,hcs⟩;unfold getItem;try with_reducible refine TB ?_
 first|refine SO (SU ?_)|skip
 refine SO (wpAny_sequenceKey ht.typeIs (by decide) ?_);refine SO (Uk (name:=Str.ofString "__getitem__") ht.typeIs PyProof.Rows.slot_tuple_getitem
  (UH PyProof.Rows.slot_tuple_getitem ht.typeIs entry_tuple_getitem ?_ (args_tuple_getitem _ _)))
 show wpAny _ _ (Builtin.Tuple.tupleItemsOf (.ref t) >>= _) _ _ s;refine SO (tupleItemsOf_ ht ?_);refine SO (wpAny_typeOf hTs ?_);rw[if_pos (by decide)];refine SO (oX hs pl pu ?_);have hno:¬ ((((sIx items.size 0 lo:Nat):Int)==0&&(1:Int)==1&&(sIx items.size items.size hi-sIx items.size 0 lo)==items.size)=true):=by
  intro q;rw[Tj,Tj]at q;have q1:((sIx items.size 0 lo:Nat):Int)=0:=eq_of_beq q.1.1;have q2:sIx items.size items.size hi-sIx items.size 0 lo=items.size:=eq_of_beq q.2;exact hw ⟨by omega,by omega⟩
 show wpAny _ _ (if (((sIx items.size 0 lo:Nat):Int)==0&&(1:Int)==1&&(sIx items.size items.size hi-sIx items.size 0 lo)==items.size)=true then _ else _) _ _ s;rw[if_neg hno,DK];first
  | exact SO (m:=Builtin.Tuple.tupleExact _) (Ur (SU ⟨_,rfl,SU h⟩) htake)
  | exact SO (m:=Builtin.Tuple.tupleExact _) (Ur (SO (SU (SU ⟨_,rfl,SU h⟩))) htake)
  | exact SO (SO (m:=Builtin.Tuple.tupleExact _) (Ur (SU (SU ⟨_,rfl,SU h⟩)) htake))
  | exact SO (SO (m:=Builtin.Tuple.tupleExact _) (Ur (SU ⟨_,rfl,SU h⟩) htake))
end
end HT
namespace L2
open PySem PySem.Spec PyProof.Rows
variable{j n:Nat}{i:Int}{α:Type}{s:Shared}{x y:V}{u v:Value}
abbrev TO:=St->Hp->(Option Int->Hp->Prop)->Prop
noncomputable def PO(X:Cx)(e:Option Expr)(t:TO):Prop :=
 ∀(dl:List (Addr×Obj)) (s:Shared) (Z:St) (H:Hp) (Q:Option Int->Hp->Prop),aj X dl Z H s->t Z H Q ->
  wpAny (model X.prog X.w) X.A (evalPart e X.env) (λu s' => ∃o H',aj X dl Z H' s'/\IsPart u o/\Q o H') X.xe s
def HJ:TO:=λ_ H Q=>Q none H
def Oi(t:TE):TO:=λZ H Q=>t Z H λx H1 => ∃i,x=.int i/\Q (some i) H1
section
variable{X:Cx}{e:Expr}{te:TE}{lo hi:Option Expr}{tl th:TO}{pos p2:Pos}
theorem Iz:PO X none HJ:=by
 intro dl s Z H Q I h;rw[evalPart_none];exact SU ⟨none,H,I,.none,h⟩
theorem Iy(h:PE X e te):PO X (some e) (Oi te):=by
 intro dl s Z H Q I hw;rw[evalPart_some];refine aG (h dl s Z H _ I hw) λu s1 ⟨x,H1,I1,r1,q1⟩=>?_
 obtain⟨i,rfl,q⟩:=q1;obtain⟨t,rfl⟩:=r1;exact⟨some i,H1,I1,.int i t,q⟩
noncomputable def GP(X:Cx)(r:V->Option Int->Option Int->Hp->VK->Prop):Prop :=
 ∀(dl:List (Addr×Obj)) (s:Shared) (Z:St) (H:Hp) (x:V) (v vl vu:Value) (lo hi:Option Int) (sl:Addr) (Q:VK),aj X dl Z H s->aW x v->s.heap.IsSliceOf sl vl vu .none->IsPart vl lo->IsPart vu hi->r x lo hi H Q ->
  ∃T id,typeLookup (.type T) "__getitem__" = pure (some (.builtin id))/\s.TypeIs v T/\wpAny (model X.prog X.w) X.A (getItem v (.ref sl)) (EP X dl Z Q) X.xe s
def Sm(r:V->Option Int->Option Int->Hp->VK->Prop)(te:TE)(tl th:TO):TE:=λZ H Q=>te Z H λx H1=>tl Z H1 λl H2=>th Z H2 λu H3=>r x l u H3 Q
theorem o7{r:V->Option Int->Option Int->Hp->VK->Prop}(hr:GP X r)(he:PE X e te)(hl:PO X lo tl)(hu:PO X hi th):PE X (.Subscript e (.Slice lo hi none p2) pos) (Sm r te tl th):=by
 intro dl s Z H Q I h;refine Subscript_ (aG (he dl s Z H _ I h) λv s1 ⟨x,H1,I1,r1,q1⟩=>?_);refine wpAny_Slice (aG (hl dl s1 Z H1 _ I1 q1) λvl s2 ⟨l,H2,I2,pl,q2⟩=>aG (hu dl s2 Z H2 _ I2 q2) λvu s3 ⟨u,H3,I3,pu,q3⟩=>?_);rw[evalPart_none];refine SU ?_;have I4:aj X dl Z H3 { s3 with heap:=s3.heap.push { cls:=.type "slice", data:=.fields #[vl,vu,.none] } }:=I3.kept (t':=s3.toks) λb ob q=>SQ _ q
 obtain⟨T,id,hT,ht,hg⟩:=hr dl { s3 with heap:=s3.heap.push { cls:=.type "slice", data:=.fields #[vl,vu,.none] } } Z H3 x v vl vu l u s3.heap.objs.size Q I4 r1 (Heap.IsSliceOf.new ..) pl pu q3;show wpAny (model X.prog X.w) X.A (subscriptTail e (.Slice lo hi none p2) v (.ref s3.heap.objs.size)) (EP X dl Z Q) X.xe { s3 with heap:=s3.heap.push { cls:=.type "slice", data:=.fields #[vl,vu,.none] } };exact tail_any (ops:=[.ref s3.heap.objs.size,v]) ht hT hg (by with_unfolding_all rfl)
def kN(xs:List V)(lo hi:Option Int):List V:=(xs.drop (HT.sIx xs.length 0 lo)).take (HT.sIx xs.length xs.length hi-HT.sIx xs.length 0 lo)
theorem oJ(xs:List V)(lo hi:Option Int):(kN xs lo hi).length<=xs.length:=by
 unfold kN;rw[Um,Vm];omega
noncomputable def QV(K:W.Frag):V->Option Int->Option Int->Hp->VK->Prop:=λx lo hi H Q => ∃a xs,x=.ref a/\bX K H a xs /\
 ¬ (HT.sIx xs.length 0 lo=0/\HT.sIx xs.length xs.length hi=xs.length)/\∀p,H p=none->Q (.ref p) (aA H p (.tup (kN xs lo hi)))
theorem Lj:GP X (QV X.K):=by
 intro dl s Z H x v vl vu lo hi sl Q I rx hs pl pu h;obtain⟨a,xs,rfl,hx,hw,q⟩:=h;cases rx;obtain⟨its,r,ht,hz⟩:=I.tuple hx;have hlen:its.toArray.size=xs.length:=by rw[Tp];exact r.length.symm
 refine⟨"tuple", _,PyProof.Rows.slot_tuple_getitem.lookup,ht.typeIs,?_⟩;refine HT.getItem_tuple_cut ht hs pl pu (by rw[hlen];exact hw) ?_ (by rw[hlen];exact hz);rw[hlen];refine⟨.ref s.heap.objs.size,_,I.laid (t':=s.toks) (o:=.tup (kN xs lo hi)) (λb ob q=>SQ _ q) (SX _) ?_,rfl,q _ (I.hok.fresh (SX _))⟩;exact⟨SZ (oJ xs lo hi) hz,_,(r.drop (HT.sIx xs.length 0 lo)).take (HT.sIx xs.length xs.length hi-HT.sIx xs.length 0 lo),ny.new _ _⟩
end
def vZ(n:Nat)(i:Int):Option Nat:=if 0<=i then(if i<n then some i.toNat else none)else if -(n:Int)<=i then some (i+n).toNat else none
def atI{α:Type}(xs:List α)(i:Int):Option α:=(vZ xs.length i).bind λj=>xs[j]?
theorem Jq(h:vZ n i=some j):seqIndex? i n=some j/\j<n /\ -(n:Int)<=i/\i<n:=by
 unfold vZ at h;by_cases h0:0<=i
 ·rw[if_pos h0]at h;by_cases h1:i<n
  ·rw[if_pos h1]at h;have e:i.toNat=j:=TN h;exact⟨by rw[seqIndex_of h0 h1,e],by omega,by omega,h1⟩
  ·rw[if_neg h1]at h;cases h
 ·rw[if_neg h0]at h;by_cases h1:-(n:Int)<=i
  ·rw[if_pos h1]at h;have e:(i+n).toNat=j:=TN h;exact⟨by rw[seqIndex_neg (by omega) h1,e],by omega,h1,by omega⟩
  ·rw[if_neg h1]at h;cases h
theorem yL{xs:List α}{v:α}(h:atI xs i=some v):∃j,seqIndex? i xs.length=some j/\xs[j]?=some v/\j<xs.length /\ -(xs.length:Int)<=i/\i<xs.length:=by
 unfold atI at h;cases e:vZ xs.length i with
 | none=>rw[e]at h;cases h
 | some j =>
  rw[e]at h;obtain⟨h1,h2,h3,h4⟩:=Jq e;exact⟨j,h1,h,h2,h3,h4⟩
theorem eT{xs:List α}{v:α}(h:xs[j]?=some v):atI xs (j:Int)=some v:=by
 have hj:j<xs.length:=(Tl.mp h).1;have e:vZ xs.length (j:Int)=some j:=by
  unfold vZ;rw[if_pos (by omega),if_pos (by omega)];simp
 unfold atI;rw[e];exact h
def lF(b:Expr):Prop:=∀o i,subscripted b false o i=operate [o,i] (getItem o i)
noncomputable def GW(X:Cx)(r:R2):Prop :=
 ∀(value slice:Expr) (dl:List (Addr×Obj)) (s:Shared) (Z:St) (H:Hp) (x y:V) (v u:Value) (Q:VK),aj X dl Z H s->aW x v->aW y u->r x y H Q ->
  subscripted slice false v u=operate [v,u] (getItem v u)->wpAny (model X.prog X.w) X.A (subscriptTail value slice v u) (EP X dl Z Q) X.xe s
noncomputable def nv(X:Cx)(id:String)(r:V->List V->Hp->VK->Prop):Prop :=
 ∀(dl:List (Addr×Obj)) (s:Shared) (Z:St) (H:Hp) (x:V) (xs:List V) (v:Value) (us:List Value) (Q:VK),aj X dl Z H s->aW x v->aP xs us->r x xs H Q ->
  wpAny (model X.prog X.w) X.A (call (.builtin id) (v::us)) (EP X dl Z Q) X.xe s
section
variable{X:Cx}{a b:Expr}{ta tb:TE}{pos:Pos}
theorem ux{r:R2}(hr:GW X r)(ha:PE X a ta)(hb:PE X b tb)(hs:lF b):PE X (.Subscript a b pos) (FR r ta tb):=by
 intro dl s Z H Q I h;exact Subscript_ (EJ ha hb I h λv u s2 x y H2 I2 rx ry q=>hr a b dl s2 Z H2 x y v u Q I2 rx ry q (hs _ _))
def QY(K:W.Frag):R2:=λx y H Q => ∃p xs i v,x=.ref p/\y=.int i/\cF K H p xs/\atI xs i=some v/\Q v H
def QX(K:W.Frag):R2:=λx y H Q => ∃p xs i v,x=.ref p/\y=.int i/\bX K H p xs/\atI xs i=some v/\Q v H
theorem Jp:GW X (QY X.K):=by
 intro value slice dl s Z H x y v u Q I rx ry h hs;obtain⟨p,xs,i,z,rfl,rfl,hq,he,q⟩:=h;cases rx;obtain⟨t,rfl⟩:=ry;obtain⟨its,r,pl,hz⟩:=I.list hq;obtain⟨j,h1,h2,h3,h4,h5⟩:=yL he;obtain⟨w,ew,rw'⟩:=r.get h2;have hl:=r.length;have hn:=qj;have fin:EP X dl Z Q w s:=⟨z,H,I,rw',q⟩;by_cases h0:0<=i
 ·have hj:i.toNat=j:=by
   rw[seqIndex_of h0 h5]at h1;exact TN h1
  exact item_listR pl.isList h0 (by omega) (by rw[hj];simpa using ew) fin hs
 ·have hj:(i+(its.toArray.size:Int)).toNat=j:=by
   rw[seqIndex_neg (by omega) h4]at h1;rw[Tp,<- hl];exact TN h1
  exact subscriptTail_builtinR (x:=w) pl.isList.typeIs slot_list_getitem.lookup
   (wpAny_getItem_list_neg (Q:=λr s'=>r=w/\EP X dl Z Q r s') pl.isList (by omega) (by rw[Tp]<;>omega) (by omega) (by rw[hj];simpa using ew) ⟨rfl,fin⟩) hs
theorem MW:GW X (QX X.K):=by
 intro value slice dl s Z H x y v u Q I rx ry h hs;obtain⟨p,xs,i,z,rfl,rfl,hq,he,q⟩:=h;cases rx;obtain⟨t,rfl⟩:=ry;obtain⟨its,r,pl,hz⟩:=I.tuple hq;obtain⟨j,h1,h2,h3,h4,h5⟩:=yL he;obtain⟨w,ew,rw'⟩:=r.get h2;have hl:=r.length;have hn:=qj;have fin:EP X dl Z Q w s:=⟨z,H,I,rw',q⟩;exact subscriptTail_builtinR (x:=w) pl.typeIs slot_tuple_getitem.lookup
  (getItem_tuple (j:=j) (Q:=λr s'=>r=w/\EP X dl Z Q r s') pl (by omega) (by omega) (by rw[Tp,<- hl];exact h1) (by simpa using ew) ⟨rfl,fin⟩) hs
theorem vm(lo hi:Option Int)(n:Nat):(sliceBounds lo hi none n).1=((HT.sIx n 0 lo:Nat):Int)/\(sliceBounds lo hi none n).2.1=((HT.sIx n n hi:Nat):Int)/\(sliceBounds lo hi none n).2.2=1:=by
 refine⟨?_,?_,rfl⟩
 ·cases lo with
  | none=>simp[sliceBounds,HT.sIx]
  | some i =>
   simp only[sliceBounds,HT.sIx,Option.getD_none,show(1:Int)>0 by decide,Vl];by_cases h:i<0
   ·simp only[h,Vl]<;>omega
   ·simp only[h,if_false]<;>omega
 ·cases hi with
  | none=>simp[sliceBounds,HT.sIx]
  | some i =>
   simp only[sliceBounds,HT.sIx,Option.getD_none,show(1:Int)>0 by decide,Vl];by_cases h:i<0
   ·simp only[h,Vl]<;>omega
   ·simp only[h,if_false]<;>omega
theorem uk(its:List Value)(lo hi:Option Int):slicePick its.toArray lo hi none=((its.drop (HT.sIx its.length 0 lo)).take (HT.sIx its.length its.length hi-HT.sIx its.length 0 lo)).toArray:=by
 obtain⟨h1,h2,h3⟩:=vm lo hi its.toArray.size;unfold slicePick;rw[h1,h2,h3];simp only[sliceRange_one,pick_run,Tp]<;>rfl
noncomputable def QW(K:W.Frag):V->Option Int->Option Int->Hp->VK->Prop:=λx lo hi H Q => ∃a xs,x=.ref a/\cF K H a xs/\∀p,H p=none->Q (.ref p) (aA H p (.lst (kN xs lo hi)))
theorem HS:GP X (QW X.K):=by
 intro dl s Z H x v vl vu lo hi sl Q I rx hs pl pu h;obtain⟨a,xs,rfl,hx,q⟩:=h;cases rx;obtain⟨its,r,ht,hz⟩:=I.list hx;have hlen:=r.length;refine⟨"list", _,slot_list_getitem.lookup,ht.isList.typeIs,?_⟩;refine wpAny_getItem_list_slice ht.isList hs pl pu .none (by simp) ?_ (by rw[Tp]<;>omega);rw[uk,<- hlen];refine⟨.ref s.heap.objs.size,_,I.laid (t':=s.toks) (o:=.lst (kN xs lo hi)) (λb ob q=>SQ _ q) (SX _) ?_,rfl,q _ (I.hok.fresh (SX _))⟩;exact⟨SZ (oJ xs lo hi) hz,_,0,(r.drop (HT.sIx xs.length 0 lo)).take (HT.sIx xs.length xs.length hi-HT.sIx xs.length 0 lo),S6 _ rfl⟩
def nQ:V->Bool
 | .non=>true
 | .bl _=>true
 | .int _=>true
 | .str _=>true
 | _=>false
noncomputable def yA:V->V->Bool
 | .non,.non=>true
 | .bl a,.bl b=>a==b
 | .bl a,.int b=>(if a then 1 else 0)==b
 | .int a,.bl b=>a==(if b then 1 else 0)
 | .int a,.int b=>a==b
 | .str a,.str b=>a==b
 | _,_=>false
theorem Nv{A:Around}(ry:aW y u)(rx:aW x v)(fy:nQ y=true)(fx:nQ x=true):SeqAt.EqAt A s u v (yA y x):=by
 cases y with
 | non =>
  cases ry;cases x with
  | non=>cases rx;exact SeqAt.EqAt.same _
  | bl b=>cases rx;exact SeqAt.EqAt.none_bool b
  | int b=>obtain⟨t,rfl⟩:=rx;exact SeqAt.EqAt.none_int b t
  | str b=>obtain⟨t,rfl⟩:=rx;exact SeqAt.EqAt.none_str b t
  | _=>exact absurd (show false=true from fx) Ta
 | bl a =>
  cases ry;cases x with
  | non=>cases rx;exact SeqAt.EqAt.bool_none a
  | bl b=>cases rx;exact SeqAt.EqAt.bool_bool a b
  | int b=>obtain⟨t,rfl⟩:=rx;exact SeqAt.EqAt.bool_int a b t
  | str b=>obtain⟨t,rfl⟩:=rx;exact SeqAt.EqAt.bool_str a b t
  | _=>exact absurd (show false=true from fx) Ta
 | int a =>
  obtain⟨t',rfl⟩:=ry;cases x with
  | non=>cases rx;exact SeqAt.EqAt.int_none a t'
  | bl b=>cases rx;exact SeqAt.EqAt.int_bool a t' b
  | int b=>obtain⟨t,rfl⟩:=rx;exact SeqAt.EqAt.int_int a t' b t
  | str b=>obtain⟨t,rfl⟩:=rx;exact SeqAt.EqAt.int_str a t' b t
  | _=>exact absurd (show false=true from fx) Ta
 | str a =>
  obtain⟨t',rfl⟩:=ry;cases x with
  | non=>cases rx;exact SeqAt.EqAt.str_none a t'
  | bl b=>cases rx;exact SeqAt.EqAt.str_bool a t' b
  | int b=>obtain⟨t,rfl⟩:=rx;exact SeqAt.EqAt.str_int a t' b t
  | str b=>obtain⟨t,rfl⟩:=rx;exact SeqAt.EqAt.str_str a t' b t
  | _=>exact absurd (show false=true from fx) Ta
 | _=>exact absurd (show false=true from fy) Ta
def Ck(x:V)(u:Value):Bool:=match u with
 | .none=>yA .non x
 | .bool b=>yA (.bl b) x
 | .int i _=>yA (.int i) x
 | .str z _=>yA (.str z) x
 | _=>false
theorem qB(r:aW y u)(f:nQ y=true):Ck x u=yA y x:=by
 cases y with
 | non=>cases r;rfl
 | bl b=>cases r;rfl
 | int i=>obtain⟨t,rfl⟩:=r;rfl
 | str z=>obtain⟨t,rfl⟩:=r;rfl
 | _=>exact absurd (show false=true from f) Ta
theorem pc{A:Around}{s:Shared}{x:V}{v:Value}(rx:aW x v)(fx:nQ x=true):∀{xs:List V} {us:List Value},aP xs us->xs.all nQ=true->∀u∈us,SeqAt.EqAt A s u v (Ck x u)
 | _,_,.nil,_=>λu hu=>by cases hu
 | y::xs,u::us,.cons r t,f=>λu' hu=>by
  rw[List.all_cons,Tj]at f;rcases SS.mp hu with rfl|hu
  ·rw[qB r f.1];exact Nv r rx f.1 fx
  ·exact pc rx fx t f.2 u' hu
theorem nh:dm X (.builtin "len") (λxs H Q => ∃p ys,xs=[.ref p]/\(cF X.K H p ys\/bX X.K H p ys)/\Q (.int ys.length) H):=by
 intro dl s Z H xs us Q I r h;obtain⟨p,ys,rfl,hq,q⟩:=h;obtain⟨u,rfl,rx⟩:=bY r;cases rx;have hn:=qj;rcases hq with hq|hq
 ·obtain⟨its,r',pl,hz⟩:=I.list hq;have hlen:=r'.length;exact Calls.call_len_list pl.isList (by simp only[Tp]<;>omega) ⟨.int ys.length,H,I.tok _,⟨s.toks+1,by rw[Tp,hlen]⟩,q⟩
 ·obtain⟨its,r',pl,hz⟩:=I.tuple hq;have hlen:=r'.length;exact len_tuple pl (by simp only[Tp]<;>omega) ⟨.int ys.length,H,I.tok _,⟨s.toks+1,by rw[Tp,hlen]⟩,q⟩
theorem wC:dm X (.builtin "len") (λxs H Q => ∃z,xs=[.str z]/\z.length<=sizeLine/\Q (.int z.length) H):=by
 intro dl s Z H xs us Q I r h;obtain⟨z,rfl,hz,q⟩:=h;obtain⟨u,rfl,t,rfl⟩:=bY r;have hn:=qj;exact len_str (by omega) ⟨.int z.length,H,I.tok _,⟨_,rfl⟩,q⟩
theorem ma:dm X (.type "tuple") (λxs H Q => ∃p ys,xs=[.ref p]/\((cF X.K H p ys/\∀l,H l=none->Q (.ref l) (aA H l (.tup ys)))\/(bX X.K H p ys/\Q (.ref p) H))):=by
 intro dl s Z H xs us Q I r h;obtain⟨p,ys,rfl,h⟩:=h;obtain⟨u,rfl,rx⟩:=bY r;cases rx;rcases h with⟨hq,q⟩|⟨hq,q⟩
 ·obtain⟨its,r',pl,hz⟩:=I.list hq;have hlen:=r'.length;refine call_tuple_list pl.isList (λh' kp=>?_) (by simp only[Tp]<;>omega);have I1:aj X dl Z H { s with heap:=h' }:=I.kept (t':=s.toks) kp;have I2:aj X dl Z (aA H h'.objs.size (.tup ys)) { s with heap:=h'.push { cls:=.type "tuple", data:=.seq its.toArray } } :=
   I1.laid (t':=s.toks) (λb o e=>SQ _ e) (SX _) (show bz X.prog X.w _ _ _ (.tup ys)from⟨hz,its,r',ny.new _ _⟩)
  exact⟨.ref h'.objs.size,_,I2,rfl,q _ (I1.hok.fresh (SX _))⟩
 ·obtain⟨its,r',pl,hz⟩:=I.tuple hq;exact call_tuple_same pl ⟨.ref p,H,I,rfl,q⟩
noncomputable def KL(K:W.Frag)(T:String)(x:V)(H:Hp):Prop:=match x with
  | .str _=>T = "str"
  | .int _=>T = "int"
  | .ref p=>(T = "list" /\ ∃xs,cF K H p xs)\/(T = "tuple" /\ ∃xs,bX K H p xs) \/
      (T = "dict" /\ ((∃kvs,H p=some (.dK kvs))\/∃kvs,H p=some (.dT kvs)))\/(T = "set" /\ ∃S n,H p=some (.set S n))
  | _=>False
theorem AL{dl:List (Addr×Obj)}{Z:St}{H:Hp}{T:String}(I:aj X dl Z H s)(r:aW x v)(ty:KL X.K T x H) :
  s.TypeIs v T/\∀a,v=.ref a->∃ob,s.heap.get? a=some ob/\ob.dict=none:=by
 cases x with
 | str z =>
  obtain⟨t,rfl⟩:=r;cases (show T = "str" from ty);exact⟨typeIs_str s z t,λ_ e=>nomatch e⟩
 | int i =>
  obtain⟨t,rfl⟩:=r;cases (show T = "int" from ty);exact⟨typeIs_int s i t,λ_ e=>nomatch e⟩
 | ref p =>
  cases r;rcases ty with⟨rfl,xs,hq⟩|⟨rfl,xs,hk⟩|⟨rfl,hk⟩|⟨rfl,S,n,hk⟩
  ·obtain⟨its,_,pl,_⟩:=I.list hq;refine⟨pl.isList.typeIs,λa e=>?_⟩;cases e;obtain⟨o,n,e,c,hd,_⟩:=pl;exact⟨o,e,hd⟩
  ·obtain⟨o,e0,hc,hd⟩:=I.tupN hk;refine⟨⟨o,e0,hc⟩,λa e=>?_⟩;cases e;exact⟨o,e0,hd⟩
  ·have z:∃o,s.heap.get? p=some o/\o.ExactDict:=by
    rcases hk with⟨kvs,hk⟩|⟨kvs,hk⟩
    ·obtain⟨_,_,_,_,o,_,_,e,ex,_⟩:=I.hok p _ hk;exact⟨o,e,ex⟩
    ·obtain⟨_,_,_,_,o,_,_,e,ex,_⟩:=I.hok p _ hk;exact⟨o,e,ex⟩
   obtain⟨o,e,ex⟩:=z;refine⟨⟨o,e,ex.1⟩,λa e2=>?_⟩;cases e2;exact⟨o,e,ex.2.1⟩
  ·obtain⟨o,_,_,_,e,ex,_⟩:=I.hok p _ hk;refine⟨⟨o,e,ex.1⟩,λa e2=>?_⟩;cases e2;exact⟨o,e,ex.2.1⟩
 | _=>exact False.elim ty
def QQ(K:W.Frag)(T:String)(r:V->List V->Hp->VK->Prop)(to:TE):TE:=λZ H Q=>to Z H λx H1=>KL K T x H1/\r x [] H1 Q
def Sq(K:W.Frag)(T:String)(r:V->List V->Hp->VK->Prop)(to:TE)(t:TA):TE:=λZ H Q=>to Z H λx H1=>KL K T x H1/\t Z H1 λxs H2=>r x xs H2 Q
variable{o e:Expr}{es:List Expr}{to:TE}{t:TA}{name:Str}{apos cpos:Pos}{T id:String}{r:V->List V->Hp->VK->Prop}
theorem LY(pa:PlainAttrs T)(slot:Slot T name id)(hty:typeOf (.builtin id)=pure (.type "method_descriptor"))(hm:nv X id r)(ho:PE X o to)
  (hbase:attributeBase o name X.env (eval o X.env)=eval o X.env:=by rfl) (hline:(apos.endLine==cpos.line)=true:=by rfl):PE X (.Call (.Attribute o name apos) [] [] cpos) (QQ X.K T r to):=by
 intro dl s Z H Q I h;refine wpAny_Call_method0_late hbase hline (aG (ho dl s Z H _ I h) λv s1 ⟨x,H1,I1,r1,ty,q1⟩=>?_);obtain⟨h1,h2⟩:=AL I1 r1 ty;exact⟨T,id,pa,slot,hty,h1,h2,Calls.callWith_builtin rfl (PySem.evalArgs_none (hm dl s1 Z H1 x [] v [] Q I1 r1 .nil q1))⟩
theorem kq(pa:PlainAttrs T)(slot:Slot T name id)(hty:typeOf (.builtin id)=pure (.type "method_descriptor"))(hm:nv X id r)(ho:PE X o to)(ha:PA X (e::es) t)
  (hbase:attributeBase o name X.env (eval o X.env)=eval o X.env:=by rfl)
  (hfew:((backTo cpos (starEach (e::es) X.env)).all (λx => !x.1)&&(backToKw cpos (keywordEach [] X.env)).all (λx=>x.1.isSome)
   && decide ((e::es).length+([]:List Keyword).length+(if ([]:List Keyword).isEmpty then 0 else 1)<30))=true:=by rfl)
  (hline:(apos.endLine==cpos.line)=true:=by rfl) (hs:starEach (e::es) X.env=(false,eval e X.env)::starEach es X.env:=by rfl) (hplain:(backTo cpos (starEach es X.env)).any (·.1)=false:=by rfl) :
  PE X (.Call (.Attribute o name apos) (e::es) [] cpos) (Sq X.K T r to t):=by
 intro dl s Z H Q I h;refine wpAny_Call_method_late hbase hfew hline rfl (aG (ho dl s Z H _ I h) λv s1 ⟨x,H1,I1,r1,ty,q1⟩=>?_);obtain⟨h1,h2⟩:=AL I1 r1 ty;refine⟨T,id,pa,slot,hty,h1,h2,?_⟩;have hA:=ha cpos dl s1 Z H1 _ I1 q1;rw[hs]at hA⊢;refine Calls.callWith_builtin (by show(false || (backTo cpos (starEach es X.env)).any (·.1))=false;rw[hplain]<;>rfl) (Calls.evalArgs_plain ?_);exact aG hA λus s2 ⟨vs,H2,I2,r2,q2⟩=>hm dl s2 Z H2 x vs v us Q I2 r1 r2 q2
/- xs.append(e),list.index on a module's tuple .. are nv facts of 06m -/
end
noncomputable def N3(X:Cx)(id:String)(r:V->List V->Hp->VK->Prop):Prop :=
 ∀(dl:List (Addr×Obj)) (s:Shared) (Z:St) (H:Hp) (x:V) (xs:List V) (v:Value) (us:List Value) (Q:VK),aj X dl Z H s->aW x v->aP xs us->r x xs H Q ->
  wpAny (model X.prog X.w) X.A (call (.builtin id) (v::us)) (EP X dl Z Q) X.xe s
theorem aP.one:∀{x:V} {us:List Value},aP [x] us->∃u,us=[u]/\aW x u
 | _,_,.cons r .nil=>⟨_,rfl,r⟩
section
variable{X:Cx}{dl:List (Addr×Obj)}{Z:St}{H:Hp}{l b:Addr}{xs ys zs:List V}
theorem aj.lset{its its':List Value}{f:Array Value->Array Value}{t':Nat}(I:aj X dl Z H s)(hH:H l=some (.lst xs))
  (e:s.heap.get? l=some { cls:=.type "list", data:=.seq its.toArray n }) (hf:f its.toArray=its'.toArray) (hv:aP ys its') (hz:ys.length<=sizeLine) :
  aj X dl Z (aA H l (.lst ys)) { s with heap:=s.heap.update l (Obj.mapSeq f),toks:=t' }:=by
 have q:=PySem.IsL.update e f;rw[hf]at q;refine I.write (x:=l) (e:=l) (by rw[hH];exact trivial) (.inl rfl) (λb' u hb hu=>(Te s.heap (Obj.mapSeq f) (Ub hb)).trans hu) ⟨_,q⟩ ?_;exact⟨hz,its',_,hv,q⟩
theorem aj.lstM(I:aj X dl Z H s)(hH:H l=some (.lst xs)):xs.length<=sizeLine/\∃(its:List Value) (n:Nat),aP xs its/\xs.length=its.length/\s.heap.get? l=some { cls:=.type "list", data:=.seq its.toArray n }:=by
 obtain⟨z,its,n,r,e⟩:=I.hok l _ hH;exact⟨z,its,n,r,r.length,e⟩
theorem DU(h:n<=sizeLine):Builtin.List.listTooLong n=false:=by
 unfold Builtin.List.listTooLong;exact Th (by omega)
end
section
variable{X:Cx}
def Im:V->List V->Hp->VK->Prop:=λx vs H Q => ∃l xs y,x=.ref l/\vs=[y]/\H l=some (.lst xs)/\xs.length<sizeLine/\Q .non (aA H l (.lst (xs++[y])))
theorem mM:N3 X "list.append" Im:=by
 intro dl s Z H x vs v us Q I rx rv h;obtain⟨l,xs,y,rfl,rfl,hH,hz,q⟩:=h;cases rx;obtain⟨u,rfl,ru⟩:=rv.one;obtain⟨z,its,n,r,hl,e⟩:=I.lstM hH;refine call_meets F.slot_list_append ⟨_,e,rfl⟩ F.entry_list_append (F.args_list_append_2 _ _) (PySem.list_append l its.toArray n u (by rw[Tp];omega)) ⟨e,?_⟩;refine⟨.non,_,I.lset (its':=its++[u]) hH e (by simp) (r.append (.cons ru .nil)) ?_,rfl,q⟩;rw[S8,List.length_singleton];omega
noncomputable def Il:V->List V->Hp->VK->Prop:=λx vs H Q => ∃l b xs zs,x=.ref l/\vs=[.ref b]/\H l=some (.lst xs)/\H b=some (.lst zs)/\xs.length+zs.length<=sizeLine/\Q .non (aA H l (.lst (xs++zs)))
theorem BH:N3 X "list.extend" Il:=by
 intro dl s Z H x vs v us Q I rx rv h;obtain⟨l,b,xs,zs,rfl,rfl,hH,hB,hz,q⟩:=h;cases rx;obtain⟨u,rfl,ru⟩:=rv.one;cases ru;obtain⟨z,its,n,r,hl,e⟩:=I.lstM hH;obtain⟨z2,its2,n2,r2,hl2,e2⟩:=I.lstM hB;have hsz:its.toArray.size+its2.toArray.size<=sizeLine:=by rw[Tp,Tp];omega
 have hlong:¬ (!its.toArray.isEmpty&&Builtin.List.listTooLong (its.toArray.size+its2.toArray.size))=true:=by
  rw[DU hsz,Vz];exact Ta
 refine call_meets F.slot_list_extend ⟨_,e,rfl⟩ F.entry_list_extend (F.args_list_extend_2 _ _)
  (AutoSeq1.list_extend_list_list_0 l its.toArray n b its2.toArray n2 hlong (by rw[Tp];omega) (by omega)) ⟨e,e2,?_⟩
 refine⟨.non,_,I.lset (its':=its++its2) hH e (by simp) (r.append r2) ?_,rfl,q⟩;rw[S8];omega
end
section
variable{prog:Program}{w:World}{A:Around}{E:Value->Shared->Prop}
set_option maxRecDepth 100000 in
end
section
variable{X:Cx}
end
end L2
namespace Att
open PySem PySem.W PySem.Calls PyProof.Rows
variable{P:Params}{h:Heap}{l:OpenLaw}{n:Nat}
theorem qr:∀(ns:List Int) (vs:List Value),WellAll P h vs (ns.map WData.int)->IntsAre vs ns:=by
 intro ns;induction ns with
 | nil =>
  intro vs w;rw[UW]at w;cases w;exact .nil
 | cons n ns ih =>
  intro vs w;rw[S2]at w;cases w with
  | cons a b =>
   cases a;exact .cons _ _ (ih _ b)
theorem Bk(hn:l.most=some n){args:List WData}{vals:List Value}
  (hpre:l.row.toRowW.claim.pre args=true) (hwl:WellAll P h vals args) :
  ∃a vs ns,vals=[Value.ref a]/\args=[WData.list (ns.map WData.int)]/\h.get? a=some { cls:=.type "list", data:=.seq vs.toArray }/\IntsAre vs ns/\ns.length<=n:=by
 have hsh:WShape.hasAll [] args [.list .int]=true:=(pre_splitW hpre).1;have hc:l.pre.holds [] { args:=args }=true:=(pre_splitW hpre).2;obtain⟨d,r,rfl,h1,h2⟩:=hasAllW_cons hsh;obtain rfl:=hasAllW_nil h2;obtain⟨xs,rfl,h3⟩:=hasW_list h1;obtain⟨ns,rfl⟩:=items_int h3;have hlen:ns.length<=n:=by
  unfold OpenLaw.pre at hc;have h4:(WTm.not (.lt (.lit (.int (n:Int))) (.len (.arg 0)))).holds [] { args:=[.list (ns.map .int)] }=true:=by
   have h4:=(holds_andW hc).1;rw[hn]at h4;exact h4
  have h5:=condW_of h4 (w_not (w_lt w_lit (w_len_list (w_arg rfl))));rw[SY]at h5;refine Nat.le_of_not_lt λq=>?_
  have q':(n:Int)<((ns.length:Nat):Int):=by omega
  first
   | (rw[Tv q']at h5;exact absurd h5 (by decide))
   | (simp at h5;omega)
 cases hwl with
 | cons w1 w2 =>
  cases w2;cases w1 with
  | list ho hall=>exact⟨_,_,ns,rfl,rfl,ho,qr ns _ hall,hlen⟩
theorem Bs(l:OpenLaw)(args:List WData):l.row.toRowW.claim.post args (.bool true) args=true :=
 postW_of (r:=l.row.toRowW) (X:=(true==true))
  (show WShape.has [] (.bool true) .bool=true by first|rfl|decide|simp[WShape.has,WShape.arms,WShape.armsAll])
  (show(WTm.eq .res (.lit (.bool true))).value [] { args:=args,res:=some (.bool true),after:=args }=some (.bool (true==true))from w_eq_bool (w_res rfl) w_lit) rfl
theorem attach_call{q:Program}{loose:List Str}{XP:(Str->Option Value)->Heap->Prop}{YP:World->Heap->Prop}{d:DefRec}
  (hn:l.most=some n) (hdf:d.params.defaults=[])
  (call:∀(w:World) (s₀ s₁:Shared) (mg mb:Str->Option Value) (fa:Addr) (o:Obj) (pm cd doc:Value) (a:Addr) (vs:List Value) (ns:List Int),
   Ground q loose [] XP w s₀ mg mb s₁.heap->YP w s₁.heap ->
   s₁.heap.get? fa=some o->o.data=.func (docDef d.name d.params d.body d.scope pm cd doc)->s₁.heap.CodeRec cd d.name->mg d.name=some (.ref fa) ->
   s₁.heap.get? a=some { cls:=.type "list", data:=.seq vs.toArray }->IntsAre vs ns->ns.length<=n->s₁.gens = #[] ->
   codeAny (model l.prog w) callerA (.call (.ref fa) ⟨[.ref a],[]⟩) (λr s'=>r=.ok (.ret (.bool true))/\OldK s₁.heap s'.heap/\s'.os=s₁.os/\AllBare s'.gens) s₁) :
  WalkO q loose XP YP l.row.toRowW d [] (λf vs=>PySem.call f vs):=by
 intro w s₀ s₁ mg mb G Y fa o pm cd doc dV kV ho hd hcd hD hmg hg args vals as hpre hlay hrd hwl hlo;obtain rfl:dV=.none:=Dflts.none hD hdf;obtain rfl:kV=.none:=Dflts.noKw hD;obtain⟨a,vs,ns,rfl,rfl,hobj,hints,hlen⟩:=Bk hn hpre hwl;refine enter_call (UV (call w s₀ s₁ mg mb fa o pm cd doc a vs ns G Y ho (fd_plain hd) hcd hmg hobj hints hlen hg) λr s' hq=>?_);obtain⟨rfl,h2,h3,h4⟩:=hq;exact⟨.inl ⟨.bool true,.bool true,[],rfl,λ_=>rfl,.bool true,Bs l _,λ_=>⟨List.Pairwise.nil,λ_ hm=>(nomatch hm)⟩⟩,h2,h3,h4⟩
section
variable{prog:Program}{w:World}{A:Around}{E:Value->Shared->Prop}{s:Shared}{K:Frag}
end
end Att
namespace L2
open PySem PySem.Spec PyProof.Rows
variable{k:Nat}{x:Str}
theorem sY:∀{vs:List Value} {ns:List Int},IntsAre vs ns->aP (ns.map V.int) vs
 | _,_,.nil=>.nil
 | _,_,.cons n t h=>.cons ⟨t,rfl⟩ (sY h)
def At(H:Hp):Prop:=∀b,H b=none\/∃o xs,H b=some (.frz o (.lst xs))
theorem Ed{P:Program}{w:World}{K:W.Frag}{mg mb:Str->Option Value}{CX:lH}{fa a:Addr}{fd:FuncData}{sp:Sp}{s₁:Shared}{vs:List Value}{ns:List Int}
    (KX:K.In s₁.heap) (hns:s₁.heap.Ns mainGlobals mg) (hb:s₁.heap.Ns builtinsNs mb) (hbb:∀x:Str,x ≠ "__name__" -> mb x=bootBuiltins x) (hlim:s₁.heap.NoLimit) (hg:s₁.gens = #[])
    (ha:s₁.heap.get? a=some { cls:=.type "list", data:=.seq vs.toArray }) (hi:IntsAre vs ns) (hl:ns.length<=sizeLine) (hr:bJ k callerA)
    (F:∀base:Heap,K.In base->base.Ns mainGlobals mg->bj P w K mg base CX k fa fd [x] sp) (hbind:∀(s:Shared) (u:Value),BindsTo s fd ⟨[u],[]⟩ [(x,u)])
    (hsp:∀H:Hp,At H->cF K H a (ns.map V.int)->sp [.ref a] H (λv _=>v=.bl true) λ_ _ _=>False)
    (hCX:∀H e s',CX [] H s₁ (λ_ _ _=>False) e s'->False) :
    codeAny (model P w) callerA (.call (.ref fa) ⟨[.ref a],[]⟩) (λr s'=>r=.ok (.ret (.bool true))/\OldK s₁.heap s'.heap/\s'.os=s₁.os/\AllBare s'.gens) s₁:=by
  have rv:=sY hi;have lenV:=hi.length;have core:∀H:Hp,At H->cF K H a (ns.map V.int)->df P w H s₁.heap->(∀b,H b≠none->b=a)->(H a≠none->K.lookup a=none) ->
      codeAny (model P w) callerA (.call (.ref fa) ⟨[.ref a],[]⟩) (λr s'=>r=.ok (.ret (.bool true))/\OldK s₁.heap s'.heap/\s'.os=s₁.os/\AllBare s'.gens) s₁:=by
    intro H hO hS hok hA hK;have cj:∀{b:Addr} {o:Obj},s₁.heap.get? b=some o->H b=none->(lR s₁.heap H).get? b=some o:=λe n=>Em e n
    have noA:∀{b:Addr} {o:Obj} {es:Array DictEntry} {ep:Nat},s₁.heap.get? b=some o->o.data=.dict es ep->H b=none:=λ{b o es ep} e d=>by
      cases q:H b with
      | none=>rfl
      | some u =>
        have e':b=a:=hA b (by rw[q];simp);subst e';rw[ha]at e;cases e;have d':Data.seq vs.toArray _=Data.dict es ep:=d;cases d'
    have nsK:∀{b:Addr} {m:Str->Option Value},s₁.heap.Ns b m->(lR s₁.heap H).Ns b m:=λ{b m} ⟨o,es,ep,e,d,r⟩=>⟨o,es,ep,cj e (noA e d),d,r⟩
    have hKb:K.In (lR s₁.heap H):=λb o e=>cj (KX b o e) (by
      cases q:H b with
      | none=>rfl
      | some u =>
        have e':b=a:=hA b (by rw[q];simp);subst e';rw[hK (by rw[q];simp)]at e;cases e)
    have hM:Mod K mg (lR s₁.heap H):=⟨hKb,nsK hns,⟨mb,nsK hb,hbb⟩,let ⟨mc,h1,h2⟩:=hlim;⟨mc,nsK h1,h2⟩⟩;have e0:pG P w K mg (lR s₁.heap H) callerA [] s₁ H:=⟨rfl,hM,λb o e=>IR e,Nat.le_of_eq (Ce _ _),trivial,λb hb=>absurd (show b∈([]:List Addr)from hb) (by simp),hok,.of_eq hg⟩;refine UV ((F _ hKb (nsK hns)).run callerA [] s₁ H ⟨[.ref a],[]⟩ [.ref a] [.ref a] _ _ hr e0 (hbind s₁ (.ref a)) (.cons rfl .nil) (hsp H hO hS)) λr s' h=>?_
    cases r with
    | error e=>exact(hCX H e s' h).elim
    | ok fl =>
      cases fl with
      | next=>exact False.elim h
      | brk=>exact False.elim h
      | cont=>exact False.elim h
      | ret u =>
        obtain⟨v,H',os,bare,un,hok',r',q⟩:=h;have q':v=.bl true:=q;subst q';obtain rfl:u=Value.bool true:=r';refine⟨rfl,OldK.of_keep λb o e=>?_,os,bare⟩;cases q:H b with
        | none=>exact un.keep b o e q (by intro z;exact absurd (show b∈([]:List Addr)from z) (by simp)) (by simp)
        | some u =>
          rcases hO b with z|⟨ob,xs,z⟩
          . rw[q]at z;cases z
          . have z2:=un.frzs b ob _ z;obtain⟨e1,_⟩:=hok b _ z;obtain⟨e2,_⟩:=hok' b _ z2;rw[e]at e1;cases e1;exact e2
  cases hk:K.lookup a with
  | some o =>
    have e:=KX a o hk;rw[ha]at e;cases e;refine core (λ_=>none) (λ_=>.inl rfl) (.inr ⟨_,vs.toArray,_,hk,rfl,rfl,rfl,by rw[Tp,lenV];exact hl,by simpa using rv⟩) (λb u z=>by have z':(none:Option HO)=some u:=z;cases z') (λb z=>absurd rfl z) λz=>absurd rfl z
  | none =>
    refine core (λb=>if b=a then some (.frz { cls:=.type "list", data:=.seq vs.toArray } (.lst (ns.map V.int)))else none) (λb=>?_) (.inl (.inr ⟨{ cls:=.type "list", data:=.seq vs.toArray },if_pos rfl⟩)) (λb u z=>?_) (λb z=>?_) λ_=>hk
    . by_cases hb:b=a
      . exact .inr ⟨_,_,if_pos hb⟩
      . exact .inl (if_neg hb)
    . by_cases hb:b=a
      . have z':=(if_pos hb).symm.trans z;cases z';subst hb;exact⟨ha,by rw[SY];exact hl,vs,_,rv,ha⟩
      . have z':=(if_neg hb).symm.trans z;cases z'
    . by_cases hb:b=a
      . exact hb
      . exact absurd (if_neg hb) z
theorem walk_of{l:W.OpenLaw}{n:Nat}{q:Program}{loose:List Str}{XP:(Str->Option Value)->Heap->Prop}{YP:World->Heap->Prop}{d:DefRec}{K:Params->W.Frag}{CX:World->lH}{sp:World->Sp}
  (hn:l.most=some n) (hn2:n<=sizeLine) (hdf:d.params.defaults=[]) (hr:bJ k callerA)
  (hY:∀(w:World) (h:Heap),YP w h->(K w.params).In h)
  (F:∀(w:World) (mg:Str->Option Value) (fa:Addr) (h:Heap),(K w.params).In h->h.Ns mainGlobals mg->mg d.name=some (.ref fa) ->
   ∃fd:FuncData,(∀(s:Shared) (u:Value),BindsTo s fd ⟨[u],[]⟩ [(x,u)]) /\
    ∀base:Heap,(K w.params).In base->base.Ns mainGlobals mg->bj l.prog w (K w.params) mg base (CX w) k fa fd [x] (sp w))
  (hsp:∀(w:World) (H:Hp) (a:Addr) (ns:List Int),ns.length<=n->At H->cF (K w.params) H a (ns.map V.int)->sp w [.ref a] H (λv _=>v=.bl true) λ_ _ _=>False)
  (hCX:∀(w:World) (H:Hp) (s:Shared) (e:Value) (s':Shared),CX w [] H s (λ_ _ _=>False) e s'->False) :
  W.WalkO q loose XP YP l.row.toRowW d [] (λf vs=>PySem.call f vs):=by
 refine Att.attach_call hn hdf λw s₀ s₁ mg mb fa o pm cd doc a vs ns G Y ho hd hcd hmg hobj hints hlen hg=>?_
 have KX:=hY w _ Y;obtain⟨fd,hb,hF⟩:=F w mg fa _ KX G.T.g hmg;exact Ed KX G.T.g G.T.b G.T.builtins G.T.nolimit hg hobj hints (SZ hlen hn2) hr hF hb (λH hO hS=>hsp w H a ns hlen hO hS) λH e s'=>hCX w H s₁ e s'
end L2
/- THE LAST THEOREM (shape;LID,My.* are yours):
   My.Adr: a structure of the addresses that your layer names (classes,functions);My.Txt K t: a structure (Prop) of the equations over K;
   My.txt_mk:{K} {implicit addresses ..} (e1:nsIn K mainGlobals "law" = some (some (.ref f))) (e2:K.lookup f=some ⟨oc,od,.func (fnOf "law" "law" params body scope dV kV doc pm an cdv ct),sl⟩) (e3:codeIn K cdv "law" = true) ..:∃t,My.Txt K t
set_option maxRecDepth 100000 in
set_option maxHeartbeats 0 in
theorem PySem.Challenge.cw_LID_holds : PySem.Challenge.rw_LID.Holds := by
 w_on;o_law;k_head;(case hw=>w_witness2)
 k_fill
 refine L2.walk_of (l:=PySem.Challenge.rw_LID) (n:=63) (k:=40) (x := "script") (CX:=λw=>..) (sp:=λ_=>My.sp_law) rfl (by decide) rfl ⟨rfl,by decide,by decide⟩ (λw h Y=>PySem.W.kIn_of Y) ?F ?S ?C
 case F =>
  intro w mg fa h KX G hmg;have T:∃t,My.Txt (L2.KOf KX) t:=by
   dsimp only[L2.KOf]                          -- K must stand as «<heap const> w.params» for k_is
   refine' My.txt_mk ?e1 ?e2 ?e3 ..
   (case e1=>PySem.W.k_is)                    -- in the order: a name->its address->its object->its parts
   (case e2=>PySem.W.k_is)
   ..
  obtain⟨t,T⟩:=T;have e0:=hmg.symm.trans (PySem.W.mg_of KX G T.law);cases e0                                       -- fa is the law's own address
  exact⟨_,λs u=>.of_eq rfl,λbase kb nb=>My.law_fn T kb nb⟩     -- if «.of_eq rfl» comes too early: refine' ⟨_,?b,λbase kb nb=>My.law_fn T kb nb⟩;exact λs u=>.of_eq rfl
 case S=>exact λw H a ns hl hO hS=>..
 case C=>exact ..
(the tactic k_is has no namespace: write k_is) -/
namespace L2
open PySem PySem.Spec PyProof.Rows
variable{qual x:Str}{st:Stmt}{f:Addr}{fd:FuncData}{ps:List Str}{H:Hp}
noncomputable def dF(s:Stmt):Arguments:=match s with
 | .FunctionDef _ a _ _ _ _ _ _ _ _=>a
 | _ => { posonlyargs:=[],args:=[],vararg:=none,kwonlyargs:=[],kw_defaults:=[],kwarg:=none,defaults:=[] }
def af(s:Stmt):List Stmt:=match s with
 | .FunctionDef _ _ b _ _ _ _ _ _ _=>b
 | _=>[]
def aa(s:Stmt):Scope:=match s with
 | .FunctionDef _ _ _ _ _ _ sc _ _ _=>sc
 | _ => { kind:=.function,names:=[],isGenerator:=false,isCoroutine:=false }
abbrev cE:lH:=λ_ _ _ _ _ _=>False
abbrev E0:XK:=λ_ _ _=>False
theorem iO{X:Cx}:io cE X E0:=λ_ _ _ _ _ _ _ h=>h.elim
structure fY(K:W.Frag)(x qual:Str)(st:Stmt)(f:Addr)(fd:FuncData):Prop where
 ex:∃(oc:Value) (od:Option Addr) (kV doc pm:Value) (an:Option Addr) (cdv ct:Value) (osl:Array (Option Value)),
  fd=W.fnOf x qual (dF st) (af st) (aa st) .none kV doc pm an cdv ct/\K.lookup f=some ⟨oc,od,.func fd,osl⟩/\W.codeIn K cdv qual=true
 kp:W.keepIn K (.ref f)=true
section
variable{P:Program}{w:World}{K:W.Frag}{mg:Str->Option Value}{base:Heap}
theorem fY.ok{N:List Str}{k:Nat}{sp:Sp}(F:fY K x qual st f fd)(S:bG N ps (aa st))(len:∀vs H Q E,sp vs H Q E->vs.length=ps.length)
  (hbody:∀(cdv:Value) (A:Around) (outer:List Env) (s:Shared) (H:Hp) (vs:List V) (Q:VK) (E:XK),bJ k (A.deeper (envOfC qual (aa st) s.heap.objs.size f cdv))->sp vs H Q E ->
   ∃t,fD (fV cE P w K mg base N qual (aa st) f cdv A outer s H E).nox (af st) t/\t { nx:=λ_ H'=>Q .non H',rt:=Q } (start N vs) H):bj P w K mg base cE (k+1) f fd ps sp:=by
 obtain⟨oc,od,kV,doc,pm,an,cdv,ct,osl,rfl,lk,hcd⟩:=F.ex;refine zM lk hcd S len λA outer s H vs Q E hr hsp=>?_
 obtain⟨t,h,q⟩:=hbody cdv A outer s H vs Q E hr hsp;exact⟨t,h.nox,q⟩
theorem fY.binds(F:fY K x qual st f fd)
  (h:∀(kV doc pm:Value) (an:Option Addr) (cdv ct:Value) (us:List Value),us.length=ps.length->bindArgs (W.fnOf x qual (dF st) (af st) (aa st) .none kV doc pm an cdv ct) ⟨us,[]⟩=pure (ps.zip us)):bu K fd ps []:=by
 obtain⟨oc,od,kV,doc,pm,an,cdv,ct,osl,rfl,lk,hcd⟩:=F.ex;exact .all (h kV doc pm an cdv ct)
theorem mV{oc:Value}{od an:Option Addr}{osl:Array (Option Value)}{kV doc pm cdv ct:Value}(l:K.lookup f=some ⟨oc,od,.func (W.fnOf x qual (dF st) (af st) (aa st) .none kV doc pm an cdv ct),osl⟩)
  (c:W.codeIn K cdv qual=true) (k:W.keepIn K (.ref f)=true):fY K x qual st f (W.fnOf x qual (dF st) (af st) (aa st) .none kV doc pm an cdv ct):=⟨⟨oc,od,kV,doc,pm,an,cdv,ct,osl,rfl,l,c⟩,k⟩
end
section
variable{X:Cx}
end
def ar(H H':Hp):Prop:=∀b o,H b=some o->H' b=some o
theorem ar.refl(H:Hp):ar H H:=λ_ _ h=>h
theorem ar.trans{H1 H2:Hp}(a:ar H H1)(b:ar H1 H2):ar H H2:=λc o h=>b c o (a c o h)
theorem ar.free{H':Hp}(e:ar H H'){l:Addr}(h:H' l=Option.none):H l=Option.none:=by
 cases q:H l with
 | none=>rfl
 | some o =>
  rw[e l o q]at h;cases h
end L2
set_option maxHeartbeats 4000000
namespace L2
open PySem PySem.Spec PyProof.Rows
variable{hid:List Addr}{H:Hp}{base h h1 h2:Heap}{P prog:Program}{w:World}{M:Model}{A:Around}{E R:Value->Shared->Prop}{s s':Shared}{C L N S T e fI t0 x:Addr}{oI oe ox:Obj}{vs:Array Value}{Q:Unit->Shared->Prop}{env:Env}{outer:List Env}{dd od:Option Addr}{a0 v:Value}{K:W.Frag}{g:Array GenState}{d:Drawn}{os:OsState}{n name q:Str}{bm bmB bs rest sub:List Value}{ab hdct:Bool}{sn:List Str}{col:Option Bool}{k0 k1 k2 k3 k5:Option Value}{B initId newId:String}{pos:Pos}{t:Nat}{mN:Str->Option Value}{cd:ClassData}
theorem uW{fs:List Addr}{H':Hp}(u:Un fs [] H H' h h1)(hh:∀b o,h.get? b=some o->b∈hid->b∈fs)(k:∀b o,h1.get? b=some o->b∉hid->h2.get? b=some o)
  (kf:∀b∈fs,∀o,h1.get? b=some o->∃sl,h2.get? b=some { o with slots:=sl }):Un fs [] H H' h h2:=by
 refine⟨λb o e n hb hx=>?_,λb o e n hb hx=>?_,u.free,λb o e hx=>?_,u.tups,u.frzs,u.tbls⟩
 ·exact k b o (u.keep b o e n hb hx) λz=>hb (hh b o e z)
 ·obtain⟨sl,e1⟩:=u.slot b o e n hb hx;obtain⟨sl',e2⟩:=kf b hb _ e1;exact⟨sl',e2⟩
 ·obtain⟨o',e1⟩:=u.there b o e hx;by_cases z:b∈hid
  ·obtain⟨sl,e2⟩:=kf b (hh b o e z) _ e1;exact⟨_,e2⟩
  ·exact⟨o',k b o' e1 z⟩
theorem r9(hk:df P w H h1)(hn:∀b∈hid,H b=none)(k:∀b o,h1.get? b=some o->b∉hid->h2.get? b=some o):df P w H h2:=λa o e=>by
 have ne:∀b u,H b=some u->b∉hid:=λb u e z=>by rw[hn b z]at e;cases e
 refine(hk a o e).stay (λc v hc q=>k c v q ?_) (λ_ q=>q) λ_ _ q=>q
 rcases hc with z|z
 ·rw[z];exact ne a o e
 ·exact ne c _ z
theorem yp{h base:Heap}:∀{l:List Env},h.FunFrames base l->∀b∈bW l,∃o,h.get? b=some o/\∀vs,o.data ≠ .fields vs
 | [],_,b,hb=>by cases hb
 | env::l,hf,b,hb=>by
  obtain⟨h1,⟨L,o,e1,e2,e3,e4⟩,h2⟩:=hf;unfold bW at hb;rw[Ut,e1]at hb;rcases SS.mp hb with rfl|hb
  ·exact⟨o,e3,e4⟩
  ·exact yp h2 b hb
noncomputable def GN(x C T:Addr)(od:Option Addr)(h:Heap):Prop:=∃oe vs oT ts a0,h.get? x=some oe/\oe.cls=.ref C/\oe.dict=od/\oe.data=.fields vs/\vs[0]?=some a0/\vs[1]?=some (.ref T)/\T≠x/\h.get? T=some oT/\oT.data=.fields ts/\ts[3]?=some .none
noncomputable def dC(P:Program)(w:World):lH:=λouter H s E e s' => ∃x C T od H',e=.ref x/\s.heap.get? x=none/\s.heap.get? T=none/\GN x C T od s'.heap/\s'.os=s.os/\AllBare s'.gens /\
 Un (bW outer) [] H H' s.heap s'.heap/\df P w H' s'.heap/\H' x=none/\H' T=none/\E (.ref C) od H'
theorem BB{a:Addr}:∀{o:HO},bz P w H h a o->∃u,h.get? a=some u
 | .lst xs,x=>let ⟨_,_,_,_,e⟩:=x;⟨_,e⟩
 | .tup xs,x=>let ⟨_,_,_,⟨o,e,_⟩,_⟩:=x;⟨o,e⟩
 | .dK kvs,x=>let ⟨_,_,_,_,o,_,_,e,_⟩:=x;⟨_,e⟩
 | .dT kvs,x=>let ⟨_,_,_,_,o,_,_,e,_⟩:=x;⟨_,e⟩
 | .set S n,x=>let ⟨o,_,_,_,e,_⟩:=x;⟨_,e⟩
 | .ins C dx fs,x=>let ⟨_,_,_,e,_⟩:=x;⟨_,e⟩
 | .own y,x=>x
 | .xd fs,x=>let ⟨_,⟨_,_,_,e,_⟩,_⟩:=x;⟨_,e⟩
 | .rng lo hi,x=>let ⟨_,_,_,e⟩:=x;⟨_,e⟩
 | .frz ob u,x=>⟨_,x.1⟩
 | .tbl ps,x=>⟨_,(show h.get? a=some _ from x)⟩
 | .met f y,x=>⟨_,(show h.get? a=some _ from x)⟩
 | .ext φ,x=>x.2.1
theorem v9{h h' base:Heap}:∀{l:List Env},h.FunFrames base l->(∀b∈bW l,∀o,h.get? b=some o->∃sl,h'.get? b=some { o with slots:=sl })->h'.FunFrames base l
 | [],_,_=>True.intro
 | env::l,hf,hb=>by
  obtain⟨h1,⟨L,o,e1,e2,e3,e4⟩,h2⟩:=hf;have hm:L∈bW (env::l):=by unfold bW;rw[Ut,e1];exact SV
  obtain⟨sl,e5⟩:=hb L hm o e3;refine⟨h1,⟨L,_,e1,e2,e5,e4⟩,v9 h2 λb z=>hb b ?_⟩;unfold bW;rw[Ut,e1];exact SR _ z
theorem ph{oT:Obj}{ts:Array Value}(e1:s.heap.get? x=some oe)(e3:oe.data=.fields vs)(e5:vs[1]?=some (.ref T))(f1:s.heap.get? T=some oT)(f2:oT.data=.fields ts)(f3:3<ts.size)
  (h:Q () { s with heap:=s.heap.update T (Obj.mapFields λv=>v.setIfInBounds 3 .none) }):wpAny M A (setFlight (.ref x) none) Q E s:=by
 unfold setFlight;refine SO (Tr e1 e3 e5 ?_);rw[if_pos (by simp)];exact U8 f1 f2 f3 h
theorem BC(fs:A.frames=some (env::outer))(hf:s.heap.FunFrames base (env::outer))(hfr:env.frame=some L)
    (e1:s.heap.get? x=some oe) (e3:oe.data=.fields vs) (hsz:1<vs.size) (e5:vs[1]?=some .none\/∃T oT ts,vs[1]?=some (.ref T)/\T≠x/\s.heap.get? T=some oT/\oT.data=.fields ts/\ts[3]?=some .none)
    (h:∀h2 T',(∀b o,s.heap.get? b=some o->b≠x->vs[1]? ≠ some (.ref b)->b∉bW (env::outer)->h2.get? b=some o)->(∀b∈bW (env::outer),∀o,s.heap.get? b=some o->∃sl,h2.get? b=some { o with slots:=sl }) ->
      s.heap.get? T'=none->T'≠x->h2.get? x=some (Obj.mapFields (λv=>v.setIfInBounds 1 (.ref T')) oe)->(∃oT ts,h2.get? T'=some oT/\oT.data=.fields ts/\ts[3]?=some (rawInt L))->Q () { s with heap:=h2 }):wpAny M A (noteFrame (.ref x) env) Q E s:=by
  have xf:x∉bW (env::outer):=λhm=>by
    obtain⟨_,o,ho,hn⟩:=Heap.FunFrames.mem hf hm;rw[e1]at ho;cases ho;exact hn vs e3
  have core:∀(s1:Shared) (head:Value) (hn:Bool),s1.gens=s.gens->s1.drawn=s.drawn->s1.toks=s.toks->s1.os=s.os->s1.heap.objs.size=s.heap.objs.size->s1.heap.get? x=some oe->s1.heap.FunFrames base (env::outer)->(∀b o,s.heap.get? b=some o->b≠x->vs[1]? ≠ some (.ref b)->s1.heap.get? b=some o)->(∀b∈bW (env::outer),∀o,s.heap.get? b=some o->s1.heap.get? b=some o) ->
      wpAny M A (do
        let a <- PySem.frameOf env
        let pl <- entryPlaceOf L hn
        let b <- EntryCells.newEntry head a Value.none (rawInt L) Value.none pl
        setField (.ref x) 1 b) Q E s1:=λs1 head hn g1 g2 g3 g4 g5 k1 k2 k3 k4=>by
    refine SO (wpAny_frameOf_fun fs k2 hfr λh1 so=>SO (wpAny_entryPlaceOf λpl hpl=>?_));unfold EntryCells.newEntry newFields;refine SO (Ur ?_ (hd:=?_))
    rotate_left
    . show Array.size _<=sizeLine+2;rw[TW];rcases hpl with rfl|⟨a,b,c,d,c9,b10,_,rfl⟩<;>simp
    have he1:h1.get? x=some oe:=(so.2.1 x xf).trans k1;have he2:=SQ { cls:=.type "traceback", data:=.fields ([head,.ref L,.none,rawInt L,.none]++(if pl.isEmpty then List.replicate 6 .none else pl)).toArray } he1;have szT:h1.objs.size=s.heap.objs.size:=so.1.trans g5;have nT:h1.objs.size≠x:=TR (S1 he1);refine U8 he2 e3 hsz ?_;have st:(⟨s.heap,s.gens,s.drawn,s.toks,s.os⟩:Shared)=s:=rfl;have key:=h ((h1.push { cls:=.type "traceback", data:=.fields ([head,.ref L,.none,rawInt L,.none]++(if pl.isEmpty then List.replicate 6 .none else pl)).toArray }).update x (Obj.mapFields λv=>v.setIfInBounds 1 (.ref h1.objs.size))) h1.objs.size ?_ ?_ ?_ nT ?_ ?_
    . rw[<- g1,<- g2,<- g3,<- g4]at key;exact key
    . intro b o eb b1 b2 b3;rw[Te _ _ (Ub b1)];exact SQ _ ((so.2.1 b b3).trans (k3 b o eb b1 b2))
    . intro b hb o eb;obtain⟨sl,z⟩:=so.2.2 b o (k4 b hb o eb);refine⟨sl,?_⟩;rw[Te _ _ (show x≠b from λz=>xf (by rw[z];exact hb))];exact SQ _ z
    . rw[szT];cases z:s.heap.get? s.heap.objs.size with
      | none=>rfl
      | some o=>exact absurd (S1 z) (TH _)
    . exact Uf _ he2 (UZ (TY e3 _))
    . refine⟨{ cls:=.type "traceback", data:=.fields ([head,.ref L,.none,rawInt L,.none]++(if pl.isEmpty then List.replicate 6 .none else pl)).toArray },_,?_,rfl,by simp⟩;rw[Te _ _ (Ub nT)];exact S6 _ rfl
  unfold noteFrame;rw[hfr];dsimp only;rcases e5 with e5|⟨T,oT,ts,e5,f0,f1,f2,f3⟩
  . refine SO (Tr e1 e3 e5 ?_);rw[if_neg (by simp)];exact core s _ _ rfl rfl rfl rfl rfl e1 hf (λb o eb _ _=>eb) λb _ o eb=>eb
  . refine SO (Tr e1 e3 e5 ?_);rw[if_pos (by simp)];refine SO (Tr f1 f2 f3 ?_);rw[if_neg (by simp[rawInt])];have f4:3<ts.size:=by
      rcases UX 3 ts.size with z|z
      . exact z
      . rw[Ua z]at f3;cases f3
    have Tf:T∉bW (env::outer):=λhm=>by
      obtain⟨_,o,ho,hn⟩:=Heap.FunFrames.mem hf hm;rw[f1]at ho;cases ho;exact hn ts f2
    refine SO (U8 f1 f2 f4 ?_);refine core _ _ _ rfl rfl rfl rfl (Heap.size_update ..) ((Te _ _ f0).trans e1) ?_ ?_ ?_
    . exact v9 hf λb hb o eb=>⟨o.slots,(Te _ _ (show T≠b from λz=>Tf (by rw[z];exact hb))).trans eb⟩
    . intro b o eb b1 b2;exact(Te _ _ (λz=>b2 (by rw[e5,z]))).trans eb
    . intro b hb o eb;exact(Te _ _ (show T≠b from λz=>Tf (by rw[z];exact hb))).trans eb
section
variable{X:Cx}{dl:List (Addr×Obj)}{Z:St}{H':Hp}
theorem aj.frame(I:aj X dl Z H s)(hs:X.stack=X.env::X.outer):X.env.frame=some X.env.locals:=by
 rcases I.ok.stk with z|z
 ·have:=Ue List.length (hs.symm.trans z);simp at this
 ·exact z.2
structure pD(X:Cx)(hid:List Addr)(h1 h2:Heap):Prop where
 keep:∀b o,h1.get? b=some o->b∉hid->h2.get? b=some o
 up:∀b∈bW X.stack,∀o,h1.get? b=some o->∃sl,h2.get? b=some { o with slots:=sl }
theorem tO{l:List Env}(h:env.frame=some L):bW (env::l)=L::bW l:=by unfold bW;rw[Ut,h]
theorem wq{E:XK}(I:aj X dl Z H s)(hs:X.stack=X.env::X.outer)(hex:X.ex=[])(h1:∀b∈hid,b∈bW X.stack\/X.s₀.heap.get? b=none)(h2n:∀b∈hid,H b=none)
  (ov:pD X hid s.heap h2) (t:GN x C T od h2) (hT:s.heap.get? T=none\/T∈hid) (hx:X.s₀.heap.get? x=none) (hxn:H x=none) (q:E (.ref C) od H):dC X.prog X.w X.outer X.H₀ X.s₀ E (.ref x) { s with heap:=h2 }:=by
 have hfr:=I.frame hs;have nL:∀b o,X.s₀.heap.get? b=some o->b≠X.env.locals:=λb o e=>Ts (S4 (S1 e) I.ok.above)
 have ub:Un X.fs [] X.H₀ H X.s₀.heap s.heap:=by have:=I.base;rw[hex]at this;exact this
 have hf:=I.stack;have dat:∀b∈bW X.stack,b≠T:=λb hb z=>by
  obtain⟨o,e,d⟩:=yp hf b hb;obtain⟨sl,e2⟩:=ov.up b hb o e;obtain⟨oe,vs,oT,ts,a0,_,_,_,_,_,_,_,e7,e8,_⟩:=t;rw[z,e7]at e2;cases e2;exact d ts e8
 have old:X.s₀.heap.get? T=none:=by
  cases z:X.s₀.heap.get? T with
  | none=>rfl
  | some o =>
   obtain⟨o',e⟩:=ub.there T o z (by simp);rcases hT with hT|hT
   ·rw[hT]at e;cases e
   ·rcases h1 T hT with h|h
    ·exact absurd rfl (dat T h)
    ·rw[h]at z;cases z
 refine⟨x,C,T,od,H,rfl,hx,old,t,I.os,I.bare,uW (hid:=hid) ub (λb o e hb=>?_) ov.keep (λb hb o e=>ov.up b (by rw[hs,tO hfr];exact SR _ hb) o e),r9 I.hok h2n ov.keep,hxn,?_,q⟩
 ·rcases h1 b hb with h|h
  ·rw[hs,tO hfr]at h;rcases SS.mp h with h|h
   ·exact absurd h (nL b o e)
   ·exact h
  ·rw[h]at e;cases e
 ·cases z:H T with
  | none=>rfl
  | some o =>
   obtain⟨u,e⟩:=BB (I.hok T o z);rcases hT with hT|hT
   ·rw[hT]at e;cases e
   ·rw[h2n T hT]at z;cases z
theorem pd(fs:A.frames=some (env::outer))(hf:s.heap.FunFrames base (env::outer))(hfr:env.frame=some L)
  (e1:s.heap.get? x=some oe) (e2:oe.cls=.ref C) (e6:oe.dict=od) (e3:oe.data=.fields vs) (hsz:1<vs.size) (e4:vs[0]?=some a0) (e5:vs[1]?=some .none\/∃T oT ts,vs[1]?=some (.ref T)/\T≠x/\s.heap.get? T=some oT/\oT.data=.fields ts/\ts[3]?=some .none)
  (h:∀h2 T',(∀b o,s.heap.get? b=some o->b≠x->vs[1]? ≠ some (.ref b)->b∉bW (env::outer)->h2.get? b=some o)->(∀b∈bW (env::outer),∀o,s.heap.get? b=some o->∃sl,h2.get? b=some { o with slots:=sl }) ->
   s.heap.get? T'=none->GN x C T' od h2->Q () { s with heap:=h2 }):wpAny M A (noteFrame (.ref x) env) (λ_ s2=>wpAny M A (setFlight (.ref x) none) Q E s2) E s:=by
 refine BC fs hf hfr e1 e3 hsz e5 λh2 T' k1 k2 nT nTx ex ⟨oT,ts,f1,f2,f3⟩=>?_
 have d1:(Obj.mapFields (λv=>v.setIfInBounds 1 (.ref T')) oe).data=.fields (vs.setIfInBounds 1 (.ref T')):=TY e3 _;have v1:(vs.setIfInBounds 1 (.ref T'))[1]?=some (.ref T'):=by simp[hsz]
 have f4:3<ts.size:=by
  rcases UX 3 ts.size with z|z
  ·exact z
  ·rw[Ua z]at f3;cases f3
 refine ph (s:={ s with heap:=h2 }) ex d1 v1 f1 f2 f4 ?_;have nT2:∀b o,s.heap.get? b=some o->T'≠b:=λb o eb z=>by rw[<- z,nT]at eb;cases eb
 have ce:(Obj.mapFields (λv=>v.setIfInBounds 1 (.ref T')) oe).cls=.ref C/\(Obj.mapFields (λv=>v.setIfInBounds 1 (.ref T')) oe).dict=od:=by
  obtain⟨c,d,da,sl⟩:=oe;simp only at e3 e2 e6;subst e3;exact⟨e2,e6⟩
 refine h (h2.update T' _) T' (λb o eb b1 b2 b3=>(Te _ _ (nT2 b o eb)).trans (k1 b o eb b1 b2 b3)) (λb hb o eb=>?_) nT ⟨_,_,_,_,a0,(Te _ _ nTx).trans ex,ce.1,ce.2,d1,?_,v1,nTx,Uf _ f1 (UZ (TY f2 _)),TY f2 _,by simp[f4]⟩
 ·obtain⟨sl,z⟩:=k2 b hb o eb;exact⟨sl,(Te _ _ (nT2 b o eb)).trans z⟩
 ·rw[Array.getElem?_setIfInBounds_ne (by decide)];exact e4
theorem jP{E:XK}(I:aj X dl Z H s)(hs:X.stack=X.env::X.outer)(hex:X.ex=[])(e1:s.heap.get? e=some oe)(e2:oe.cls=.ref C)(e6:oe.dict=od)(e3:oe.data=.fields vs)(hsz:1<vs.size)(e4:vs[0]?=some a0)(e5:vs[1]?=some .none)
  (n0:X.s₀.heap.get? e=none) (nH:H e=none) (q:E (.ref C) od H) :
  wpAny (model X.prog X.w) X.A (leaving X.env (.ref e)) (λ_ s''=>dC X.prog X.w X.outer X.H₀ X.s₀ E (.ref e) s'') R s:=by
 have hfr:=I.frame hs;have fs:X.A.frames=some (X.env::X.outer):=by rw[<- hs];exact I.ok.frames
 have hf:=I.stack;rw[hs]at hf;refine SO (pd (C:=C) (od:=od) fs hf hfr e1 e2 e6 e3 hsz e4 (.inl e5) λh2 T' k1 k2 nT tr=>?_);have ov:pD X (e::bW X.stack) s.heap h2:=⟨λb o eb nb=>k1 b o eb (λz=>nb (by rw[z];exact SV)) (by rw[e5];intro z;cases z) (λz=>nb (SR _ (by rw[hs];exact z))),λb hb o eb=>k2 b (by rw[<- hs];exact hb) o eb⟩;refine wq (s:=s) I hs hex (λb hb=>?_) (λb hb=>?_) ov tr (.inl nT) n0 nH q
 ·rcases SS.mp hb with rfl|hb
  ·exact .inr n0
  ·exact .inl hb
 ·rcases SS.mp hb with rfl|hb
  ·exact nH
  ·exact I.stkFree b hb
theorem oF{h':Heap}{vs:List Value}{E:XK}(I:aj X dl Z H s)(hs:X.stack=X.env::X.outer)(hex:X.ex=[])(m:s.heap.MadeExcOf h' e (.ref C) vs)(q:E (.ref C) none H) :
  wpAny (model X.prog X.w) X.A (leaving X.env (.ref e)) (λ_ s''=>dC X.prog X.w X.outer X.H₀ X.s₀ E (.ref e) s'') R { s with heap:=h' }:=by
 have ub:Un X.fs [] X.H₀ H X.s₀.heap s.heap:=by have:=I.base;rw[hex]at this;exact this
 obtain⟨t,m1,m2,m3⟩:=m.there;refine jP (s:={ s with heap:=h' }) (I.kept (t':=s.toks) m.keeps) hs hex m1 rfl rfl rfl (by simp) rfl rfl ?_ ?_ q
 ·cases z:X.s₀.heap.get? e with
  | none=>rfl
  | some o=>obtain⟨o',e'⟩:=ub.there e o z (by simp);rw[m.new]at e';cases e'
 ·cases z:H e with
  | none=>rfl
  | some o=>obtain⟨u,e'⟩:=BB (I.hok e o z);rw[m.new]at e';cases e'
theorem qk{E:XK}{e:Value}(I:aj X dl Z H s)(hs:X.stack=X.env::X.outer)(hex:X.ex=[])(c:dC X.prog X.w X.stack H s E e s') :
  wpAny (model X.prog X.w) X.A (leaving X.env e) (λ_ s''=>dC X.prog X.w X.outer X.H₀ X.s₀ E e s'') R s':=by
 obtain⟨x,C,T,od,H',rfl,hx,hT,t,ho,hg,u,hk,nx,nT,q⟩:=c;have J:aj X dl Z H' s':=I.call' (ch:=[]) ho u hk hg (λb z=>absurd z (by simp));have hfr:=I.frame hs;have ub:Un X.fs [] X.H₀ H X.s₀.heap s.heap:=by have:=I.base;rw[hex]at this;exact this
 have fs:X.A.frames=some (X.env::X.outer):=by rw[<- hs];exact I.ok.frames
 have hf:=J.stack;rw[hs]at hf;have old:∀b,s.heap.get? b=none->X.s₀.heap.get? b=none:=λb hb=>by
  cases z:X.s₀.heap.get? b with
  | none=>rfl
  | some o=>obtain⟨o',e'⟩:=ub.there b o z (by simp);rw[hb]at e';cases e'
 obtain⟨oe,vs,oT,ts,a0,e1,e2,e6,e3,e4,e5,f0,f1,f2,f3⟩:=id t;have hsz:1<vs.size:=by
  rcases UX 1 vs.size with z|z
  ·exact z
  ·rw[Ua z]at e5;cases e5
 refine SO (pd (C:=C) (od:=od) fs hf hfr e1 e2 e6 e3 hsz e4 (.inr ⟨T,oT,ts,e5,f0,f1,f2,f3⟩) λh2 T2 k1 k2 nT2 tr=>?_);have ov:pD X (x::T::bW X.stack) s'.heap h2:=⟨λb o eb nb=>k1 b o eb (λz=>nb (by rw[z];exact SV)) (by rw[e5];intro z;injection z with z;injection z with z;exact nb (by rw[<- z];exact SR _ SV)) (λz=>nb (SR _ (SR _ (by rw[hs];exact z)))),λb hb o eb=>k2 b (by rw[<- hs];exact hb) o eb⟩;refine wq J hs hex (λb hb=>?_) (λb hb=>?_) ov tr (.inl nT2) (old x hx) nx q
 ·rcases SS.mp hb with rfl|hb
  ·exact .inr (old _ hx)
  ·rcases SS.mp hb with rfl|hb
   ·exact .inr (old _ hT)
   ·exact .inl hb
 ·rcases SS.mp hb with rfl|hb
  ·exact nx
  ·rcases SS.mp hb with rfl|hb
   ·exact nT
   ·exact J.stkFree b hb
end
abbrev gU:List Value:=[Value.type "ValueError", Value.type "Exception", Value.type "BaseException", Value.type "object"]
theorem lI{D:Addr}(e1:h.get? x=some ox)(e2:ox.cls=.ref D):∀M,W.Looks M h (typeOf (.ref x)) (.ref D):=by
 intro M A Q E s hk hq;unfold typeOf;refine SO (wpAny_loadPart (hk _ _ e1) ?_);rw[e2];exact SU hq
theorem zX{D:Addr}{R:Result->Shared->Prop}{tp:Value}{tk:Nat}(KI:K.In h)(ty:∀M,W.Looks M h (typeOf (.ref x)) (.ref D))(hm:W.mroIn K D (.type "object")=some true)
  (hR:R (.ok (.ret (.ref D))) ⟨h,g,d,tk,os⟩):codeAny (model prog w) A (.call (.builtin "getset_descriptor.__get__") ⟨[.builtin "object.__class__", .ref x,tp],[]⟩) R ⟨h,g,d,tk,os⟩:=by
 refine codeAny_call_builtin W.KF.slot_gs.plain W.KF.entry_gs ?_;refine W.KF.slot_gs.check _ _ _ _ _ _ _ _ ?_ (W.KF.args_gs _ _ _) ?_
 ·exact W.KF.type_class
 show wpAny _ _ (Builtin.Getset_descriptor.descrGet ⟨[.builtin "object.__class__", .ref x,tp],[]⟩) _ _ _;unfold Builtin.Getset_descriptor.descrGet;rw[W.dga_obj];refine SO (SU ?_);dsimp only;unfold Builtin.Getset_descriptor.descrGetter;dsimp only;refine SO ?_;unfold Builtin.Getset_descriptor.descrCheckInstance;refine SO ?_;unfold Builtin.Getset_descriptor.descrNameAndClass;dsimp only;rw[W.KF.owner_class];refine SU ?_;dsimp only;refine SO ?_;unfold isInstance;refine SO (Uy (ty _) (Uy (W.looks_mroIn KI hm) ?_));rw[if_neg (by simp)];refine SU ?_;refine SU ?_;refine⟨Code.quiet_builtin _ (by decide +kernel),codeAny_builtin W.KF.entry_class ?_⟩;show wpAny _ _ (Builtin.«object.__class__» ⟨[.ref x],[]⟩) _ _ _;unfold Builtin.«object.__class__»;dsimp only;refine SO ?_;unfold shownTypeOf;refine SO (Uy (ty _) ?_);rw[if_neg (by simp)];refine SU ?_;exact SU hR
theorem Ci{D:Addr}{Q:Option Value->Shared->Prop}{nm:Str}
  (hga:W.findIn K (.ref D) "__getattribute__" = some (some (.builtin "BaseException.__getattribute__"))) (hgt:W.findIn K (.ref D) "__getattr__" = some none)
  (hf:W.findIn K (.ref D) "__class__" = some (some (.builtin "object.__class__"))) (hs:W.specialIn K (.builtin "object.__class__") "__get__" = some (some (.builtin "getset_descriptor.__get__"))) (ht:W.takesIn K (.builtin "object.__class__")=some true) (hm:W.mroIn K D (.type "object")=some true)
  (KI:K.In s.heap) (e1:s.heap.get? x=some ox) (e2:ox.cls=.ref D) (hD:s.heap.get? D=some (excClassObj nm q D N bs bm hdct sn sub ab col dd k0 k1 k2 k3 k5 newId)) (hT:OwnTailQ s.heap gU bm)
  (hq:Q (some (.ref D)) { s with toks:=s.toks+1 }):wpAny (model prog w) A (getAttr? (.ref x) "__class__") Q E s:=by
 obtain⟨h,g,d,tk,os⟩:=s;have ty:=lI e1 e2;have lf:∀M,W.Looks M h (Builtin.ObjectAttr.find (.ref x) (.ref D) "__class__") (.bind (.builtin "getset_descriptor.__get__") (.builtin "object.__class__")):=by
  intro M A Q E s hk hq;unfold Builtin.ObjectAttr.find;refine SO (W.looks_findIn KI hf A _ E s hk ?_);refine SO ?_;unfold Builtin.ObjectAttr.getOf;refine W.looks_specialIn KI hs A _ E s hk ?_;refine SO ?_;unfold Builtin.ObjectAttr.dataDescriptor?;refine SO (W.looks_takesIn KI ht A _ E s hk ?_);rw[if_pos rfl];refine SU ?_;exact W.Looks.tag (W.Looks.now) A _ E s hk hq
 unfold getAttr?;refine SO (wpAny_mkText ?_);unfold getAttrBy?;refine SO (U5 ?_);unfold getAttrBy;refine TB (SO (Uy (ty _) ?_));refine SO (Uy (W.looks_findIn KI hga) ?_);dsimp only;have e9:(onTheHeap (Value.ref D)&&Value.builtin "BaseException.__getattribute__" == Value.builtin "object.__getattribute__")=false:=by
  have e0:(Value.builtin "BaseException.__getattribute__" == Value.builtin "object.__getattribute__")=false:=by decide +kernel
  rw[e0,Vz]
 rw[e9];rw[if_neg (by simp)];unfold getAttrByItsOwn;refine SO (Uy (W.looks_hook KI (r:=none) (by show(if true=true then W.findIn K (.ref D) "__getattr__" else some none)=some none;rw[if_pos rfl];exact hgt)) ?_);refine SO (U5 (TB ?_));unfold callGetattribute;rw[if_neg (by simp)];unfold boundAndCalled;rw[(Uj.toExcAttrFacts.ga).bind];refine SO (SU ?_);refine UL (codeAny_call_builtin (Uj.toExcAttrFacts.ga).plain PySem.F.entry_bexc_ga ?_);refine wpAny_check_ga_own Uj hD hT e1 e2 ?_;show wpAny _ _ (Builtin.«object.__getattribute__» ⟨[Value.ref x,Value.str "__class__" tk],[]⟩) _ _ _;unfold Builtin.«object.__getattribute__»;refine SO ?_;unfold slotArgs;dsimp only;rw[if_neg (by simp),if_neg (by simp)];refine SU ?_;dsimp only;refine SO ?_;unfold Builtin.ObjectAttr.attrName;refine SU ?_;refine SO (Uy (ty _) ?_);refine SO (Uy (lf _) ?_);dsimp only;unfold Builtin.ObjectAttr.bindTo;dsimp only;refine SO (TB (UL (zX KI ty hm ?_)));refine SU ?_;refine W.handed_on rfl ?_;exact SU hq
def K5:Value->Bool
 | .str _ _=>true
 | _=>false
noncomputable def rJ(K:W.Frag)(N:Addr):Bool :=
 match K.lookup N with
 | some ⟨_,_,.dict es _,_⟩=>es.toList.all (λe=>K5 e.key)&&quietNames.all λn=>(nsFind es n).isNone
 | _=>false
def o3(K:W.Frag)(N:Addr):Bool :=
 match K.lookup N with
 | some ⟨_,_,.dict es _,_⟩=>es.toList.all (λe=>K5 e.key)
 | _=>false
def vK(K:W.Frag)(N:Addr):Option Value :=
 match K.lookup N with
 | some ⟨_,_,.dict es _,_⟩=>nsFind es "__init__"
 | _=>none
def gE(K:W.Frag)(C:Addr):Option Value :=
 match K.lookup C with
 | some ⟨_,_,.cls cd,_⟩=>vK K cd.ns
 | _=>none
def Mn(sl:Array (Option Value)):Bool :=
 match sl.toList with
 | [_,_,_,_,some (.builtin id),_]=>id == "ValueError.__new__"
 | _=>false
noncomputable def kM(K:W.Frag)(C S:Addr):Bool :=
 match K.lookup C,K.lookup S with
 | some ⟨.type t,_,.cls cd,sl⟩,some ⟨_,_,.cls ce,_⟩=>t == "type" && Mn sl&&(cd.mro == .ref C :: .ref S::gU) && !cd.hasDel&&o3 K cd.ns&&rJ K ce.ns
 | _,_=>false
theorem DF(q:rJ K N=true)(KI:K.In h):∃mN,h.Ns N mN/\∀n∈quietNames,mN n=none:=by
 unfold rJ at q;split at q
 ·rename_i c d es ep sl e;rw[Tj]at q;refine⟨nsFind es,⟨_,es,ep,KI _ _ e,rfl,λx hx=>?_,λ_=>rfl⟩,λn hn=>?_⟩
  ·have:=TJ.mp q.1 x (by simpa using hx);cases hk:x.key with
   | str n t=>exact⟨n,t,rfl⟩
   | _=>rw[hk]at this;cases this
  ·have:=TJ.mp q.2 n hn;simpa using this
 ·cases q
theorem Bq(q:o3 K N=true)(KI:K.In h):∃mN,h.Ns N mN/\mN "__init__" = vK K N:=by
 unfold o3 at q;unfold vK;split at q
 ·rename_i c d es ep sl e;refine⟨nsFind es,⟨_,es,ep,KI _ _ e,rfl,λx hx=>?_,λ_=>rfl⟩,rfl⟩;have:=TJ.mp q x (by simpa using hx);cases hk:x.key with
  | str n t=>exact⟨n,t,rfl⟩
  | _=>rw[hk]at this;cases this
 ·cases q
theorem gK(q:kM K C S=true)(KI:K.In h) :
  ∃nm qn N bs hdct sn sub ab col dd k0 k1 k2 k3 k5 mN,h.get? C=some (excClassObj nm qn C N bs (.ref S::gU) hdct sn sub ab col dd k0 k1 k2 k3 k5 "ValueError.__new__")/\h.Ns N mN/\mN "__init__" = gE K C/\OwnTailQ h gU (.ref S::gU):=by
 unfold kM at q;split at q
 ·rename_i t d1 cd sl c2 d2 ce sl2 e1 e2;simp only[Tj]at q;obtain⟨⟨⟨⟨⟨q1,q2⟩,q3⟩,q4⟩,q5⟩,q6⟩:=q;have q1:t = "type" := by simpa using q1
  subst q1;replace q3:cd.mro=.ref C :: .ref S::gU:=by simpa using q3
  replace q4:cd.hasDel=false:=by simpa using q4
  obtain⟨mN,n1,n2⟩:=Bq q5 KI;obtain⟨mS,m1,m2⟩:=DF q6 KI;unfold Mn at q2;split at q2
  ·rename_i k0 k1 k2 k3 id k5 es;have q2:id = "ValueError.__new__" := by simpa using q2
   subst q2;have es:sl = #[k0,k1,k2,k3,some (.builtin "ValueError.__new__"),k5]:=by
    have:=Ue List.toArray es;simpa using this
   subst es;have g1:=KI _ _ e1;have g2:=KI _ _ e2;obtain⟨f1,f2,f3,f4,f5,f6,f7,f8,f9,f10,f11⟩:=cd;simp only at q3 q4 n1;subst q3 q4;exact⟨_,_,_,_,_,_,_,_,_,_,_,_,_,_,_,mN,g1,n1,by rw[n2];unfold gE;rw[e1],.own g2 m1 m2 .base⟩
  ·cases q2
 ·cases q
structure iq(K:W.Frag)(C S:Addr):Prop where
 ex:kM K C S=true
 ga:W.findIn K (.ref C) "__getattribute__" = some (some (.builtin "BaseException.__getattribute__"))
 gt:W.findIn K (.ref C) "__getattr__" = some none
 cl:W.findIn K (.ref C) "__class__" = some (some (.builtin "object.__class__"))
 sp:W.specialIn K (.builtin "object.__class__") "__get__" = some (some (.builtin "getset_descriptor.__get__"))
 tk:W.takesIn K (.builtin "object.__class__")=some true
 mo:W.mroIn K C (.type "object")=some true
theorem iq.is(e:iq K C S):∃cd,W.clsIn K C=some cd:=by
 have:=e.mo;unfold W.mroIn at this;cases h:W.clsIn K C with
 | none=>rw[h]at this;cases this
 | some cd=>exact⟨cd,rfl⟩
def NY(x C:Addr)(h:Heap):Prop:=∃o,h.get? x=some o/\o.cls=.ref C
theorem pe(e:iq K C S):W.KitX K (.ref x) (.ref C) (NY x C):=by
 obtain⟨cd,hcd⟩:=e.is;refine⟨λM h KI ⟨o,e1,e2⟩=>?_,λM h KI _=>?_,λh tp dd its n sl KI ht=>?_,λ{prog w A E Q s} KI ⟨o,e1,e2⟩ hq=>?_⟩
 ·exact lI e1 e2 M
 ·obtain⟨nm,qn,N,bs,hdct,sn,sub,ab,col,dd,k0,k1,k2,k3,k5,mN,g1,g2,g3,g4⟩:=gK e.ex KI;intro A Q E s hk hq;unfold isType;refine SO (wpAny_loadPart (hk _ _ g1) ?_);exact SU hq
 ·obtain⟨nm,qn,N,bs,hdct,sn,sub,ab,col,dd,k0,k1,k2,k3,k5,mN,g1,g2,g3,g4⟩:=gK e.ex KI;rw[TF];intro z;injection z with z;rw[<- z,g1]at ht;injection ht with ht;injection ht with h1;injection h1 with h1;exact absurd h1 (by decide)
 ·obtain⟨nm,qn,N,bs,hdct,sn,sub,ab,col,dd,k0,k1,k2,k3,k5,mN,g1,g2,g3,g4⟩:=gK e.ex KI;exact Ci e.ga e.gt e.cl e.sp e.tk e.mo KI e1 e2 g1 g4 hq
theorem CM(S:Addr):(Value.ref S::gU).contains (.type "BaseException")=true:=by
 rw[Ve,show gU.contains (Value.type "BaseException")=true by decide +kernel,Bool.or_true]
section
variable{X:Cx}{dl:List (Addr×Obj)}{Z:St}
theorem DE{x:Str}{np cpos:Pos}{e:Expr}{t:TA}{Q:Flow->Shared->Prop}(I:aj X dl Z H s)(hc:X.calm=true)(hg:Gl X x)(hm:X.mg x=some (.ref C))(hx:iq X.K C S)(hin:gE X.K C=none)(hdb:(x==("__debug__" : Str))=false)
  (ha:PA X [e] t) (hn:(backTo cpos (starEach [e] X.env)).any (·.1)=false) (he:starEach [e] X.env=[(false,eval e X.env)])
  (h:t Z H λvs H1=>vs.length<=sizeLine/\∀s1 h' a us,aj X dl Z H1 s1->s1.heap.MadeExcOf h' a (.ref C) us->X.xe (.ref a) { s1 with heap:=h' }) :
  wpAny (model X.prog X.w) X.A (exec (.Raise (some (.Call (.Name x np) [e] [] cpos)) none pos) X.env) Q X.xe s:=by
 obtain⟨nm,qn,N,bs,hdct,sn,sub,ab,col,dd,k0,k1,k2,k3,k5,mN,g1,g2,g3,g4⟩:=gK hx.ex I.ok.mod.kin;refine wpAny_Raise_call_subT (nm:=nm) (q:=qn) (N:=N) (bs:=bs) (bm:=.ref S::gU) (hdct:=hdct) (sn:=sn) (sub:=sub) (ab:=ab) (col:=col) (dd:=dd) (k0:=k0) (k1:=k1) (k2:=k2) (k3:=k3) (k5:=k5) PySem.F.excBase_ValueError (CM S) (I.ok.hd hc) hn (g3.trans hin) (dP I hg hm ⟨rfl,?_⟩ hdb);have key:=ha cpos dl s Z H _ I h;rw[he]at key⊢;obtain⟨y,ey⟩:∃y,backTo cpos [(false,eval e X.env)]=[(false,y)]:=⟨_,rfl⟩;rw[ey]at key⊢;refine PySem.Calls.evalArgs_plain (aG key λus s1 ⟨vs,H1,I1,r,hl,q⟩=>?_);obtain⟨o,es,ep,e1,e2,e3,e4⟩:=g2;exact⟨rfl,by rw[<- r.length];exact hl,I1.bk _ _ g1,⟨o,es,ep,I1.bk _ _ e1,e2,e3,e4⟩,(OwnTailQ.tail g4).keeps I1.bk,λh' a m=>q s1 h' a us I1 m⟩
end
section
variable{X:Cx}{dl:List (Addr×Obj)}{Z:St}{H':Hp}
theorem Jx{i:Nat}(I:aj X dl Z H s)(hN:X.N.Nodup)(hi:X.N[i]?=some n)(hk:X.env.scope.names.lookup n=some .local)
  (h:∀s',aj X dl (Z.set i none) H s'->Q () s'):wpAny M A (do bindName X.env n .none;unbindBehindTheSuite X.env n pos) Q E s:=by
 obtain⟨m,hn,hl⟩:=id I.loc;have hcls:(X.env.scope.kind == .class || (X.env.scope.kind == .module&&X.env.locals != X.env.globals))=false:=by rw[I.ok.kind];rfl
 have hiZ:i<Z.length:=by rw[I.len];exact(Tl.mp hi).1
 have cne:=I.cne;refine wpAny_nameGoes_keeps hk hn hcls λh' v hn' hs=>?_
 obtain⟨oL,_,_,hoL,_⟩:=id hn;refine h _ ⟨I.ok,I.os,I.bare,⟨λb o e n hb hx=>?_,λb o e n hb hx=>?_,I.base.free,λb o e hx=>?_,I.base.tups,I.base.frzs,I.base.tbls⟩,⟨_,hn',λj y v' e1 e2 e3=>?_⟩,λy c e=>?_,I.free,I.freeC,λp hp=>?_,λb ob e=>?_,by simpa using I.len⟩
 ·exact(hs.2 b (Ts (S4 (S1 e) I.ok.above))).trans (I.base.keep b o e n hb hx)
 ·obtain⟨sl,e1⟩:=I.base.slot b o e n hb hx;exact⟨sl,(hs.2 b (Ts (S4 (S1 e) I.ok.above))).trans e1⟩
 ·obtain⟨o',e1⟩:=I.base.there b o e hx;exact⟨o',(hs.2 b (Ts (S4 (S1 e) I.ok.above))).trans e1⟩
 ·by_cases hj:j=i
  ·subst hj;rw[UF hiZ]at e2;cases e2
  ·rw[Ul (Ub hj)]at e2;obtain⟨u',r',q⟩:=hl j y v' e1 e2 e3;refine⟨u',r',?_⟩;rcases q with⟨k,e⟩|⟨k,c,e,z⟩
   ·refine .inl ⟨k,?_⟩;have:y≠n:=λe=>hj (lO hN e1 (e ▸ hi))
    simp[this,e]
   ·exact .inr ⟨k,c,e,z.sameBut hs (cne y c e)⟩
 ·obtain⟨w',z⟩:=I.cell y c e;exact⟨w',z.sameBut hs (cne y c e)⟩
 ·obtain⟨e,n,ne,nf,d⟩:=I.pin p hp;exact⟨(hs.2 p.1 ne).trans e,n,ne,nf,d⟩
 ·refine(I.hok b ob e).stay (λc w' hc q=>(hs.2 c ?_).trans q) (λ_ q=>q) λ_ _ q=>q
  rintro rfl;rcases hc with rfl|hc
  ·rw[I.free]at e;cases e
  ·rw[I.free]at hc;cases hc
abbrev Cx.mark(X:Cx)(e:Value):Cx:={ X with A:=X.A.mark (some e),calm:=false,xe:=λ_ _=>False }
theorem Cx.Ok.mark(ok:X.Ok)(e:Value):(X.mark e).Ok:=⟨ok.mod,ok.kind,ok.glob,ok.blt,ok.above,ok.inj,ok.has,ok.cab,(λz=>by cases z),ok.frames,ok.stk,ok.exf,ok.bs,ok.bsz,ok.noex,ok.exfs,ok.funs,ok.frf⟩
theorem aj.mark(I:aj X dl Z H s)(e:Value):aj (X.mark e) dl Z H s:=⟨I.ok.mark e,I.os,I.bare,I.base,I.loc,I.cell,I.free,I.freeC,I.pin,I.hok,I.len⟩
theorem aj.unmark{e:Value}(ok:X.Ok)(I:aj (X.mark e) dl Z H s):aj X dl Z H s:=⟨ok,I.os,I.bare,I.base,I.loc,I.cell,I.free,I.freeC,I.pin,I.hok,I.len⟩
abbrev lr(x C:Addr)(od:Option Addr):HO:=.ext (λh => ∃o vs,h.get? x=some o/\o.cls=.ref C/\o.dict=od/\o.data=.fields vs)
theorem Np{o:Obj}(e1:h.get? x=some o)(e2:o.cls=.ref C)(e3:o.dict=od)(e4:o.data=.fields vs):bz P w H h x (lr x C od) :=
 ⟨⟨o,vs,e1,e2,e3,e4⟩,⟨o,e1⟩,λh1 h2 ⟨o',vs',a,b,c,d⟩ k=>⟨o',vs',k o' a,b,c,d⟩⟩
theorem Of{o:HO}(hk:df P w H h)(hn:H x=none)(ho:bz P w (aA H x o) h x o):df P w (aA H x o) h:=λa u e=>by
 by_cases z:a=x
 ·subst z;rw[aw]at e;cases e;exact ho
 ·rw[aq z]at e;exact(hk a u e).stay (λ_ _ _ q=>q) (λb q=>by rw[aq (aR q hn)];exact q) λb xs q=>by rw[aq (aR q hn)];exact q
theorem NK{E:XK}{e:Value}{D:kl}{B y:Str}{ie iy:Nat}{C0:Addr}{bp hpos p1 p2 p3:Pos}(I:aj X dl Z H s)(hs:X.stack=X.env::X.outer)(hN:X.N.Nodup)(c:dC X.prog X.w X.stack H s E e s')
  (hB:Gl X B) (hmB:X.mg B=some (.ref C0)) (hdb:(B==("__debug__" : Str))=false) (hie:X.N[ie]?=some n) (hen:X.env.scope.names.lookup n=some .local) (hiy:X.N[iy]?=some y) (hyn:X.env.scope.names.lookup y=some .local) (hne:iy≠ie)
  (hd1:(n==("__debug__" : Str))=false) (hd2:(n==("__classdict__" : Str))=false)
  (hE:∀C od H',E (.ref C) od H'->W.exmOne X.K (.ref C) (.ref C0)=some true/\∀x,H' x=none->D.nx (((Z.set ie (some (.ref x))).set iy (some (.ref x))).set ie none) (aA H' x (lr x C od))) :
  wpAny (model X.prog X.w) X.A (noteFrame e X.env) (λ_ s₂=>wpAny (model X.prog X.w) X.A (setFlight e none) (λ_ s₃=>wpAny (model X.prog X.w) X.A (handleBy e X.env [.ExceptHandler (some (.Name B bp)) (some n) [.Assign [.Name y p1] (.Name n p2) p3] hpos]) (SP X dl D) X.xe s₃) X.xe s₂) X.xe s':=by
 obtain⟨x,C,T,od,H',rfl,hx,hT,t,ho,hg,u,hk,nx,nT,q⟩:=c;have J:aj X dl Z H' s':=I.call' (ch:=[]) ho u hk hg (λb z=>absurd z (by simp));have hfr:=I.frame hs;have fs:X.A.frames=some (X.env::X.outer):=by rw[<- hs];exact I.ok.frames
 have hf:=J.stack;rw[hs]at hf;obtain⟨oe,vs,oT,ts,a0,e1,e2,e6,e3,e4,e5,f0,f1,f2,f3⟩:=id t;have hsz:1<vs.size:=by
  rcases UX 1 vs.size with z|z
  ·exact z
  ·rw[Ua z]at e5;cases e5
 obtain⟨qm,qn⟩:=hE C od H' q;refine pd (C:=C) (od:=od) fs hf hfr e1 e2 e6 e3 hsz e4 (.inr ⟨T,oT,ts,e5,f0,f1,f2,f3⟩) λh2 T2 k1 k2 nT2 tr=>?_
 have hidn:∀b∈x::T::bW X.stack,H' b=none:=λb hb=>by
  rcases SS.mp hb with rfl|hb
  ·exact nx
  ·rcases SS.mp hb with rfl|hb
   ·exact nT
   ·exact J.stkFree b hb
 have hidf:∀b o,s.heap.get? b=some o->b∈x::T::bW X.stack->b∈bW X.stack:=λb o eb hb=>by
  rcases SS.mp hb with rfl|hb
  ·rw[hx]at eb;cases eb
  ·rcases SS.mp hb with rfl|hb
   ·rw[hT]at eb;cases eb
   ·exact hb
 have mkI:∀h3:Heap,pD X (x::T::bW X.stack) s'.heap h3->aj X dl Z H' { s' with heap:=h3 }:=λh3 ov =>
  I.call' (s':={ s' with heap:=h3 }) (ch:=[]) ho (uW u hidf ov.keep ov.up) (r9 hk hidn ov.keep) hg (λb z=>absurd z (by simp))
 have ov2:pD X (x::T::bW X.stack) s'.heap h2:=⟨λb o eb nb=>k1 b o eb (λz=>nb (by rw[z];exact SV)) (by rw[e5];intro z;injection z with z;injection z with z;exact nb (by rw[<- z];exact SR _ SV)) (λz=>nb (SR _ (SR _ (by rw[hs];exact z)))),λb hb o eb=>k2 b (by rw[<- hs];exact hb) o eb⟩;have J2:=mkI h2 ov2;obtain⟨ox,vx,oU,us,a1,ex1,ex2,ex6,ex3,ex4,ex5,u0,u1,u2,u3⟩:=tr;refine wpAny_handleBy_cons ?_ (by intro z;cases z);refine codeAny_handlers_test ?_;refine dP (X:=X.mark (.ref x)) (J2.mark (.ref x)) hB hmB ?_ hdb;refine Uy (W.exm_one J2.kIn (lI ex1 ex2 _) qm) ?_;show codeAny _ _ _ _ _;refine codeAny_handlers_suite_as ?_;have u4:3<us.size:=by
  rcases UX 3 us.size with z|z
  ·exact z
  ·rw[Ua z]at u3;cases u3
 have nT3:∀b o,s'.heap.get? b=some o->T2≠b:=λb o eb z=>by rw[<- z,nT2]at eb;cases eb
 refine ph (s:={ s' with heap:=h2 }) ex1 ex3 ex5 u1 u2 u4 ?_;obtain⟨h3,eh3⟩:∃h3,h2.update T2 (Obj.mapFields λv=>v.setIfInBounds 3 .none)=h3:=⟨_,rfl⟩;have oth:∀b,T2≠b->h3.get? b=h2.get? b:=λb hb=>by rw[<- eh3];exact Te _ _ hb
 show wpAny _ _ _ _ _ { s' with heap:=h2.update T2 (Obj.mapFields λv=>v.setIfInBounds 3 .none) };rw[eh3];have ov3:pD X (x::T::bW X.stack) s'.heap h3:=⟨λb o eb nb=>(oth b (nT3 b o eb)).trans (ov2.keep b o eb nb),λb hb o eb=>by
  obtain⟨sl,z⟩:=ov2.up b hb o eb;exact⟨sl,(oth b (nT3 b o eb)).trans z⟩⟩
 have ey1:h3.get? x=some ox:=(oth x u0).trans ex1;have J3:aj X dl Z (aA H' x (lr x C od)) { s' with heap:=h3 }:=by
  have u3:=uW u hidf ov3.keep ov3.up;refine I.call' (s':={ s' with heap:=h3 }) (ch:=[]) ho ⟨u3.keep,u3.slot,λb o eb n hb=>?_,u3.there,λb xs eb=>?_,λb o w eb=>?_,λb ps eb=>?_⟩ (Of (r9 hk hidn ov3.keep) nx (Np ey1 ex2 ex6 ex3)) hg (λb z=>absurd z (by simp))
  ·have:b≠x:=λz=>by rw[z,hx]at eb;cases eb
   rw[aq this];exact u3.free b o eb n hb
  ·have z:=u3.tups b xs eb;rw[aq (aR z nx)];exact z
  ·have z:=u3.frzs b o w eb;rw[aq (aR z nx)];exact z
  ·obtain⟨more,z⟩:=u3.tbls b ps eb;exact⟨more,by rw[aq (aR z nx)];exact z⟩
 refine oW (X:=X) J3 hN hie (.inl hen) (v:=.ref x) rfl (λs4 J4=>?_) (.inr hen);have hl:ie<Z.length:=by rw[I.len];exact(Tl.mp hie).1
 have pv:PE (X.mark (.ref x)) (.Name n p2) (vb ie):=mI (X:=X.mark (.ref x)) hie (.inl hen) hd1 hd2;have ps:=qb (X:=X.mark (.ref x)) (pos:=p3) (pos':=p1) hN hiy (.inl hyn) pv rfl (.inr hyn);refine Tn (nK ps dl s4 _ _ ⟨λZ' H''=>Z'=(Z.set ie (some (.ref x))).set iy (some (.ref x))/\H''=aA H' x (lr x C od),λ_ _=>False,λ_ _=>False,λ_ _=>False⟩ (J4.mark (.ref x)) ⟨_,UF hl,rfl,rfl⟩) (λf s5 hf=>?_) (λ_ _ z=>z.elim);cases f with
 | next =>
  obtain⟨Z',H'',J5,rfl,rfl⟩:=hf;refine Jx (X:=X) (J5.unmark I.ok) hN hie hen λs6 J6=>?_
  exact⟨_,_,J6,qn x nx⟩
 | brk=>obtain⟨_,_,_,z⟩:=hf;exact z.elim
 | cont=>obtain⟨_,_,_,z⟩:=hf;exact z.elim
 | ret v=>obtain⟨_,_,_,_,_,z⟩:=hf;exact z.elim
end
theorem pP{nm:Str}
  (F:ExcBaseFacts B newId initId bmB) (ht:OwnTail h bmB bm) {Q:PySem.Fin->Shared->Prop} (hC:h.get? C=some (excClassObj nm q C N bs bm hdct sn sub ab col dd k0 k1 k2 k3 k5 newId)) (hn:h.Ns N mN) (hi:mN "__init__" = some (.ref fI)) (hfI:h.get? fI=some oI) (hfc:oI.cls=.type "function")
  (hq:∀h' e,h.objs.size<=e->h.MadeExcOf h' e (.ref C) rest->wpAny (model prog w) A (call (.ref fI) (.ref e::rest)) (λr s'=>r=.none/\Q (.done (.ret (.ref e))) s') E ⟨h',g,d,t,os⟩) (hrest:rest.length<=sizeLine) :
  wpAny (model prog w) A (Builtin.«type.__call__» ⟨.ref C::rest,[]⟩) Q E ⟨h,g,d,t,os⟩:=by
 unfold Builtin.«type.__call__»;dsimp only;refine Uw rfl ?_;refine SO ?_;unfold mroOf;refine SO ?_;unfold classData;refine SO (wpAny_load' hC (SU (SU ?_)));refine Uw rfl ?_;refine SO (wpAny_madeBy_exc hC ?_);refine SO (SU ?_);refine SO (TB (UL (codeAny_call_builtin_code (Code.quiet_builtin ⟨.ref C::rest,[]⟩ F.quiet) (wpAny_check_new_subT F ht hC (codeAny_exc_new_subT F ht hC ?_ hrest)))));have kp:∀b o,h.get? b=some o->((h.push { cls:=.type "tuple", data:=.seq rest.toArray }).push { cls:=.ref C,data:=.fields #[.ref h.objs.size,.none,.none,.none,.bool false,.none] }).get? b=some o:=λb o e=>SQ _ (SQ _ e)
 have hget:((h.push { cls:=.type "tuple", data:=.seq rest.toArray }).push { cls:=.ref C,data:=.fields #[.ref h.objs.size,.none,.none,.none,.bool false,.none] }).get? (h.objs.size+1)=some { cls:=.ref C,data:=.fields #[.ref h.objs.size,.none,.none,.none,.bool false,.none] }:=Heap.get?_push_at (by simp) rfl;have m:h.MadeExcOf ((h.push { cls:=.type "tuple", data:=.seq rest.toArray }).push { cls:=.ref C,data:=.fields #[.ref h.objs.size,.none,.none,.none,.bool false,.none] }) (h.objs.size+1) (.ref C) rest:=⟨kp,UK (TM _),h.objs.size,hget,UK (SX _),SQ _ (Heap.get?_push_at rfl rfl)⟩;have hcC:(Value.ref C::bm).contains (.ref C)=true:=by simp
 generalize hh:(h.push { cls:=.type "tuple", data:=.seq rest.toArray }).push { cls:=.ref C,data:=.fields #[.ref h.objs.size,.none,.none,.none,.bool false,.none] }=h1 at *;refine SO (E:=E) ?_;unfold isInstance;refine SO ?_;unfold typeOf;refine SO (UB hget ?_);refine SU ?_;refine wpAny_isSubtype_exc (kp _ _ hC) ?_;rw[hcC];refine Uw rfl ?_;refine SO (TB ?_);unfold callSpecial?;refine SO ?_;unfold specialOf;refine SO ?_;unfold typeOf;refine SO (UB hget ?_);refine SU ?_;have ht1:OwnTail h1 bmB bm:=ht.keeps kp;have hn1:h1.Ns N mN:=by obtain⟨o,es,ep,a,b⟩:=hn;exact⟨o,es,ep,kp _ _ a,b⟩
 refine wpAny_typeLookup_tail (kp _ _ hC) hn1 ht1 F.mroIs F.init.lookup ?_;rw[hi];dsimp only;refine TB (SO ?_);unfold bindSpecial;refine SO (wpAny_typeOf ⟨oI,kp _ _ hfI,hfc⟩ ?_);rw[if_pos (by decide)];refine SU (SO (Tn (hq h1 _ (TM _) m) (λr s' hr=>?_) (λ_ _ z=>z)));obtain⟨rfl,hQ⟩:=hr;refine SU ?_;dsimp only;rw[if_neg (by simp)];exact SU hQ
theorem Ae{nm:Str}
  (F:ExcBaseFacts B newId initId bmB) (ht:OwnTail h bmB bm) {Q:Value->Shared->Prop} (hC:h.get? C=some (excClassObj nm q C N bs bm hdct sn sub ab col dd k0 k1 k2 k3 k5 newId)) (hn:h.Ns N mN) (hi:mN "__init__" = some (.ref fI)) (hfI:h.get? fI=some oI) (hfc:oI.cls=.type "function")
  (hq:∀h' e,h.objs.size<=e->h.MadeExcOf h' e (.ref C) rest->wpAny (model prog w) (A.under (.builtin "type.__call__" ⟨.ref C::rest,[]⟩)) (call (.ref fI) (.ref e::rest)) (λr s'=>r=.none/\Q (.ref e) s') E ⟨h',g,d,t,os⟩) (hrest:rest.length<=sizeLine) :
  wpAny (model prog w) A (call (.ref C) rest) Q E ⟨h,g,d,t,os⟩:=by
 have f1:=tc_lookup;have f2:=tc_bind (.ref C);have hT:Shared.TypeIs ⟨h,g,d,t,os⟩ (.ref C) "type" := ⟨_,hC,rfl⟩;refine UL (codeAny_of_tree ?_);refine SO (wpAny_load' hC ?_);refine SO (wpAny_specialOf hT f1 ?_);refine SO (wpAny_of_eq f2 ?_);refine SO ?_;refine SU (wpAny_ite_true rfl ?_);refine SU ⟨rfl,codeAny_call_builtin_at (Code.quiet_builtin ⟨.ref C::rest,[]⟩ (by decide +kernel)) entry_typeCall (wpAny_check_type_call_sub hC (pP F ht hC hn hi hfI hfc (λh' e hl hm=>hq h' e hl hm) hrest))⟩
theorem ze{nm:Str}{x:Sem Value}{Q:Flow->Shared->Prop}
  (hbase:bm.contains (.type "BaseException")=true) (hh:A.handled=none)
  (h:wpAny M A x (λv s₁ => ∃e oe vs,v=.ref e/\s₁.heap.get? C=some (excClassObj nm q C N bs bm hdct sn sub ab col dd k0 k1 k2 k3 k5 newId)/\s₁.heap.get? e=some oe/\oe.cls=.ref C/\oe.data=.fields vs/\vs[1]?=some .none/\E (.ref e) s₁) E s):wpAny M A (raiseStmt env (some x) none) Q E s:=by
 have hcB:(Value.ref C::bm).contains (.type "BaseException")=true:=by rw[Ve,hbase,Bool.or_true]
 unfold raiseStmt;dsimp only;refine SO (Tn h (λv s1 h1=>?_) (λ_ _ z=>z));obtain⟨e,oe,vs,rfl,hC,he,e2,e3,e5,hE⟩:=h1;obtain⟨hp,g,d,tk,os⟩:=s1;obtain⟨oc,od,oda,osl⟩:=oe;simp only at e2 e3;subst e2 e3;refine SO (SU ?_);refine SO (TB ?_);unfold excFromValue;refine SO ?_;unfold isExcClass;refine SO ?_;unfold isType;refine SO (UB he (SU ?_));refine Uw rfl (SU ?_);refine Uw rfl ?_;refine SO ?_;unfold isInstance;refine SO ?_;unfold typeOf;refine SO (UB he (SU ?_));refine wpAny_isSubtype_exc hC ?_;rw[hcB];refine wpAny_ite_true rfl (SU ?_);dsimp only;refine SO ?_;refine SO (UB he (SU ?_));refine Uw rfl ?_;refine SO ?_;unfold raisedInstance;refine SO ?_;unfold typeOf;refine SO (UB he (SU ?_));refine SO ?_;refine SO (UB hC (SU ?_));refine wpAny_ite_true rfl (SU ?_);refine SO ?_;unfold setFlight;refine SO (Tr he rfl e5 ?_);refine Uw rfl (SU ?_);exact wpAny_raiseNew_none hh hE
theorem IK{R:Result->Shared->Prop}{od:Option Obj}{tk:Tok}(X:K.In s.heap)(I:W.InstAt s.heap x ox C od)(hc:W.clsIn K C=some cd)(hm:cd.mro=.ref C :: .ref S::gU)(ht:W.findIn K (.ref C) name=some none)
  (h:wpAny (model prog w) A.in1 (Builtin.ObjectAttr.storeInOwnDict (.ref x) (.ref C) (.str name tk) name v false) (λfin s'=>match fin with | .done f=>R (.ok f) s' | .again c'=>c'.quiet=true/\codeAny (model prog w) A c' R s') (λe s'=>R (.error e) s') s) :
  codeAny (model prog w) A (.call (.builtin "object.__setattr__") ⟨[.ref x,.str name tk,v],[]⟩) R s:=by
 have SF:=F.store_object;have mi:W.mroIn K C (.type "object")=some true:=by
  unfold W.mroIn;rw[hc,Option.bind_some,hm,if_neg (by simp)];simp[gU]
 have sub:W.Looks (model prog w) s.heap (isInstance (.ref x) (.type "object")) true:=W.Looks.andThen (W.InstAt.type I) (W.looks_mroIn X mi);refine codeAny_call_builtin SF.slot.plain SF.entry ?_;have ao:argsOk "object.__setattr__" ⟨[.ref x,.str name tk,v],[]⟩:=SF.args (.ref x) (.str name tk) v;refine W.check_slot (i := "object.__setattr__") (owner := "object") (n := "__setattr__") (self:=.ref x) (rest:=[.str name tk,v]) (kw:=[]) SF.kind SF.split sub ao ?_;have hmr:W.Looks (model prog w) s.heap (mroOf (.ref C)) cd.mro:=W.Looks.andThen (W.looks_clsIn X hc) W.Looks.now;rw[W.osa_eq,refuse_eq];refine SO (SO (W.Looks.here (W.InstAt.type I) (SO (W.Looks.here hmr ?_))));rw[hm,refuseLoop_ref,refuseLoop_ref,F.store_ValueError.passes];refine SU (SO (W.Looks.here (W.InstAt.type I) (SO (W.Looks.here (W.looks_findIn X ht) ?_))));refine SO ?_;unfold Builtin.ObjectAttr.storeTaker?;refine SU ?_;exact h
theorem JE(X:K.In s.heap)(e1:s.heap.get? x=some ox)(e2:ox.cls=.ref C)(e3:ox.data=.fields vs)(e6:ox.dict=none)(hc:W.clsIn K C=some cd)(hm:cd.mro=.ref C :: .ref S::gU)(hd:cd.hasDict=true)
  (hs:W.findIn K (.ref C) "__setattr__" = some (some (.builtin "object.__setattr__"))) (ht:W.findIn K (.ref C) name=some none)
  (h:∀h' dx,s.heap.objs.size<=dx->(∀b o,b≠x->s.heap.get? b=some o->h'.get? b=some o)->h'.get? x=some { ox with dict:=some dx }->(h'.Ns1 dx λy=>if y=name then some v else none)->Q () { s with heap:=h',toks:=s.toks+2 }) :
  wpAny (model prog w) A (setAttr (.ref x) name v) Q E s:=by
 obtain⟨oc,odd,oda,osl⟩:=ox;simp only at e2 e3 e6;subst e2 e3 e6;have J:W.InstAt s.heap x ⟨.ref C,none,.fields vs,osl⟩ C none:=⟨e1,rfl,rfl,True.intro⟩;refine W.set_plain X J hs (IK (s:={ s with toks:=s.toks+1 }) X J hc hm ht ?_);unfold Builtin.ObjectAttr.storeInOwnDict;refine SO (SU ?_);refine Uw rfl ?_;refine SO ?_;unfold Builtin.ObjectAttr.ownDictForStores;unfold instanceDict;refine SO (UB e1 ?_);refine SO (W.Looks.here (s:={ s with toks:=s.toks+1 }) (W.looks_clsIn X hc) ?_);rw[hd];refine Uw rfl ?_;refine Uw rfl ?_;dsimp only;have e2:=SQ { cls:=.type "dict", data:=.dict #[] } e1;refine SO (wpAny_alloc (SO (wpAny_update e2 ?_)));unfold dictMade;refine SU ?_;dsimp only;have nx:s.heap.objs.size≠x:=TR (S1 e1);have e3:((s.heap.push { cls:=.type "dict", data:=.dict #[] }).update x λo => { o with dict:=some s.heap.objs.size }).get? x=some ⟨.ref C,some s.heap.objs.size,.fields vs,osl⟩:=Uf _ e2 rfl;have e4:((s.heap.push { cls:=.type "dict", data:=.dict #[] }).update x λo => { o with dict:=some s.heap.objs.size }).get? s.heap.objs.size=some { cls:=.type "dict", data:=.dict #[] }:=(Te _ _ (Ub nx)).trans (S6 _ rfl);have n1:((s.heap.push { cls:=.type "dict", data:=.dict #[] }).update x λo => { o with dict:=some s.heap.objs.size }).Ns1 s.heap.objs.size (λ_=>none):=⟨_,#[],_,e4,rfl,λe he=>absurd he (by simp),by simp[UniqKeys],λ_=>rfl⟩;unfold Builtin.ObjectAttr.storeInDict;refine SO (SU ?_);refine SO (wpAny_nsSet1 n1 λh' hn2 hs2=>?_);obtain⟨oD,esD,epD,hoD,hdD,hcD⟩:=hn2.count (PySem.Within.cons (ns:=[]) name v (λy hy=>absurd rfl hy));refine SO (wpAny_lookBehind hoD (by rw[hdD];exact pastItsLine_dict (SZ hcD (by rw[TW];exact SW rfl))) ?_);refine SU (h h' s.heap.objs.size ?_ (λb o hb eb=>?_) ?_ hn2)
 ·exact SX _
 ·refine(hs2.2 b (Ts (S1 eb))).trans ?_;rw[Te _ _ (Ub hb)];exact SQ _ eb
 ·exact(hs2.2 x (Ub nx)).trans e3
theorem Ai{E:Value->Shared->Prop}{ob:Obj}{Q:PySem.Fin->Shared->Prop}(he:s.heap.get? e=some ob)(hd:ob.data=.fields vs)(h0:vs[0]?=some (.ref t0))
  (h:Q (.done (.ret .none)) ⟨(s.heap.push { cls:=.type "tuple", data:=.seq #[v] }).update e (Obj.mapFields λx=>x.setIfInBounds 0 (.ref s.heap.objs.size)),s.gens,s.drawn,s.toks,s.os⟩) :
  wpAny (model prog w) A (Builtin.«BaseException.__init__» { pos:=[.ref e,v] }) Q E s:=by
 unfold Builtin.«BaseException.__init__»;dsimp only;rw[if_neg (by simp)];have hsz:=(Array.getElem?_eq_some_iff.mp h0).1;have he1:=SQ { cls:=Value.type "tuple", data:=Data.seq #[v] } he;refine SO (wpAny_newTuple ?_);unfold Builtin.BaseException.bexcPut;refine SO (SO (Tr he1 hd h0 ?_));exact SO (U8 he1 hd hsz (wpAny_letGo (SU h)))
theorem Af{nm:Str}
  (F:ExcBaseFacts B newId initId bmB) (ht:OwnTail s.heap bmB bm) {Q:Value->Shared->Prop} (hq:(Code.builtin initId { pos:=[.ref e,v] }).quiet=true) (hC:s.heap.get? C=some (excClassObj nm q C N bs bm hdct sn sub ab col dd k0 k1 k2 k3 k5 newId)) (he:s.heap.get? e=some oe) (hc:oe.cls=.ref C) (hd:oe.data=.fields vs) (h0:vs[0]?=some (.ref t0))
  (h:∀h',(∀b o,b≠e->s.heap.get? b=some o->h'.get? b=some o)->h'.get? e=some { oe with data:=.fields (vs.setIfInBounds 0 (.ref s.heap.objs.size)) }->Q .none { s with heap:=h' }) :
  wpAny (model prog w) A (call (.builtin initId) [.ref e,v]) Q E s:=by
 obtain⟨oc,odd,oda,osl⟩:=oe;simp only at hc hd;subst hc hd;refine UL (codeAny_call_builtin_at hq F.initEntry (wpAny_check_init_subT F ht hC he rfl (Ai he rfl h0 ?_)));dsimp only;refine h _ (λb o hb eb=>?_) ?_
 ·rw[Te _ _ hb.symm];exact SQ _ eb
 ·have e1:=SQ { cls:=Value.type "tuple", data:=Data.seq #[v] } he;exact Uf _ e1 rfl
theorem JF{D dx:Addr}{b:Bool}{mA:Str->Option Value}{Q:Value->Shared->Prop}{nm:Str}
  (hga:W.findIn K (.ref D) "__getattribute__" = some (some (.builtin "BaseException.__getattribute__"))) (hgt:W.findIn K (.ref D) "__getattr__" = some none) (hf:W.findIn K (.ref D) name=some none) (hdi:W.hasDictIn K D=true)
  (KI:K.In s.heap) (e1:s.heap.get? x=some ox) (e2:ox.cls=.ref D) (e3:ox.data=.fields vs) (e4:ox.dict=some dx) (hn:s.heap.Ns1 dx mA) (hv:mA name=some v) (hh:W.handedIn v=true) (hD:s.heap.get? D=some (excClassObj nm q D N bs bm hdct sn sub ab col dd k0 k1 k2 k3 k5 newId)) (hT:OwnTailQ s.heap gU bm)
  (hq:Q v { s with toks:=s.toks+1 }):wpAny (model prog w) A (getAttr (.ref x) name b) Q E s:=by
 obtain⟨h,g,d,tk,os⟩:=s;have ty:=lI e1 e2;obtain⟨od,ho,hl⟩:=tG hn;have J:W.InstAt h x ox D (some od):=⟨e1,e2,by unfold W.notCls;rw[e3],by rw[e4];exact ho⟩;have lf:∀M,W.Looks M h (Builtin.ObjectAttr.find (.ref x) (.ref D) name) (.value v):=λM=>W.looks_find KI J (W.findObj_own hdi hf rfl (by rw[hl,hv]))
 unfold getAttr;refine SO (wpAny_mkText ?_);unfold getAttrBy;refine TB (SO (Uy (ty _) ?_));refine SO (Uy (W.looks_findIn KI hga) ?_);dsimp only;have e9:(onTheHeap (Value.ref D)&&Value.builtin "BaseException.__getattribute__" == Value.builtin "object.__getattribute__")=false:=by
  have e0:(Value.builtin "BaseException.__getattribute__" == Value.builtin "object.__getattribute__")=false:=by decide +kernel
  rw[e0,Vz]
 rw[e9];rw[if_neg (by simp)];unfold getAttrByItsOwn;refine SO (Uy (W.looks_hook KI (r:=none) (by show(if true=true then W.findIn K (.ref D) "__getattr__" else some none)=some none;rw[if_pos rfl];exact hgt)) ?_);refine SO (U5 (TB ?_));unfold callGetattribute;rw[if_neg (by rw[show onTheHeap (Value.builtin "BaseException.__getattribute__")=false from rfl];simp)];unfold boundAndCalled;rw[(Uj.toExcAttrFacts.ga).bind];refine SO (SU ?_);refine UL (codeAny_call_builtin (Uj.toExcAttrFacts.ga).plain PySem.F.entry_bexc_ga ?_);refine wpAny_check_ga_own Uj hD hT e1 e2 ?_;show wpAny _ _ (Builtin.«object.__getattribute__» ⟨[Value.ref x,Value.str name tk],[]⟩) _ _ _;unfold Builtin.«object.__getattribute__»;refine SO ?_;unfold slotArgs;dsimp only;rw[if_neg (by simp),if_neg (by simp)];refine SU ?_;dsimp only;refine SO ?_;unfold Builtin.ObjectAttr.attrName;refine SU ?_;refine SO (Uy (ty _) ?_);refine SO (Uy (lf _) ?_);dsimp only;refine SU ?_;exact W.handed_on hh hq
end L2
namespace Sp
open PySem PySem.Spec PyProof.Rows L2
variable{H:Hp}{K:W.Frag}{n:Str}{C S:Addr}
structure GJ(K:W.Frag)(n:Str)(C:Addr):Prop where
 cl:((W.clsIn K C).isSome&&W.typeIn K (.ref C)==some (.type "type"))=true
 sole:∀m,W.nsIn K mainGlobals m=some (some (.ref C))->m=n
 obj:∃o,K.lookup C=some o/\o.cls=.type "type"
abbrev Fv:=Int ⊕ Str
instance:Coe Int Fv:=⟨Sum.inl⟩
def fw:Fv->V
 | .inl i=>.int i
 | .inr s=>.str s
def sO(f:Str):Fv->Prop
 | .inl i=>f ≠ "name" /\ i.natAbs<2 ^ 1900
 | .inr s=>f = "name" /\ (reprText s).length<=1000
abbrev Xs:=Str×Str×List (Str×Fv)
def oH(H:Hp)(od:Option Addr)(fs:List (Str×Fv)):Prop:=∀f i,fs=[(f,i)]->∃dx,od=some dx/\H dx=some (.xd [(f,fw i)])
theorem oH.nil{od:Option Addr}:oH H od []:=λ_ _ z=>by cases z
structure xa(K:W.Frag)(C:Addr)(f:Str):Prop where
 no:W.findIn K (.ref C) f=some none
 di:W.hasDictIn K C=true
noncomputable def lX(K:W.Frag)(H:Hp)(n:Str):Option (Str×List (Str×Fv))->V->Prop
 | none,v => ∃C,v=.ref C/\W.nsIn K mainGlobals n=some (some (.ref C))/\GJ K n C
 | some (p,fs),v => ∃x C S od,v=.ref x/\W.nsIn K mainGlobals n=some (some (.ref C))/\W.nsIn K mainGlobals p=some (some (.ref S))/\iq K C S/\H x=some (lr x C od)/\oH H od fs/\∀f i,fs=[(f,i)]->xa K C f
theorem lX.mono{H':Hp}(k:∀a C od,H a=some (lr a C od)->H' a=some (lr a C od))(kd:∀a fs,H a=some (.xd fs)->H' a=some (.xd fs)):∀{p:Option (Str×List (Str×Fv))} {v:V},lX K H n p v->lX K H' n p v
 | none,_,h=>h
 | some (p,fs),_,⟨x,C,S,od,e,h1,h2,h3,h4,h5,h6⟩=>⟨x,C,S,od,e,h1,h2,h3,k _ _ _ h4,λf i z=>let ⟨dx,a,b⟩:=h5 f i z;⟨dx,a,kd _ _ b⟩,h6⟩
theorem lX.ref:∀{p:Option (Str×List (Str×Fv))} {v:V},lX K H n p v->∃a,v=.ref a
 | none,_,⟨C,e,_⟩=>⟨C,e⟩
 | some (p,fs),_,⟨x,_,_,_,e,_⟩=>⟨x,e⟩
theorem lX.at:∀{p:Option (Str×List (Str×Fv))} {a:Addr},lX K H n p (.ref a)->(∃o,K.lookup a=some o/\o.cls=.type "type")\/∃C od,H a=some (lr a C od)
 | none,_,⟨C,e,_,h⟩=>by cases e;exact .inl h.obj
 | some (p,fs),_,⟨x,C,_,od,e,_,_,_,h,_⟩=>by cases e;exact .inr ⟨C,od,h⟩
theorem vO(e:kM K C S=true):∃cd,W.clsIn K C=some cd/\cd.mro=.ref C :: .ref S::gU:=by
 unfold kM at e;split at e
 ·rename_i t d1 cd sl c2 d2 ce sl2 e1 e2;simp only[Tj]at e;obtain⟨⟨⟨⟨⟨q1,q2⟩,q3⟩,q4⟩,q5⟩,q6⟩:=e;exact⟨cd,by unfold W.clsIn;rw[e1],by simpa using q3⟩
 ·cases e
theorem BX{Cm:Addr}{p m:Str}(e:iq K C S)(hn:W.nsIn K mainGlobals n=some (some (.ref C)))(hp:W.nsIn K mainGlobals p=some (some (.ref S)))(hm:W.nsIn K mainGlobals m=some (some (.ref Cm)))(x:GJ K m Cm) :
  W.kitOne K (.ref C) (.ref Cm)=some (decide (m=n) || decide (m=p)):=by
 obtain⟨cd,h1,h2⟩:=vO e.ex;have a1:(Value.ref Cm==Value.ref C)=decide (m=n):=by
  by_cases z:m=n
  ·subst z;rw[hm]at hn;cases hn;simp
  ·rw[Th z];refine TF.mpr λy=>z ?_
   injection y with y;subst y;exact(x.sole n hn).symm
 have a2:(Value.ref Cm==Value.ref S)=decide (m=p):=by
  by_cases z:m=p
  ·subst z;rw[hm]at hp;cases hp;simp
  ·rw[Th z];refine TF.mpr λy=>z ?_
   injection y with y;subst y;exact(x.sole p hp).symm
 unfold W.kitOne;have a3:(Value.ref C==Value.ref Cm)=decide (m=n):=by
  by_cases z:m=n
  ·subst z;rw[hm]at hn;cases hn;simp
  ·rw[Th z];refine TF.mpr λy=>z ?_
   injection y with y;subst y;exact(x.sole n hn).symm
 rw[a3];by_cases z:m=n
 ·rw[if_pos (Tv z),Tv z];rfl
 ·rw[Th z,if_neg (by simp),Vp];unfold W.kitCls;dsimp only;rw[if_pos x.cl];unfold W.subIn W.mroIn;dsimp only;rw[h1,Option.bind_some,h2,if_neg (by simp)];rw[Ve,Ve,a1,a2,Th z,Vp,show gU.contains (Value.ref Cm)=false by simp[gU],Bool.or_false]
theorem MM(e:iq K C S):W.kitOne K (.ref C) (.type "ValueError")=some true:=by
 obtain⟨cd,h1,h2⟩:=vO e.ex;unfold W.kitOne;rw[if_neg (by simp)];unfold W.kitCls;dsimp only;rw[if_pos (by decide +kernel)];unfold W.subIn W.mroIn;dsimp only;rw[h1,Option.bind_some,h2,if_neg (by simp)];simp[gU]
end Sp
namespace L2
open PySem PySem.Spec PyProof.Rows
variable{y:V}{u:Value}
section
variable{κ:Type}[DecidableEq κ]
def iu(kvs:List (κ×V))(k:κ):Option V:=(kvs.find? λkv=>decide (kv.1=k)).map (·.2)
def hJ(kvs:List (κ×V))(k:κ)(v:V):List (κ×V) :=
 if (kvs.any λkv=>decide (kv.1=k))=true then kvs.map (λkv=>if kv.1=k then(kv.1,v)else kv)else kvs++[(k,v)]
def ju(kvs:List (κ×V))(k:κ):List (κ×V):=kvs.filter λkv=>decide (kv.1≠k)
theorem jB{p:κ×V}{r:List (κ×V)}{k:κ}(e:p.1=k):iu (p::r) k=some p.2:=by simp[iu,Vf,e]
theorem jC{p:κ×V}{r:List (κ×V)}{k:κ}(e:¬ p.1=k):iu (p::r) k=iu r k:=by simp[iu,Vf,e]
theorem uU(k:κ):∀kvs:List (κ×V),(kvs.any λkv=>decide (kv.1=k))=(iu kvs k).isSome
 | []=>rfl
 | p::r=>by
  rw[U9];by_cases e:p.1=k
  ·simp only[jB e,Tv e,Bool.true_or,Option.isSome_some]
  ·rw[jC e,Th e,Vp];exact uU k r
theorem xu(kvs:List (κ×V))(k:κ)(v:V):(hJ kvs k v).length<=kvs.length+1:=by
 unfold hJ;split
 ·rw[SY];omega
 ·rw[S8,S7,Vg];omega
theorem gO.isSome_eq{o:Option V}{u:Option Value}(r:gO o u):o.isSome=u.isSome:=by
 cases o with
 | none=>cases u with
  | none=>rfl
  | some _=>exact(show False from r).elim
 | some _=>cases u with
  | none=>exact(show False from r).elim
  | some _=>rfl
theorem KV.val{kvs:List (κ×V)}{vs:List (κ×Value)}(r:KV kvs vs)(k:κ):gO (iu kvs k) (valueAt vs k):=by
 unfold KV at r;induction r with
 | nil=>exact True.intro
 | @cons p q ps qs h t ih =>
  obtain⟨h1,h2⟩:=h;by_cases e:p.1=k
  ·have e':q.1=k:=h1.symm.trans e;have b:valueAt (q::qs) k=some q.2:=by simp[valueAt,Vf,e']
   rw[jB e,b];exact h2
  ·have e':¬ q.1=k:=λz=>e (h1.trans z)
   have b:valueAt (q::qs) k=valueAt qs k:=by simp[valueAt,Vf,e']
   rw[jC e,b];exact ih
theorem KV.any{kvs:List (κ×V)}{vs:List (κ×Value)}(r:KV kvs vs)(k:κ):(kvs.any λkv=>decide (kv.1=k))=vs.any λkv=>decide (kv.1=k):=by
 unfold KV at r;induction r with
 | nil=>rfl
 | cons h t ih=>rw[U9,U9,ih,h.1]
theorem KV.repl{kvs:List (κ×V)}{vs:List (κ×Value)}(r:KV kvs vs)(k:κ)(ry:aW y u) :
  KV (kvs.map λkv=>if kv.1=k then(kv.1,y)else kv) (vs.map λkv=>if kv.1=k then(kv.1,u)else kv):=by
 unfold KV at r⊢;induction r with
 | nil=>exact .nil
 | @cons p q ps qs h t ih =>
  rw[S2,S2];refine .cons ?_ ih;obtain⟨h1,h2⟩:=h;by_cases e:p.1=k
  ·rw[if_pos e,if_pos (h1.symm.trans e)];exact⟨h1,ry⟩
  ·rw[if_neg e,if_neg (λz=>e (h1.trans z))];exact⟨h1,h2⟩
theorem KV.put{kvs:List (κ×V)}{vs:List (κ×Value)}(r:KV kvs vs)(k:κ)(ry:aW y u):KV (hJ kvs k y) (stored vs k u):=by
 unfold hJ stored;rw[r.any k];by_cases e:(vs.any λkv=>decide (kv.1=k))=true
 ·rw[if_pos e,if_pos e];exact r.repl k ry
 ·rw[if_neg e,if_neg e];exact Paired.snoc r ⟨rfl,ry⟩
theorem KV.drop{kvs:List (κ×V)}{vs:List (κ×Value)}(r:KV kvs vs)(k:κ):KV (ju kvs k) (without vs k):=by
 unfold KV at r⊢;unfold ju without;induction r with
 | nil=>exact .nil
 | @cons p q ps qs h t ih =>
  obtain⟨h1,h2⟩:=h;rw[UI,UI];by_cases e:p.1=k
  ·have a:¬ decide (p.1≠k)=true:=by simp[e]
   have b:¬ decide (q.1≠k)=true:=by simp[h1.symm.trans e]
   rw[if_neg a,if_neg b];exact ih
  ·have e':¬ q.1=k:=λz=>e (h1.trans z)
   have a:decide (p.1≠k)=true:=by simp[e]
   have b:decide (q.1≠k)=true:=by simp[e']
   rw[if_pos a,if_pos b];exact .cons ⟨h1,h2⟩ ih
theorem KV.length{kvs:List (κ×V)}{vs:List (κ×Value)}(r:KV kvs vs):kvs.length=vs.length:=Paired.length r
end
theorem uA{P:Program}{w:World}{k:av}(r:aW (kV k) u):(dE P w).is k u=true:=by
 cases k with
 | inl i=>obtain⟨t,e⟩:=(show ∃t,u=Value.int i t from r);subst e;exact xt P w i t
 | inr x=>obtain⟨t,e⟩:=(show ∃t,u=Value.str x t from r);subst e;exact xr P w x t
end L2
namespace Sp
open PySem PySem.Spec PyProof.Rows L2
variable{K:W.Frag}{H H' H0 H1:Hp}{a c e e2 elt iter tg:Expr}{vs:List V}{v:V}{X:Cx}{Z:L2.St}{i j k ko n n1:Nat}{env:Env}{sc scope:Scope}{M:Model}{A:Around}{E Q:Value->Shared->Prop}{s:Shared}{cl:List (Str×Addr)}{f g m qual x:Str}{dl:List (Addr×Obj)}{N' ns ps:List Str}{C tu:Addr}{ch fp:List Addr}{P prog:Program}{w:World}{args cs es ifs:List Expr}{ap cp p p2 pos q tp:Pos}{b it r r2 t κ κ':Bool}{base h h' h2:Heap}{op op2:CmpOp}{body ss:List Stmt}{α β:Type}{o:List Prop}{ks:List av}{T:String}{hi lo:Option Expr}{cdv old:Value}{xs:Array Value}{st:Stmt}{mg:Str->Option Value}{outer:List Env}{fd:FuncData}{us:List Value}
inductive D where
 | non|bl (b:Bool)|int (i:Int)|str (x:Str)|dct (ks:List av) (ds:List D)|tup (l:List D)|lst (l:List D)|typ (n:String)|sn (n:Nat)|obj (n:Str) (ns:List Str) (ds:List D)|cls (n:Str)|xc (n:Str) (p:Option (Str×List (Str×Fv)))|dcf (ks:List av) (ls:List (List (List Int)))|dft (at0:Addr) (ks:List av) (ts:List (List Int))
mutual
def D.lless:D->Bool
 | .lst _=>false
 | .dct _ _=>false
 | .tup l=>aK l
 | _=>true
def aK:List D->Bool
 | []=>true
 | d::l=>d.lless&&aK l
end
noncomputable def oO(K:W.Frag)(H:Hp)(a:Addr)(vs:List V):Bool->Prop
 | true=>H a=some (.lst vs)
 | false=>(∃o,H a=some (.frz o (.lst vs)))\/∃(o:Obj) (its:Array Value) (n:Nat),K.lookup a=some o/\o.cls=.type "list" /\ o.dict=none/\o.data=.seq its n/\its.size<=sizeLine/\aP vs its.toList
theorem oO.sq{a:Addr}:∀{b:Bool},oO K H a vs b->cF K H a vs
 | true,h=>cF.of h
 | false,.inl ⟨o,h⟩=>.inl (.inr ⟨o,h⟩)
 | false,.inr h=>.inr h
structure GZ(K:W.Frag)(C:Addr):Prop where
 ha:W.findIn K (.ref C) "__class__" = some (some (.builtin "object.__class__"))
 hn:W.specialIn K (.builtin "object.__class__") "__get__" = some (some (.builtin "getset_descriptor.__get__"))
 ht:W.takesIn K (.builtin "object.__class__")=some true
 hm:W.mroIn K C (.type "object")=some true
def RQ:List Str:=["Deed", "Turn", "HalfTurn", "Mirror"]
def QS(m n:Str):Bool:=decide (m=n) || (decide (n = "Deed")&&(decide (m = "Turn") || decide (m = "HalfTurn") || decide (m = "Mirror")))
structure Qi(K:W.Frag)(C:Addr)(n:Str):Prop where
 all:∀m∈RQ,∀Cm,W.nsIn K mainGlobals m=some (some (.ref Cm))->GZ K Cm/\W.kitOne K (.ref Cm) (.ref C)=some (QS m n)
abbrev bi:=Addr->Bool->Prop
noncomputable def cg(K:W.Frag)(H:Hp):List V->List (List Int)->Prop
 | [],[]=>True
 | v::vs,ns::r=>(∃a,v=.ref a/\bX K H a (ns.map V.int)/\ns≠[])/\cg K H vs r
 | _,_=>False
theorem cg.len{K:W.Frag}{H:Hp}:∀{vs:List V} {r:List (List Int)},cg K H vs r->vs.length=r.length
 | [],[],_=>rfl
 | _::_,_::_,h=>by rw[S7,S7,cg.len h.2]
 | [],_::_,h=>h.elim
 | _::_,[],h=>h.elim
noncomputable def nD(K:W.Frag)(H:Hp):List (List (List Int))->List V->Prop
 | [],[]=>True
 | l::ls,v::r=>(∃a o ts,v=.ref a/\H a=some (.frz o (.lst ts))/\cg K H ts l)/\nD K H ls r
 | _,_=>False
theorem cg.keep{K:W.Frag}{H H':Hp}(k:∀a vs,bX K H a vs->bX K H' a vs):∀{bs:List V} {nss:List (List Int)},cg K H bs nss->cg K H' bs nss
 | [],[],_=>trivial
 | v::bs,ns::nss,h=>let ⟨a,e,hq,hn⟩:=h.1;⟨⟨a,e,k _ _ hq,hn⟩,cg.keep k h.2⟩
 | [],_::_,h=>h.elim
 | _::_,[],h=>h.elim
theorem nD.keep{K:W.Frag}{H H':Hp}(k:∀a vs,bX K H a vs->bX K H' a vs)(f:∀a o u,H a=some (.frz o u)->H' a=some (.frz o u)):∀{ls:List (List (List Int))} {vs:List V},nD K H ls vs->nD K H' ls vs
 | [],[],_=>trivial
 | l::ls,v::vs,h=>let ⟨a,o,ts,e,h1,h2⟩:=h.1;⟨⟨a,o,ts,e,f _ _ _ h1,h2.keep k⟩,nD.keep k f h.2⟩
 | [],_::_,h=>h.elim
 | _::_,[],h=>h.elim
mutual
noncomputable def ae(K:W.Frag)(H:Hp)(P:bi):D->V->Prop
 | .non,v=>v=.non
 | .bl b,v=>v=.bl b
 | .int i,v=>v=.int i
 | .str x,v=>v=.str x
 | .dct ks ds,v=>aK ds=true/\ks.length=ds.length/\∃a vs,v=.ref a/\H a=some (.dK (ks.zip vs))/\P a true/\ah K H P ds vs
 | .typ n,v=>v=.ty n
 | .dft a0 ks ts,v=>(ks.length=ts.length/\v=.ref a0)/\∃a o vs,v=.ref a/\H a=some (.frz o (.dK (ks.zip vs)))/\cg K H vs ts
 | .dcf ks ls,v=>ks.length=ls.length/\∃a o vs,v=.ref a/\H a=some (.frz o (.dK (ks.zip vs)))/\nD K H ls vs
 | .sn n,v => ∃a S,v=.ref a/\H a=some (.set S n)
 | .xc n p,v=>lX K H n p v
 | .cls n,v => ∃C o,v=.ref C/\W.nsIn K mainGlobals n=some (some (.ref C))/\K.lookup C=some o/\o.cls=.type "type" /\ GZ K C/\Qi K C n
 | .obj n ns ds,v=>aK ds=true/\ns.length=ds.length/\∃a C dx vs,v=.ref a/\W.nsIn K mainGlobals n=some (some (.ref C))/\eY K C/\H a=some (.ins C dx (ns.zip vs))/\ah K H P ds vs
 | .tup l,v => ∃a vs,v=.ref a/\bX K H a vs/\ah K H P l vs
 | .lst l,v => ∃a vs b,v=.ref a/\oO K H a vs b/\P a b/\ah K H P l vs
noncomputable def ah(K:W.Frag)(H:Hp)(P:bi):List D->List V->Prop
 | [],vs=>vs=[]
 | d::l,vs => ∃v r,vs=v::r/\ae K H P d v/\ah K H P l r
end
def nm:HO->Prop
 | .lst _=>False
 | .dK _=>False
 | .ext p => ∃x C od,HO.ext p=lr x C od
 | _=>True
structure fh(P P':bi)(H H':Hp):Prop where
 oth:∀a o,H a=some o->nm o->H' a=some o
 lst:∀a o,H a=some o->P a true->H' a=some o
 impT:∀a o,H a=some o->P a true->P' a true
 impF:∀a,P a false->P' a false
theorem fh.sq{P P':bi}(s:fh P P' H H'){a:Addr}(h:bX K H a vs):bX K H' a vs:=by
 rcases h with(h|⟨o,h⟩)|h
 ·exact .inl (.inl (s.oth _ _ h True.intro))
 ·exact .inl (.inr ⟨o,s.oth _ _ h True.intro⟩)
 ·exact .inr h
theorem fh.ls{P P':bi}(s:fh P P' H H'){a:Addr}:∀{b:Bool},oO K H a vs b->P a b->oO K H' a vs b
 | true,h,p=>s.lst a _ h p
 | false,.inl ⟨o,h⟩,_=>.inl ⟨o,s.oth _ _ h True.intro⟩
 | false,.inr h,_=>.inr h
theorem fh.imp{P P':bi}(s:fh P P' H H'){a:Addr}:∀{b:Bool},oO K H a vs b->P a b->P' a b
 | true,h,p=>s.impT a _ h p
 | false,_,p=>s.impF a p
mutual
theorem ae.mono{K:W.Frag}{P P':bi}{H H':Hp}(s:fh P P' H H'):∀{d:D} {v:V},ae K H P d v->ae K H' P' d v
 | .non,v,h=>by rw[ae]at h⊢;exact h
 | .bl b,v,h=>by rw[ae]at h⊢;exact h
 | .int i,v,h=>by rw[ae]at h⊢;exact h
 | .str x,v,h=>by rw[ae]at h⊢;exact h
 | .dct ks ds,v,h=>by
  rw[ae]at h⊢;obtain⟨f,e0,a,vs,e,h1,p,r⟩:=h;exact⟨f,e0,a,vs,e,s.lst _ _ h1 p,s.impT _ _ h1 p,ah.mono s r⟩
 | .typ n,v,h=>by rw[ae]at h⊢;exact h
 | .dft a0 ks ts,v,h=>by
  rw[ae]at h⊢;obtain⟨e0,a,o,vs,e,h1,r⟩:=h;exact⟨e0,a,o,vs,e,s.oth _ _ h1 True.intro,r.keep λ_ _ z=>s.sq z⟩
 | .dcf ks ls,v,h=>by
  rw[ae]at h⊢;obtain⟨e0,a,o,vs,e,h1,r⟩:=h;exact⟨e0,a,o,vs,e,s.oth _ _ h1 True.intro,r.keep (λ_ _ z=>s.sq z) λ_ _ _ z=>s.oth _ _ z True.intro⟩
 | .sn n,v,h=>by
  rw[ae]at h⊢;obtain⟨a,S,e,h⟩:=h;exact⟨a,S,e,s.oth _ _ h True.intro⟩
 | .cls n,v,h=>by rw[ae]at h⊢;exact h
 | .xc n p,v,h=>by rw[ae]at h⊢;exact h.mono (λa C od z=>s.oth _ _ z ⟨a,C,od,rfl⟩) (λa fs z=>s.oth _ _ z True.intro)
 | .obj n ns ds,v,h=>by
  rw[ae]at h⊢;obtain⟨f,e0,a,C,dx,vs,e,h1,h2,h3,r⟩:=h;exact⟨f,e0,a,C,dx,vs,e,h1,h2,s.oth _ _ h3 True.intro,ah.mono s r⟩
 | .tup l,v,h=>by
  rw[ae]at h⊢;obtain⟨a,vs,e,h,r⟩:=h;exact⟨a,vs,e,s.sq h,ah.mono s r⟩
 | .lst l,v,h=>by
  rw[ae]at h⊢;obtain⟨a,vs,b,e,h,p,r⟩:=h;exact⟨a,vs,b,e,s.ls h p,s.imp h p,ah.mono s r⟩
theorem ah.mono{K:W.Frag}{P P':bi}{H H':Hp}(s:fh P P' H H'):∀{l:List D} {vs:List V},ah K H P l vs->ah K H' P' l vs
 | [],vs,h=>by rw[ah]at h⊢;exact h
 | d::l,vs,h=>by
  rw[ah]at h⊢;obtain⟨v,r,e,h1,h2⟩:=h;exact⟨v,r,e,ae.mono s h1,ah.mono s h2⟩
end
theorem fh.same{P P':bi}(s:ar H H')(i:∀a b,P a b->P' a b):fh P P' H H':=⟨λa o h _=>s a o h,λa vs h _=>s a _ h,λa _ _ p=>i a true p,λa p=>i a false p⟩
theorem ae.same{P:bi}(s:ar H H'){d:D}(h:ae K H P d v):ae K H' P d v:=h.mono (.same s λ_ _ p=>p)
theorem ah.same{P:bi}(s:ar H H'){d:List D}{v:List V}(h:ah K H P d v):ah K H' P d v:=h.mono (.same s λ_ _ p=>p)
theorem ae.imp{P P':bi}(i:∀a b,P a b->P' a b){d:D}(h:ae K H P d v):ae K H P' d v:=h.mono (.same (ar.refl _) i)
theorem ah.imp{P P':bi}(i:∀a b,P a b->P' a b){d:List D}{v:List V}(h:ah K H P d v):ah K H P' d v:=h.mono (.same (ar.refl _) i)
theorem ae.impH{P P':bi}(i:∀a o,H a=some o->P a true->P' a true)(j:∀a,P a false->P' a false){d:D}(h:ae K H P d v):ae K H P' d v:=h.mono ⟨λ_ _ h _=>h,λ_ _ h _=>h,i,j⟩
theorem ah.impH{P P':bi}(i:∀a o,H a=some o->P a true->P' a true)(j:∀a,P a false->P' a false){d:List D}{v:List V}(h:ah K H P d v):ah K H P' d v:=h.mono ⟨λ_ _ h _=>h,λ_ _ h _=>h,i,j⟩
mutual
theorem ae.flat{K:W.Frag}{P:bi}(P':bi){H:Hp}:∀{d:D} {v:V},d.lless=true->ae K H P d v->ae K H P' d v
 | .non,v,_,h=>by rw[ae]at h⊢;exact h
 | .bl b,v,_,h=>by rw[ae]at h⊢;exact h
 | .int i,v,_,h=>by rw[ae]at h⊢;exact h
 | .str x,v,_,h=>by rw[ae]at h⊢;exact h
 | .dct _ _,v,f,h=>by rw[D.lless]at f;cases f
 | .typ n,v,_,h=>by rw[ae]at h⊢;exact h
 | .dcf _ _,v,_,h=>by rw[ae]at h⊢;exact h
 | .dft _ _ _,v,_,h=>by rw[ae]at h⊢;exact h
 | .sn n,v,_,h=>by rw[ae]at h⊢;exact h
 | .cls n,v,_,h=>by rw[ae]at h⊢;exact h
 | .xc n p,v,_,h=>by rw[ae]at h⊢;exact h
 | .obj n ns ds,v,_,h=>by
  rw[ae]at h⊢;obtain⟨f,e0,a,C,dx,vs,e,h1,h2,h3,r⟩:=h;exact⟨f,e0,a,C,dx,vs,e,h1,h2,h3,ah.flat P' f r⟩
 | .tup l,v,f,h=>by
  rw[ae]at h⊢;obtain⟨a,vs,e,h,r⟩:=h;exact⟨a,vs,e,h,ah.flat P' (by rw[D.lless]at f;exact f) r⟩
 | .lst l,v,f,h=>by rw[D.lless]at f;cases f
theorem ah.flat{K:W.Frag}{P:bi}(P':bi){H:Hp}:∀{l:List D} {vs:List V},aK l=true->ah K H P l vs->ah K H P' l vs
 | [],vs,_,h=>by rw[ah]at h⊢;exact h
 | d::l,vs,f,h=>by
  rw[ah]at h⊢;rw[aK,Tj]at f;obtain⟨v,r,e,h1,h2⟩:=h;exact⟨v,r,e,ae.flat P' f.1 h1,ah.flat P' f.2 h2⟩
end
theorem ah.length{P:bi}:∀{l:List D} {vs:List V},ah K H P l vs->l.length=vs.length
 | [],vs,h=>by rw[ah]at h;subst h;rfl
 | d::l,vs,h=>by
  rw[ah]at h;obtain⟨v,r,e,h1,h2⟩:=h;subst e;rw[S7,S7,h2.length]
theorem ah.get{K:W.Frag}{P:bi}{H:Hp}:∀{l:List D} {vs:List V} {i:Nat} {d:D},ah K H P l vs->l[i]?=some d->∃v,vs[i]?=some v/\ae K H P d v
 | [],vs,i,d,h,e=>by simp at e
 | x::l,vs,0,d,h,e=>by
  rw[ah]at h;obtain⟨v,r,rfl,h1,h2⟩:=h;simp at e;subst e;exact⟨v,by simp,h1⟩
 | x::l,vs,i+1,d,h,e=>by
  rw[ah]at h;obtain⟨v,r,rfl,h1,h2⟩:=h;obtain⟨u,h3,h4⟩:=ah.get (i:=i) h2 (by simpa using e);exact⟨u,by simpa using h3,h4⟩
theorem ah.append{K:W.Frag}{P:bi}{H:Hp}:∀{l m:List D} {vs ws:List V},ah K H P l vs->ah K H P m ws->ah K H P (l++m) (vs++ws)
 | [],m,vs,ws,h,g=>by rw[ah]at h;subst h;exact g
 | d::l,m,vs,ws,h,g=>by
  rw[ah]at h;obtain⟨v,r,rfl,h1,h2⟩:=h;show ah K H P (d::(l++m)) (v::(r++ws));rw[ah];exact⟨v,_,rfl,h1,ah.append h2 g⟩
theorem ah.one{P:bi}{d:D}(h:ae K H P d v):ah K H P [d] [v]:=by
 rw[ah];exact⟨v,[],rfl,h,by rw[ah]⟩
theorem ah.nil{P:bi}:ah K H P [] []:=by rw[ah]
theorem ah.cons{P:bi}{d:D}{l:List D}(h:ae K H P d v)(g:ah K H P l vs):ah K H P (d::l) (v::vs):=by
 rw[ah];exact⟨v,vs,rfl,h,g⟩
theorem ah.take{K:W.Frag}{P:bi}{H:Hp}:∀{l:List D} {vs:List V} (n:Nat),ah K H P l vs->ah K H P (l.take n) (vs.take n)
 | [],vs,n,h=>by rw[ah]at h;subst h;simp;exact ah.nil
 | d::l,vs,0,h=>by simp;exact ah.nil
 | d::l,vs,n+1,h=>by
  rw[ah]at h;obtain⟨v,r,rfl,h1,h2⟩:=h;exact ah.cons h1 (ah.take n h2)
theorem ah.drop{K:W.Frag}{P:bi}{H:Hp}:∀{l:List D} {vs:List V} (n:Nat),ah K H P l vs->ah K H P (l.drop n) (vs.drop n)
 | [],vs,n,h=>by rw[ah]at h;subst h;simp;exact ah.nil
 | d::l,vs,0,h=>h
 | d::l,vs,n+1,h=>by
  rw[ah]at h;obtain⟨v,r,rfl,h1,h2⟩:=h;exact ah.drop n h2
theorem ah.mapInt{K:W.Frag}{P:bi}{H:Hp}:∀{ns:List Int} {vs:List V},ah K H P (ns.map D.int) vs->vs=ns.map V.int
 | [],vs,h=>by rw[UW,ah]at h;exact h
 | n::ns,vs,h=>by
  rw[S2,ah]at h;obtain⟨v,r,rfl,h1,h2⟩:=h;rw[ae]at h1;rw[h1,ah.mapInt h2];rfl
theorem ah.ofInts{K:W.Frag}{P:bi}{H:Hp}:∀{ns:List Int},ah K H P (ns.map D.int) (ns.map V.int)
 | []=>ah.nil
 | n::ns=>ah.cons (by rw[ae]) ah.ofInts
abbrev Ow:=Addr->Option (Option Str)
noncomputable def Kp(ow:Ow)(H:Hp):Nat->bi
 | 0=>λa b=>b=true/\H a=none
 | 1=>λa b=>b=true->ow a=none
 | 2=>λa b=>b=true/\(ow a≠none\/H a=none)
 | _=>λ_ _=>True
def kj:Nat->Nat->Nat
 | 0,k=>k
 | k,0=>k
 | 1,1=>1
 | 2,2=>2
 | _,_=>3
def o8(ow:Ow)(x:Str):Bool->bi
 | true=>λa b=>b=true/\ow a=some (some x)
 | false=>λa b=>b=true->ow a=none
def fX(ow:Ow)(H:Hp):Prop:=∀a,ow a≠none->∃o,H a=some o
theorem fX.same{ow:Ow}(o:fX ow H)(s:ar H H'):fX ow H':=λa h=>let ⟨x,e⟩:=o a h;⟨x,s a x e⟩
theorem fX.free{ow:Ow}(o:fX ow H){a:Addr}(h:H a=none):ow a=none:=by
 cases e:ow a with
 | none=>rfl
 | some x=>obtain⟨y,q⟩:=o a (by rw[e];exact(λz=>nomatch z));rw[h]at q;cases q
theorem Kp.back{ow:Ow}(s:ar H H'):∀(k:Nat) (a:Addr) (b:Bool),Kp ow H' k a b->Kp ow H k a b
 | 0,a,b,h=>⟨h.1,s.free h.2⟩
 | 1,a,b,h=>h
 | 2,a,b,h=>⟨h.1,h.2.imp id λz=>s.free z⟩
 | _+3,a,b,h=>True.intro
theorem Kp.joinL{ow:Ow}(o:fX ow H):∀(k j:Nat) (a:Addr) (b:Bool),Kp ow H k a b->Kp ow H (kj k j) a b
 | 0,0,a,b,h=>h
 | 0,1,a,b,h=>λ_=>o.free h.2
 | 0,2,a,b,h=>⟨h.1,.inr h.2⟩
 | 0,_+3,a,b,h=>True.intro
 | 1,0,a,b,h=>h
 | 1,1,a,b,h=>h
 | 1,2,a,b,h=>True.intro
 | 1,_+3,a,b,h=>True.intro
 | 2,0,a,b,h=>h
 | 2,1,a,b,h=>True.intro
 | 2,2,a,b,h=>h
 | 2,_+3,a,b,h=>True.intro
 | _+3,0,a,b,h=>True.intro
 | _+3,1,a,b,h=>True.intro
 | _+3,2,a,b,h=>True.intro
 | _+3,_+3,a,b,h=>True.intro
theorem Jn:∀k j,kj k j=kj j k
 | 0,0|0,1|0,2|0,_+3|1,0|1,1|1,2|1,_+3|2,0|2,1|2,2|2,_+3|_+3,0|_+3,1|_+3,2|_+3,_+3=>rfl
theorem Kp.joinR{ow:Ow}(o:fX ow H)(k j:Nat)(a:Addr)(b:Bool)(h:Kp ow H j a b):Kp ow H (kj k j) a b:=by
 rw[Jn];exact Kp.joinL o j k a b h
abbrev ag:=Str->Option (D×Bool)
structure aD(X:Cx)(ow:Ow)(H:Hp)(Z:L2.St)(U:ag):Prop where
 get:∀x d o,U x=some (d,o)->∃(i:Nat) (v:V),X.N[i]?=some x/\me X.env.scope x/\Z[i]?=some (some v)/\ae X.K H (o8 ow x o) d v
 own:fX ow H
theorem aD.same{ow:Ow}{U:ag}(e:aD X ow H Z U)(s:ar H H'):aD X ow H' Z U :=
 ⟨λx d o h=>let ⟨i,v,h1,h2,h3,h4⟩:=e.get x d o h;⟨i,v,h1,h2,h3,h4.same s⟩,e.own.same s⟩
def tD(X:Cx)(ow:Ow)(U:ag)(d:D)(k:Nat):TE:=λZ H Q=>aD X ow H Z U/\∀v H',ar H H'->ae X.K H' (Kp ow H k) d v->Q v H'
def ED(X:Cx)(U:ag)(e:Expr)(d:D)(k:Nat):Prop:=∀ow,PE X e (tD X ow U d k)
def KW(X:Cx)(ow:Ow)(U:ag)(b:Bool):TT:=λZ H Q=>aD X ow H Z U/\∀H',ar H H'->Q b H'
def TD(X:Cx)(U:ag)(e:Expr)(b:Bool):Prop:=∀ow,PT X e (KW X ow U b)
def Sr(X:Cx)(ow:Ow)(U:ag)(ds:List D)(k:Nat):TA:=λZ H Q=>aD X ow H Z U/\∀vs H',ar H H'->ah X.K H' (Kp ow H k) ds vs->Q vs H'
def AD(X:Cx)(U:ag)(es:List Expr)(ds:List D)(k:Nat):Prop:=∀ow,PA X es (Sr X ow U ds k)
theorem bh{t t':TE}(h:PE X e t)(i:∀Z H Q,t' Z H Q->t Z H Q):PE X e t':=λdl s Z H Q I q=>h dl s Z H Q I (i Z H Q q)
theorem Ar{t t':TT}(h:PT X e t)(i:∀Z H Q,t' Z H Q->t Z H Q):PT X e t':=λdl s Z H Q I q=>h dl s Z H Q I (i Z H Q q)
theorem GS{e:List Expr}{t t':TA}(h:PA X e t)(i:∀Z H Q,t' Z H Q->t Z H Q):PA X e t':=λpos dl s Z H Q I q=>h pos dl s Z H Q I (i Z H Q q)
def kn(d:D)(k:Nat):Nat:=if d.lless=true then 0 else k
theorem ED.kn{U:ag}{d:D}(h:ED X U e d k):ED X U e d (Sp.kn d k):=by
 unfold Sp.kn;by_cases f:d.lless=true
 ·rw[if_pos f];exact λow=>bh (h ow) λZ H Q ⟨E,q⟩=>⟨E,λv H' s r=>q v H' s (r.flat _ f)⟩
 ·rw[if_neg f];exact h
variable{U U':ag}{d y z:D}{ow ow':Ow}{ds l l':List D}
noncomputable def N7(K:W.Frag)(J:It)(ds:List D)(P:bi)(H1:Hp):Prop :=
 ∀(i:Nat) (H2:Hp),fh P P H1 H2->(∀d,ds[i]?=some d->J.go i H2/\∀x H3,J.yld i H2 x H3->ar H2 H3/\ae K H3 P d x)/\(ds.length<=i->J.stop i H2)
def Kd(ow:Ow)(H:Hp)(k:Nat)(H1:Hp):bi:=λa b=>Kp ow H k a b/\(b=true->∃o,H1 a=some o)
def tI(X:Cx)(ow:Ow)(U:ag)(ds:List D)(k:Nat):TI:=λZ H R=>aD X ow H Z U/\∀J H1,ar H H1->N7 X.K J ds (Kd ow H k H1) H1->R J H1
def IE(X:Cx)(U:ag)(tg iter:Expr)(ds:List D)(k:Nat):Prop:=∀ow,PI X tg iter (tI X ow U ds k)
def iD(ifs:List Expr)(env:Env):Sem Bool:=forIn ifs true λc r=>if r=true then do let ok <- isTrue c env (eval c env);pure (ForInStep.yield ok)else pure (ForInStep.yield r)
noncomputable def yM(X:Cx)(U:ag)(ifs:List Expr)(b:Bool):Prop:=∀ow (dl:List (Addr×Obj)) (s:Shared) (Z:L2.St) (H:Hp) (Q:Bool->Hp->Prop),aj X dl Z H s->KW X ow U b Z H Q->wpAny (model X.prog X.w) X.A (iD ifs X.env) (TP X dl Z Q) X.xe s
noncomputable def GD(X:Cx)(U:ag)(tg:Expr)(d:D)(U':ag):Prop:=∃g:TG,PG X tg g/\∀(ow:Ow) (v:V) (Z:L2.St) (H:Hp) (Q:L2.St->Hp->Prop),Z.length=X.N.length->aD X ow H Z U->ae X.K H (λa b=>b=true->ow a=none) d v->(∀Z',Z'.length=X.N.length->aD X ow H Z' U'->Q Z' H)->g v Z H Q
noncomputable abbrev jp(X:Cx)(scope:Scope)(cl:List (Str×Addr))(C:Addr)(N':List Str)(s:Shared)(H:Hp)(fp:List Addr):Cx :=
 { X with N:=N',s₀:=s,H₀:=H,env:=compEnvC scope cl C X.env,outer:=X.stack,stack:=X.stack,ex:=fp,fn:=λx=>decide (scope.names.lookup x=some .cell),pn:=[],xe:=λ_ _=>False }
theorem jX{env:Env}:∀(names:List (Str×NameKind)) (cs:List (Str×Addr)),(∀n,(n,NameKind.free)∈names->∃c,env.cells.lookup n=some c) ->
  ∃cl,(forIn names cs (λ(x:Str×NameKind) (r:List (Str×Addr))=>(if (x.2==NameKind.free)=true then do let a <- cellOf env x.1;pure (ForInStep.yield ((x.1,a)::r))else pure (ForInStep.yield r):Sem (ForInStep (List (Str×Addr))))))=(pure cl:Sem (List (Str×Addr))) /\
   (∀x c,cl.lookup x=some c->(env.cells.lookup x=some c/\(x,NameKind.free)∈names)\/cs.lookup x=some c)/\(∀x,(x,NameKind.free)∈names->∃c,cl.lookup x=some c)/\(∀x c,cs.lookup x=some c->∃c',cl.lookup x=some c')
 | [],cs,_=>⟨cs,rfl,λx c h=>.inr h,λx h=>(by cases h),λx c h=>⟨c,h⟩⟩
 | (n,k)::r,cs,h=>by
  have hr:∀n,(n,NameKind.free)∈r->∃c,env.cells.lookup n=some c:=λm hm=>h m (SR _ hm)
  by_cases hk:k=.free
  ·subst hk;obtain⟨c,hc⟩:=h n SV;obtain⟨cl,e,h1,h2,h3⟩:=jX r ((n,c)::cs) hr;refine⟨cl,?_,λx c' hx=>?_,λx hx=>?_,λx c' hx=>?_⟩
   ·rw[Vh];simp only[beq_self_eq_true,Vl,cellOf,hc];rw[pure_bind,pure_bind];exact e
   ·rcases h1 x c' hx with q|q
    ·exact .inl ⟨q.1,SR _ q.2⟩
    ·rw[S9]at q;split at q
     ·rename_i hb;have:x=n:=by simpa using hb
      subst this;cases q;exact .inl ⟨hc,SV⟩
     ·exact .inr q
   ·rcases SS.mp hx with q|q
    ·cases q;exact h3 n c (by simp)
    ·exact h2 x q
   ·by_cases hb:x==n
    ·exact h3 x c (by rw[S9,hb])
    ·exact h3 x c' (by rw[S9];simp only[hb];exact hx)
  ·obtain⟨cl,e,h1,h2,h3⟩:=jX r cs hr;refine⟨cl,?_,λx c hx=>(h1 x c hx).imp (λq=>⟨q.1,SR _ q.2⟩) id,λx hx=>?_,h3⟩
   ·rw[Vh];have:(k==NameKind.free)=false:=by simpa using hk
    simp only[this,Bool.false_eq_true,if_false];rw[pure_bind];exact e
   ·rcases SS.mp hx with q|q
    ·cases q;exact absurd rfl hk
    ·exact h2 x q
theorem oK(h:∀n,(n,NameKind.free)∈scope.names->∃c,env.cells.lookup n=some c) :
  ∃cl,closureFor scope env=pure cl/\(∀x c,cl.lookup x=some c->env.cells.lookup x=some c/\(x,NameKind.free)∈scope.names)/\(∀x,(x,NameKind.free)∈scope.names->∃c,cl.lookup x=some c):=by
 obtain⟨cl,e,h1,h2,_⟩:=jX scope.names [] h;refine⟨cl,?_,λx c hx=>(h1 x c hx).resolve_right (by simp),h2⟩;unfold closureFor;rw[<- e,<- bind_pure (forIn scope.names _ _)]
theorem dN{env:Env}:∀{names:List (Str×NameKind)} {x:Str},names.lookup x=some .free ->
  (names.map λ(n,k)=>if (k==NameKind.free&&env.scope.kind == .function&&env.kindOf n==some .cell)then(n,NameKind.cell)else(n,k)).lookup x=some .cell \/
  (names.map λ(n,k)=>if (k==NameKind.free&&env.scope.kind == .function&&env.kindOf n==some .cell)then(n,NameKind.cell)else(n,k)).lookup x=some .free
 | [],_,h=>by simp at h
 | (n,k)::r,x,h=>by
  have ih:=@dN env r x;show List.lookup x ((if (k==NameKind.free&&env.scope.kind == .function&&env.kindOf n==some .cell)=true then(n,NameKind.cell)else(n,k))::_)=_\/List.lookup x ((if (k==NameKind.free&&env.scope.kind == .function&&env.kindOf n==some .cell)=true then(n,NameKind.cell)else(n,k))::_)=_;cases hx:x==n with
  | true =>
   simp only[S9,hx]at h;cases h;by_cases hc:(NameKind.free==NameKind.free&&env.scope.kind == .function&&env.kindOf n==some .cell)=true
   ·rw[if_pos hc];simp[S9,hx]
   ·rw[if_neg hc];simp[S9,hx]
  | false =>
   simp only[S9,hx]at h;by_cases hc:(k==NameKind.free&&env.scope.kind == .function&&env.kindOf n==some .cell)=true
   ·rw[if_pos hc];simp only[S9,hx];exact ih h
   ·rw[if_neg hc];simp only[S9,hx];exact ih h
theorem iC{env:Env}:∀{names:List (Str×NameKind)} {x:Str} {k:NameKind},(names.map λ(n,k)=>if (k==NameKind.free&&env.scope.kind == .function&&env.kindOf n==some .cell)then(n,NameKind.cell)else(n,k)).lookup x=some k ->
  names.lookup x=some k\/(k=.cell/\names.lookup x=some .free)
 | [],_,_,h=>by simp at h
 | (n,j)::r,x,k,h=>by
  have ih:=@iC env r x k;replace h:List.lookup x ((if (j==NameKind.free&&env.scope.kind == .function&&env.kindOf n==some .cell)=true then(n,NameKind.cell)else(n,j))::_)=some k:=h;cases hx:x==n with
  | true =>
   simp only[S9,hx];by_cases hc:(j==NameKind.free&&env.scope.kind == .function&&env.kindOf n==some .cell)=true
   ·rw[if_pos hc]at h;simp only[S9,hx]at h;cases h;have:j=.free:=by
     have:=(Tj _ _).mp ((Tj _ _).mp hc).1;simpa using this.1
    exact .inr ⟨rfl,by rw[this]⟩
   ·rw[if_neg hc]at h;simp only[S9,hx]at h;exact .inl h
  | false =>
   simp only[S9,hx];by_cases hc:(j==NameKind.free&&env.scope.kind == .function&&env.kindOf n==some .cell)=true
   ·rw[if_pos hc]at h;simp only[S9,hx]at h;exact ih h
   ·rw[if_neg hc]at h;simp only[S9,hx]at h;exact ih h
structure ir(env:Env)(scope:Scope)(N':List Str):Prop where
 kind:scope.kind=.function
 nn:(scope.names.map (·.1)).Nodup
 names:∀y∈scope.names,y.2=.local->scope.names.lookup y.1=some .local
 nd:N'.Nodup
 fr:∀n,(n,NameKind.free)∈scope.names->env.kindOf n=some .cell\/env.kindOf n=some .free
theorem lm:∀{names:List (Str×NameKind)} {x:Str} {k:NameKind},(names.map (·.1)).Nodup->(x,k)∈names->names.lookup x=some k
 | [],_,_,_,h=>by cases h
 | (n,j)::r,x,k,nd,h=>by
  rw[S2,Vd]at nd;rcases SS.mp h with e|h'
  ·cases e;simp
  ·have hx:(x==n)=false:=by
    cases q:x==n with
    | false=>rfl
    | true =>
     have:x=n:=by simpa using q
     subst this;have hm:x∈r.map (·.1):=T0.mpr ⟨(x,k),h',rfl⟩;exact absurd hm nd.1
   rw[S9,hx];exact lm nd.2 h'
theorem qQ:∀(names:List (Str×NameKind)) (n:Nat) (acc:List (Str×Addr)) {x:Str} {c:Addr},(cellsFrom n names acc).lookup x=some c->acc.lookup x=some c\/(n<=c/\(x,NameKind.cell)∈names)
 | [],_,_,_,_,h=>.inl h
 | (y,k)::r,n,acc,x,c,h=>by
  unfold cellsFrom at h;split at h
  ·rename_i hk;have hk:k=.cell:=by simpa using hk
   subst hk;rcases qQ r (n+1) ((y,n)::acc) h with q|⟨q1,q2⟩
   ·rw[S9]at q;split at q
    ·rename_i hb;have:x=y:=by simpa using hb
     subst this;cases q;exact .inr ⟨SX _,SV⟩
    ·exact .inl q
   ·exact .inr ⟨by omega,SR _ q2⟩
  ·rcases qQ r n acc h with q|⟨q1,q2⟩
   ·exact .inl q
   ·exact .inr ⟨q1,SR _ q2⟩
theorem wv:∀(names:List (Str×NameKind)) (n:Nat) (acc:List (Str×Addr)),(∀x y c,acc.lookup x=some c->acc.lookup y=some c->x=y)->(∀x c,acc.lookup x=some c->c<n) ->
  ∀x y c,(cellsFrom n names acc).lookup x=some c->(cellsFrom n names acc).lookup y=some c->x=y
 | [],_,_,h,_,x,y,c,a,b=>h x y c a b
 | (z,k)::r,n,acc,h,hb,x,y,c,a,b=>by
  unfold cellsFrom at a b;split at a
  ·rename_i hk;rw[if_pos hk]at b;refine wv r (n+1) ((z,n)::acc) (λu v d p q=>?_) (λu d p=>?_) x y c a b
   ·rw[S9]at p q;split at p
    ·rename_i e1;split at q
     ·rename_i e2;rw[show u=z by simpa using e1,show v=z by simpa using e2]
     ·cases p;exact absurd (hb v _ q) (TH _)
    ·split at q
     ·cases q;exact absurd (hb u _ p) (TH _)
     ·exact h u v d p q
   ·rw[S9]at p;split at p
    ·cases p;exact Tx _
    ·exact Vj (hb u d p)
  ·rename_i hk;rw[if_neg hk]at b;exact wv r n acc h hb x y c a b
theorem sw:∀(names:List (Str×NameKind)) (h:Heap) (acc:List (Str×Addr)),(∀x c,acc.lookup x=some c->∃v,h.IsCell c v)->∀x c,(cellsFrom h.objs.size names acc).lookup x=some c->∃v,(pushCells h names).IsCell c v
 | [],_,_,h,x,c,a=>h x c a
 | (z,k)::r,h,acc,hc,x,c,a=>by
  unfold cellsFrom at a;unfold pushCells;split at a
  ·rename_i hk;rw[if_pos hk];have:=sw r (h.push { cls:=.type "cell", data:=.cell none }) ((z,h.objs.size)::acc) (λu d p=>?_) x c
   ·rw[T5]at this;exact this a
   ·rw[S9]at p;split at p
    ·cases p;exact⟨none,_,S6 _ rfl,rfl⟩
    ·obtain⟨v,q⟩:=hc u d p;exact⟨v,q.keeps λb o e=>SQ _ e⟩
  ·rename_i hk;rw[if_neg hk];exact sw r h acc hc x c a
theorem sV{globals:Addr}{Q:Env->Shared->Prop}(hcl:∀x c,cl.lookup x=some c->∃v,s.heap.IsCell c v)
  (h:∀h',h'.Ns s.heap.objs.size (λ_=>none)->(∀b o,s.heap.get? b=some o->h'.get? b=some o)->(∀x c,(cellsFrom (s.heap.objs.size+1) scope.names cl).lookup x=some c->∃v,h'.IsCell c v) ->
   Q (newEnv scope s.heap.objs.size globals (cellsFrom (s.heap.objs.size+1) scope.names cl) qual none .none (some env) builtinsNs) { s with heap:=h',toks:=s.toks+0 }) :
  wpAny M A (newFunctionEnv scope globals cl [] qual none .none (some env)) Q E s:=by
 simp only[newFunctionEnv,Option.isSome_some,Vl];refine SO (wpAny_alloc ?_);refine SO (wpAny_layCells _ (λname kind cells=>by cases hkc:kind==NameKind.cell<;>simp[hkc]) _ _ _ _ ?_);rw[show({ s with heap:=s.heap.push { cls:=.type "dict", data:=.dict #[] } }:Shared).heap.objs.size=s.heap.objs.size+1 from T5 ..];rw[List.forIn_nil];refine SO (SU (SU ?_));refine h _ ((Heap.Ns.new s.heap (.type "dict")).keeps (pushCells_keeps _ _)) (λb o e=>pushCells_keeps _ _ b o (SQ _ e)) λx c hc=>?_
 have:=sw scope.names (s.heap.push { cls:=.type "dict", data:=.dict #[] }) cl (λu d p=>by
  obtain⟨v,q⟩:=hcl u d p;exact⟨v,q.keeps λb o e=>SQ _ e⟩) x c
 rw[T5]at this;exact this hc
structure lG(X:Cx)(scope:Scope)(cl:List (Str×Addr))(n:Nat):Prop where
 k1:∀x c,cl.lookup x=some c->X.env.cells.lookup x=some c\/(n<c/\scope.names.lookup x=some .cell)
 k2:∀x,scope.names.lookup x=some .free\/scope.names.lookup x=some .cell->∃c,cl.lookup x=some c
 k4:∀x y c,cl.lookup x=some c->cl.lookup y=some c->x=y
 k5:∀x c,scope.names.lookup x=some .cell->cl.lookup x=some c->n<=c
variable{X:Cx}
theorem ww(I:aj X dl Z H s)(S:ir X.env scope N')
  (h1:∀x c,cl.lookup x=some c->X.env.cells.lookup x=some c/\(x,NameKind.free)∈scope.names) (h2:∀x,(x,NameKind.free)∈scope.names->∃c,cl.lookup x=some c) :
  lG X scope (cellsFrom (s.heap.objs.size+1) scope.names cl) s.heap.objs.size where
 k1:=λx c h=>by
  rcases qQ _ _ _ h with q|⟨q1,q2⟩
  ·exact .inl (h1 x c q).1
  ·exact .inr ⟨q1,lm S.nn q2⟩
 k2:=λx h=>by
  refine Option.isSome_iff_exists.mp (W.cellsFrom_some scope.names _ cl ?_);rcases h with h|h
  ·obtain⟨c,hc⟩:=h2 x (S5 h);exact .inr (by rw[hc];rfl)
  ·exact .inl h
 k4:=wv scope.names _ cl (λx y c a b=>I.ok.inj x y c (h1 x c a).1 (h1 y c b).1) λx c a=>by
  obtain⟨v,hv⟩:=I.cell x c (h1 x c a).1;exact Vj hv.lt
 k5:=λx c hx h=>by
  rcases qQ _ _ _ h with q|⟨q1,q2⟩
  ·rw[lm S.nn (h1 x c q).2]at hx;cases hx
  ·omega
theorem OV(I:aj X dl Z H s)(S:ir X.env scope N')
  (hC:s.heap.objs.size<=C) (k:lG X scope cl s.heap.objs.size)
  (hf:∀b∈fp,gP X dl H b) (hfC:∀b∈fp,b<s.heap.objs.size):(jp X scope cl C N' s H fp).Ok where
 mod:=I.ok.mod
 kind:=by show(relabel scope X.env).kind=_;exact S.kind
 glob:=I.ok.glob
 blt:=I.ok.blt
 above:=hC
 inj:=k.k4
 has:=λx hx=>by
  have hx:(relabel scope X.env).names.lookup x=some .cell\/(relabel scope X.env).names.lookup x=some .free:=hx;rcases hx with hx|hx
  ·rcases iC hx with q|⟨_,q⟩
   ·exact k.k2 x (.inr q)
   ·exact k.k2 x (.inl q)
  ·rcases iC hx with q|⟨q,_⟩
   ·exact k.k2 x (.inl q)
   ·cases q
 cab:=λx c h hc=>k.k5 x c (UO h) hc
 hd:=I.ok.hd
 frames:=I.ok.frames
 stk:=.inl rfl
 exf:=λb hb=>⟨by have:=hfC b hb;intro z;subst z;show False;exact absurd (S4 this hC) (TH _),λx c h=>by
  rcases k.k1 x c h with q|⟨q,_⟩
  ·exact(hf b hb).2.2.2.2.1 x c q
  ·have:=hfC b hb;intro z;subst z;exact absurd (UN q this) (TH _)⟩
 bs:=I.bs
 bsz:=SZ I.ok.bsz I.sz
 noex:=λb o e hb=>by
  rcases(hf b hb).2.2.2.1 with q|q
  ·exact I.ok.noex b o e q
  ·exact absurd (S4 (S1 e) (SZ I.ok.bsz q)) (TH _)
 exfs:=λb hb z=>by
  rcases SS.mp (I.stkSub b z)with q|q
  ·exact(hf b hb).2.1 q
  ·exact(hf b hb).2.2.1 q
 funs:=I.stack
 frf:=I.stkFree
def lK(X:Cx)(scope:Scope)(N':List Str)(Z:L2.St):L2.St:=N'.map λx=>if scope.names.lookup x=some .free then(Z[X.N.idxOf x]?).join else none
theorem B9{s1:Shared}{m:Str->Option Value}(I:aj X dl Z H s)(S:ir X.env scope N')
  (k:lG X scope cl s.heap.objs.size) (k6:∀x c,cl.lookup x=some c->∃v,s1.heap.IsCell c v)
  (hf:∀b∈fp,gP X dl H b) (hfC:∀b∈fp,b<s.heap.objs.size)
  (es:∃h t,s1 = { s with heap:=h,toks:=t }) (hns:s1.heap.Ns s.heap.objs.size m) (hk:∀b o,s.heap.get? b=some o->s1.heap.get? b=some o) :
  aj (jp X scope cl s.heap.objs.size N' s H fp) [] (lK X scope N' Z) H s1:=by
 obtain⟨h',t,rfl⟩:=es;have I1:aj X dl Z H { s with heap:=h',toks:=t }:=I.kept hk;refine⟨OV I S (SX _) k hf hfC,rfl,I.bare,Un.kept hk,⟨m,hns,λi x v e1 e2 e3=>?_⟩,k6,I.hok.fresh (SX _),λx c h=>(k.k1 x c h).elim (λq=>I.freeC x c q) λq=>I.hok.fresh (Ud q.1),λp hp=>absurd (show p∈([]:List (Addr×Obj))from hp) (by simp),I1.hok,?_⟩
 ·have hN:N'[i]?=some x:=e1;unfold lK at e2;rw[TQ,hN]at e2;simp only[Option.map_some,Option.some.injEq]at e2;split at e2
  ·rename_i hfr;have hj:Z[X.N.idxOf x]?=some (some v):=by
    cases q:Z[X.N.idxOf x]? with
    | none=>rw[q]at e2;cases e2
    | some y=>rw[q]at e2;rw[show y=some v from e2]
   have hlt:X.N.idxOf x<X.N.length:=by rw[<- I.len];exact(Tl.mp hj).1
   have hx:X.N[X.N.idxOf x]?=some x:=by
    rw[Tk hlt,Vi hlt]
   have kf:=S.fr x (S5 hfr);have vis:me X.env.scope x:=.inr (kf.imp id id);obtain⟨m1,hn1,hl1⟩:=I1.loc;obtain⟨u,r,l⟩:=hl1 _ x v hx hj vis;refine⟨u,r,.inr ⟨?_,?_⟩⟩
   ·exact dN hfr
   ·rcases l with⟨hk',_⟩|⟨_,c,hc,hcell⟩
    ·rcases kf with q|q<;>rw[q]at hk'<;>cases hk'
    ·obtain⟨c',hc'⟩:=k.k2 x (.inl hfr);have:c'=c:=by
      rcases k.k1 x c' hc' with this|⟨_,this⟩
      ·rw[hc]at this;exact(TN this).symm
      ·rw[hfr]at this;cases this
     subst this;exact⟨c',hc',hcell⟩
  ·cases e2
 ·unfold lK;simp
def flt(scope:Scope)(U:ag):ag:=λx=>if scope.names.lookup x=some .free then U x else none
theorem iE{y:D×Bool}(h:flt scope U x=some y):U x=some y/\scope.names.lookup x=some .free:=by
 unfold flt at h;split at h
 ·rename_i e;exact⟨h,e⟩
 ·cases h
theorem Cn(E:aD X ow H Z U)(hN:X.N.Nodup)
  (hsub:∀x d o,flt scope U x=some (d,o)->x∈N') :
  aD (jp X scope cl C N' s H0 fp) ow H (lK X scope N' Z) (flt scope U):=by
 refine⟨λx d o h=>?_,E.own⟩;obtain⟨h1,h2⟩:=iE h;obtain⟨i,v,e1,e2,e3,e4⟩:=E.get x d o h1;have hx:x∈N':=hsub x d o h;have hi:X.N.idxOf x=i:=by
  have hm:x∈X.N:=Ux e1;have hlt:=List.idxOf_lt_length_iff.mpr hm;exact lO hN (by rw[Tk hlt,Vi hlt]) e1
 refine⟨N'.idxOf x,v,?_,?_,?_,e4⟩
 ·have hlt:=List.idxOf_lt_length_iff.mpr hx;show N'[N'.idxOf x]?=some x;rw[Tk hlt,Vi hlt]
 ·exact .inr (dN h2)
 ·have hlt:=List.idxOf_lt_length_iff.mpr hx;unfold lK;rw[TQ,Tk hlt,Vi hlt];simp only[Option.map_some];rw[if_pos h2,hi,e3];rfl
variable{X:Cx}
theorem Cs{R:Result->Shared->Prop}{target:Expr}{it acc:Value}(J:Nat->Shared->Prop)
    (turn:∀n s,J n s->wpAny (model prog w) A (pyNext it) (λr s₁=>match r with
      | none=>R (.ok .next) s₁
      | some v=>wpAny (model prog w) A (letOwnedTupleGo target it v) (λ_ s₁=>wpAny (model prog w) A (assign target env v) (λ_ s₂ =>
          wpAny (model prog w) A (iD ifs env) (λok s₃ =>
            if ok=true then wpAny (model prog w) A (eval elt env) (λx s₄ =>
              wpAny (model prog w) A (call (.builtin "list.append") [acc,x]) (λ_ s₅ => ∃m,m<n/\J m s₅) (λ_ _=>False) s₄) (λ_ _=>False) s₃
            else ∃m,m<n/\J m s₃) (λ_ _=>False) s₂) (λ_ _=>False) s₁) (λ_ _=>False) s₁) (λ_ _=>False) s)
    (n:Nat) (h:J n s):codeAny (model prog w) A (.compLoop (.ListComp elt [⟨target,iter,ifs,0⟩] scope pos) 0 it acc env) R s:=by
  refine codeAny_loop rfl J (λn s hI=>?_) n h;show wpAny _ A ((compTurn (.ListComp elt [⟨target,iter,ifs,0⟩] scope pos) 0 it acc env).onRaise (λx=>do noteFrame x env;theTreesLotGoes x)) _ _ s;refine wpAny_noted ?_;rw[compTurn_list];refine SO (UG (SO (Tn (turn n s hI) (λr s₁ h₁=>?_) λ_ _ h'=>h'.elim)));cases r with
  | none=>exact SU h₁
  | some v =>
    refine SO (Tn h₁ (λ_ s₁' h₁'=>?_) λ_ _ h'=>h'.elim);refine SO (Tn h₁' (λ_ s₂ h₂=>SO (Tn h₂ (λok s₃ h₃=>?_) λ_ _ h'=>h'.elim)) λ_ _ h'=>h'.elim);cases ok with
    | false=>exact SU ⟨rfl,h₃⟩
    | true =>
      exact SO (SO (Tn h₃ (λx s₄ h₄=>SO (Tn h₄ (λ_ s₅ h₅=>SU (SU ⟨rfl,h₅⟩)) λ_ _ h'=>h'.elim)) λ_ _ h'=>h'.elim))
noncomputable def kE(X:Cx)(U:ag)(tg:Expr)(ifs:List Expr)(elt:Expr)(k:Nat)(d:D)(r:Option D):Prop :=
 ∃U' b,GD X U tg d U'/\(∀x y,U x=some y->U' x=some y)/\yM X U' ifs b/\match r with|some d'=>b=true/\ED X U' elt d' k|none=>b=false
theorem fU(o:fX ow H){a:Addr}:∀{k:Nat},k<=1->Kp ow H k a true->ow a=none
 | 0,_,p=>o.free p.2
 | 1,_,p=>p rfl
 | _+2,h,_=>absurd h (by omega)
theorem Jm{H9:Hp}{D:Addr}{x:HO}(sm:ar H H9)(hD:H9 D=some x){a:Addr}:∀{k:Nat},k<=1->Kp (λa=>if a=D then some none else ow a) H9 k a b->Kp ow H k a b/\(b=true->a≠D)
 | 0,_,p=>⟨⟨p.1,sm.free p.2⟩,λ_ z=>by subst z;have:=p.2;rw[hD]at this;cases this⟩
 | 1,_,p=>by
  have p:b=true->(if a=D then some none else ow a)=none:=p;refine⟨λhb=>?_,λhb hz=>?_⟩
  ·have p:=p hb;by_cases hz:a=D
   ·rw[if_pos hz]at p;cases p
   ·rw[if_neg hz]at p;exact p
  ·have p:=p hb;rw[if_pos hz]at p;cases p
 | _+2,h,_=>absurd h (by omega)
theorem BW{D:Addr}(o:fX ow H)(hD:H D=none):∀{k:Nat},k<=1->Kp ow H k D true
 | 0,_=>⟨rfl,hD⟩
 | 1,_=>λ_=>o.free hD
 | _+2,h=>absurd h (by omega)
theorem lQ:∀{l:List D} {i:Nat} {d:D},aK l=true->l[i]?=some d->d.lless=true
 | [],_,_,_,h=>by simp at h
 | x::l,0,d,f,h=>by
  rw[aK,Tj]at f;simp at h;subst h;exact f.1
 | x::l,i+1,d,f,h=>by
  rw[aK,Tj]at f;exact lQ (i:=i) f.2 (by simpa using h)
structure oa(X:Cx)(dl:List (Addr×Obj))(Z:L2.St)(H5:Hp)(s6:Shared)(C:Addr)(m6:Str->Option Value):Prop where
 inv:aj X dl Z H5 s6
 ns:s6.heap.Ns C m6
 free:H5 C=none
 loc:C≠X.env.locals
 old:X.s₀.heap.objs.size<=C
 cell:∀x c,X.env.cells.lookup x=some c->c≠C
 pin:∀p∈X.pn++dl,p.1≠C
 fs:C∉X.fs
theorem tQ{use:Option (Value->Sem Unit)}{Q':Value->Shared->Prop}{pos2:Pos}{f:D->Option D}
  (hcalm:X.calm=true) (hN:X.N.Nodup) (hk:aK ds=true\/k<=1) (hko:ko<=1) (hlen:ds.length<sizeLine) (S:ir X.env scope N') (hsub:∀x d o,flt scope U x=some (d,o)->x∈N')
  (hi:IE X U tg iter ds k)
  (turn:∀cl C s H fp,∀d∈ds,kE (jp X scope cl C N' s H fp) (flt scope U) tg ifs elt ko d (f d))
  (hs:∀x,foldedSetIterable iter X.env x=pure x) (I:aj X dl Z H s) (E:aD X ow H Z U)
  (fin:∀D C s6 H5 m6,oa X dl Z H5 s6 C m6->ar H H5->ae X.K H5 (Kp ow H ko) (.lst (ds.filterMap f)) (.ref D)->compPost (model X.prog X.w) X.A X.xe use Q' (.ref D) C (.ok .next) s6) :
  wpAny (model X.prog X.w) X.A (comprehension (.ListComp elt [⟨tg,iter,ifs,0⟩] scope pos) scope X.env pos2 (newList []) false (eval iter X.env) use) Q' X.xe s:=by
 obtain⟨cl,hclos,h1,h2⟩:=oK (env:=X.env) (scope:=scope) λn hn=>I.ok.has n (S.fr n hn)
 refine wpAny_comprehension_free rfl hs hclos S.kind S.names ?_;refine aG (hi ow dl s Z H (λJ H1=>ar H H1/\N7 X.K J ds (Kd ow H k H1) H1) I ⟨E,λJ H1 a b=>⟨a,b⟩⟩) λv s1 h1'=>aG h1' λitv s2 h2'=>?_
 obtain⟨it,fp,tn,J,H2,rfl,I2,T,st2,f2,s12,itd⟩:=h2';have hD2:H2 s2.heap.objs.size=none:=I2.hok.fresh (SX _);refine Ur (sV (λx c hc=>(I2.cell x c (h1 x c hc).1).imp λv q=>q.keeps λb o e=>SQ _ e) λh₁ hns₁ kp0 k60=>?_);have I3:aj X dl Z (aA H2 s2.heap.objs.size (.lst [])) { s2 with heap:=s2.heap.push { cls:=.type "list", dict:=none,data:=.seq ([]:List Value).toArray } } :=
  I2.laid (t':=s2.toks) (λb u e=>SQ _ e) (SX _) ⟨Tc _,[],0,.nil,S6 _ rfl⟩
 generalize hD:s2.heap.objs.size=D at *;generalize hs3:({ s2 with heap:=s2.heap.push { cls:=.type "list", dict:=none,data:=.seq ([]:List Value).toArray } }:Shared)=s3 at *;have hsz3:s3.heap.objs.size=D+1:=by rw[<- hs3];show(s2.heap.push _).objs.size=_;rw[T5,hD]
 have f3:∀b∈fp,gP X dl (aA H2 D (.lst [])) b:=λb hb=>by
  obtain⟨g0,g⟩:=f2 b hb;obtain⟨o,e,_⟩:=T.obj _ _ st2 b hb;have hlt:=S1 e;rw[hD]at hlt;exact⟨by rw[aq (Ts hlt)];exact g0,g⟩
 have fl3:∀b∈fp,b<s3.heap.objs.size:=λb hb=>by
  obtain⟨o,e,_⟩:=T.obj _ _ st2 b hb;have hlt:=S1 e;rw[hD]at hlt;rw[hsz3];exact Vj hlt
 have kp:∀b o,s3.heap.get? b=some o->h₁.get? b=some o:=kp0;have kc:lG X scope (cellsFrom (s3.heap.objs.size+1) scope.names cl) s3.heap.objs.size:=ww I3 S h1 h2;generalize hcl':cellsFrom (s3.heap.objs.size+1) scope.names cl=cl' at *;have I4:=B9 (s1:={ s3 with heap:=h₁,toks:=s3.toks+0 }) (N':=N') I3 S kc k60 f3 fl3 ⟨_,_,rfl⟩ hns₁ kp;have sH2:∀vs,ar H2 (aA H2 D (.lst vs)):=λvs b o e=>by rw[aq (aR e hD2)];exact e
 let ow':Ow:=λa=>if a=D then some none else ow a
 have ow'D:ow' D=some none:=if_pos rfl;have ow'n:∀a,a≠D->ow' a=ow a:=λa h=>if_neg h
 have own':∀{H':Hp} (vs:List V),H' D=some (.lst vs)->ar H2 H'->fX ow' H':=λ{H'} vs hd sm a ha=>by
  by_cases hz:a=D
  ·subst hz;exact⟨_,hd⟩
  ·rw[ow'n a hz]at ha;obtain⟨o,e⟩:=(E.same s12).own a ha;exact⟨o,sm a o e⟩
 have E4:aD (jp X scope cl' s3.heap.objs.size N' s3 (aA H2 D (.lst [])) fp) ow' (aA H2 D (.lst [])) (lK X scope N' Z) (flt scope U):=by
  have E3:=Cn (scope:=scope) (cl:=cl') (C:=s3.heap.objs.size) (N':=N') (s:=s3) (fp:=fp) (H0:=aA H2 D (.lst [])) (E.same s12) hN hsub;refine⟨λx d o h=>?_,own' [] aw (sH2 [])⟩;obtain⟨i,v,e1,e2,e3,e4⟩:=E3.get x d o h;refine⟨i,v,e1,e2,e3,ae.same (sH2 []) (e4.impH (λa ob ha p=>?_) λa p=>?_)⟩
  ·have hz:a≠D:=aR ha hD2;cases o with
   | true=>exact⟨p.1,(ow'n a hz).trans p.2⟩
   | false=>exact λ_=>(ow'n a hz).trans (p rfl)
  ·cases o with
   | true=>cases p.1
   | false=>exact λz=>(by cases z)
 generalize hX':jp X scope cl' s3.heap.objs.size N' s3 (aA H2 D (.lst [])) fp=X' at *;have turn':∀d∈ds,kE X' (flt scope U) tg ifs elt ko d (f d):=λd hd=>by rw[<- hX'];exact turn _ _ _ _ _ d hd
 have eK:X'.K=X.K:=by rw[<- hX']
 have eP:X'.prog=X.prog:=by rw[<- hX']
 have eW:X'.w=X.w:=by rw[<- hX']
 have eA:X'.A=X.A:=by rw[<- hX']
 have eE:X'.env=compEnvC scope cl' s3.heap.objs.size X.env:=by rw[<- hX']
 have eX:X'.xe=λ_ _=>False:=by rw[<- hX']
 have eC:X'.calm=true:=by rw[<- hX'];exact hcalm
 have stat:∀{H':Hp},(∀b∈fp,H' b=none)->∀b∈fp,gP X' [] H' b:=λhn b hb=>by
  rw[<- hX'];refine⟨hn b hb,?_,?_,.inl hb,λx c h=>(kc.k1 x c h).elim (λq=>(f3 b hb).2.2.2.2.1 x c q) (λq z=>by subst z;exact absurd (UN q.1 (fl3 _ hb)) (TH _)),λp hp=>absurd (show p∈([]:List (Addr×Obj))from hp) (by simp)⟩
  ·show b≠s3.heap.objs.size;exact Ts (fl3 b hb)
  ·intro z;rcases SS.mp (I3.stkSub b z)with q|q
   ·exact(f3 b hb).2.1 q
   ·exact(f3 b hb).2.2.1 q
 let Pe:bi:=λa b=>Kp ow H ko a b/\(b=true->a≠D)
 have loop:codeAny (model X.prog X.w) X.A (.compLoop (.ListComp elt [⟨tg,iter,ifs,0⟩] scope pos) 0 (.ref it) (.ref D) (compEnvC scope cl' s3.heap.objs.size X.env)) (compPost (model X.prog X.w) X.A X.xe use Q' (.ref D) s3.heap.objs.size) { s3 with heap:=h₁,toks:=s3.toks+0 }:=by
  refine Cs (λn s' => ∃(i:Nat) (Z':L2.St) (H':Hp) (vs:List V),aj X' [] Z' H' s'/\tn i s'.heap/\(∀b∈fp,H' b=none)/\aD X' ow' H' Z' (flt scope U)/\H' D=some (.lst vs)/\ar H2 H' /\
   ah X.K H' Pe ((ds.take i).filterMap f) vs/\i<=ds.length/\n=ds.length-i) ?_ ds.length
   ⟨0,lK X scope N' Z,aA H2 D (.lst []),[],I4,?_,λb hb=>(f3 b hb).1,E4,aw,sH2 [],?_,Tc _,rfl⟩
  ·rintro n s5 ⟨i,σ5,H5,vs,I5,st5,fr5,E5,hD5,sm5,rp5,hi5,rfl⟩;have stay:fh (Kd ow H k H2) (Kd ow H k H2) H2 H5:=.same sm5 λ_ _ p=>p
   have itd5:=itd i H5 stay;by_cases hlt:i<ds.length
   ·obtain⟨go,yl⟩:=itd5.1 ds[i] (by simp[hlt]);have Ti:=T.item X' eP eW eK eC i [] s5 σ5 H5 (λ_ _=>False) I5 (stat fr5) st5 go;rw[eA]at Ti;refine aG Ti λr s6 ⟨u,hr,h6⟩=>?_
    subst hr;refine aG h6 λ_ s7 ⟨x,H7,I7,r7,y7,st7,fr7⟩=>?_
    obtain⟨sm7,rx7⟩:=yl x H7 y7;obtain⟨U',b,⟨g,hg,hgd⟩,hext,hts,hel⟩:=turn' ds[i] (Vn hlt);have rx7':ae X'.K H7 (λa b=>b=true->ow' a=none) ds[i] x:=by
     rw[eK];rcases hk with hk|hk
     ·exact rx7.flat _ (lQ hk (Tk hlt))
     refine rx7.impH (λa o ha p _=>?_) λa _ z=>(by cases z)
     obtain⟨p,p2⟩:=p;obtain⟨o2,ho2⟩:=p2 rfl;show ow' a=none;rw[ow'n a (aR ho2 hD2)];exact fU E.own hk p
    have E7:=E5.same sm7;have I7':=I7.pinned (stat fr7) (T.obj _ _ st7);have hg':=hg _ s7 σ5 H7 x u (λZ' H'=>aD X' ow' H' Z' U'/\H7=H') I7' r7 (hgd ow' x σ5 H7 _ I7.len E7 rx7' λZ' _ e=>⟨e,rfl⟩);rw[eP,eW,eA,eE,eX]at hg';refine aG hg' λ_ s8 ⟨σ8,H8,I8,E8,eH8⟩=>?_
    subst eH8;have ht':=hts ow' _ s8 σ8 H7 (λc H'=>c=b/\ar H7 H') I8 ⟨E8,λH' sm=>⟨rfl,sm⟩⟩;rw[eP,eW,eA,eE,eX]at ht';refine aG ht' λc s9 ⟨H9,I9,ec,sm9⟩=>?_
    subst ec;have back:∀{H':Hp} {Z':L2.St} {s':Shared},aj X' ([]++jK fp s7.heap) Z' H' s'->aj X' [] Z' H' s'/\tn (i+1) s'.heap/\∀b∈fp,H' b=none:=λ{H' Z' s'} J7=>by
     refine⟨J7.unpinned,T.keep _ _ _ st7 λb hb o e=>(J7.pin (b,o) (To _ (To _ (gb hb e)))).1,λb hb=>?_⟩;obtain⟨o,e,d⟩:=T.obj _ _ st7 b hb;exact(J7.pin (b,o) (To _ (To _ (gb hb e)))).2.1
    have envf:∀{H':Hp} {Z':L2.St},aD X' ow' H' Z' U'->aD X' ow' H' Z' (flt scope U):=λ{H' Z'} e=>⟨λx d o h=>e.get x d o (hext x _ h),e.own⟩
    have tk:(ds.take (i+1)).filterMap f=(ds.take i).filterMap f++(f ds[i]).toList:=by
     rw[List.take_add_one];simp only[Tk hlt,Option.toList_some,List.filterMap_append];congr 1
    have sm59:ar H5 H9:=sm7.trans sm9;cases hc:c with
    | false =>
     rw[if_neg Ta];subst hc;obtain⟨I9',st9,fr9⟩:=back I9;have fn:f ds[i]=none:=by
      cases hf:f ds[i]with
      | none=>rfl
      | some d'=>rw[hf]at hel;cases hel.1
     refine⟨ds.length-(i+1),by omega,i+1,σ8,H9,vs,I9',st9,fr9,envf (E8.same sm9),sm59 _ _ hD5,sm5.trans sm59,?_,hlt,rfl⟩;rw[tk,fn,Option.toList_none,Tw];exact rp5.same sm59
    | true =>
     rw[if_pos rfl];subst hc;obtain⟨d',fs,hed⟩:∃d',f ds[i]=some d'/\ED X' U' elt d' ko:=by
      cases hf:f ds[i]with
      | none=>rw[hf]at hel;cases hel
      | some d'=>rw[hf]at hel;exact⟨d',rfl,hel.2⟩
     have he':=hed ow' _ s9 σ8 H9 (λv H'=>ar H9 H'/\ae X'.K H' (Kp ow' H9 ko) d' v) I9 ⟨E8.same sm9,λv H' a r=>⟨a,r⟩⟩;rw[eP,eW,eA,eE,eX]at he';refine aG he' λy s10 ⟨v10,H10,I10,r10,sm10,rp10⟩=>?_
     have sm510:=sm59.trans sm10;have hD10:=sm510 _ _ hD5;have hlv:vs.length<sizeLine:=by
      rw[<- rp5.length];refine Tu (List.length_filterMap_le _ _) ?_;rw[Um];omega
     have ha':=mM (X:=X') _ s10 σ8 H10 (.ref D) [v10] (.ref D) [y] (λw H'=>aA H10 D (.lst (vs++[v10]))=H') I10 rfl (.cons r10 .nil) ⟨D,vs,v10,rfl,rfl,hD10,hlv,rfl⟩;rw[eP,eW,eA,eX]at ha';refine aG ha' λ_ s11 ⟨w11,H11,I11,_,eH11⟩=>?_
     subst eH11;obtain⟨I11',st11,fr11⟩:=back I11;have s2D:∀a o,H2 a=some o->a≠D:=λa o e=>aR e hD2
     have stD:fh Pe Pe H10 (aA H10 D (.lst (vs++[v10]))):=⟨λa o h hn=>by rw[aq (λz=>by subst z;rw[hD10]at h;cases h;exact hn)];exact h,λa ws h p=>by rw[aq (p.2 rfl)];exact h,λ_ _ _ p=>p,λ_ p=>p⟩;refine⟨ds.length-(i+1),by omega,i+1,σ8,_,vs++[v10],I11',st11,fr11,?_,aw,?_,?_,hlt,rfl⟩
     ·have E10:=envf ((E8.same sm9).same sm10);refine⟨λx d o h=>?_,own' _ aw (λa o e=>by rw[aq (s2D a o e)];exact(sm5.trans sm510) a o e)⟩;obtain⟨i',v',e1,e2,e3,e4⟩:=E10.get x d o h;refine⟨i',v',e1,e2,e3,e4.mono ⟨λa o h hn=>by rw[aq (λz=>by subst z;rw[hD10]at h;cases h;exact hn)];exact h,λa ws h p=>?_,λ_ _ _ p=>p,λ_ p=>p⟩⟩;have hz:a≠D:=by
       intro z;subst z;cases o with
       | true=>have:=p.2;rw[ow'D]at this;cases this
       | false=>have:ow' a=none:=p rfl;rw[ow'D]at this;cases this
      rw[aq hz];exact h
     ·intro a o e;rw[aq (s2D a o e)];exact(sm5.trans sm510) a o e
     ·rw[tk,fs,Option.toList_some];refine((rp5.same sm510).mono stD).append (ah.one (ae.mono stD ?_));rw[eK]at rp10;have sH9:ar H H9:=s12.trans (sm5.trans sm59);exact rp10.imp λa b p=>Jm sH9 (sm59 _ _ hD5) hko p
   ·have hstop:=itd5.2 (by omega);have Td:=T.done X' eP eW eK eC i [] s5 σ5 H5 (λ_ _=>False) I5 (stat fr5) st5 hstop;rw[eA]at Td;refine aG Td λr s6 ⟨hr,I6⟩=>?_
    subst hr;have ei:i=ds.length:=by omega
    subst ei;rw[List.take_length]at rp5;have hC:X'.env.locals=s3.heap.objs.size:=by rw[eE];rfl
    obtain⟨m6,hn6,_⟩:=I6.loc;rw[hC]at hn6;have hfree:H5 s3.heap.objs.size=none:=by have:=I6.free;rw[hC]at this;exact this
    have IX:aj X dl Z H5 s6:=by
     have b6:=I6.base;have o6:=I6.os;have k6:=I6.hok;have g6:=I6.bare;rw[<- hX']at b6 o6 k6;exact I3.call' o6 b6 k6 g6 λb hb=>⟨(f3 b hb).2.2.2.1,(f3 b hb).2.1,(f3 b hb).2.2.2.2.1,(f3 b hb).2.2.2.2.2⟩
    have hHD:H D=none:=s12.free hD2;refine fin D _ s6 H5 m6 ⟨IX,hn6,hfree,TR I3.lt,I3.sz,λx c hc z=>?_,λp hp z=>?_,I3.nofs (SX _)⟩ (s12.trans sm5) ?_
    ·obtain⟨v,hv⟩:=I3.cell x c hc;have:=hv.lt;rw[z]at this;exact absurd this (TH _)
    ·have:=S1 (I3.pin p hp).1;rw[z]at this;exact absurd this (TH _)
    ·rw[ae];exact⟨D,vs,true,rfl,hD5,BW E.own hHD hko,rp5.imp λ_ _ p=>p.1⟩
  ·exact T.keep 0 s2.heap h₁ st2 λb hb o e=>kp b o (by rw[<- hs3];exact SQ _ e)
  ·exact ah.nil
 exact codeAny_compStart_list loop (T.self _ 0 _ _ _ (T.keep 0 s2.heap h₁ st2 λb hb o e=>kp b o (by rw[<- hs3];exact SQ _ e)) loop)
theorem oa.done{H5:Hp}{s6:Shared}{m6:Str->Option Value}(e:oa X dl Z H5 s6 C m6)(sb:Heap.SameBut C s6.heap h'):aj X dl Z H5 { s6 with heap:=h' } :=
 e.inv.turned (t':=s6.toks) (it:=C) (λb o hb e=>sb.extBut b o hb e) e.free e.loc (.inr e.old) e.cell e.pin
theorem yE{f:D->Option D}
  (hcalm:X.calm=true) (hN:X.N.Nodup) (hk:aK ds=true\/k<=1) (hko:ko<=1) (hlen:ds.length<sizeLine) (S:ir X.env scope N') (hsub:∀x d o,flt scope U x=some (d,o)->x∈N')
  (hi:IE X U tg iter ds k)
  (turn:∀cl C s H fp,∀d∈ds,kE (jp X scope cl C N' s H fp) (flt scope U) tg ifs elt ko d (f d))
  (hs:∀x,foldedSetIterable iter X.env x=pure x:=by intro _;rfl) :
  ED X U (.ListComp elt [⟨tg,iter,ifs,0⟩] scope pos) (.lst (ds.filterMap f)) ko:=by
 intro ow dl s Z H Q I ⟨E,q⟩;rw[eval_ListComp];refine tQ hcalm hN hk hko hlen S hsub hi turn hs I E λD C s6 H5 m6 ce sm rp=>?_
 exact⟨m6,ce.ns,λh' sb=>⟨.ref D,H5,ce.done sb,rfl,q (.ref D) H5 sm rp⟩⟩
theorem Iw{D0:kl}{px spos:Pos}{f:D->Option D}
  (hcalm:X.calm=true) (hN:X.N.Nodup) (hk:aK ds=true\/k<=1) (hko:ko<=1) (hlen:ds.length<sizeLine) (S:ir X.env scope N') (hsub:∀x d o,flt scope U x=some (d,o)->x∈N')
  (hi:IE X U tg iter ds k)
  (turn:∀cl C s H fp,∀d∈ds,kE (jp X scope cl C N' s H fp) (flt scope U) tg ifs elt ko d (f d))
  (hs:∀x,foldedSetIterable iter X.env x=pure x) (I:aj X dl Z H s) (E:aD X ow H Z U)
  (hsw:swapsWith (.ListComp elt [⟨tg,iter,ifs,0⟩] scope pos) (some (.Name x px)) spos.line X.env=pure true)
  (hx:X.N[i]?=some x) (hl:yQ X.env.scope x) (hf:X.fn x=true\/X.env.scope.names.lookup x=some .local)
  (q:∀v H',ar H H'->ae X.K H' (Kp ow H ko) (.lst (ds.filterMap f)) v->D0.nx (Z.set i (some v)) H') :
  wpAny (model X.prog X.w) X.A (exec (.Assign [.Name x px] (.ListComp elt [⟨tg,iter,ifs,0⟩] scope pos) spos) X.env) (SP X dl D0) X.xe s:=by
 rw[exec_Assign_Name_used _ _ _ _ hsw];refine SO (UG (SO ?_));show wpAny _ X.A (do let _ <- comprehension (.ListComp elt [⟨tg,iter,ifs,0⟩] scope pos) scope X.env _ (newList []) false (eval iter X.env) (some (assign (.Name x px) X.env))) _ _ s;refine SO (Tn (tQ (use:=some (assign (.Name x px) X.env)) (Q':=λ_ s'=>SP X dl D0 .next s') hcalm hN hk hko hlen S hsub hi turn hs I E λD C s6 H5 m6 ce sm rp=>?_) (λ_ s' hq=>SU (SU hq)) λ_ _ e=>e);obtain⟨o,es,ep,ho,hd,hrest⟩:=id ce.ns;have Ip:aj X (dl++[(C,o)]) Z H5 s6:=ce.inv.pins_of λp hp=>by
  rcases TZ.mp hp with z|z
  ·exact ce.inv.pin p (To _ z)
  ·have e:p=(C,o):=by simpa using z
   subst e;exact⟨ho,ce.free,ce.loc,ce.fs,λv z=>by rw[hd]at z;cases z⟩
 show wpAny _ X.A (assign (.Name x px) X.env (.ref D)) _ _ _;refine aG (gR (i:=i) hN hx hl hf (dl++[(C,o)]) s6 Z H5 (.ref D) (.ref D) (λZ' H'=>Z.set i (some (.ref D))=Z'/\H5=H') Ip rfl ⟨rfl,rfl⟩) λ_ s7 ⟨σ7,H7,I7,e1,e2⟩=>?_
 subst e1 e2;have pC:=(I7.pin (C,o) (To _ (To _ (by simp)))).1;refine⟨m6,⟨o,es,ep,pC,hd,hrest⟩,λh' sb=>?_⟩;have ce':oa X dl (Z.set i (some (.ref D))) H5 s7 C m6:=⟨I7.unpinned,⟨o,es,ep,pC,hd,hrest⟩,ce.free,ce.loc,ce.old,ce.cell,ce.pin,ce.fs⟩;exact⟨_,H5,ce'.done sb,q (.ref D) H5 sm rp⟩
mutual
noncomputable def D.py:D->PyData
 | .non=>.none
 | .bl b=>.bool b
 | .int i=>.int i
 | .str x=>.str x
 | .dct _ _=>.dict []
 | .typ _=>.dict []
 | .dcf _ _=>.dict []
 | .dft _ _ _=>.dict []
 | .sn _=>.dict []
 | .obj _ _ _=>.dict []
 | .cls _=>.dict []
 | .xc _ _=>.dict []
 | .tup l=>.tuple (jJ l)
 | .lst l=>.list (jJ l)
noncomputable def jJ:List D->List PyData
 | []=>[]
 | d::l=>d.py::jJ l
end
inductive Rs(α:Type) where
 | ok (a:α) (l:List Prop)
 | st
def aH:List Prop->Prop
 | []=>True
 | p::l=>p/\aH l
def Rs.bnd{α β:Type}(r:Rs α)(f:α->Rs β):Rs β :=
 match r with
 | .st=>.st
 | .ok a l=>match f a with
  | .st=>.st
  | .ok b m=>.ok b (l++m)
def Ss{α:Type}:Option α->Rs α
 | some a=>.ok a []
 | none=>.st
def gd(b:Bool):List Prop->List Prop
 | []=>[]
 | m=>[b=true->aH m]
abbrev R1:=Rs (D×Nat)
def mk(d:D)(k:Nat):R1:=.ok (d,kn d k) []
structure Fx where
 fn:Str->Option (List D->Rs D)
 con:Str->Option D
 blt:Str->Option (List D->R1)
 itr:Str->Option (List D->Nat->R1)
 mth:Str->Option (D->List D->R1)
 mtt:Str->Option (List D->List D->Nat->Rs (List D))
 slf:D->Option Int->Option Int->R1:=λ_ _ _=>.st
 fld:Str->Str->Bool:=λ_ _=>false
 omt:Str->Str->Option (List D->Rs D):=λ_ _=>none
def GC:Const->Option D
 | .none=>some .non
 | .bool b=>some (.bl b)
 | .int i=>some (.int i)
 | .str x=>some (.str x)
 | _=>none
def lB:Nat:=2 ^ 9000
def cP(a b:Int):Prop:=a.natAbs<2 ^ 64\/b.natAbs<2 ^ 64\/(a.natAbs<lB/\b.natAbs<lB)\/(Builtin.Int.intBits a<=2 ^ 22/\Builtin.Int.intBits b<=2 ^ 22)
def uE(b:Int):Prop:=b≠0/\b.natAbs<lB
def zg(a b:Int):Prop:=0<=b/\b<=1000/\a.natAbs<2 ^ 64
def bx:Nat:=40000
noncomputable def EK(op:Operator)(a b:Int):R1 :=
 match op with
 | .Add=>.ok (.int (a+b),0) []
 | .Sub=>.ok (.int (a-b),0) []
 | .Mult=>.ok (.int (a*b),0) [cP a b]
 | .FloorDiv=>.ok (.int (a.fdiv b),0) [uE b]
 | .Mod=>.ok (.int (a.fmod b),0) [b≠0]
 | .Pow=>.ok (.int (a ^ b.toNat),0) [zg a b]
 | _=>.st
def Go:Operator->Bool
 | .Add=>true
 | _=>false
noncomputable def sx(op:Operator)(x y:D)(k j:Nat):R1 :=
 match x,y with
 | .int a,.int b=>EK op a b
 | .str a,.str b=>if Go op=true then .ok (.str (a++b),0) [a.length+b.length<=bx]else .st
 | _,_=>.st
def AK(op:UnaryOp)(x:D):Option D :=
 match op,x with
 | .USub,.int a=>some (.int (-a))
 | .Not,.bl b=>some (.bl (!b))
 | _,_=>none
def fL(x y:D):Bool:=SeqAt.shaped x.py&&SeqAt.shaped y.py
def gT(x y:D):Bool:=PyData.eqv x.py y.py
def eI:List D->Option (List Int)
 | []=>some []
 | .int i::l=>(eI l).map (i :: ·)
 | _::_=>none
def rS(x:D)(l:List D):Rs Bool:=.ok (l.any λy=>gT y x) [fL (.tup l) x=true]
def D.isNon:D->Bool
 | .non=>true
 | _=>false
def g8:D->Option (List D)
 | .tup l=>some l
 | .lst l=>some l
 | _=>none
noncomputable def iF(op:CmpOp)(a b:Int):Option Bool :=
 match op with
 | .Lt=>some (decide (a<b))
 | .LtE=>some (decide (a<=b))
 | .Gt=>some (decide (b<a))
 | .GtE=>some (decide (b<=a))
 | _=>none
def zj(op:CmpOp)(x y:D):Option Bool :=
 match x,y with
 | .int a,.int b=>iF op a b
 | _,_=>none
def Rs.nt:Rs Bool->Rs Bool
 | .ok b l=>.ok (!b) l
 | .st=>.st
def zG:D->Option av
 | .int i=>some (.inl i)
 | .str x=>some (.inr x)
 | _=>none
def aO(ks:List av)(k:av):Bool:=ks.any λj=>decide (j=k)
def dv(ks:List av)(k:av):List av:=cond (aO ks k) ks (ks++[k])
def cQ{α:Type}(ks:List av)(ds:List α)(k:av)(d:α):List α:=cond (aO ks k) (List.zipWith (λj e=>if j=k then d else e) ks ds) (ds++[d])
noncomputable def Gq(x y:D):Rs Bool :=
 match y with
 | .tup l=>rS x l
 | .lst l=>rS x l
 | .dct _ _=>.st
 | .dft _ ks _=>(match zG x with|some k=>.ok (aO ks k) []|none=>.st)
 | .str b=>(match x with | .str a=>.ok (Txt.contains b a) []|_=>.st)
 | _=>.st
noncomputable def gL(op:CmpOp)(x y:D):Rs Bool :=
 match op with
 | .Eq=>.ok (gT x y) [fL x y=true]
 | .NotEq=>.ok (!gT x y) [fL x y=true]
 | .In=>Gq x y
 | .NotIn=>(Gq x y).nt
 | .Is=>(match y with | .non=>.ok x.isNon []|_=>.st)
 | .IsNot=>(match y with | .non=>.ok (!x.isNon) []|_=>.st)
 | op=>Ss (zj op x y)
noncomputable def yT(x:Str):Option String :=
 if x = "int" then some "int" else if x = "bool" then some "bool" else if x = "str" then some "str" else if x = "tuple" then some "tuple" else if x = "list" then some "list" else if x = "ValueError" then some "ValueError" else none
def bF:List D->Option (List Bool)
 | []=>some []
 | .bl i::l=>(bF l).map (i :: ·)
 | _::_=>none
noncomputable def i9:List Str:=["len", "tuple", "list", "abs", "all", "sum", "isinstance", "set", "int", "bool", "str", "range", "zip", "enumerate", "any", "sorted", "min", "max", "reversed", "ValueError"]
def ln:Expr->Bool
 | .Tuple .. => true
 | _=>false
def gI(e tg:Expr):Bool :=
 match e with
 | .Call (.Name f _) _ _ _=>if f = "enumerate" \/ f = "zip" then ln tg else true
 | _=>true
def sgs(x:Str):List D:=x.cps.toList.map λc=>.str ⟨#[c]⟩
def items:D->Option (List D)
 | .lst l=>some l
 | .tup l=>some l
 | .str x=>if (x.cps.all λc=>decide (c<128))=true then some (sgs x)else none
 | _=>none
def bK(U:ag)(x:Str)(y:D×Bool):ag:=λz=>if z=x then some y else U z
def dO(sc:Scope)(x:Str):Bool:=sc.names.lookup x==some .local || sc.names.lookup x==some .cell
noncomputable def ba(sc:Scope):List Expr->List D->ag->Option ag
 | [],[],U=>some U
 | .Name x _::es,d::ds,U=>if dO sc x=true then ba sc es ds (bK U x (d,false))else none
 | _,_,_=>none
noncomputable def dk(sc:Scope)(tg:Expr)(d:D)(U:ag):Option ag :=
 match tg with
 | .Name x _=>if dO sc x=true then some (bK U x (d,false))else none
 | .Tuple es _ _=>(match d with | .tup ds=>ba sc es ds U|_=>none)
 | _=>none
noncomputable def ni(sc scope:Scope):Bool :=
 decide (scope.kind=.function)&&scope.names.all (λy=>decide (y.2 ≠ .local) || decide (scope.names.lookup y.1=some .local)) &&
 scope.names.all (λy=>decide (y.2 ≠ .free) || dO sc y.1&&decide (sc.names.lookup y.1=some .cell) || decide (sc.names.lookup y.1=some .free))&&decide ((scope.names.map (·.1)).Nodup)
noncomputable def kC(step:D->Rs (Option (D×Nat))):List D->Rs (List D×Nat)
 | []=>.ok ([],0) []
 | d::l=>(step d).bnd λr=>(kC step l).bnd λq=>match r with
  | none=>.ok q []
  | some p=>.ok (p.1::q.1,kj p.2 q.2) []
def v0(x:D)(i:Int)(k:Nat):R1 :=
 match g8 x with
 | some l=>(match atI l i with|some d=>mk d k|none=>.st)
 | none=>.st
def MZ(p:D×Nat)(f:Int->R1):R1 :=
 match p.1 with
 | .int j=>f j
 | _=>.st
def Gi:List av->List (List (List Int))->av->Option (List (List Int))
 | j::ks,l::ls,k=>if j=k then some l else Gi ks ls k
 | _,_,_=>none
def eG:List av->List (List Int)->av->Option (List Int)
 | j::ks,l::ls,k=>if j=k then some l else eG ks ls k
 | _,_,_=>none
noncomputable def rE(p q:D×Nat):R1 :=
 match p.1 with
 | .dct _ _=>.st
 | .dft _ ks ts=>(match zG q.1 with|some k=>(match eG ks ts k with|some ns=>.ok (.tup (ns.map D.int),0) []|none=>.st)|none=>.st)
 | .dcf ks ls=>(match zG q.1 with|some k=>(match Gi ks ls k with|some l=>.ok (.lst (l.map λns=>.tup (ns.map D.int)),1) []|none=>.st)|none=>.st)
 | x=>MZ q λj=>v0 x j p.2
def mZ(l:List D)(lo hi:Option Int):List D:=(l.drop (HT.sIx l.length 0 lo)).take (HT.sIx l.length l.length hi-HT.sIx l.length 0 lo)
def NG(l:List D)(lo hi:Option Int):Bool:=!(decide (HT.sIx l.length 0 lo=0)&&decide (HT.sIx l.length l.length hi=l.length))
noncomputable def vn(x:D)(lo hi:Option Int):R1 :=
 match x with
 | .tup l=>.ok (.tup (mZ l lo hi),0) [aK l=true,NG l lo hi=true]
 | .lst l=>.ok (.lst (mZ l lo hi),0) [aK l=true]
 | _=>.st
def l9(x:Str):Bool:=decide ((x==("__debug__" : Str))=false)&&decide ((x==("__classdict__" : Str))=false)
def Am(b:Bool)(r:Rs Bool):Rs Bool :=
 match r with
 | .ok c m=>.ok (b&&c) (gd b m)
 | .st=>match b with|false=>.ok false []|true=>.st
def F6(b:Bool)(r:Rs Bool):Rs Bool :=
 match r with
 | .ok c m=>.ok (b || c) (gd (!b) m)
 | .st=>match b with|true=>.ok true []|false=>.st
mutual
noncomputable def rR(b:Bool):D->D->D
 | .int x,.int y=>.int (cond b x y)
 | .bl x,.bl y=>.bl (cond b x y)
 | .tup x,.tup y=>if x.length=y.length then .tup (mO b x y)else cond b (.tup x) (.tup y)
 | x,y=>cond b x y
noncomputable def mO(b:Bool):List D->List D->List D
 | x::l,y::m=>rR b x y::mO b l m
 | l,m=>cond b l m
end
def B3(t:Bool)(k j:Nat):Nat:=if k=j then k else cond t k j
noncomputable def Gr(b:Bool)(r s:R1):R1 :=
 match r with
 | .st=>(match b with|true=>.st|false=>s)
 | .ok p m=>match s with
  | .st=>(match b with|true=>.ok p m|false=>.st)
  | .ok q n=>.ok (rR b p.1 q.1,B3 b p.2 q.2) (gd b m++gd (!b) n)
noncomputable def uz(O:Fx)(x:Str)(sc:Scope)(U:ag):R1 :=
 if l9 x=true then
  (if sc.names.lookup x=some .globalImplicit then(match O.con x with|some d=>.ok (d,0) []|none=>match yT x with|some T=>.ok (.typ T,0) []|none=>.st)
  else match U x with
   | some p=>mk p.1 (cond p.2 2 1)
   | none=>.st)
 else .st
noncomputable def lU(O:Fx)(f:Str)(it:Bool)(ds:List D)(k:Nat):R1 :=
 match O.fn f with
 | some F=>(F ds).bnd λd=>.ok (d,0) []
 | none=>match (if it=true then O.itr f else none)with
  | some B=>B ds k
  | none=>match O.blt f with
   | some B=>B ds
   | none=>.st
def qY{α:Type}(p:D×Nat)(f:Bool->Rs α):Rs α :=
 match p.1 with
 | .bl j=>f j
 | _=>.st
def oG:Fv->D
 | .inl i=>.int i
 | .inr s=>.str s
theorem LA{P:bi}:∀{i:Fv},ae K H P (oG i) v->v=fw i
 | .inl i,h=>by unfold oG at h;rw[ae]at h;exact h
 | .inr i,h=>by unfold oG at h;rw[ae]at h;exact h
theorem Ik{P:bi}:∀{i:Fv},ae K H P (oG i) (fw i)
 | .inl i=>by unfold oG;rw[ae];rfl
 | .inr i=>by unfold oG;rw[ae];rfl
noncomputable def Nj(O:Fx)(x:D)(f:Str):R1 :=
 match x with
 | .obj n ns ds=>if O.fld n f=true then(match (ns.zip ds).lookup f with|some d=>.ok (d,0) []|none=>.st)else .st
 | .xc _ (some (_,[(g,i)]))=>if f=g then .ok (oG i,0) []else .st
 | _=>.st
def de:Expr->Bool
 | .Call (.Name _ _) [] [] _=>false
 | _=>true
noncomputable def zq(O:Fx)(a:Expr)(m:Str)(x:D)(ds:List D):R1 :=
 match x with
 | .obj n ns es=>if ns.contains m=false/\de a=true/\ds.length<29 then(match O.omt n m with|some F=>(F (.obj n ns es::ds)).bnd λd=>.ok (d,0) []|none=>.st)else .st
 | x=>if de a=true then(match O.mth m with|some M=>M x ds|none=>.st)else .st
noncomputable def NJ(op op2:CmpOp)(x y z:D):R1 :=
 match x,y,z with
 | .int a,.int b,.int c=>(match iF op a b,iF op2 b c with|some r,some r2=>.ok (.bl (r&&r2),0) []|_,_=>.st)
 | _,_,_=>.st
mutual
noncomputable def aB(O:Fx):Expr->Bool->Scope->ag->R1
  | .Constant c _ _,_,_,_=>(match GC c with|some d=>.ok (d,0) []|none=>.st)
  | .Name x _,_,sc,U=>uz O x sc U
  | .BinOp a op b _,_,sc,U=>(aB O a false sc U).bnd λp=>(aB O b false sc U).bnd λq=>sx op p.1 q.1 p.2 q.2
  | .UnaryOp op a _,_,sc,U=>(aB O a false sc U).bnd λp=>(match AK op p.1 with|some d=>.ok (d,0) []|none=>.st)
  | .BoolOp op es _,_,sc,U=>if es.isEmpty=true then .st else(fb O op es sc U).bnd λb=>.ok (.bl b,0) []
  | .Compare a [op] [b] _,_,sc,U=>(aB O a false sc U).bnd λp=>(aB O b false sc U).bnd λq=>(gL op p.1 q.1).bnd λr=>.ok (.bl r,0) []
  | .Compare a [op,op2] [b,c] _,_,sc,U=>(aB O a false sc U).bnd λp=>(aB O b false sc U).bnd λq=>(aB O c false sc U).bnd λt=>NJ op op2 p.1 q.1 t.1
  | .IfExp c a b _,_,sc,U=>(aB O c false sc U).bnd λp=>qY p λt=>Gr t (aB O a false sc U) (aB O b false sc U)
  | .Tuple es _ _,_,sc,U=>(cB O es sc U).bnd λp=>if p.1.length<=bx then mk (.tup p.1) p.2 else .st
  | .List es _,_,sc,U=>(cB O es sc U).bnd λp=>if p.1.length<=bx/\p.2<=1 then .ok (.lst p.1,p.2) []else .st
  | .Subscript a (.Slice lo hi none _) _,_,sc,U=>(aB O a false sc U).bnd λp=>(yx O lo sc U).bnd λl=>(yx O hi sc U).bnd λh=>O.slf p.1 l h
  | .Subscript a i _,_,sc,U=>(aB O a false sc U).bnd λp=>(aB O i false sc U).bnd λq=>rE p q
  | .Call (.Name f _) args [] _,it,sc,U =>
    if sc.names.lookup f=some .globalImplicit then(cB O args sc U).bnd λp=>lU O f it p.1 p.2
    else .st
  | .Attribute (.Name x _) f _,_,sc,U=>(uz O x sc U).bnd λp=>Nj O p.1 f
  | .Call (.Attribute a m ap) args [] cp,_,sc,U=>if (ap.endLine==cp.line)=true then(aB O a false sc U).bnd λp=>(cB O args sc U).bnd λq=>zq O a m p.1 q.1 else .st
  | .ListComp elt [⟨tg,iter,ifs,0⟩] scope _,_,sc,U =>
    if ni sc scope=true then(aB O iter true sc U).bnd λp=>(match items p.1 with
      | some ds=>if gI iter tg=true then
          (Rs.ok () [ds.length<=bx,aK ds=true\/p.2<=1]).bnd λ_=>(kC (λd=>match dk scope tg d (flt scope U)with
            | none=>.st
            | some U'=>(fb O .And ifs scope U').bnd λb=>cond b ((aB O elt false scope U').bnd λr=>.ok (some r) []) (.ok none [])) ds).bnd λq=>if q.2<=1 then .ok (.lst q.1,q.2) []else .st
        else .st
      | none=>.st)
    else .st
  | _,_,_,_=>.st
noncomputable def cB(O:Fx):List Expr->Scope->ag->Rs (List D×Nat)
 | [],_,_=>.ok ([],0) []
 | e::es,sc,U=>(aB O e false sc U).bnd λp=>(cB O es sc U).bnd λq=>.ok (p.1::q.1,kj p.2 q.2) []
noncomputable def fb(O:Fx):BoolOp->List Expr->Scope->ag->Rs Bool
 | .And,[],_,_=>.ok true []
 | .Or,[],_,_=>.ok false []
 | .And,e::es,sc,U=>(aB O e false sc U).bnd λp=>qY p λb=>Am b (fb O .And es sc U)
 | .Or,e::es,sc,U=>(aB O e false sc U).bnd λp=>qY p λb=>F6 b (fb O .Or es sc U)
noncomputable def yx(O:Fx):Option Expr->Scope->ag->Rs (Option Int)
 | none,_,_=>.ok none []
 | some e,sc,U=>(aB O e false sc U).bnd λp=>(match p.1 with | .int i=>.ok (some i) []|_=>.st)
end
theorem yz{O:Fx}{op:BoolOp}:aB O (.BoolOp op es p) it sc U=(if es.isEmpty=true then .st else(fb O op es sc U).bnd λb=>.ok (.bl b,0) []):=rfl
theorem lS{O:Fx}{p:Pos}:aB O (.Call (.Name f p) args [] q) it sc U=(if sc.names.lookup f=some .globalImplicit then(cB O args sc U).bnd λp=>lU O f it p.1 p.2 else .st):=rfl
theorem pj{O:Fx}:aB O (.Call (.Attribute a m ap) args [] cp) it sc U=(if (ap.endLine==cp.line)=true then(aB O a false sc U).bnd λp=>(cB O args sc U).bnd λq=>zq O a m p.1 q.1 else .st):=rfl
theorem yy{O:Fx}{q:Pos}:aB O (.ListComp elt [⟨tg,iter,ifs,0⟩] scope q) it sc U=(if ni sc scope=true then(aB O iter true sc U).bnd λp=>(match items p.1 with
      | some ds=>if gI iter tg=true then
          (Rs.ok () [ds.length<=bx,aK ds=true\/p.2<=1]).bnd λ_=>(kC (λd=>match dk scope tg d (flt scope U)with
            | none=>.st
            | some U'=>(fb O .And ifs scope U').bnd λb=>cond b ((aB O elt false scope U').bnd λr=>.ok (some r) []) (.ok none [])) ds).bnd λq=>if q.2<=1 then .ok (.lst q.1,q.2) []else .st
        else .st
      | none=>.st)
    else .st):=rfl
variable{O:Fx}{F:List D->Rs D}{B:List D->R1}{sf:D->Option Int->Option Int->R1}
inductive Fl where
 | nx (U:ag)|rt (d:D)|bk (U:ag)|ct (U:ag)
def qp:Expr->Bool
 | .ListComp .. => true
 | .SetComp .. => true
 | .DictComp .. => true
 | _=>false
def yb(f:ag->Rs Fl):Fl->Rs Fl
 | .nx U=>f U
 | .ct U=>f U
 | .bk U=>.ok (.nx U) []
 | .rt d=>.ok (.rt d) []
noncomputable def eL(bind:D->ag->Option ag)(body:ag->Rs Fl):List D->ag->Rs Fl
 | [],U=>.ok (.nx U) []
 | d::l,U=>match bind d U with
  | none=>.st
  | some U1=>(body U1).bnd (yb (eL bind body l))
def su(x:Str)(U:ag):ag:=λy=>if y=x then(U y).map λp=>(p.1,false)else U y
def mY(x:Str)(U:ag):ag:=λy=>if y=x then(U y).map λp=>(p.1,p.2&&p.1.lless)else U y
def pz:List Expr->ag->ag
 | [],U=>U
 | .Name x _::es,U=>pz es (mY x U)
 | .Subscript (.Name x _) _ _::es,U=>pz es (mY x U)
 | _::es,U=>pz es U
def cR(e:Expr)(U:ag):ag :=
 match e with
 | .Name x _=>su x U
 | .Subscript (.Name x _) _ _=>su x U
 | .Call _ args _ _=>pz args U
 | _=>U
noncomputable def DG(sc:Scope)(x:Str)(p:D×Nat)(U:ag):Rs Fl :=
 if dO sc x=true then
  match p.2 with
  | 0=>.ok (.nx (bK U x (p.1,true))) []
  | 1=>.ok (.nx (bK U x (p.1,false))) []
  | _=>.st
 else .st
def DR(U:ag)(x:Str)(f:List D->Rs Fl):Rs Fl :=
 match U x with
 | some (.lst l,true)=>if l9 x=true then f l else .st
 | _=>.st
def wy(sc:Scope)(es:List Expr)(e:Expr):Bool :=
 match es,e with
 | [.Name x _,.Name _ _],.Tuple [_,_] _ _=>sc.names.lookup x==some .cell
 | _,_=>false
def A5(sc:Scope)(es:List Expr)(e:Expr):Bool:=ln e && !wy sc es e
noncomputable def DS(sc:Scope)(es:List Expr)(p:D×Nat):Bool :=
 match es,p.1,p.2 with
 | [.Name x _,.Name y _],.tup [d1,d2],0=>d1.lless && !d2.lless && !decide (x=y)&&dO sc x&&dO sc y
 | _,_,_=>false
def LD(es:List Expr)(p:D×Nat)(U:ag):ag :=
 match es,p.1 with
 | [.Name x _,.Name y _],.tup [d1,d2]=>bK (bK U y (d2,true)) x (d1,false)
 | _,_=>U
noncomputable def zP(O:Fx)(tgs:List Expr)(e:Expr)(sc:Scope)(U:ag):Rs Fl :=
  match tgs with
  | [.Name x _]=>(aB O e false sc U).bnd λp=>DG sc x p U
  | [.Tuple es _ _]=>if A5 sc es e=true then .st else(aB O e false sc U).bnd λp=>if DS sc es p=true then .ok (.nx (LD es p U)) []else(match g8 p.1 with
      | some ds=>if aK ds=true\/p.2<=1 then(match ba sc es ds U with|some U'=>.ok (.nx U') []|none=>.st)else .st
      | none=>.st)
  | _=>.st
noncomputable def zO(O:Fx)(e:Expr)(sc:Scope)(U:ag):Rs Fl :=
  match e with
  | .Call (.Attribute (.Name x _) m ap) args [] cp=>if (ap.endLine==cp.line)=true then(cB O args sc U).bnd λp=>(match O.mtt m with
      | some M=>DR U x λl=>(M l p.1 p.2).bnd λl'=>.ok (.nx (bK U x (.lst l',true))) []
      | none=>.st)else .st
  | .Call (.Name f p) args ks cp=>(aB O (.Call (.Name f p) args ks cp) false sc U).bnd λ_=>.ok (.nx U) []
  | _=>.st
def qH(U:ag):ag:=λy=>(U y).map λp=>(p.1,false)
def Gc:Expr->Bool
 | .ListComp elt _ _ _=>qp elt
 | _=>false
def Pc:Expr->Bool
 | .Tuple es _ _=>es.any Gc
 | e=>Gc e
def DD(p:D×Nat):Rs Fl:=if p.2=0\/p.2=2 then .ok (.rt p.1) []else .st
mutual
noncomputable def jU(O:Fx):Stmt->Scope->ag->Rs Fl
  | .Return (some e) _,sc,U=>(aB O e false sc U).bnd DD
  | .Return none _,_,_=>.ok (.rt .non) []
  | .Pass _,_,U=>.ok (.nx U) []
  | .Break _,_,U=>.ok (.bk U) []
  | .Continue _,_,U=>.ok (.ct U) []
  | .Assign tgs e _,sc,U=>zP O tgs e sc U
  | .Expr e _,sc,U=>zO O e sc U
  | .If c a b _,sc,U=>(aB O c false sc U).bnd λp=>qY p λt=>cond t (aL O a sc U) (aL O b sc U)
  | .For tg it body els _,sc,U=>if els.isEmpty=true then(aB O it true sc (cR it U)).bnd λp=>(match items p.1 with
      | some ds=>if p.2<=1/\gI it tg=true then eL (dk sc tg) (aL O body sc) ds (cR it U)else .st
      | none=>.st)
    else .st
  | _,_,_=>.st
noncomputable def aL(O:Fx):List Stmt->Scope->ag->Rs Fl
 | [],_,U=>.ok (.nx U) []
 | s::ss,sc,U=>(jU O s sc U).bnd fun
  | .nx U'=>aL O ss sc U'
  | f=>.ok f []
end
theorem yw{it:Expr}{els:List Stmt}:jU O (.For tg it body els q) sc U=(if els.isEmpty=true then(aB O it true sc (cR it U)).bnd λp=>(match items p.1 with
      | some ds=>if p.2<=1/\gI it tg=true then eL (dk sc tg) (aL O body sc) ds (cR it U)else .st
      | none=>.st)
    else .st):=rfl
def bB:List Str->List D->ag
 | p::ps,d::ds=>λz=>if z=p then some (d,false)else bB ps ds z
 | _,_=>λ_=>none
noncomputable def bQ(O:Fx)(sc:Scope)(ps:List Str)(body:List Stmt)(ds:List D):Rs D :=
 if ds.length=ps.length then(aL O body sc (bB ps ds)).bnd fun
  | .rt d=>.ok d []
  | .nx _=>.ok .non []
  | _=>.st
 else .st
def ER(ds:List D):R1 :=
 match ds with
 | [.sn n]=>.ok (.int n,0) []
 | [x]=>(match g8 x with|some l=>.ok (.int l.length,0) []|none=>.st)
 | _=>.st
def wF(ds:List D):R1 :=
 match ds with
 | [x]=>(match g8 x with|some l=>.ok (.tup l,0) [aK l=true]|none=>.st)
 | _=>.st
def EW(ds:List D):R1 :=
 match ds with
 | [.int i]=>.ok (.int (if i<0 then -i else i),0) []
 | _=>.st
def kO(ds:List D):R1 :=
 match ds with
 | [.lst l]=>(match bF l with|some bs=>.ok (.bl (bs.all id),0) []|none=>.st)
 | _=>.st
def EL(ds:List D):R1 :=
 match ds with
 | [.lst l]=>(match eI l with|some ns=>.ok (.int ns.sum,0) []|none=>.st)
 | _=>.st
def EU(ds:List D):R1 :=
 match ds with
 | [.int i]=>.ok (.int i,0) []
 | [.bl b]=>.ok (.int (cond b 1 0),0) []
 | _=>.st
def sy(ds:List D):R1 :=
 match ds with
 | [.int i]=>.ok (.str (toString i),0) [i.natAbs<2 ^ 1900]
 | _=>.st
noncomputable def mU(ds:List D)(_:Nat):R1 :=
 match ds with
 | [.int j]=>.ok (.lst ((List.range j.toNat).map λi=>.int (i:Nat)),0) [-4611686018427387904<=j,j<=bx]
 | [.int i,.int j]=>.ok (.lst ((List.range (j-i).toNat).map λm=>.int (i+(m:Nat))),0) [-4611686018427387904<=i,i<=4611686018427387000,-4611686018427387904<=j,j-i<=800]
 | _=>.st
def zS:Nat->List D->List D
 | _,[]=>[]
 | n,x::xs=>.tup [.int (n:Nat),x]::zS (n+1) xs
theorem yB:∀(l:List D) (n:Nat),zS n l=l.mapIdx λi x=>.tup [.int ((n+i:Nat):Int),x]
 | [],_=>rfl
 | x::l,n=>by
  rw[zS,yB l (n+1),List.mapIdx_cons];simp only[Nat.add_zero];congr 1;congr 1;funext i y;rw[show n+1+i=n+(i+1) by omega]
def zK(ds:List D)(k:Nat):R1 :=
 match ds with
 | [.lst a]=>.ok (.lst (zS 0 a),k) [aK a=true]
 | _=>.st
noncomputable def zJ(ds:List D)(k:Nat):R1 :=
 match ds with
 | [x,y]=>(match g8 x,g8 y with|some a,some b=>.ok (.lst (List.zipWith (λx y=>.tup [x,y]) a b),k) [aK a=true,aK b=true]|_,_=>.st)
 | _=>.st
def rV(l ds:List D)(k:Nat):Rs (List D) :=
 match ds with
 | [d]=>.ok (l++[d]) [d.lless=true\/k=0,l.length<bx]
 | _=>.st
def rT(l ds:List D)(k:Nat):Rs (List D) :=
 match ds,k with
 | [.lst d],0=>.ok (l++d) [l.length+d.length<=bx]
 | _,_=>.st
noncomputable def Tb(l:List (Str×(List D->Rs D)))(c:List (Str×D))(b:List (Str×(List D->R1)))(i:List (Str×(List D->Nat->R1)))(m:List (Str×(D->List D->R1)))(t:List (Str×(List D->List D->Nat->Rs (List D))))(sf:D->Option Int->Option Int->R1):Fx :=
 { slf:=sf,fn:=λg=>l.lookup g,con:=λx=>c.lookup x,blt:=λx=>b.lookup x,itr:=λx=>i.lookup x,mth:=λx=>m.lookup x,mtt:=λx=>t.lookup x }
noncomputable def ue(l:List (Str×(List D->Rs D)))(c:List (Str×D))(b:List (Str×(List D->R1)))(i:List (Str×(List D->Nat->R1)))(m:List (Str×(D->List D->R1)))(t:List (Str×(List D->List D->Nat->Rs (List D))))(sf:D->Option Int->Option Int->R1)(fl:List (Str×List Str))(om:List (Str×List (Str×(List D->Rs D)))):Fx :=
  { slf:=sf,fn:=λg=>l.lookup g,con:=λx=>c.lookup x,blt:=λx=>b.lookup x,itr:=λx=>i.lookup x,mth:=λx=>m.lookup x,mtt:=λx=>t.lookup x
    fld:=λn f=>match fl.lookup n with|some fs=>fs.contains f|none=>false
    omt:=λn x=>match om.lookup n with|some ms=>ms.lookup x|none=>none }
variable{fl:Fl}
variable{X:Cx}
theorem nN{k:Int}(h:k.natAbs<2 ^ n):Builtin.Int.intBits k<=n:=by
 unfold Builtin.Int.intBits;split
 ·exact Tc _
 ·rename_i h0;have:k.natAbs.log2<n:=by
   rcases UJ k.natAbs with h1|hp
   ·exact absurd (by simpa using h1) (by simpa using h0)
   ·exact(VA (TR hp)).mpr h
  omega
theorem en:∀{l m:List Prop},aH (l++m)↔aH l/\aH m
 | [],m=>by simp[aH]
 | p::l,m=>by
  show p/\aH (l++m)↔(p/\aH l)/\aH m;rw[en,and_assoc]
theorem aS{r:Rs α}{f:α->Rs β}{b:β}{l:List Prop}(h:r.bnd f=.ok b l)(hp:aH l):∃a l1 l2,r=.ok a l1/\aH l1/\f a=.ok b l2/\aH l2:=by
 unfold Rs.bnd at h;split at h
 ·cases h
 ·rename_i a l1;split at h
  ·cases h
  ·rename_i b' m e;cases h;obtain⟨h1,h2⟩:=en.mp hp;exact⟨a,l1,m,rfl,h1,e,h2⟩
theorem qu{m:List Prop}(h:aH (gd b m))(hb:b=true):aH m:=by
 cases m with
 | nil=>exact True.intro
 | cons p l=>exact h.1 hb
theorem Pi{a b:Int}(h:Builtin.Int.intBits a<=2 ^ 22)(g:Builtin.Int.intBits b<=2 ^ 22):IntMulOk a b:=by
 have h':Builtin.Int.intTooBig (Builtin.Int.intBits a+Builtin.Int.intBits b)=false:=by
  unfold Builtin.Int.intTooBig bitsLine;exact Th (by omega)
 unfold IntMulOk;rw[h'];simp
theorem DV{a b:Int}(h:cP a b):IntMulOk a b:=by
 rcases h with h|h|⟨h,g⟩|⟨h,g⟩
 ·exact .of_left (nN h)
 ·exact .of_right (nN h)
 ·exact IntMulOk.of_bits (SZ (nN h) (by decide)) (SZ (nN g) (by decide))
 ·exact Pi h g
theorem IP:eV X (binaryOp .Mult) (rI (λi j=>cP i j) λi j=>.int (i*j)):=F7 λ_ _ _ _ _ _ _ hc q=>mul_int q (DV hc)
theorem DT:eV X (binaryOp .FloorDiv) (rI (λ_ j=>j≠0/\j.natAbs<lB) λi j=>.int (i.fdiv j)):=F7 λi j _ _ _ _ _ hc q=>floordiv_int hc.1 q (.inl (PyProof.noPylong_of_log2 (by
 rcases UJ j.natAbs with h1|hp
 ·exact absurd (by simpa using h1) hc.1
 ·exact(VA (TR hp)).mpr hc.2)))
mutual
theorem ee{dl:List (Addr×Obj)}{Z:L2.St}{H:Hp}{s:Shared}(I:aj X dl Z H s){P:bi}:∀{d:D} {v:V} {u:Value},d.py.canLay0=true->ae X.K H P d v->aW v u->∃as,Reads s.heap u d.py as
 | .non,v,u,_,h,r=>by
  rw[ae]at h;subst h;cases (show u=Value.none from r);rw[D.py];exact⟨_,.none⟩
 | .bl b,v,u,_,h,r=>by rw[ae]at h;subst h;cases (show u=Value.bool b from r);rw[D.py];exact⟨_,.bool b⟩
 | .int i,v,u,_,h,r=>by rw[ae]at h;subst h;obtain⟨t,e⟩:=(show ∃t,u=Value.int i t from r);subst e;rw[D.py];exact⟨_,.int i t⟩
 | .str x,v,u,_,h,r=>by rw[ae]at h;subst h;obtain⟨t,e⟩:=(show ∃t,u=Value.str x t from r);subst e;rw[D.py];exact⟨_,.str x t⟩
 | .dct _ _,v,u,c,h,r=>by rw[D.py]at c;simp[PyData.canLay0]at c
 | .typ _,v,u,c,h,r=>by rw[D.py]at c;simp[PyData.canLay0]at c
 | .dcf _ _,v,u,c,h,r=>by rw[D.py]at c;simp[PyData.canLay0]at c
 | .dft _ _ _,v,u,c,h,r=>by rw[D.py]at c;simp[PyData.canLay0]at c
 | .sn _,v,u,c,h,r=>by rw[D.py]at c;simp[PyData.canLay0]at c
 | .obj _ _ _,v,u,c,h,r=>by rw[D.py]at c;simp[PyData.canLay0]at c
 | .cls _,v,u,c,h,r=>by rw[D.py]at c;simp[PyData.canLay0]at c
 | .xc _ _,v,u,c,h,r=>by rw[D.py]at c;simp[PyData.canLay0]at c
 | .tup l,v,u,c,h,r=>by
  rw[ae]at h;obtain⟨a,vs,rfl,h,q⟩:=h;cases (show u=Value.ref a from r);obtain⟨its,rv,ht,_⟩:=I.tuple h;obtain⟨o,e1,e2,n,e3⟩:=ht;rw[D.py]at c⊢;obtain⟨as,ra⟩:=mE I (by simpa [PyData.canLay0]using c) q rv;exact⟨as,.tuple e1 e2 e3 (by simpa using ra)⟩
 | .lst l,v,u,c,h,r=>by
  rw[ae]at h;obtain⟨a,vs,b,rfl,h,_,q⟩:=h;cases (show u=Value.ref a from r);have hs:cF X.K H a vs:=h.sq;obtain⟨its,rv,ht,_⟩:=I.list hs;obtain⟨o,n,e1,e2,_,e3⟩:=ht;rw[D.py]at c⊢;obtain⟨as,ra⟩:=mE I (by simpa [PyData.canLay0]using c) q rv;exact⟨_,.list e1 e2 e3 (by simpa using ra)⟩
theorem mE{dl:List (Addr×Obj)}{Z:L2.St}{H:Hp}{s:Shared}(I:aj X dl Z H s){P:bi}:∀{l:List D} {vs:List V} {us:List Value},PyData.canLayAll0 (jJ l)=true->ah X.K H P l vs->aP vs us->∃as,ReadsAll s.heap us (jJ l) as
 | [],vs,us,_,h,r=>by rw[ah]at h;subst h;cases r;rw[jJ];exact⟨_,.nil⟩
 | d::l,vs,us,c,h,r=>by
  rw[ah]at h;obtain⟨v,vr,rfl,h1,h2⟩:=h;cases r with
  | cons r1 r2 =>
   rw[jJ,PyData.canLayAll0,Tj]at c;obtain⟨as,ra⟩:=ee I c.1 h1 r1;obtain⟨bs,rb⟩:=mE I c.2 h2 r2;rw[jJ];exact⟨_,.cons ra rb⟩
end
noncomputable def GT(X:Cx)(f:Value->Value->Sem Value)(x y z:D)(k j l:Nat):Prop :=
 ∃r:R2,eV X f r/\∀ow H0 H2 v u (Q:VK),fX ow H0->ar H0 H2->ae X.K H2 (Kp ow H0 k) x v->ae X.K H2 (Kp ow H0 j) y u->(∀w H',ar H2 H'->ae X.K H' (Kp ow H0 l) z w->Q w H')->r v u H2 Q
theorem cf{p:Addr}{o:HO}(h:H p=none):ar H (aA H p o):=λb x e=>by rw[aq (aR e h)];exact e
theorem gJ:bx<=sizeLine:=by rw[TW];decide
theorem i5:bx<sizeLine:=by rw[TW];decide
theorem nM{f:Value->Value->Sem Value}{a b:Int}{g:Int->Int->Int}{C:Int->Int->Prop}(h:eV X f (rI C λi j=>.int (g i j)))(hc:C a b):GT X f (.int a) (.int b) (.int (g a b)) k j 0 :=
 ⟨_,h,λow H0 H2 v u Q o s rx ry q=>by
  rw[ae]at rx ry;subst rx ry;exact⟨a,b,rfl,rfl,hc,q _ _ (ar.refl _) (by rw[ae])⟩⟩
theorem vJ{f:Value->Value->Sem Value}{a b:Int}{g:Int->Int->Int}(h:eV X f (oy λi j=>.int (g i j))):GT X f (.int a) (.int b) (.int (g a b)) k j 0 :=
 ⟨_,h,λow H0 H2 v u Q o s rx ry q=>by
  rw[ae]at rx ry;subst rx ry;exact⟨a,b,rfl,rfl,q _ _ (ar.refl _) (by rw[ae])⟩⟩
theorem Ke{op:Operator}{a b:Int}{l:Nat}(h:EK op a b=.ok (z,l) o)(hp:aH o):GT X (binaryOp op) (.int a) (.int b) z k j l:=by
 unfold EK at h;split at h
 ·cases h;exact vJ L5
 ·cases h;exact vJ L1
 ·cases h;exact nM IP hp.1
 ·cases h;exact nM DT hp.1
 ·cases h;exact nM IQ hp.1
 ·cases h;have c:zg a b:=hp.1;exact nM L3 ⟨c.1,by have:=c.2.1;omega,c.2.2⟩
 ·cases h
theorem Ef{op:Operator}(h:Go op=true):op=.Add:=by cases op<;>first|rfl|cases h
theorem NN{op:Operator}{x:D}{l:Nat}(h:sx op x y k j=.ok (z,l) o)(hp:aH o):GT X (binaryOp op) x y z k j l:=by
 unfold sx at h;split at h
 ·exact Ke h hp
 ·rename_i a b;split at h
  ·rename_i c;cases h;cases Ef c;refine⟨_,zk,λow H0 H2 v u Q o s rx ry q=>?_⟩;rw[ae]at rx ry;subst rx ry;exact⟨a,b,rfl,rfl,SZ hp.1 gJ,q _ _ (ar.refl _) (by rw[ae])⟩
  ·cases h
 ·cases h
theorem mT:∀{l:List D} {ns:List Int},eI l=some ns->l=ns.map D.int
 | [],ns,h=>by rw[eI]at h;cases h;rfl
 | .int i::l,ns,h=>by
  rw[eI]at h;cases e:eI l with
  | none=>rw[e]at h;cases h
  | some m=>rw[e]at h;cases h;rw[mT e];rfl
 | .non::l,ns,h=>by rw[eI]at h<;>first|cases h|(intro z;intro e;cases e)
 | .bl _::l,ns,h=>by rw[eI]at h<;>first|cases h|(intro z;intro e;cases e)
 | .str _::l,ns,h=>by rw[eI]at h<;>first|cases h|(intro z;intro e;cases e)
 | .dct _ _::l,ns,h=>by rw[eI]at h<;>first|cases h|(intro z;intro e;cases e)
 | .typ _::l,ns,h=>by cases h
 | .dcf _ _::l,ns,h=>by cases h
 | .dft _ _ _::l,ns,h=>by cases h
 | .sn _::l,ns,h=>by cases h
 | .obj _ _ _::l,ns,h=>by cases h
 | .cls _::l,ns,h=>by cases h
 | .xc _ _::l,ns,h=>by cases h
 | .tup _::l,ns,h=>by rw[eI]at h<;>first|cases h|(intro z;intro e;cases e)
 | .lst _::l,ns,h=>by rw[eI]at h<;>first|cases h|(intro z;intro e;cases e)
theorem lV:∀{l:List D} {ns:List Bool},bF l=some ns->l=ns.map D.bl
 | [],ns,h=>by rw[bF]at h;cases h;rfl
 | .bl i::l,ns,h=>by
  rw[bF]at h;cases e:bF l with
  | none=>rw[e]at h;cases h
  | some m=>rw[e]at h;cases h;rw[lV e];rfl
 | .non::l,ns,h=>by rw[bF]at h<;>first|cases h|(intro z;intro e;cases e)
 | .int _::l,ns,h=>by rw[bF]at h<;>first|cases h|(intro z;intro e;cases e)
 | .str _::l,ns,h=>by rw[bF]at h<;>first|cases h|(intro z;intro e;cases e)
 | .dct _ _::l,ns,h=>by rw[bF]at h<;>first|cases h|(intro z;intro e;cases e)
 | .typ _::l,ns,h=>by cases h
 | .dcf _ _::l,ns,h=>by cases h
 | .dft _ _ _::l,ns,h=>by cases h
 | .sn _::l,ns,h=>by cases h
 | .obj _ _ _::l,ns,h=>by cases h
 | .cls _::l,ns,h=>by cases h
 | .xc _ _::l,ns,h=>by cases h
 | .tup _::l,ns,h=>by rw[bF]at h<;>first|cases h|(intro z;intro e;cases e)
 | .lst _::l,ns,h=>by rw[bF]at h<;>first|cases h|(intro z;intro e;cases e)
def kZ(X:Cx)(op:CmpOp)(x y:D)(r:Bool):Prop:=∀(P P':bi),eV X (compareOp op) (λv u H Q=>ae X.K H P x v/\ae X.K H P' y u/\Q (.bl r) H)
theorem nj{x:D}:∀{l:List D},((jJ l).any λy=>PyData.eqv y x.py)=l.any λy=>gT y x
 | []=>by rw[jJ];rfl
 | y::l=>by rw[jJ,U9,U9,nj];rfl
theorem nV{a b:Int}{g:Int->Int->Bool}(h:eV X (compareOp op) (oy λi j=>.bl (g i j))):kZ X op (.int a) (.int b) (g a b):=λP P' dl s Z H v u xv yu Q I rx ry ⟨h1,h2,q⟩=>by
 rw[ae]at h1 h2;subst h1 h2;exact h dl s Z H _ _ xv yu Q I rx ry ⟨a,b,rfl,rfl,q⟩
theorem Jh(h:SeqAt.shaped (D.tup l).py=true):PyData.canLayAll0 (jJ l)=true:=by
 have:=Up h;rw[D.py]at this;simpa [PyData.canLay0]using this
theorem ye{x:D}(hu:X.A.units+70<cLine)(h:rS x l=.ok r o)(hp:aH o):kZ X .In x (.tup l) r/\kZ X .In x (.lst l) r/\kZ X .NotIn x (.tup l) (!r)/\kZ X .NotIn x (.lst l) (!r):=by
 unfold rS at h;cases h
 ·have c:=hp.1;unfold fL at c;rw[Tj]at c;have c1:=Jh c.1;have c2:=Up c.2;have dx:=SeqAt.depth_of_shaped c.2;have hm:min (PyData.depthAll (jJ l)) x.py.depth<=64:=SZ (Nat.min_le_right _ _) dx;have ct:(D.tup l).py.canLay0=true:=Up c.1;have cl:(D.lst l).py.canLay0=true:=by rw[D.py];simpa [PyData.canLay0]using c1
  have et:(D.tup l).py=.tuple (jJ l):=by rw[D.py]
  have el:(D.lst l).py=.list (jJ l):=by rw[D.py]
  refine⟨?_,?_,?_,?_⟩<;>intro P P' dl s Z H v u xv yu Q I rx ry ⟨h1,h2,q⟩<;>obtain⟨as,r1⟩:=ee I c2 h1 rx
  ·obtain⟨bs,r2⟩:=ee I ct h2 ry;rw[et]at r2;exact SeqAt.in_tuple_reads r2 r1 c1 c2 (by omega) ⟨.bl _,H,I,rfl,by rw[nj];exact q⟩
  ·obtain⟨bs,r2⟩:=ee I cl h2 ry;rw[el]at r2;exact SeqAt.in_list_reads r2 r1 c1 c2 (by omega) ⟨.bl _,H,I,rfl,by rw[nj];exact q⟩
  ·obtain⟨bs,r2⟩:=ee I ct h2 ry;rw[et]at r2;exact SeqAt.notIn_tuple_reads r2 r1 c1 c2 (by omega) ⟨.bl _,H,I,rfl,by rw[nj];exact q⟩
  ·obtain⟨bs,r2⟩:=ee I cl h2 ry;rw[el]at r2;exact SeqAt.notIn_list_reads r2 r1 c1 c2 (by omega) ⟨.bl _,H,I,rfl,by rw[nj];exact q⟩
theorem Me{r:Rs Bool}(h:r.nt=.ok b o):r=.ok (!b) o:=by
 cases r with
 | st=>cases h
 | ok c l=>cases h;simp
theorem yc{P:bi}{x:D}(h:ae X.K H P x v):decide (v=.non)=x.isNon:=by
 cases x with
 | non=>rw[ae]at h;subst h;rfl
 | bl _=>rw[ae]at h;subst h;rfl
 | int _=>rw[ae]at h;subst h;rfl
 | str _=>rw[ae]at h;subst h;rfl
 | dct _ _=>rw[ae]at h;obtain⟨_,_,a,_,rfl,_⟩:=h;rfl
 | typ _=>rw[ae]at h;subst h;rfl
 | dcf _ _=>rw[ae]at h;obtain⟨_,a,_,_,rfl,_⟩:=h;rfl
 | dft _ _ _=>rw[ae]at h;obtain⟨_,a,_,_,rfl,_⟩:=h;rfl
 | sn _=>rw[ae]at h;obtain⟨a,_,rfl,_⟩:=h;rfl
 | obj _ _ _=>rw[ae]at h;obtain⟨_,_,a,_,_,_,rfl,_⟩:=h;rfl
 | cls _=>rw[ae]at h;obtain⟨_,_,rfl,_⟩:=h;rfl
 | xc _ _=>rw[ae]at h;obtain⟨_,rfl⟩:=h.ref;rfl
 | tup _=>rw[ae]at h;obtain⟨a,_,rfl,_⟩:=h;rfl
 | lst _=>rw[ae]at h;obtain⟨a,_,_,rfl,_⟩:=h;rfl
theorem iB(h:g8 d=some l):d=.tup l\/d=.lst l:=by
 unfold g8 at h;split at h
 ·cases h;exact .inl rfl
 ·cases h;exact .inr rfl
 ·cases h
theorem J0{a b:Int}(h:iF op a b=some r):kZ X op (.int a) (.int b) r:=by
 unfold iF at h;split at h
 ·cases h;exact nV OR
 ·cases h;exact nV OS
 ·cases h;exact nV OT
 ·cases h;exact nV OU
 ·cases h
theorem L0{x:D}(hu:X.A.units+70<cLine)(h:zj op x y=some r):kZ X op x y r:=by
 unfold zj at h;split at h
 ·exact J0 h
 ·cases h
theorem pf{P:bi}{k:av}(e:zG d=some k)(h:ae X.K H P d v):v=kV k:=by
 cases d<;>first|(cases e;done)|(rw[ae]at h;subst h;injection e with e;subst e;rfl)
theorem xR{k:av}:∀{vs:List V},ks.length=vs.length->((ks.zip vs).any λp=>decide (p.1=k))=aO ks k:=by
 induction ks with
 | nil=>intro vs _;rfl
 | cons j ks ih =>
  intro vs h;cases vs with
  | nil=>cases h
  | cons v vs =>
   show(decide (j=k) || (ks.zip vs).any _)=(decide (j=k) || aO ks k);rw[ih (by simpa using h)]
theorem Gp{x:D}(hu:X.A.units+70<cLine)(h:Gq x y=.ok r o)(hp:aH o):kZ X .In x y r/\kZ X .NotIn x y (!r):=by
 unfold Gq at h;split at h
 ·have m:=ye hu h hp;exact⟨m.1,m.2.2.1⟩
 ·have m:=ye hu h hp;exact⟨m.2.1,m.2.2.2⟩
 ·cases h
 ·rename_i a0 ks ds;split at h
  ·rename_i k e;cases h;have key:∀{P P':bi} {dl:List (Addr×Obj)} {s:Shared} {Z:L2.St} {H:Hp} {v u:V} {xv yu:Value},aj X dl Z H s->aW v xv->aW u yu->ae X.K H P x v->ae X.K H P' (.dft a0 ks ds) u->∃a vs,yu=.ref a/\(dE X.prog X.w).is k xv=true/\(a==sysModules)=false/\s.heap.DictOf (dE X.prog X.w) a vs/\(valueAt vs k).isSome=aO ks k:=λ{P P' dl s Z H v u xv yu} I rx ry h1 h2=>by
    have hk:=pf e h1;subst hk;rw[ae]at h2;obtain⟨e0,a,o0,vs,rfl,ha,rl⟩:=h2;obtain⟨_,z,hd,ws,rel,dd⟩:=(show bz X.prog X.w H s.heap a (.frz o0 (.dK (ks.zip vs)))from I.hok a _ ha);refine⟨a,ws,ry,uA rx,hd,dd,?_⟩;rw[<- (rel.val k).isSome_eq,<- uU,xR (e0.1.trans rl.len.symm)]
   refine⟨?_,?_⟩<;>intro P P' dl s Z H v u xv yu Q I rx ry ⟨h1,h2,q⟩<;>obtain⟨a,vs,rfl,kk,hd,dd,ev⟩:=key I rx ry h1 h2
   ·refine wpAny_in_of kk hd dd.mapOf ?_;rw[ev];exact⟨.bl _,H,I.tok _,rfl,q⟩
   ·refine wpAny_notIn_of kk hd dd.mapOf ?_;rw[ev];exact⟨.bl _,H,I.tok _,rfl,q⟩
  ·cases h
 ·rename_i b;split at h
  ·rename_i a;cases h;refine⟨?_,?_⟩<;>intro P P' dl s Z H v u xv yu Q I rx ry ⟨h1,h2,q⟩<;>(rw[ae]at h1 h2;subst h1 h2;obtain⟨t,rfl⟩:=rx;obtain⟨t',rfl⟩:=ry)
   ·exact SB.contains ⟨.bl _,H,I,rfl,q⟩
   ·exact SB.notContains ⟨.bl _,H,I,rfl,q⟩
  ·cases h
 ·cases h
theorem jW{x:D}(hu:X.A.units+70<cLine)(h:gL op x y=.ok r o)(hp:aH o):kZ X op x y r:=by
 unfold gL at h;split at h
 ·cases h;have c:=hp.1;unfold fL at c;rw[Tj]at c;intro P P' dl s Z H v u xv yu Q I rx ry ⟨h1,h2,q⟩;obtain⟨as,r1⟩:=ee I (Up c.1) h1 rx;obtain⟨bs,r2⟩:=ee I (Up c.2) h2 ry;exact eq_dataH r1 r2 c.1 c.2 (by omega) ⟨.bl _,H,I,rfl,q⟩
 ·cases h;have c:=hp.1;unfold fL at c;rw[Tj]at c;intro P P' dl s Z H v u xv yu Q I rx ry ⟨h1,h2,q⟩;obtain⟨as,r1⟩:=ee I (Up c.1) h1 rx;obtain⟨bs,r2⟩:=ee I (Up c.2) h2 ry;exact ne_dataH r1 r2 c.1 c.2 (by omega) ⟨.bl _,H,I,rfl,q⟩
 ·exact(Gp hu h hp).1
 ·have:=(Gp hu (Me h) hp).2;rw[Bool.not_not]at this;exact this
 ·split at h
  ·cases h;intro P P' dl s Z H v u xv yu Q I rx ry ⟨h1,h2,q⟩;rw[ae]at h2;subst h2;exact L4 dl s Z H v _ xv yu Q I rx ry ⟨rfl,by rw[yc h1];exact q⟩
  ·cases h
 ·split at h
  ·cases h;intro P P' dl s Z H v u xv yu Q I rx ry ⟨h1,h2,q⟩;rw[ae]at h2;subst h2;refine IN dl s Z H v _ xv yu Q I rx ry ⟨rfl,?_⟩;rw[yc h1];exact q
  ·cases h
 ·cases e:zj op x y with
  | none=>rw[e]at h;cases h
  | some b=>rw[e]at h;cases h;exact L0 hu e
variable{X:Cx}
noncomputable def l0(X:Cx)(f:Value)(ds:List D)(z:D)(l:Nat):Prop :=
 ∃r:List V->Hp->VK->Prop,dm X f r/\∀ow H0 H2 vs (P:bi) (Q:VK),fX ow H0->ar H0 H2->ah X.K H2 P ds vs->(∀w H',ar H2 H'->ae X.K H' (Kp ow H0 l) z w->Q w H')->r vs H2 Q
theorem ah.only{P:bi}(h:ah K H P [d] vs):∃v,vs=[v]/\ae K H P d v:=by
 rw[ah]at h;obtain⟨v,r,rfl,h1,h2⟩:=h;rw[ah]at h2;subst h2;exact⟨v,rfl,h1⟩
theorem iN{P:bi}(h:ae X.K H P (.lst l) v):∃a vs,v=.ref a/\cF X.K H a vs/\ah X.K H P l vs:=by
 rw[ae]at h;obtain⟨a,vs,b,rfl,h,_,q⟩:=h;exact⟨a,vs,rfl,h.sq,q⟩
theorem jF{P:bi}(h:ae X.K H P (.tup l) v):∃a vs,v=.ref a/\bX X.K H a vs/\ah X.K H P l vs:=by
 rw[ae]at h;exact h
theorem BV:l0 X (.builtin "len") [.tup l] (.int l.length) 0/\l0 X (.builtin "len") [.lst l] (.int l.length) 0:=by
 constructor
 ·refine⟨_,nh,λow H0 H2 vs P Q o s rx q=>?_⟩;obtain⟨v,rfl,ry⟩:=rx.only;obtain⟨a,ws,rfl,hs,rl⟩:=jF ry;exact⟨a,ws,rfl,.inr hs,by rw[<- rl.length];exact q _ _ (ar.refl _) (by rw[ae])⟩
 ·refine⟨_,nh,λow H0 H2 vs P Q o s rx q=>?_⟩;obtain⟨v,rfl,ry⟩:=rx.only;obtain⟨a,ws,rfl,hs,rl⟩:=iN ry;exact⟨a,ws,rfl,.inl hs,by rw[<- rl.length];exact q _ _ (ar.refl _) (by rw[ae])⟩
theorem u8(f:aK l=true):l0 X (.type "tuple") [.lst l] (.tup l) 0/\l0 X (.type "tuple") [.tup l] (.tup l) 0:=by
 constructor
 ·refine⟨_,ma,λow H0 H2 vs P Q o s rx q=>?_⟩;obtain⟨v,rfl,ry⟩:=rx.only;obtain⟨a,ws,rfl,hs,rl⟩:=iN ry;refine⟨a,ws,rfl,.inl ⟨hs,λp hp=>?_⟩⟩;have sm:=cf (o:=HO.tup ws) hp;refine q _ _ sm ?_;rw[ae];exact⟨p,ws,rfl,bX.of aw,(rl.flat _ f).same sm⟩
 ·refine⟨_,ma,λow H0 H2 vs P Q o s rx q=>?_⟩;obtain⟨v,rfl,ry⟩:=rx.only;obtain⟨a,ws,rfl,hs,rl⟩:=jF ry;refine⟨a,ws,rfl,.inr ⟨hs,q _ _ (ar.refl _) ?_⟩⟩;rw[ae];exact⟨a,ws,rfl,hs,rl.flat _ f⟩
theorem NV{i:Int}:l0 X (.builtin "abs") [.int i] (.int (if i<0 then -i else i)) 0:=by
 refine⟨_,EF,λow H0 H2 vs P Q o s rx q=>?_⟩;obtain⟨v,rfl,ry⟩:=rx.only;rw[ae]at ry;subst ry;exact⟨i,rfl,q _ _ (ar.refl _) (by rw[ae])⟩
theorem ah.mapBl{K:W.Frag}{P:bi}{H:Hp}:∀{ns:List Bool} {vs:List V},ah K H P (ns.map D.bl) vs->vs=ns.map V.bl
 | [],vs,h=>by rw[UW,ah]at h;exact h
 | n::ns,vs,h=>by
  rw[S2,ah]at h;obtain⟨v,r,rfl,h1,h2⟩:=h;rw[ae]at h1;rw[h1,ah.mapBl h2];rfl
theorem rB:∀{bs:List Bool} {us:List Value},aP (bs.map V.bl) us->us=bs.map Value.bool
 | [],us,h=>by cases h;rfl
 | b::bs,us,h=>by
  cases h with
  | cons h1 h2=>rw[show _=Value.bool b from h1,rB h2];rfl
theorem oV:∀{ns:List Int} {us:List Value},aP (ns.map V.int) us->(∀v,v∈us->∃a t,v=Value.int a t)/\numsOf us=ns
 | [],us,h=>by cases h;exact⟨λ_ h=>(by cases h),rfl⟩
 | n::ns,us,h=>by
  cases h with
  | cons h1 h2 =>
   obtain⟨t,rfl⟩:=(show ∃t,_=Value.int n t from h1);obtain⟨i1,i2⟩:=oV h2;refine⟨λv hv=>?_,by simp only[numsOf];rw[i2]⟩;rcases SS.mp hv with rfl|hv
   ·exact⟨_,_,rfl⟩
   ·exact i1 v hv
theorem CD(hc:X.calm=true):dm X (.builtin "sum") (λxs H Q => ∃(p:Addr) (ns:List Int),xs=[.ref p]/\cF X.K H p (ns.map V.int)/\Q (.int ns.sum) H):=by
 intro dl s Z H xs us Q I r h;obtain⟨p,ns,rfl,hq,q⟩:=h;obtain⟨u,rfl,rx⟩:=bY r;cases rx;obtain⟨its,rv,pl,hz⟩:=I.list hq;obtain⟨hall,hnum⟩:=oV rv;obtain⟨xs,e⟩:=AllInts.items (vs:=its.toArray) (λv hv=>hall v (by simpa using hv));have hl:=pl.isList;rw[e]at hl;refine sum_intListG (I.ok.hd hc) hl λh' tk t' hk=>?_
 refine⟨.int ns.sum,H,I.kept hk,⟨t',?_⟩,q⟩;congr 1;rw[preSum_eq,List.take_of_length_le (by simp),<- nums_intItems,<- e];simp[hnum]
theorem CK(hc:X.calm=true):dm X (.builtin "all") (λxs H Q => ∃(p:Addr) (bs:List Bool),xs=[.ref p]/\cF X.K H p (bs.map V.bl)/\Q (.bl (bs.all id)) H):=by
 intro dl s Z H xs us Q I r h;obtain⟨p,bs,rfl,hq,q⟩:=h;obtain⟨u,rfl,rx⟩:=bY r;cases rx;obtain⟨its,rv,pl,hz⟩:=I.list hq;have ei:=rB rv;subst ei;have hl:=pl.isList;have hlt:p<s.heap.objs.size:=by obtain⟨_,e,_⟩:=hl;exact S1 e
 refine call_all_walk (Uc hl ?_);refine⟨_,_,_,_,_,_,λi=>bs.getD i true,rfl,Walks.list (A:=X.A.in1) (by exact I.ok.hd hc) _ p (Ts hlt) (bs.map Value.bool).toArray,⟨⟨_,S6 _ rfl,rfl,rfl⟩,hl.push _⟩,?_,λh' tk hk=>?_⟩
 ·intro i v s' Q' E' hP hQ;have hP:((bs.map Value.bool).toArray)[i]?=some v:=hP;simp only[List.getElem?_toArray,TQ]at hP;cases e:bs[i]? with
  | none=>rw[e]at hP;cases hP
  | some b =>
   rw[e]at hP;cases hP;refine T3 ?_;have:bs.getD i true=b:=by rw[T6,e];rfl
   rw[<- this];exact hQ
 ·have:((List.range (bs.map Value.bool).toArray.size).all λi=>bs.getD i true)=bs.all id:=by
   simp only[Tp,SY];rw[Vr,TJ,TJ];constructor
   ·intro h x hx;obtain⟨i,hi,rfl⟩:=List.mem_iff_getElem.mp hx;have:=h i (US.mpr hi);rw[T6,Tk hi]at this;exact this
   ·intro h i hi;have hi:=US.mp hi;rw[T6,Tk hi];exact h _ (Vn hi)
  rw[this];refine⟨.bl _,H,I.kept (λb o e=>hk b o (λhm=>?_) (SQ _ e)),rfl,q⟩;have hb:b=s.heap.objs.size:=by simpa using hm
  subst hb;exact absurd (S1 e) (TH _)
theorem CJ(hc:X.calm=true):dm X (.builtin "any") (λxs H Q => ∃(p:Addr) (bs:List Bool),xs=[.ref p]/\cF X.K H p (bs.map V.bl)/\Q (.bl (bs.any id)) H):=by
 intro dl s Z H xs us Q I r h;obtain⟨p,bs,rfl,hq,q⟩:=h;obtain⟨u,rfl,rx⟩:=bY r;cases rx;obtain⟨its,rv,pl,hz⟩:=I.list hq;have ei:=rB rv;subst ei;have hl:=pl.isList;have hlt:p<s.heap.objs.size:=by obtain⟨_,e,_⟩:=hl;exact S1 e
 refine call_any_walk (Uc hl ?_);refine⟨_,_,_,_,_,_,λi=>bs.getD i false,rfl,Walks.list (A:=X.A.in1) (by exact I.ok.hd hc) _ p (Ts hlt) (bs.map Value.bool).toArray,⟨⟨_,S6 _ rfl,rfl,rfl⟩,hl.push _⟩,?_,λh' tk hk=>?_⟩
 ·intro i v s' Q' E' hP hQ;have hP:((bs.map Value.bool).toArray)[i]?=some v:=hP;simp only[List.getElem?_toArray,TQ]at hP;cases e:bs[i]? with
  | none=>rw[e]at hP;cases hP
  | some b =>
   rw[e]at hP;cases hP;refine T3 ?_;have:bs.getD i false=b:=by rw[T6,e];rfl
   rw[<- this];exact hQ
 ·have:((List.range (bs.map Value.bool).toArray.size).any λi=>bs.getD i false)=bs.any id:=by
   simp only[Tp,SY];rw[Vr,List.any_eq_true,List.any_eq_true];constructor
   ·rintro⟨i,hi,h⟩;have hi:=US.mp hi;rw[T6,Tk hi]at h;exact⟨_,Vn hi,h⟩
   ·rintro⟨x,hx,h⟩;obtain⟨i,hi,rfl⟩:=List.mem_iff_getElem.mp hx;exact⟨i,US.mpr hi,by rw[T6,Tk hi];exact h⟩
  rw[this];refine⟨.bl _,H,I.kept (λb o e=>hk b o (λhm=>?_) (SQ _ e)),rfl,q⟩;have hb:b=s.heap.objs.size:=by simpa using hm
  subst hb;exact absurd (S1 e) (TH _)
theorem CG:dm X (.builtin "len") (λxs H Q => ∃(p:Addr) (S:Int->Bool) (n:Nat),xs=[.ref p]/\H p=some (.set S n)/\Q (.int n) H):=by
 intro dl s Z H xs us Q I r h;obtain⟨p,S,n,rfl,hp,q⟩:=h;obtain⟨u,rfl,rx⟩:=bY r;cases rx;obtain⟨o,es,ep,t,h1,h2,h3,_,_,h4,h5,rfl⟩:=(show s.heap.SetOf (intKind X.prog X.w) p S n from I.hok p _ hp);exact call_len_set h1 h2 h3 h5 (by unfold scanBound at h4;omega) ⟨.int _,H,I.tok _,⟨_,rfl⟩,q⟩
noncomputable def dy(f:Str)(B:List D->R1):Prop:=f∈i9/\f ≠ "__name__" /\ (f==("__debug__" : Str))=false/\(B []=.st)/\∀(X:Cx) (ds:List D) (z:D) (l:Nat) (o:List Prop),X.calm=true->B ds=.ok (z,l) o->aH o ->
 ((∃id,bootBuiltins f=some (.builtin id)/\l0 X (.builtin id) ds z l)\/∃T,bootBuiltins f=some (.type T)/\l0 X (.type T) ds z l)
theorem Ki:dy "len" ER:=by
 refine⟨by decide +kernel,by decide +kernel,by decide +kernel,rfl,λX ds z l o hc h _=>.inl ⟨"len", by decide +kernel,?_⟩⟩;unfold ER at h;split at h
 ·cases h;refine⟨_,CG,λow H0 H2 vs P Q o s rx q=>?_⟩;obtain⟨v,rfl,ry⟩:=rx.only;rw[ae]at ry;obtain⟨a,S,rfl,ha⟩:=ry;exact⟨a,S,_,rfl,ha,q _ _ (ar.refl _) (by rw[ae])⟩
 ·split at h
  ·rename_i m e;cases h;rcases iB e with rfl|rfl
   ·exact BV.1
   ·exact BV.2
  ·cases h
 ·cases h
theorem CN:dy "tuple" wF:=by
 refine⟨by decide +kernel,by decide +kernel,by decide +kernel,rfl,λX ds z l o hc h hp=>.inr ⟨"tuple", by decide +kernel,?_⟩⟩;unfold wF at h;split at h
 ·split at h
  ·rename_i m e;cases h;have c:=hp.1;rcases iB e with rfl|rfl
   ·exact(u8 c).2
   ·exact(u8 c).1
  ·cases h
 ·cases h
theorem Ko:dy "abs" EW:=by
 refine⟨by decide +kernel,by decide +kernel,by decide +kernel,rfl,λX ds z l o hc h _=>.inl ⟨"abs", by decide +kernel,?_⟩⟩;unfold EW at h;split at h
 ·cases h;exact NV
 ·cases h
theorem Km:dy "all" kO:=by
 refine⟨by decide +kernel,by decide +kernel,by decide +kernel,rfl,λX ds z l o hc h _=>.inl ⟨"all", by decide +kernel,?_⟩⟩;unfold kO at h;split at h
 ·split at h
  ·rename_i bs e;cases h;cases lV e;refine⟨_,CK hc,λow H0 H2 vs P Q o s rx q=>?_⟩;obtain⟨v,rfl,ry⟩:=rx.only;obtain⟨a,ws,rfl,hs,rl⟩:=iN ry;exact⟨a,bs,rfl,by rw[<- rl.mapBl];exact hs,q _ _ (ar.refl _) (by rw[ae])⟩
  ·cases h
 ·cases h
theorem Kf:dy "sum" EL:=by
 refine⟨by decide +kernel,by decide +kernel,by decide +kernel,rfl,λX ds z l o hc h _=>.inl ⟨"sum", by decide +kernel,?_⟩⟩;unfold EL at h;split at h
 ·split at h
  ·rename_i bs e;cases h;cases mT e;refine⟨_,CD hc,λow H0 H2 vs P Q o s rx q=>?_⟩;obtain⟨v,rfl,ry⟩:=rx.only;obtain⟨a,ws,rfl,hs,rl⟩:=iN ry;exact⟨a,bs,rfl,by rw[<- rl.mapInt];exact hs,q _ _ (ar.refl _) (by rw[ae])⟩
  ·cases h
 ·cases h
theorem Jr(b:Bool):(if b=true then(1:Int)else 0)=cond b 1 0:=by cases b<;>rfl
theorem Kk:dy "int" EU:=by
 refine⟨by decide +kernel,by decide +kernel,by decide +kernel,rfl,λX ds z l o hc h hp=>.inr ⟨"int", by decide +kernel,?_⟩⟩;unfold EU at h;split at h
 ·cases h;refine⟨_,tW,λow H0 H2 vs P Q o s rx q=>?_⟩;obtain⟨v,rfl,ry⟩:=rx.only;rw[ae]at ry;subst ry;exact .inl ⟨_,rfl,q _ _ (ar.refl _) (by rw[ae])⟩
 ·cases h;refine⟨_,tW,λow H0 H2 vs P Q o s rx q=>?_⟩;obtain⟨v,rfl,ry⟩:=rx.only;rw[ae]at ry;subst ry;exact .inr ⟨_,rfl,q _ _ (ar.refl _) (by rw[ae,Jr])⟩
 ·cases h
theorem Kg:dy "str" sy:=by
 refine⟨by decide +kernel,by decide +kernel,by decide +kernel,rfl,λX ds z l o hc h hp=>.inr ⟨"str", by decide +kernel,?_⟩⟩;unfold sy at h;split at h
 ·rename_i i;cases h;refine⟨_,wz,λow H0 H2 vs P Q o s rx q=>?_⟩;obtain⟨v,rfl,ry⟩:=rx.only;rw[ae]at ry;subst ry;refine⟨_,rfl,?_,q _ _ (ar.refl _) (by rw[ae])⟩;rcases UJ i.natAbs with z|z
  ·rw[z];decide
  ·exact S4 ((VA (TR z)).mpr hp.1) (by decide)
 ·cases h
noncomputable def jG(K:W.Frag)(F:List D->Rs D):Sp:=λvs H Q _ => ∃ds r l,ah K H (λ_ _=>True) ds vs/\F ds=.ok r l/\aH l/\∀v H',ar H H'->ae K H' (λa b=>b=true/\H a=none) r v->Q v H'
noncomputable def G0(X:Cx)(g:Str)(F:List D->Rs D):Prop:=∃k f fd ps,bj X.prog X.w X.K X.mg X.base cE k f fd ps (jG X.K F)/\bJ k X.A/\X.mg g=some (.ref f)/\W.keepIn X.K (.ref f)=true/\bu X.K fd ps []/\(g==("__debug__" : Str))=false
noncomputable def Qo(K:W.Frag)(n:Str)(F:List D->Rs D):Sp:=λvs H Q _ => ∃x ws C dx ds r l,vs=.ref x::ws/\H x=some (.ins C dx [])/\W.nsIn K mainGlobals n=some (some (.ref C))/\eY K C/\ah K H (λ_ _=>True) ds ws/\F ds=.ok r l/\aH l/\r.lless=true /\
 ∀H',(∀a o,a≠x->H a=some o->H' a=some o)->ae K H' (λ_ _=>True) r (.ref x)->Q .non H'
noncomputable def N5(X:Cx)(g:Str)(F:List D->Rs D):Prop:=∃k C f fd ps,(∀ds r l,F ds=.ok r l->r.lless=true)/\Mk X.K C f/\bj X.prog X.w X.K X.mg X.base cE k f fd ps (Qo X.K g F)/\bJ (k+1) X.A/\X.mg g=some (.ref C)/\W.nsIn X.K mainGlobals g=some (some (.ref C))/\eY X.K C/\bu X.K fd ps []/\(g==("__debug__" : Str))=false
def R9(X:Cx)(g:Str)(F:List D->Rs D):Prop:=G0 X g F\/N5 X g F
noncomputable def N6(X:Cx)(n m:Str)(F:List D->Rs D):Prop:=∃k C f fd ps,W.nsIn X.K mainGlobals n=some (some (.ref C))/\eY X.K C/\iL X.K C m f/\bj X.prog X.w X.K X.mg X.base cE k f fd ps (jG X.K F)/\bJ k X.A/\bu X.K fd ps []
noncomputable def n9(f:Str)(B:List D->Nat->R1):Prop:=f∈i9/\∀(X:Cx) (U:ag) (p pos:Pos) (args:List Expr) (ds:List D) (k:Nat) (d:D) (j:Nat) (l:List D) (tg:Expr) (o:List Prop),X.calm=true->Gl X f->X.mg f=none->AD X U args ds k ->
 (∀e∈args,∀x p,e ≠ .Starred x p)->args.length=ds.length->B ds k=.ok (d,j) o->aH o->items d=some l->gI (.Call (.Name f p) args [] pos) tg=true->IE X U tg (.Call (.Name f p) args [] pos) l j
noncomputable def iV(m:Str)(M:D->List D->R1):Prop:=∀(X:Cx) (U:ag) (a:Expr) (args:List Expr) (ap cp:Pos) (x:D) (k:Nat) (ds:List D) (j:Nat) (z:D) (l:Nat) (o:List Prop),X.calm=true->X.A.units+70<cLine->ED X U a x k->AD X U args ds j ->
 (∀e∈args,∀x p,e ≠ .Starred x p)->args.length=ds.length->(ap.endLine==cp.line)=true->de a=true->M x ds=.ok (z,l) o->aH o->ED X U (.Call (.Attribute a m ap) args [] cp) z l
noncomputable def n6(m:Str)(M:List D->List D->Nat->Rs (List D)):Prop:=∀X:Cx,X.calm=true->∃(id:String) (r:V->List V->Hp->VK->Prop),Slot "list" m id/\typeOf (.builtin id)=pure (.type "method_descriptor")/\N3 X id r /\
 ∀(ow:Ow) (H0 H:Hp) (l ds l':List D) (j:Nat) (o:List Prop) (a:Addr) (vs ws:List V),M l ds j=.ok l' o->aH o->ds.length<29/\(∀(P:bi) (Q:VK),(∀b c,Kp ow H0 0 b c->P b c)->fX ow H0->ar H0 H->H a=some (.lst vs)->ah X.K H P l vs->ah X.K H (Kp ow H0 j) ds ws ->
  (∀vs' w,ah X.K H P l' vs'->Q w (aA H a (.lst vs')))->r (.ref a) ws H Q)
def So(X:Cx)(ow:Ow)(U:ag)(o:Option Int):TO:=λZ H Q=>aD X ow H Z U/\∀H',ar H H'->Q o H'
def OD(X:Cx)(U:ag)(e:Option Expr)(o:Option Int):Prop:=∀ow,PO X e (So X ow U o)
noncomputable def rg(F:D->Option Int->Option Int->R1):Prop:=∀(X:Cx) (U:ag) (a:Expr) (lo hi:Option Expr) (p2 pos:Pos) (x z:D) (l h:Option Int) (k j:Nat) (o:List Prop),ED X U a x k->OD X U lo l->OD X U hi h->F x l h=.ok (z,j) o->aH o->ED X U (.Subscript a (.Slice lo hi none p2) pos) z j
structure aJ(O:Fx)(X:Cx)(sc:Scope):Prop where
 calm:X.calm=true
 nd:X.N.Nodup
 gl:∀x,sc.names.lookup x=some .globalImplicit->Gl X x
 kc:∀x,(sc.names.lookup x=some .cell\/sc.names.lookup x=some .free)->X.env.kindOf x=some .cell\/X.env.kindOf x=some .free
 lc:∀x,sc.names.lookup x=some .local->X.env.scope.names.lookup x=some .local
 cc:∀x,sc.names.lookup x=some .cell->X.env.scope.names.lookup x=some .cell
 fn:∀g F,O.fn g=some F->R9 X g F
 con:∀x d,O.con x=some d->∃v u,X.mg x=some u/\aW v u/\∀H P,ae X.K H P d v
 blt:∀f B,O.blt f=some B->dy f B
 itr:∀f B,O.itr f=some B->n9 f B
 mth:∀m M,O.mth m=some M->iV m M
 mtt:∀m M,O.mtt m=some M->n6 m M
 slf:rg O.slf
 fld:∀n f,O.fld n f=true->∀C,W.nsIn X.K mainGlobals n=some (some (.ref C))->dZ X.K C f
 omt:∀n m F,O.omt n m=some F->N6 X n m F
 bl:∀f∈i9,X.mg f=none
 room:X.A.units+70<cLine
 ns:∀x,dO sc x=true->x∈X.N
 ft:∀x,sc.names.lookup x=some .cell->X.fn x=true
variable{X:Cx}
theorem hV(h:l9 x=true):(x==("__debug__" : Str))=false/\(x==("__classdict__" : Str))=false:=by
 unfold l9 at h;rw[Tj]at h;exact⟨UO h.1,UO h.2⟩
theorem JP{o:Bool}(h:U x=some (d,o))(hx:l9 x=true):ED X U (.Name x pos) d (kn d (cond o 2 1)):=by
 refine ED.kn λow dl s Z H Q I ⟨E,q⟩=>?_
 obtain⟨i,v,e1,e2,e3,e4⟩:=E.get x d o h;refine mI (i:=i) e1 e2 (hV hx).1 (hV hx).2 dl s Z H Q I ⟨v,e3,q v H (ar.refl _) (e4.imp λa b p=>?_)⟩;cases o with
 | true=>exact⟨p.1,.inl (by rw[p.2];exact(λz=>nomatch z))⟩
 | false=>exact p
theorem NA(G:aJ O X sc)(h:O.con x=some d)(hg:sc.names.lookup x=some .globalImplicit)(hx:l9 x=true):ED X U (.Name x pos) d 0:=by
 obtain⟨v,u,h1,h2,h3⟩:=G.con x d h;exact λow=>bh (ya (G.gl x hg) h1 h2 (hV hx).1) λZ H Q ⟨E,q⟩=>q v H (ar.refl _) (h3 H _)
theorem Hc(h:yT x=some T):bootBuiltins x=some (.type T)/\x ≠ "__name__" /\ (x==("__debug__" : Str))=false/\x∈i9:=by
 unfold yT at h;split at h
 ·rename_i e;subst e;cases h;exact⟨by decide +kernel,by decide +kernel,by decide +kernel,by decide +kernel⟩
 split at h
 ·rename_i e;subst e;cases h;exact⟨by decide +kernel,by decide +kernel,by decide +kernel,by decide +kernel⟩
 split at h
 ·rename_i e;subst e;cases h;exact⟨by decide +kernel,by decide +kernel,by decide +kernel,by decide +kernel⟩
 split at h
 ·rename_i e;subst e;cases h;exact⟨by decide +kernel,by decide +kernel,by decide +kernel,by decide +kernel⟩
 split at h
 ·rename_i e;subst e;cases h;exact⟨by decide +kernel,by decide +kernel,by decide +kernel,by decide +kernel⟩
 split at h
 ·rename_i e;subst e;cases h;exact⟨by decide +kernel,by decide +kernel,by decide +kernel,by decide +kernel⟩
 ·cases h
theorem Nw(G:aJ O X sc)(h:yT x=some T)(hg:sc.names.lookup x=some .globalImplicit):ED X U (.Name x pos) (.typ T) 0:=by
 obtain⟨h1,h2,h3,h4⟩:=Hc h;exact λow=>bh (IJ (v:=.ty T) (G.gl x hg) (G.bl x h4) h1 rfl h2 h3) λZ H Q ⟨E,q⟩=>q _ H (ar.refl _) (by rw[ae])
theorem wm{c:Const}(h:GC c=some d):ED X U (.Constant c n pos) d 0:=by
 intro ow;unfold GC at h;split at h
 ·cases h;exact bh LQ λZ H Q ⟨E,q⟩=>q _ H (ar.refl _) (by rw[ae])
 ·cases h;exact bh OO λZ H Q ⟨E,q⟩=>q _ H (ar.refl _) (by rw[ae])
 ·cases h;exact bh LR λZ H Q ⟨E,q⟩=>q _ H (ar.refl _) (by rw[ae])
 ·cases h;exact bh LN λZ H Q ⟨E,q⟩=>q _ H (ar.refl _) (by rw[ae])
 ·cases h
theorem qE{b:Expr}{op:Operator}{x:D}{l:Nat}(ha:ED X U a x k)(hb:ED X U b y j)(h:sx op x y k j=.ok (z,l) o)(hp:aH o):ED X U (.BinOp a op b pos) z l:=by
 obtain⟨r,h1,h2⟩:=NN (X:=X) h hp;refine λow=>bh (ON h1 (ha ow) (hb ow)) λZ H Q ⟨E,q⟩=>⟨E,λv H1 s1 r1=>⟨E.same s1,λu H2 s2 r2=>?_⟩⟩
 exact h2 ow H H2 v u Q E.own (s1.trans s2) (r1.same s2) (r2.imp (Kp.back s1 j)) λw H' s3 r3=>q w H' ((s1.trans s2).trans s3) r3
theorem PZ{op:UnaryOp}{x:D}(ha:ED X U a x k)(h:AK op x=some z):ED X U (.UnaryOp op a pos) z 0:=by
 unfold AK at h;split at h
 ·cases h;refine λow=>bh (OM KJ (ha ow)) λZ H Q ⟨E,q⟩=>⟨E,λv H1 s1 r1=>?_⟩
  rw[ae]at r1;subst r1;exact⟨_,rfl,q _ H1 s1 (by rw[ae])⟩
 ·cases h;refine λow=>bh (LP (ha ow)) λZ H Q ⟨E,q⟩=>⟨E,λv H1 s1 r1=>?_⟩
  rw[ae]at r1;subst r1;exact⟨_,rfl,q _ H1 s1 (by rw[ae])⟩
 ·cases h
theorem NB{b:Expr}{x:D}(hu:X.A.units+70<cLine)(ha:ED X U a x k)(hb:ED X U b y j)(h:gL op x y=.ok r o)(hp:aH o)(hm:behindInMarks op b=false):ED X U (.Compare a [op] [b] pos) (.bl r) 0:=by
 have c:=jW hu h hp;intro ow dl s Z H Q I ⟨E,q⟩;refine wpAny_Compare1 (Qw (ha ow) (hb ow) I (R:=λv u H2=>ar H H2/\ae X.K H2 (λ_ _=>True) x v/\ae X.K H2 (λ_ _=>True) y u) ⟨E,λv H1 s1 r1=>⟨E.same s1,λu H2 s2 r2=>⟨s1.trans s2,(r1.imp λ_ _ _=>True.intro).same s2,r2.imp λ_ _ _=>True.intro⟩⟩⟩ λv u s2 x y H2 I2 rx ry ⟨sm,r1,r2⟩=>?_) hm;exact c _ _ dl s2 Z H2 x y v u Q I2 rx ry ⟨r1,r2,q _ H2 sm (by rw[ae])⟩
theorem J8{x:D}{r:D×Nat}{l:List Prop}(h:NJ op op2 x y z=.ok r l):∃a b c r1 r2,x=.int a/\y=.int b/\z=.int c/\iF op a b=some r1/\iF op2 b c=some r2/\r=(.bl (r1&&r2),0):=by
 unfold NJ at h;split at h
 ·split at h
  ·rename_i h1 h2;cases h;exact⟨_,_,_,_,_,rfl,rfl,rfl,h1,h2,rfl⟩
  ·cases h
 ·cases h
theorem qN{a b:Int}(h:iF op a b=some r):gL op (.int a) (.int b)=.ok r []:=by
 unfold iF at h;split at h<;>first|(cases h;rfl)|cases h
theorem EA{b:Expr}{x y z:Int}(hu:X.A.units+70<cLine)(ha:ED X U a (.int x) k)(hb:ED X U b (.int y) j)(hc:ED X U c (.int z) i)(h:iF op x y=some r)(h2:iF op2 y z=some r2)(hm:behindInMarks op2 c=false):ED X U (.Compare a [op,op2] [b,c] pos) (.bl (r&&r2)) 0:=by
 have c1:=jW (X:=X) hu (qN h) (show aH []from True.intro);have c2:=jW (X:=X) hu (qN h2) (show aH []from True.intro);refine λow=>bh (DM (c1 (λ_ _=>True) (λ_ _=>True)) (c2 (λ_ _=>True) (λ_ _=>True)) (ha ow) (hb ow) (hc ow) hm) λZ H Q ⟨E,q⟩=>⟨E,λv H1 s1 r1=>⟨E.same s1,λu H2 s2 r2=>?_⟩⟩
 rw[ae]at r1 r2;subst r1 r2;refine⟨by rw[ae],by rw[ae],r,rfl,?_⟩;cases r with
 | false=>exact q _ H2 (s1.trans s2) (by rw[ae];rfl)
 | true =>
  rw[if_pos rfl];refine⟨(E.same s1).same s2,λw H3 s3 r3=>?_⟩;rw[ae]at r3;subst r3;exact⟨by rw[ae],by rw[ae],q _ H3 ((s1.trans s2).trans s3) (by rw[ae];rfl)⟩
theorem Og(h:ED X U e (.bl b) k)(he:∀whole,isTrue e X.env whole=(do let v <- whole;standAt e.pos;holding [v] (truthy v))):TD X U e b :=
 λow=>Ar (LF (h ow) he) λZ H Q ⟨E,q⟩=>⟨E,λv H1 s1 r1=>by rw[ae]at r1;exact⟨b,r1,q H1 s1⟩⟩
theorem ij:AD X U [] [] 0:=λow=>GS mK λZ H Q ⟨E,q⟩=>q [] H (ar.refl _) ah.nil
theorem dR(h1:ED X U e d k)(h2:AD X U es ds j)(hs:starEach (e::es) X.env=(false,eval e X.env)::starEach es X.env):AD X U (e::es) (d::ds) (kj k j) :=
 λow=>GS (fZ (h1 ow) (h2 ow) hs) λZ H Q ⟨E,q⟩=>⟨E,λv H1 s1 r1=>⟨E.same s1,λvs H2 s2 r2=>q _ H2 (s1.trans s2) (ah.cons ((r1.imp (Kp.joinL E.own k j)).same s2) (r2.imp λa b p=>Kp.joinR E.own k j a b (Kp.back s1 j a b p)))⟩⟩
theorem wl(h:AD X U es ds k)(hl:ds.length<=bx):ED X U (.Tuple es n pos) (.tup ds) (kn (.tup ds) k):=by
 refine ED.kn λow=>bh (Bv (h ow)) λZ H Q ⟨E,q⟩=>⟨E,λvs H1 s1 r1=>⟨by rw[<- r1.length];exact SZ hl gJ,λp hp=>?_⟩⟩
 have sm:=cf (o:=HO.tup vs) hp;refine q _ _ (s1.trans sm) ?_;rw[ae];exact⟨p,vs,rfl,bX.of aw,r1.same sm⟩
theorem yD(h:AD X U es ds k)(hk:k<=1)(hl:ds.length<=bx):ED X U (.List es pos) (.lst ds) k:=by
 refine λow=>bh (Bw (h ow)) λZ H Q ⟨E,q⟩=>⟨E,λvs H1 s1 r1=>⟨by rw[<- r1.length];exact SZ hl gJ,λp hp=>?_⟩⟩
 have sm:=cf (o:=HO.lst vs) hp;refine q _ _ (s1.trans sm) ?_;rw[ae];exact⟨p,vs,true,rfl,aw,BW E.own (s1.free hp) hk,r1.same sm⟩
theorem Gz{b:Expr}(hc:TD X U c t)(h:if t=true then ED X U a d k else ED X U b d k):ED X U (.IfExp c a b pos) d k:=by
 cases t with
 | true =>
  intro ow dl s Z H Q I ⟨E,q⟩;refine PyProof.Rows.IfExp_ (aG (hc ow dl s Z H (λt H1=>t=true/\ar H H1) I ⟨E,λH1 s1=>⟨rfl,s1⟩⟩) λt s1 ⟨H1,I1,e1,s1'⟩=>?_);subst e1;exact h ow dl s1 Z H1 Q I1 ⟨E.same s1',λv H2 s2 r2=>q v H2 (s1'.trans s2) (r2.imp (Kp.back s1' k))⟩
 | false =>
  intro ow dl s Z H Q I ⟨E,q⟩;refine PyProof.Rows.IfExp_ (aG (hc ow dl s Z H (λt H1=>t=false/\ar H H1) I ⟨E,λH1 s1=>⟨rfl,s1⟩⟩) λt s1 ⟨H1,I1,e1,s1'⟩=>?_);subst e1;exact h ow dl s1 Z H1 Q I1 ⟨E.same s1',λv H2 s2 r2=>q v H2 (s1'.trans s2) (r2.imp (Kp.back s1' k))⟩
variable{X:Cx}
theorem ah.atI{P:bi}{i:Int}(h:ah K H P l vs)(e:L2.atI l i=some d):∃v,L2.atI vs i=some v/\ae K H P d v:=by
 unfold L2.atI at e⊢;rw[<- h.length];cases q:vZ l.length i with
 | none=>rw[q]at e;cases e
 | some j=>rw[q]at e;exact h.get e
theorem P0{b:Expr}{x:D}{i:Int}{l:Nat}(ha:ED X U a x k)(hb:ED X U b (.int i) j)(hs:lF b)(h:v0 x i k=.ok (z,l) o):ED X U (.Subscript a b pos) z l:=by
 unfold v0 at h;split at h
 ·rename_i m e0;split at h
  ·rename_i d e;unfold mk at h;cases h;rcases iB e0 with rfl|rfl
   ·refine ED.kn λow=>bh (ux MW (ha ow) (hb ow) hs) λZ H Q ⟨E,q⟩=>⟨E,λv H1 s1 r1=>⟨E.same s1,λu H2 s2 r2=>?_⟩⟩
    obtain⟨p,vs,rfl,hq,rl⟩:=jF (r1.same s2);rw[ae]at r2;subst r2;obtain⟨w,h1,h2⟩:=rl.atI e;exact⟨p,vs,i,w,rfl,rfl,hq,h1,q w H2 (s1.trans s2) h2⟩
   ·refine ED.kn λow=>bh (ux Jp (ha ow) (hb ow) hs) λZ H Q ⟨E,q⟩=>⟨E,λv H1 s1 r1=>⟨E.same s1,λu H2 s2 r2=>?_⟩⟩
    obtain⟨p,vs,rfl,hq,rl⟩:=iN (r1.same s2);rw[ae]at r2;subst r2;obtain⟨w,h1,h2⟩:=rl.atI e;exact⟨p,vs,i,w,rfl,rfl,hq,h1,q w H2 (s1.trans s2) h2⟩
  ·cases h
 ·cases h
theorem yh{K:W.Frag}{H:Hp}{k:av}{l:List (List Int)}:∀{ks:List av} {ls:List (List (List Int))} {vs:List V},nD K H ls vs->Gi ks ls k=some l->∃a o ts,iu (ks.zip vs) k=some (.ref a)/\H a=some (.frz o (.lst ts))/\cg K H ts l
 | [],_,_,_,h=>by cases h
 | _::_,[],_,_,h=>by cases h
 | j::ks,l'::ls,v::vs,f,h=>by
  rw[Gi]at h;rw[T7];by_cases e:j=k
  ·rw[if_pos e]at h;cases h;obtain⟨a,o,ts,rfl,h1,h2⟩:=f.1;exact⟨a,o,ts,jB e,h1,h2⟩
  ·rw[if_neg e]at h;rw[jC e];exact yh f.2 h
 | _::_,_::_,[],f,_=>f.elim
theorem yg{K:W.Frag}{H:Hp}{k:av}{l:List Int}:∀{ks:List av} {ls:List (List Int)} {vs:List V},cg K H vs ls->eG ks ls k=some l->∃a,iu (ks.zip vs) k=some (.ref a)/\bX K H a (l.map V.int)
 | [],_,_,_,h=>by cases h
 | _::_,[],_,_,h=>by cases h
 | j::ks,l'::ls,v::vs,f,h=>by
  rw[eG]at h;rw[T7];by_cases e:j=k
  ·rw[if_pos e]at h;cases h;obtain⟨a,rfl,h1,_⟩:=f.1;exact⟨a,jB e,h1⟩
  ·rw[if_neg e]at h;rw[jC e];exact yg f.2 h
 | _::_,_::_,[],f,_=>f.elim
theorem vw{K:W.Frag}{P:bi}{H:Hp}:∀{bs:List V} {nss:List (List Int)},cg K H bs nss->ah K H P (nss.map λns=>.tup (ns.map D.int)) bs
 | [],[],_=>ah.nil
 | v::bs,ns::nss,h=>by
  obtain⟨a,rfl,hq,_⟩:=h.1;exact ah.cons (by rw[ae];exact⟨a,_,rfl,hq,ah.ofInts⟩) (vw h.2)
 | [],_::_,h=>h.elim
 | _::_,[],h=>h.elim
theorem SJ{a:Addr}{o:Obj}{kvs:List (av×V)}(I:aj X dl Z H s)(ha:H a=some (.frz o (.dK kvs))):s.heap.get? a=some o/\(a==sysModules)=false/\kvs.length<=sizeLine/\∃vs,KV kvs vs/\s.heap.DictOf (dE X.prog X.w) a vs:=by
 obtain⟨e,z,hd,vs,rel,dd⟩:=(show bz X.prog X.w H s.heap a (.frz o (.dK kvs))from I.hok a _ ha);exact⟨e,hd,z,vs,rel,dd⟩
theorem B6:GW X (λx y H Q => ∃p o kvs k v,x=.ref p/\y=kV k/\H p=some (.frz o (.dK kvs))/\iu kvs k=some v/\Q v H):=by
 intro value slice dl s Z H x y v u Q I rx ry h hs;obtain⟨p,o,kvs,k,z,rfl,rfl,hq,he,q⟩:=h;cases rx;obtain⟨_,hd,_,vs,rel,dd⟩:=SJ I hq;obtain⟨w,hw,rw'⟩:=gO.some_of (v:=z) (o:=valueAt vs k) (by rw[<- he];exact rel.val k);exact subscriptTail_builtinR (x:=w) dd.typeIs PySem.F.slot_dict_getitem.lookup (wpAny_getItem_of (Q:=λr s'=>r=w/\EP X dl Z Q r s') (uA ry) dd.mapOf hw ⟨rfl,z,H,I.tok _,rw',q⟩) hs
theorem Nx{b:Expr}{p q r:D×Nat}(ha:ED X U a p.1 p.2)(hb:ED X U b q.1 q.2)(hs:lF b)(h:rE p q=.ok r o):ED X U (.Subscript a b pos) r.1 r.2:=by
 obtain⟨z,k⟩:=p;unfold rE at h;split at h
 ·cases h
 ·rename_i a0 ks ts e0;have e0:z=_:=e0;subst e0;split at h
  ·rename_i key e;split at h
   ·rename_i ns e2;cases h;refine λow=>bh (ux B6 (ha ow) (hb ow) hs) λZ H Q ⟨E,qq⟩=>⟨E,λv H1 s1 r1=>⟨E.same s1,λu H2 s2 r2=>?_⟩⟩
    have r1':=r1.same s2;rw[ae]at r1';obtain⟨e0,a,o,vs,rfl,hq,fz⟩:=r1';have hk:=pf (X:=X) e r2;obtain⟨la,g1,g2⟩:=yg fz e2;refine⟨a,o,_,key,.ref la,rfl,hk,hq,g1,qq _ H2 (s1.trans s2) ?_⟩;rw[ae];exact⟨la,_,rfl,g2,ah.ofInts⟩
   ·cases h
  ·cases h
 ·rename_i ks ls e0;have e0:z=_:=e0;subst e0;split at h
  ·rename_i key e;split at h
   ·rename_i l e2;cases h;refine λow=>bh (ux B6 (ha ow) (hb ow) hs) λZ H Q ⟨E,qq⟩=>⟨E,λv H1 s1 r1=>⟨E.same s1,λu H2 s2 r2=>?_⟩⟩
    have r1':=r1.same s2;rw[ae]at r1';obtain⟨e0,a,o,vs,rfl,hq,fz⟩:=r1';have hk:=pf (X:=X) e r2;obtain⟨la,oo,ts,g1,g2,g3⟩:=yh fz e2;refine⟨a,o,_,key,.ref la,rfl,hk,hq,g1,qq _ H2 (s1.trans s2) ?_⟩;rw[ae];exact⟨la,ts,false,rfl,.inl ⟨oo,g2⟩,λz=>(by cases z),vw g3⟩
   ·cases h
  ·cases h
 ·unfold MZ at h;split at h
  ·rename_i j hj;rw[hj]at hb;exact P0 ha hb hs h
  ·cases h
theorem GQ{e:Option Expr}{t t':TO}(h:PO X e t)(i:∀Z H Q,t' Z H Q->t Z H Q):PO X e t':=λdl s Z H Q I q=>h dl s Z H Q I (i Z H Q q)
theorem IT:OD X U none none:=λow=>GQ Iz λZ H Q ⟨E,q⟩=>q H (ar.refl _)
theorem IS{i:Int}(h:ED X U e (.int i) k):OD X U (some e) (some i):=λow=>GQ (Iy (h ow)) λZ H Q ⟨E,q⟩=>⟨E,λv H1 s1 r1=>by rw[ae]at r1;exact⟨i,r1,q H1 s1⟩⟩
theorem ah.cut{P:bi}{lo hi:Option Int}(h:ah K H P l vs):ah K H P (mZ l lo hi) (kN vs lo hi):=by
 unfold mZ kN;rw[<- h.length];exact(h.drop _).take _
theorem kK:∀{l:List D} {n:Nat},aK l=true->aK (l.take n)=true
 | [],n,h=>by simp[aK]
 | d::l,0,h=>by simp[aK]
 | d::l,n+1,h=>by
  rw[aK,Tj]at h;rw[List.take_succ_cons,aK,Tj];exact⟨h.1,kK h.2⟩
theorem kL:∀{l:List D} {n:Nat},aK l=true->aK (l.drop n)=true
 | [],n,h=>by simp[aK]
 | d::l,0,h=>h
 | d::l,n+1,h=>by
  rw[aK,Tj]at h;exact kL (n:=n) h.2
theorem Ey{x:D}{l h:Option Int}(ha:ED X U a x k)(hl:OD X U lo l)(hh:OD X U hi h)(e:vn x l h=.ok (z,j) o)(hp:aH o):ED X U (.Subscript a (.Slice lo hi none p2) pos) z j:=by
 unfold vn at e;split at e
 ·rename_i m
  ·cases e;have c:aK m=true /\ ¬ (HT.sIx m.length 0 l=0/\HT.sIx m.length m.length h=m.length):=⟨hp.1,by have hx:=hp.2.1;unfold NG at hx;intro z;rw[Tv z.1,Tv z.2]at hx;cases hx⟩;refine λow=>bh (o7 Lj (ha ow) (hl ow) (hh ow)) λZ H Q ⟨E,q⟩=>⟨E,λv H1 s1 r1=>⟨E.same s1,λH2 s2=>⟨(E.same s1).same s2,λH3 s3=>?_⟩⟩⟩
   have s13:=s2.trans s3;obtain⟨p,vs,rfl,hq,rl⟩:=jF (r1.same s13);refine⟨p,vs,rfl,hq,by rw[<- rl.length];exact c.2,λp' hp'=>?_⟩;have sm:=cf (o:=HO.tup (kN vs l h)) hp';refine q _ _ ((s1.trans s13).trans sm) ?_;rw[ae];exact⟨p',_,rfl,bX.of aw,ah.flat _ (by unfold mZ;exact kK (kL c.1)) (rl.cut.same sm)⟩
 ·rename_i m
  ·cases e;have c:aK m=true:=hp.1;refine λow=>bh (o7 HS (ha ow) (hl ow) (hh ow)) λZ H Q ⟨E,q⟩=>⟨E,λv H1 s1 r1=>⟨E.same s1,λH2 s2=>⟨(E.same s1).same s2,λH3 s3=>?_⟩⟩⟩
   have s13:=s2.trans s3;obtain⟨p,vs,rfl,hq,rl⟩:=iN (r1.same s13);refine⟨p,vs,rfl,hq,λp' hp'=>?_⟩;have sm:=cf (o:=HO.lst (kN vs l h)) hp';refine q _ _ ((s1.trans s13).trans sm) ?_;rw[ae];exact⟨p',_,true,rfl,aw,⟨rfl,(s1.trans s13).free hp'⟩,ah.flat _ (by unfold mZ;exact kK (kL c)) (rl.cut.same sm)⟩
 ·cases e
theorem bE{env:Env}{pos:Pos}:∀{es:List Expr},(∀e∈es,∀x p,e ≠ .Starred x p)->(backTo pos (starEach es env)).any (·.1)=false
 | [],_=>rfl
 | e::es,h=>by
  have ih:=bE (env:=env) (es:=es) (pos:=pos) λx hx=>h x (SR _ hx)
  have he:=h e SV;cases e<;>first|exact absurd rfl (he _ _)|exact ih
theorem ax(h:∀x p,e ≠ .Starred x p):starEach (e::es) env=(false,eval e env)::starEach es env:=by
 cases e<;>first|exact absurd rfl (h _ _)|rfl
theorem EB{r:D}(G:aJ O X sc)(hf:G0 X f F)(hg:sc.names.lookup f=some .globalImplicit)
  (ha:AD X U args ds k) (hst:∀e∈args,∀x p,e ≠ .Starred x p) (hnil:args=[]->ds=[]) (h:F ds=.ok r o) (hp:aH o):ED X U (.Call (.Name f p) args [] pos) r 0:=by
 obtain⟨n,fa,fd,ps,hF,hr,hm,hk,hb,hd⟩:=hf;intro ow;cases args with
 | nil =>
  refine bh (DO hF hr (G.gl f hg) hm hk hb .nil iO hd) λZ H Q ⟨E,q⟩=>?_
  have hds:=hnil rfl;subst hds;exact⟨[],r,o,ah.nil,h,hp,λv H' s1 r1=>q v H' s1 r1⟩
 | cons e es =>
  refine bh (II hF hr (G.gl f hg) hm hk hb .nil iO (ha ow) hd (ax (hst e SV)) (bE λx hx=>hst x (SR _ hx))) λZ H Q ⟨E,q⟩=>⟨E,λvs H1 s1 r1=>?_⟩
  refine⟨ds,r,o,by rw[Tw];exact r1.imp λ_ _ _=>True.intro,h,hp,λv H' s2 r2=>q v H' (s1.trans s2) (r2.imp λa b p=>⟨p.1,s1.free p.2⟩)⟩
theorem iZ{x dx:Addr}(hx:H x=none)(hd:H dx=none):ar H (aA (aA H dx (.own x)) x (.ins C dx [])):=λa o h=>by
 rw[aq (λz=>by subst z;rw[hx]at h;cases h),aq (λz=>by subst z;rw[hd]at h;cases h)];exact h
theorem JR{r:D}(G:aJ O X sc)(hf:N5 X f F)(hg:sc.names.lookup f=some .globalImplicit)
  (ha:AD X U args ds k) (hst:∀e∈args,∀x p,e ≠ .Starred x p) (hnil:args=[]->ds=[]) (h:F ds=.ok r o) (hp:aH o):ED X U (.Call (.Name f p) args [] pos) r 0:=by
 obtain⟨n,C,fa,fd,ps,hfl,hM,hF,hr,hm,hns,hc,hb,hd⟩:=hf;have hl:=hfl ds r o h;intro ow;cases args with
 | nil =>
  refine bh (vH hM hF hr (G.gl f hg) hm hb .nil iO hd) λZ H Q ⟨E,q⟩=>?_
  have hds:=hnil rfl;subst hds;intro x dx hx hdx ne;refine⟨x,[],C,dx,[],r,o,rfl,aw,hns,hc,ah.nil,h,hp,hl,λH' kp rr=>⟨rfl,q _ H' (λa ob ha=>?_) (rr.flat _ hl)⟩⟩;exact kp a ob (λz=>by subst z;rw[hx]at ha;cases ha) (iZ hx hdx a ob ha)
 | cons e es =>
  refine bh (IH hM hF hr (G.gl f hg) hm hb .nil iO (ha ow) hd (ax (hst e SV)) (bE λx hx=>hst x (SR _ hx))) λZ H Q ⟨E,q⟩=>⟨E,λvs H1 s1 r1=>?_⟩
  intro x dx hx hdx ne;refine⟨x,vs++[],C,dx,ds,r,o,rfl,aw,hns,hc,by rw[Tw];exact(r1.same (iZ hx hdx)).imp λ_ _ _=>True.intro,h,hp,hl,λH' kp rr=>⟨rfl,q _ H' (s1.trans λa ob ha=>?_) (rr.flat _ hl)⟩⟩;exact kp a ob (λz=>by subst z;rw[hx]at ha;cases ha) (iZ hx hdx a ob ha)
theorem JT{r:D}(G:aJ O X sc)(hf:O.fn f=some F)(hg:sc.names.lookup f=some .globalImplicit)
  (ha:AD X U args ds k) (hst:∀e∈args,∀x p,e ≠ .Starred x p) (hnil:args=[]->ds=[]) (h:F ds=.ok r o) (hp:aH o):ED X U (.Call (.Name f p) args [] pos) r 0:=by
 rcases G.fn f F hf with z|z
 ·exact EB G z hg ha hst hnil h hp
 ·exact JR G z hg ha hst hnil h hp
theorem qt{o:Expr}{name:Str}{apos:Pos}(hb:attributeBase o name env (eval o env)=eval o env)(hf:methodCallForm (args.length+([]:List Keyword).length) (backTo pos (starEach args env)) (backToKw pos (keywordEach [] env))=true)
  (hl:(apos.endLine==pos.line)=true):eval (.Call (.Attribute o name apos) args [] pos) env=(do
   let ov <- eval o env
   standAt apos.atName
   let (f,first) <- holding [ov] (getMethod ov name (do return (<- importBound o env).getD true))
   callWith pos f first (backTo pos (starEach args env)) (backToKw pos (keywordEach [] env))):=by
 show(do
  let ov <- attributeBase o name env (eval o env)
  standAt apos.atName
  methodCall o name apos pos env ov (args.length+([]:List Keyword).length) (backTo pos (starEach args env)) (backToKw pos (keywordEach [] env)))=_
 rw[hb];unfold methodCall calleeOf methodCallPos;rw[hf,hl];rfl
theorem cj{t:Sem Value}(h:de a=true):attributeBase a m env t=t:=by
 unfold attributeBase;split
 ·cases h
 ·rfl
theorem eN(hst:∀e∈args,∀x p,e ≠ .Starred x p)(hn:args.length<29):methodCallForm (args.length+([]:List Keyword).length) (backTo pos (starEach args env)) (backToKw pos (keywordEach [] env))=true:=by
 unfold methodCallForm;have e1:(backTo pos (starEach args env)).all (λx => !x.1)=true:=by
  have:=bE (env:=env) (pos:=pos) hst;rw[TJ];intro x hx;have h2:¬ (backTo pos (starEach args env)).any (·.1)=true:=by rw[this];exact Ta
  cases hb:x.1 with
  | false=>rfl
  | true=>exact absurd (List.any_eq_true.mpr ⟨x,hx,hb⟩) h2
 rw[e1];show(true&&true&&decide (args.length+0+0<30))=true;simp;omega
theorem jA:ns.contains m=false->(ns.zip vs).lookup m=none:=by
 induction ns generalizing vs with
 | nil=>intro _;rfl
 | cons a ns ih =>
  intro h;cases vs with
  | nil=>rfl
  | cons v vs =>
   rw[Ve,Bool.or_eq_false_iff]at h;show List.lookup m ((a,v)::ns.zip vs)=none;rw[S9,h.1];exact ih h.2
theorem JQ{n:Str}{es:List D}{r:D}(G:aJ O X sc)(hf:O.omt n m=some F)(he:ED X U a (.obj n ns es) j)
  (ha:AD X U args ds k) (hst:∀e∈args,∀x p,e ≠ .Starred x p) (hlen:args.length=ds.length) (hn:ns.contains m=false) (hb:de a=true) (hfew:ds.length<29) (hl:(ap.endLine==pos.line)=true) (h:F (.obj n ns es::ds)=.ok r o) (hp:aH o):ED X U (.Call (.Attribute a m ap) args [] pos) r 0:=by
 obtain⟨kk,C,fa,fd,ps,hns,hc,hm,hF,hr,hbd⟩:=G.omt n m F hf;intro ow;have ht:=qt (o:=a) (name:=m) (apos:=ap) (pos:=pos) (args:=args) (env:=X.env) (cj hb) (eN hst (by omega)) hl;cases args with
 | nil =>
  refine bh (DL (he ow) hc hm hF hr hbd .nil iO ht) λZ H Q ⟨E,q⟩=>⟨E,λv H1 s1 r1=>?_⟩
  have hds:ds=[]:=UA.mp hlen.symm;subst hds;have r0:=r1;rw[ae]at r1;obtain⟨f,e0,x,C',dx,vs,rfl,h1,h2,h3,r2⟩:=r1;rw[hns]at h1;cases h1;refine⟨x,dx,_,rfl,h3,jA hn,[.obj n ns es],r,o,ah.one (r0.imp λ_ _ _=>True.intro),h,hp,λv H' s2 r2=>q v H' (s1.trans s2) (r2.imp λa b p=>⟨p.1,s1.free p.2⟩)⟩
 | cons e es' =>
  refine bh (IG (he ow) hc hm hF hr hbd .nil iO (ha ow) (ax (hst e SV)) (bE λx hx=>hst x (SR _ hx)) ht) λZ H Q ⟨E,q⟩=>⟨E,λv H1 s1 r1=>?_⟩
  have r0:=r1;rw[ae]at r1;obtain⟨f,e0,x,C',dx,vs,rfl,h1,h2,h3,r2⟩:=r1;rw[hns]at h1;cases h1;refine⟨x,dx,_,rfl,h3,jA hn,E.same s1,λws H2 s2 rw2=>?_⟩;refine⟨.obj n ns es::ds,r,o,by rw[Tw];exact ah.cons ((r0.same s2).imp λ_ _ _=>True.intro) (rw2.imp λ_ _ _=>True.intro),h,hp,λv H' s3 r3=>q v H' ((s1.trans s2).trans s3) (r3.imp λa b p=>⟨p.1,s1.free (s2.free p.2)⟩)⟩
theorem uR{K:W.Frag}{H:Hp}{P:bi}{f:Str}{d:D}:∀{ns:List Str} {ds:List D} {vs:List V},ah K H P ds vs->(ns.zip ds).lookup f=some d->∃v,(ns.zip vs).lookup f=some v/\ae K H P d v/\(aK ds=true->d.lless=true)
 | [],ds,vs,_,h=>by cases h
 | a::ns,[],vs,_,h=>by cases h
 | a::ns,e::ds,vs,r,h=>by
  rw[ah]at r;obtain⟨v,ws,rfl,r1,r2⟩:=r;replace h:List.lookup f ((a,e)::ns.zip ds)=some d:=h;show ∃u,List.lookup f ((a,v)::ns.zip ws)=some u/\_;rw[S9]at h⊢;cases hb:f==a with
  | true =>
   rw[hb]at h;cases h;exact⟨v,rfl,r1,λz=>by rw[aK,Tj]at z;exact z.1⟩
  | false =>
   rw[hb]at h;obtain⟨u,u1,u2,u3⟩:=uR r2 h;exact⟨u,u1,u2,λz=>by rw[aK,Tj]at z;exact u3 z.2⟩
theorem Nz{n:Str}(G:aJ O X sc)(hf:O.fld n f=true)(he:ED X U a (.obj n ns ds) j)(hb:de a=true)(h:(ns.zip ds).lookup f=some d):ED X U (.Attribute a f pos) d 0:=by
 intro ow;refine bh (LX (he ow) (cj hb)) λZ H Q ⟨E,q⟩=>⟨E,λv H1 s1 r1=>?_⟩
 rw[ae]at r1;obtain⟨fl,e0,x,C,dx,vs,rfl,h1,h2,h3,r2⟩:=r1;obtain⟨u,u1,u2,u3⟩:=uR r2 h;exact⟨x,C,dx,_,u,rfl,h3,h2,G.fld n f hf C h1,u1,q u H1 s1 (u2.flat _ (u3 fl))⟩
theorem JO{n p:Str}{i:Fv}(he:ED X U a (.xc n (some (p,[(f,i)]))) j)(hb:de a=true):ED X U (.Attribute a f pos) (oG i) 0:=by
 intro ow dl s Z H Q I ⟨E,q⟩;refine yK (cj hb) (aG (he ow dl s Z H (λv H'=>ar H H'/\lX X.K H' n (some (p,[(f,i)])) v) I ⟨E,λv H' s1 r1=>⟨s1,by rw[ae]at r1;exact r1⟩⟩) λu s1 ⟨v,H1,I1,rx,sm,x,C,S,od,e,h1,h2,h3,h4,h5,h6⟩=>?_);subst e;obtain rfl:u=Value.ref x:=rx;obtain⟨dx,rfl,hdx⟩:=h5 f i rfl;obtain⟨o,vs,e1,e2,e3,e4⟩:=(show bz X.prog X.w H1 s1.heap x (lr x C (some dx))from I1.hok x _ h4).1;obtain⟨mA,hn,hr⟩:=(show bz X.prog X.w H1 s1.heap dx (.xd [(f,fw i)])from I1.hok dx _ hdx);obtain⟨u,hu,ru⟩:=gO.some_of (v:=fw i) (o:=mA f) (by have:=hr f;rw[S9,beq_self_eq_true]at this;exact this);obtain⟨nm,qn,N,bs,hdct,sn,sub,ab,col,dd,k0,k1,k2,k3,k5,mN,g1,g2,g3,g4⟩:=gK h3.ex I1.kIn;exact JF h3.ga h3.gt (h6 f i rfl).no (h6 f i rfl).di I1.kIn e1 e2 e4 e3 hn hu (tN ru) g1 g4 ⟨fw i,H1,I1.tok _,ru,q _ _ sm Ik⟩
theorem NC{l:Nat}(G:aJ O X sc)(hB:dy f B)(hg:sc.names.lookup f=some .globalImplicit)
  (ha:AD X U (e::es) ds k) (hst:∀x∈e::es,∀y p,x ≠ .Starred y p) (h:B ds=.ok (z,l) o) (hp:aH o):ED X U (.Call (.Name f p) (e::es) [] pos) z l:=by
 obtain⟨h3,h1,h2,_,h4⟩:=hB;have h4:=h4 X ds z l o G.calm h hp;intro ow;have n1:=ax (env:=X.env) (es:=es) (hst e SV);have n2:(backTo pos (starEach es X.env)).any (·.1)=false:=bE λx hx=>hst x (SR _ hx)
 rcases h4 with⟨id,e1,r,e2,e3⟩|⟨T,e1,r,e2,e3⟩
 ·refine bh (DN e2 (G.gl f hg) (G.bl f h3) e1 (ha ow) h1 h2 n1 n2) λZ H Q ⟨E,q⟩=>⟨E,λvs H1 s1 r1=>?_⟩
  exact e3 ow H H1 vs _ Q E.own s1 r1 λw H' s2 r2=>q w H' (s1.trans s2) r2
 ·refine bh (Bx e2 (G.gl f hg) (G.bl f h3) e1 (ha ow) h1 h2 n1 n2) λZ H Q ⟨E,q⟩=>⟨E,λvs H1 s1 r1=>?_⟩
  exact e3 ow H H1 vs _ Q E.own s1 r1 λw H' s2 r2=>q w H' (s1.trans s2) r2
theorem Ju(h:ED X U e (.lst l) k):IE X U tg e l k:=by
 intro ow dl s Z H R I ⟨E,q⟩;refine IC (tg:=tg) (h ow) dl s Z H R I ⟨E,λv H1 s1 r1=>?_⟩;rw[ae]at r1;obtain⟨a,vs,b,rfl,hl,hp,rl⟩:=r1;have rl':ah X.K H1 (Kd ow H k H1) l vs:=rl.impH (λa o ho p=>⟨p,λ_=>⟨o,ho⟩⟩) λa p=>⟨p,λz=>(by cases z)⟩
 have hp':Kd ow H k H1 a b:=⟨hp,λhb=>by subst hb;exact⟨_,hl⟩⟩;have sq:∀{H2:Hp},oO X.K H2 a vs b->cF X.K H2 a vs:=λ{H2} h=>h.sq
 refine⟨a,rfl,⟨vs,sq hl⟩,q _ H1 s1 λi H2 st=>⟨λd hd=>?_,λhle=>?_⟩⟩
 ·have h2:=sq (st.ls hl hp');obtain⟨w,hw,rw'⟩:=rl'.get hd;refine⟨⟨vs,w,h2,hw⟩,λx H3 ⟨e3,y3⟩=>?_⟩;subst e3;have:=y3 vs h2;rw[hw]at this;cases this;exact⟨ar.refl _,rw'.mono st⟩
 ·exact⟨vs,sq (st.ls hl hp'),by rw[<- rl.length];exact hle⟩
theorem M1(h:ED X U e (.tup l) k):IE X U tg e l k:=by
 intro ow dl s Z H R I ⟨E,q⟩;refine LK (tg:=tg) (h ow) dl s Z H R I ⟨E,λv H1 s1 r1=>?_⟩;rw[ae]at r1;obtain⟨a,vs,rfl,hl,rl⟩:=r1;have rl':ah X.K H1 (Kd ow H k H1) l vs:=rl.impH (λa o ho p=>⟨p,λ_=>⟨o,ho⟩⟩) λa p=>⟨p,λz=>(by cases z)⟩
 refine⟨a,rfl,⟨vs,hl⟩,q _ H1 s1 λi H2 st=>⟨λd hd=>?_,λhle=>?_⟩⟩
 ·have h2:=st.sq hl;obtain⟨w,hw,rw'⟩:=rl'.get hd;refine⟨⟨vs,w,h2,hw⟩,λx H3 ⟨e3,y3⟩=>?_⟩;subst e3;have:=y3 vs h2;rw[hw]at this;cases this;exact⟨ar.refl _,rw'.mono st⟩
 ·exact⟨vs,st.sq hl,by rw[<- rl.length];exact hle⟩
def QC(x:Str):It:=⟨λi _=>i<x.cps.size,λi H v H'=>H'=H/\∃c,x.cps[i]?=some c/\v=.str ⟨#[c]⟩,λi _=>x.cps.size<=i⟩
theorem De(x:Str)(t:Tok)(it:Addr):Turn P w K tg (QC x) [it] it (λi h=>h.IsStrIter it "str_ascii_iterator" x t i) where
 mem:=by simp
 obj:=λi h st b hb=>by
  have e:b=it:=by simpa using hb
  subst e;obtain⟨o,e,c,d⟩:=st;exact⟨o,e,λv z=>by rw[d]at z;cases z⟩
 keep:=λi h h' st k=>by
  obtain⟨o,e,c,d⟩:=st;exact⟨o,k it (by simp) o e,c,d⟩
 item:=by
  intro X hP hw hK hc i dl s Z H E I hf st hg;subst hP hw hK;obtain⟨f0,f1,f2,f3,f4,f5⟩:=hf it (by simp);have hx:x.cps[i]?=some x.cps[i]:=Array.getElem?_eq_getElem hg;refine wpAny_pyNext_ascii_item st hx λh' st' sb=>?_
  have I1:aj X dl Z H { s with heap:=h',toks:=s.toks+1 }:=I.turned (t':=s.toks+1) (λb o hb e=>(sb.2 b hb).trans e) f0 f1 f3 f4 f5;obtain⟨o,e,c,d⟩:=id st';exact⟨_,rfl,uB (s:={ s with heap:=h',toks:=s.toks+1 }) e c d (by decide) ⟨.str ⟨#[x.cps[i]]⟩,H,I1,⟨_,rfl⟩,⟨rfl,_,hx,rfl⟩,st',λb hb=>(hf b hb).1⟩⟩
 done:=by
  intro X hP hw hK hc i dl s Z H E I hf st hg;subst hP hw hK;obtain⟨f0,f1,f2,f3,f4,f5⟩:=hf it (by simp);exact wpAny_pyNext_ascii_end (I.ok.hd hc) st (Ua hg) λh' eb=>⟨rfl,I.turned (t':=s.toks) (λb o hb e=>eb b o hb e) f0 f1 f3 f4 f5⟩
 self:=λ_ _ _ _ _ st h=>wpAny_pyIter_striter_ascii st h
theorem M2(h:ED X U e (.str x) k)(ha:(x.cps.all λc=>decide (c<128))=true):IE X U tg e (sgs x) k:=by
 intro ow dl s Z H R I ⟨E,q⟩;refine aG (h ow dl s Z H _ I ⟨E,λv H1 s1 r1=>(show(λv H1=>ar H H1/\ae X.K H1 (Kp ow H k) (.str x) v) v H1 from⟨s1,r1⟩)⟩) λv s1 ⟨y,H1,I1,rel,sm,rp⟩=>?_
 rw[ae]at rp;subst rp;obtain⟨t,rfl⟩:=rel;have ty:strIterType x = "str_ascii_iterator" := if_pos ha;refine wpAny_pyIter_strU ?_;rw[ty];refine⟨s1.heap.objs.size,[s1.heap.objs.size],_,QC x,H1,rfl,I1.kept (t':=s1.toks) λb o e=>SQ _ e,De x t _,⟨_,S6 _ rfl,rfl,rfl⟩,λb hb=>?_,q _ H1 sm λi H2 st=>⟨λd hd=>?_,λhle=>?_⟩⟩
 ·have e:b=s1.heap.objs.size:=by simpa using hb
  subst e;exact I1.fpOk (SX _) (I1.hok.fresh (SX _))
 ·unfold sgs at hd;rw[TQ]at hd;cases hc:x.cps.toList[i]? with
  | none=>rw[hc]at hd;cases hd
  | some c =>
   rw[hc]at hd;cases hd;have hi:i<x.cps.size:=by simpa using (Tl.mp hc).1
   refine⟨hi,λz H3 ⟨e3,c',e4,e5⟩=>?_⟩;subst e3 e5;rw[Array.getElem?_toList]at hc;rw[hc]at e4;cases e4;exact⟨ar.refl _,by rw[ae]⟩
 ·unfold sgs at hle;rw[SY,UE]at hle;exact hle
theorem PC(h:ED X U e d k)(hi:items d=some l):IE X U tg e l k:=by
 unfold items at hi;split at hi
 ·cases hi;exact Ju h
 ·cases hi;exact M1 h
 ·split at hi
  ·rename_i ha;cases hi;exact M2 h ha
  ·cases hi
 ·cases hi
theorem Ei{j:Int}(hg:Gl X "range")(hm0:X.mg "range" = none)(ha:AD X U [a] [.int j] k)(hst:∀y p,a ≠ .Starred y p)(h1:-4611686018427387904<=j)(h2:j<=bx) :
  IE X U tg (.Call (.Name "range" p) [a] [] pos) ((List.range j.toNat).map λi=>.int (i:Nat)) 0:=by
 intro ow dl s Z H R I ⟨E,q⟩;refine Bu (tg:=tg) hg hm0 (ha ow) (by rw[ax hst];rfl) dl s Z H R I ⟨E,λvs H1 s1 r1=>?_⟩;obtain⟨v,rfl,rv⟩:=r1.only;rw[ae]at rv;subst rv;have hm:(bx:Int)<2 ^ 62:=by decide
 refine⟨j,rfl,h1,by omega,q _ H1 s1 λi H2 st=>⟨λd hd=>?_,λhle=>?_⟩⟩
 ·rw[TQ]at hd;cases e:(List.range j.toNat)[i]? with
  | none=>rw[e]at hd;cases hd
  | some n =>
   rw[e]at hd;cases hd;obtain⟨hi,hn⟩:=Tl.mp e;rw[List.getElem_range]at hn;subst hn;rw[UP]at hi;refine⟨hi,λx H3 ⟨e3,y3⟩=>?_⟩;subst e3 y3;exact⟨ar.refl _,by rw[ae,Int.zero_add]⟩
 ·rw[SY,UP]at hle;exact hle
theorem Ca{b:Expr}{j0 j:Int}(hg:Gl X "range")(hm0:X.mg "range" = none)(ha:AD X U [a,b] [.int j0,.int j] k)(hst:∀y p,a ≠ .Starred y p)(hst2:∀y p,b ≠ .Starred y p)(h1:-4611686018427387904<=j0)(h2:j0<=4611686018427387000)(h3:-4611686018427387904<=j)(h4:j-j0<=800) :
  IE X U tg (.Call (.Name "range" p) [a,b] [] pos) ((List.range (j-j0).toNat).map λi=>.int (j0+(i:Nat))) 0:=by
 intro ow dl s Z H R I ⟨E,q⟩;refine Bt (tg:=tg) hg hm0 (ha ow) (by rw[ax hst,ax hst2];rfl) (by rw[ax hst2];rfl) dl s Z H R I ⟨E,λvs H1 s1 r1=>?_⟩;rw[ah]at r1;obtain⟨v1,r,rfl,r2,r3⟩:=r1;rw[ah]at r3;obtain⟨v2,r',rfl,r4,r5⟩:=r3;rw[ah]at r5;rw[ae]at r2 r4;subst r2 r4 r5;refine⟨j0,j,rfl,⟨h1,by omega,h3,by omega⟩,q _ H1 s1 λi H2 st=>⟨λd hd=>?_,λhle=>?_⟩⟩
 ·rw[TQ]at hd;cases e:(List.range (j-j0).toNat)[i]? with
  | none=>rw[e]at hd;cases hd
  | some n =>
   rw[e]at hd;cases hd;obtain⟨hi,hn⟩:=Tl.mp e;rw[List.getElem_range]at hn;subst hn;rw[UP]at hi;refine⟨hi,λx H3 ⟨e3,y3⟩=>?_⟩;subst e3 y3;exact⟨ar.refl _,by rw[ae]⟩
 ·rw[SY,UP]at hle;exact hle
theorem Cb:n9 "range" mU:=by
 refine⟨by decide +kernel,λX U p pos args ds k d j l tg o hc hg hm ha hst hlen h hp hl ht=>?_⟩;unfold mU at h;split at h
 ·rename_i n;cases h;cases hl
  match args,hlen,ha,hst with
  | [a],_,ha,hst=>exact Ei hg hm ha (hst a SV) hp.1 hp.2.1
 ·rename_i m n;cases h;cases hl
  match args,hlen,ha,hst with
  | [a,b],_,ha,hst=>exact Ca hg hm ha (hst a SV) (hst b (SR _ SV)) hp.1 hp.2.1 hp.2.2.1 hp.2.2.2.1
 ·cases h
open AutoSeq1 (wpAny_loadPart')
section
variable{prog:Program}{w:World}{A:Around}{E:Value->Shared->Prop}{s:Shared}
theorem HI{it:Addr}{vs:Array Value}{x:Value}(hIt:s.heap.IsTupleIter it tu i)(hT:s.heap.IsTuple tu vs)(hx:vs[i]?=some x)
  (go:∀h1,h1.IsTupleIter it tu (i+1)->Heap.SameBut it s.heap h1->Q x { s with heap:=h1 }):wpAny (model prog w) A (Builtin.SmallTypes.nextOf (.ref it)) Q E s:=by
 have key:=wpAny_pyNext_tuple_item (prog:=prog) (w:=w) (A:=A) (E:=E) (Q:=λr s1 => ∃v,r=some v/\Q v s1) hIt hT hx (λh1 a b=>⟨x,rfl,go h1 a b⟩);obtain⟨o,ho,hc,hd⟩:=id hIt;obtain⟨ot,hot,_,nt,hdt⟩:=hT;unfold Builtin.SmallTypes.nextOf;refine SO (Uk (name:=Str.ofString "__next__") hIt.typeIs F.slot_tuple_iterator_next (UH F.slot_tuple_iterator_next hIt.typeIs F.entry_tuple_iterator_next ?_ (F.args_tuple_iterator_next_1 _)));show wpAny _ _ (field (.ref it) 0 >>= _) _ _ s;refine SO (Tr ho hd (x:=.ref tu) rfl ?_);show wpAny _ _ (if (Value.ref tu==Value.none)=true then _ else _) _ _ s;rw[if_neg (show ¬ ((Value.ref tu==Value.none)=true)from Ta)];show wpAny _ _ (field (.ref it) 1 >>= _) _ _ s;refine SO (Tr ho hd (x:=Value.int (i:Int) 0) rfl ?_);show wpAny _ _ (seqItems? (.ref tu) >>= _) _ _ s;refine SO (UT hot hdt ?_);simp only[Int.toNat_natCast,hx];refine SO (U8 ho hd (by simp) (SU ⟨x,rfl,SU (go _ ?_ (Heap.SameBut.update ..))⟩));refine⟨_,Uf _ ho (UZ (TY hd _)),(Obj.cls_mapFields ..).trans hc,?_⟩;rw[TY hd];simp[rawInt]
theorem KS{it:Addr}{vs:Array Value}(hh:A.handled=none)(hIt:s.heap.IsTupleIter it tu i)(hT:s.heap.IsTuple tu vs)(hx:vs[i]?=none)
  (go:∀h1 x,Heap.ExtBut it s.heap h1->(∃o,h1.get? x=some o/\o.cls=.type "StopIteration")->E (.ref x) { s with heap:=h1 }):wpAny (model prog w) A (Builtin.SmallTypes.nextOf (.ref it)) Q E s:=by
 obtain⟨o,ho,hc,hd⟩:=id hIt;obtain⟨ot,hot,_,nt,hdt⟩:=hT;unfold Builtin.SmallTypes.nextOf;refine SO (Uk (name:=Str.ofString "__next__") hIt.typeIs F.slot_tuple_iterator_next (UH F.slot_tuple_iterator_next hIt.typeIs F.entry_tuple_iterator_next ?_ (F.args_tuple_iterator_next_1 _)));show wpAny _ _ (field (.ref it) 0 >>= _) _ _ s;refine SO (Tr ho hd (x:=.ref tu) rfl ?_);show wpAny _ _ (if (Value.ref tu==Value.none)=true then _ else _) _ _ s;rw[if_neg (show ¬ ((Value.ref tu==Value.none)=true)from Ta)];show wpAny _ _ (field (.ref it) 1 >>= _) _ _ s;refine SO (Tr ho hd (x:=Value.int (i:Int) 0) rfl ?_);show wpAny _ _ (seqItems? (.ref tu) >>= _) _ _ s;refine SO (UT hot hdt ?_);simp only[Int.toNat_natCast,hx];refine SO (wpAny_rule (SO (U8 ho hd (by simp) ?_)));show wpAny _ _ (newExc (.type "StopIteration") [] >>= _) _ _ _;refine SO ?_;simp only[newExc,newTuple];refine SO (Ur ?_ (by size_fits));refine SO (m:=firstArgMember _ _) (wpAny_of_eq (a:=Value.none) (by first|rfl|(simp only[firstArgMember]<;>rfl)) ?_);refine Ur ?_ (by size_fits);simp only[raiseNew];refine SO (wpAny_handled ?_);first|rw[show A.in1.handled=none from hh]|rw[hh]
 refine SO (SU (wpAny_throw ?_));exact go _ _ (((Heap.SameBut.update ..).extBut.push _).push _) ⟨_,S6 _ rfl,rfl⟩
theorem JL{e it:Addr}{x:Value}{Kn:Heap->Prop}(isE:IsEnum s.heap e it i old)(hne:e≠it)
  (stay:∀h1 h2:Heap,Kn h1->(∀o,h1.get? it=some o->h2.get? it=some o)->Kn h2)
  (inner:∀(Q1:Value->Shared->Prop),(∀h1,Kn h1->Heap.SameBut it s.heap h1->Q1 x { s with heap:=h1 })->wpAny (model prog w) A.in1 (Builtin.SmallTypes.nextOf (.ref it)) Q1 E s)
  (go:∀h1,IsEnumOut h1 e it ((i:Int)+1) x s.heap.objs.size->Kn h1->h1.get? s.heap.objs.size=some { cls:=.type "tuple", data:=.seq #[.int i s.toks,x] }->(∀b o,b≠e->b≠it->s.heap.get? b=some o->h1.get? b=some o)->Q (.ref s.heap.objs.size) { s with heap:=h1,toks:=s.toks+1 }) :
  wpAny (model prog w) A.in1 (Builtin.«enumerate.__next__» ⟨[.ref e],[]⟩) (λfin s' => ∃v,fin=.done (.ret v)/\Q v s') E s:=by
 obtain⟨h0,gg,dd,t0,oo⟩:=s;have elt:e<h0.objs.size:=S1 isE;show wpAny _ _ (field (.ref e) 2 >>= _) _ _ _;refine SO (Tr isE rfl (x:=Value.ref it) rfl (SO (inner _ λh1 k1 b1=>?_)));have b1':Heap.SameBut it h0 h1:=b1;have E1:IsEnum h1 e it i old:=(b1'.2 e hne).trans isE;show wpAny _ _ (field (.ref e) 3 >>= _) _ _ ⟨h1,gg,dd,t0,oo⟩;refine SO (Tr E1 rfl (x:=rawInt (i:Int)) rfl ?_);show wpAny _ _ (field (.ref e) 4 >>= _) _ _ ⟨h1,gg,dd,t0,oo⟩;refine SO (Tr E1 rfl (x:=Value.none) rfl ?_);show wpAny _ _ (mkInt i >>= _) _ _ ⟨h1,gg,dd,t0,oo⟩;refine SO (wpAny_mkInt ?_);show wpAny _ _ (setField (.ref e) 3 (rawInt ((i:Int)+1)) >>= _) _ _ ⟨h1,gg,dd,t0+1,oo⟩;refine SO (T9 E1 (by simp) λh2 E2 b2=>?_);have b2':Heap.SameBut e h1 h2:=b2;have E2':IsEnum h2 e it ((i:Int)+1) old:=E2;show wpAny _ _ (setField (.ref e) 4 .none >>= _) _ _ ⟨h2,gg,dd,t0+1,oo⟩;refine SO (T9 E2' (by simp) λh3 E3 b3=>?_);have b3':Heap.SameBut e h2 h3:=b3;have E3':IsEnum h3 e it ((i:Int)+1) old:=E3;show wpAny _ _ (newTuple [.int i t0,x] >>= _) _ _ ⟨h3,gg,dd,t0+1,oo⟩;refine SO (wpAny_newTuple ?_);have z3:h3.objs.size=h0.objs.size:=by rw[b3'.1,b2'.1,b1'.1]
 have E4:IsEnum (h3.push { cls:=.type "tuple", data:=.seq #[.int i t0,x] }) e it ((i:Int)+1) old:=SQ _ E3';have T4:(h3.push { cls:=.type "tuple", data:=.seq #[.int i t0,x] }).get? h0.objs.size=some { cls:=.type "tuple", data:=.seq #[.int i t0,x] }:=by rw[<- z3];exact S6 _ rfl
 have K4:∀b o,b≠e->b≠it->h0.get? b=some o->(h3.push { cls:=.type "tuple", data:=.seq #[.int i t0,x] }).get? b=some o:=λb o n1 n2 q=>SQ _ (b3'.extBut b o n1 (b2'.extBut b o n1 (b1'.extBut b o n2 q)))
 have N4:Kn (h3.push { cls:=.type "tuple", data:=.seq #[.int i t0,x] }):=stay h1 _ k1 λo q=>SQ _ (b3'.extBut it o (Ub hne) (b2'.extBut it o (Ub hne) q))
 rw[z3];generalize h3.push { cls:=.type "tuple", data:=.seq #[.int i t0,x] }=h4 at E4 T4 K4 N4;show wpAny _ _ (Builtin.SmallTypes.ownedTupleIsFree (.ref e) >>= _) _ _ ⟨h4,gg,dd,t0+1,oo⟩;refine SO ?_;unfold Builtin.SmallTypes.ownedTupleIsFree;refine SO (Tr E4 rfl (x:=Value.none) rfl (SU ?_));simp only[Vl];refine SO (wpAny_rule (SO (Tr E4 rfl (x:=old) rfl ?_)));refine SO (T9 E4 (by simp) λh5 E5 b5=>?_);have b5':Heap.SameBut e h4 h5:=b5;have E5':IsEnum h5 e it ((i:Int)+1) x:=E5;show wpAny _ _ (Builtin.SmallTypes.ownedTupleHandOut (.ref e) (.ref h0.objs.size) >>= _) _ _ ⟨h5,gg,dd,t0+1,oo⟩;refine SO ?_;unfold Builtin.SmallTypes.ownedTupleHandOut;refine SO (T9 E5' (by simp) λh6 E6 b6=>?_);have b6':Heap.SameBut e h5 h6:=b6;have E6':IsEnumOut h6 e it ((i:Int)+1) x h0.objs.size:=E6;refine T9 E6' (by simp) λh7 E7 b7=>?_
 have b7':Heap.SameBut e h6 h7:=b7;have E7':IsEnumOut h7 e it ((i:Int)+1) x h0.objs.size:=E7;have far:∀b o,b≠e->h4.get? b=some o->h7.get? b=some o:=λb o n1 q=>b7'.extBut b o n1 (b6'.extBut b o n1 (b5'.extBut b o n1 q))
 refine SO (wpAny_letGo (SU ⟨_,rfl,go h7 E7' ?_ (far _ _ (TR elt) T4) λb o n1 n2 q=>far b o n1 (K4 b o n1 n2 q)⟩));exact stay h4 h7 N4 λo q=>far it o (Ub hne) q
end
variable{X:Cx}
theorem tL{t2:Nat}{p:Addr}{o:HO}(I:aj X dl Z H s)
  (k:∀b u,b∉ch->s.heap.get? b=some u->h2.get? b=some u) (hp:s.heap.objs.size<=p) (hn:∀b∈ch,gP X dl H b) (new:bz X.prog X.w (aA H p o) h2 p o):aj X dl Z (aA H p o) { s with heap:=h2,toks:=t2 }:=by
 have hH:H p=none:=I.hok.fresh hp;have tr:∀b u,H b=some u->b∉ch:=λb u e z=>by rw[(hn b z).1]at e;cases e
 have un:Un (bW X.stack) ch H (aA H p o) s.heap h2:=by
  refine⟨λb ob e n _ c=>k b ob c e,λb ob e n _ c=>⟨ob.slots,k b ob c e⟩,λb ob e n c=>?_,λb ob e c=>⟨ob,k b ob c e⟩,λb xs e=>?_,λb ob u e=>?_,λb ps e=>⟨#[],?_⟩⟩
  ·rw[aq (Ts (S4 (S1 e) hp))];exact n
  ·rw[aq (aR e hH)];exact e
  ·rw[aq (aR e hH)];exact e
  ·rw[aq (aR e hH),e];simp
 refine I.call (g':=s.gens) (d':=s.drawn) un (λb u e=>?_) I.bare λb hb=>⟨(hn b hb).2.2.2.1,(hn b hb).2.1,(hn b hb).2.2.2.2.1,(hn b hb).2.2.2.2.2⟩
 by_cases hb:b=p
 ·subst hb;rw[aw]at e;cases e;exact new
 ·rw[aq hb]at e;refine(I.hok b u e).stay (λc v hc q=>k c v ?_ q) (λc q=>by rw[aq (aR q hH)];exact q) λc xs q=>by rw[aq (aR q hH)];exact q
  rcases hc with z|z
  ·rw[z];exact tr b u e
  ·exact tr c _ z
theorem tK(h:ln tg=true):∃es n p,tg=.Tuple es n p:=by
 cases tg<;>first|exact⟨_,_,_,rfl⟩|cases h
open AutoSeq1 (wpAny_loadPart')
structure Wk(prog:Program)(w:World)(i l:Addr)(P:Nat->Heap->Prop)(g:Nat->Option Value):Prop where
 stay:∀k (h h':Heap),P k h->(∀c o,c=i\/c=l->h.get? c=some o->h'.get? c=some o)->P k h'
 here:∀k (h:Heap),P k h->∃o,h.get? i=some o/\∀v,o.data≠Data.cell v
 item:∀(A:Around) (E:Value->Shared->Prop) (s:Shared) (k:Nat) (x:Value) (Q:Value->Shared->Prop),P k s.heap->g k=some x->(∀h1,P (k+1) h1->Heap.SameBut i s.heap h1->Q x { s with heap:=h1 })->wpAny (model prog w) A (Builtin.SmallTypes.nextOf (.ref i)) Q E s
 done:∀(A:Around) (E:Value->Shared->Prop) (s:Shared) (k:Nat) (Q:Value->Shared->Prop),A.handled=none->P k s.heap->g k=none->(∀h1 x,Heap.ExtBut i s.heap h1->(∃o,h1.get? x=some o/\o.cls=.type "StopIteration")->E (.ref x) { s with heap:=h1 })->wpAny (model prog w) A (Builtin.SmallTypes.nextOf (.ref i)) Q E s
theorem KE{i l:Addr}(ne:l≠i):Wk prog w i l (λk h=>h.IsTupleIter i l k/\h.IsTuple l xs) (λk=>xs[k]?) where
 stay:=λk h h' p q=>⟨p.1.at λo e=>q i o (.inl rfl) e,p.2.at λo e=>q l o (.inr rfl) e⟩
 here:=λk h p=>let ⟨o,e,_,d⟩:=p.1;⟨o,e,λv z=>by rw[d]at z;cases z⟩
 item:=λA E s k x Q p hx q=>HI p.1 p.2 hx λh1 a b=>q h1 ⟨a,p.2.extBut b.extBut ne⟩ b
 done:=λA E s k Q hh p hx q=>KS hh p.1 p.2 hx q
theorem KG{i l:Addr}(ne:l≠i):Wk prog w i l (λk h=>h.IsListIter i l k/\h.IsList l xs) (λk=>xs[k]?) where
 stay:=λk h h' p q=>⟨p.1.at λo e=>q i o (.inl rfl) e,p.2.at λo e=>q l o (.inr rfl) e⟩
 here:=λk h p=>let ⟨o,e,_,d⟩:=p.1;⟨o,e,λv z=>by rw[d]at z;cases z⟩
 item:=λA E s k x Q p hx q=>wpAny_nextOf_list_item p.1 p.2 hx λh1 a b=>q h1 ⟨a,p.2.extBut b.extBut ne⟩ b
 done:=λA E s k Q hh p hx q=>wpAny_nextOf_list_end hh p.1 p.2 hx q
section
variable{prog:Program}{w:World}{A:Around}{E:Value->Shared->Prop}{s:Shared}
variable{z TI TO i1 i2 l1 l2:Addr}{k1 k2:Nat}{P1 P2:Nat->Heap->Prop}{g1 g2:Nat->Option Value}{x y a b:Value}
structure Zs(z TI TO i1 i2 l1 l2:Addr)(P1 P2:Nat->Heap->Prop)(k:Nat)(h:Heap):Prop where
 ap:ZipApart z TI TO i1 i2 l1 l2
 rd:IsZip h z TI TO .none
 ins:IsPair h TI (.ref i1) (.ref i2)
 out:∃a b,IsPair h TO a b
 fst:P1 k h
 snd:P2 k h
theorem Zs.item(W1:Wk prog w i1 l1 P1 g1)(W2:Wk prog w i2 l2 P2 g2)(S:Zs z TI TO i1 i2 l1 l2 P1 P2 k s.heap)(hx:g1 k=some x)(hy:g2 k=some y)
  (go:∀h1,(∀h2,IsZip h2 z TI TO .none->Heap.SameBut z h1 h2->Zs z TI TO i1 i2 l1 l2 P1 P2 (k+1) h2)->IsZip h1 z TI TO (rawInt s.heap.objs.size)->IsPair h1 s.heap.objs.size x y->(∀c o,c∉[z,TO,i1,i2]->s.heap.get? c=some o->h1.get? c=some o)->Q (.ref s.heap.objs.size) { s with heap:=h1 }) :
  wpAny (model prog w) A (Builtin.«zip.__next__» ⟨[.ref z],[]⟩) (λfin s' => ∃v,fin=.done (.ret v)/\Q v s') E s:=by
 obtain⟨D,isZ,pI,⟨a,b,pO⟩,p1,p2⟩:=S;obtain⟨h0,gg,dd,t0,oo⟩:=s;show wpAny _ _ (field (.ref z) 2 >>= _) _ _ ⟨h0,gg,dd,t0,oo⟩;refine SO (Tr isZ rfl (x:=Value.bool false) rfl ?_);show wpAny _ _ (field (.ref z) 3 >>= _) _ _ ⟨h0,gg,dd,t0,oo⟩;refine SO (Tr isZ rfl (x:=Value.ref TI) rfl (SO (UT pI rfl ?_)));show wpAny _ _ (Builtin.SmallTypes.ownedTupleIsFree (.ref z) >>= _) _ _ ⟨h0,gg,dd,t0,oo⟩;unfold Builtin.SmallTypes.ownedTupleIsFree;refine SO (SO (Tr isZ rfl (x:=Value.none) rfl (SU ?_)));simp only[Vl];refine SO (wpAny_rule (SO (Tr isZ rfl (x:=Value.ref TO) rfl (SO (T9 isZ (by simp) λq1 Z1 m1=>?_)))));have Z1:IsZip q1 z TI TO .ellipsis:=Z1;have m1:Heap.SameBut z h0 q1:=m1;simp only[List.zipIdx_cons,List.zipIdx_nil,Vh,List.forIn_nil];refine SO (SO (SO (wpAny_onRaise ?_)));show wpAny _ _ (Builtin.SmallTypes.nextOf (.ref i1) >>= _) _ _ ⟨q1,gg,dd,t0,oo⟩;have e1:∀c o,c≠z->h0.get? c=some o->q1.get? c=some o:=λc o n u=>m1.extBut c o n u
 refine SO (W1.item _ _ _ k x _ (W1.stay k _ _ p1 λc o hc u=>e1 c o (by rcases hc with rfl|rfl;exact D.i1z;exact D.l1z) u) hx λq2 p1' m2=>SU ?_);have m2:Heap.SameBut i1 q1 q2:=m2;have e2:∀c o,c≠z->c≠i1->h0.get? c=some o->q2.get? c=some o:=λc o n n' u=>m2.extBut c o n' (e1 c o n u)
 have O2:IsPair q2 TO a b:=e2 _ _ D.TOz D.TOi1 pO;refine SO (UT O2 rfl (SO (wpAny_updateSeq_pair O2 λq3 O3 m3=>SO (wpAny_letGo (SU ?_)))));have O3:IsPair q3 TO x b:=O3;have m3:Heap.SameBut TO q2 q3:=m3;have e3:∀c o,c≠z->c≠i1->c≠TO->h0.get? c=some o->q3.get? c=some o:=λc o n n' n'' u=>m3.extBut c o n'' (e2 c o n n' u)
 refine SO (SO (wpAny_onRaise ?_));show wpAny _ _ (Builtin.SmallTypes.nextOf (.ref i2) >>= _) _ _ ⟨q3,gg,dd,t0,oo⟩;refine SO (W2.item _ _ _ k y _ (W2.stay k _ _ p2 λc o hc u=>by
  rcases hc with rfl|rfl
  ·exact e3 c o D.i2z D.i12.symm D.TOi2.symm u
  ·exact e3 c o D.l2z D.l2i1 D.l2TO u) hy λq4 p2' m4=>SU ?_)
 have m4:Heap.SameBut i2 q3 q4:=m4;have O4:IsPair q4 TO x b:=m4.extBut _ _ D.TOi2 O3;refine SO (UT O4 rfl (SO (wpAny_updateSeq_pair O4 λq5 O5 m5=>SO (wpAny_letGo (SU (SU ?_))))));have O5:IsPair q5 TO x y:=O5;have m5:Heap.SameBut TO q4 q5:=m5;refine SO (UT O5 rfl (SO (wpAny_newTuple ?_)));have sz:q5.objs.size=h0.objs.size:=by rw[m5.1,m4.1,m3.1,m2.1,m1.1]
 have e5:∀c o,c≠z->c≠i1->c≠TO->c≠i2->h0.get? c=some o->q5.get? c=some o:=λc o n n' n'' n3 u=>m5.extBut c o n'' (m4.extBut c o n3 (e3 c o n n' n'' u))
 have Z5:IsZip q5 z TI TO .ellipsis:=m5.extBut _ _ D.TOz.symm (m4.extBut _ _ D.i2z.symm (m3.extBut _ _ D.TOz.symm (m2.extBut _ _ D.i1z.symm Z1)));have r1:P1 (k+1) q5:=W1.stay _ _ _ p1' λc o hc u=>by
  rcases hc with rfl|rfl
  ·exact m5.extBut c o D.TOi1.symm (m4.extBut c o D.i12 (m3.extBut c o D.TOi1.symm u))
  ·exact m5.extBut c o D.l1TO (m4.extBut c o D.l1i2 (m3.extBut c o D.l1TO u))
 have r2:P2 (k+1) q5:=W2.stay _ _ _ p2' λc o hc u=>by
  rcases hc with rfl|rfl
  ·exact m5.extBut c o D.TOi2.symm u
  ·exact m5.extBut c o D.l2TO u
 have I5:IsPair q5 TI (.ref i1) (.ref i2):=e5 _ _ D.TIz D.TIi1 D.TITO D.TIi2 pI;have zl:z<q5.objs.size:=S1 Z5;show wpAny _ _ (Builtin.SmallTypes.ownedTupleHandOut (.ref z) (.ref q5.objs.size) >>= _) _ _ ⟨q5.push { cls:=.type "tuple", data:=.seq #[x,y] },gg,dd,t0,oo⟩;unfold Builtin.SmallTypes.ownedTupleHandOut;have Z6:IsZip (q5.push { cls:=.type "tuple", data:=.seq #[x,y] }) z TI TO .ellipsis:=SQ _ Z5;refine SO (SO (T9 Z6 (by simp) λq7 Z7 m7=>?_));have Z7:IsZip q7 z TI TO (rawInt q5.objs.size):=Z7;refine T9 Z7 (by simp) λq8 Z8 m8=>?_
 have Z8:IsZip q8 z TI TO (rawInt q5.objs.size):=Z8;have far:∀c o,c≠z->q5.get? c=some o->q8.get? c=some o:=λc o n u=>m8.extBut _ _ n (m7.extBut _ _ n (SQ _ u))
 have T8:IsPair q8 q5.objs.size x y:=m8.extBut _ _ (TR zl) (m7.extBut _ _ (TR zl) (S6 _ rfl));refine SU ⟨_,rfl,?_⟩;show Q (.ref q5.objs.size) _;rw[sz]at Z8 T8⊢;refine go q8 (λh2 Zn mn=>⟨D,Zn,mn.extBut _ _ D.TIz (far _ _ D.TIz I5),⟨x,y,mn.extBut _ _ D.TOz (far _ _ D.TOz O5)⟩,W1.stay _ _ _ r1 λc o hc u=>?_,W2.stay _ _ _ r2 λc o hc u=>?_⟩) Z8 T8 λc o hc u=>?_
 ·have n:c≠z:=by rcases hc with rfl|rfl;exact D.i1z;exact D.l1z
  exact mn.extBut c o n (far c o n u)
 ·have n:c≠z:=by rcases hc with rfl|rfl;exact D.i2z;exact D.l2z
  exact mn.extBut c o n (far c o n u)
 ·have c1:c≠z:=λq=>hc (by simp[q])
  have c2:c≠TO:=λq=>hc (by simp[q])
  have c3:c≠i1:=λq=>hc (by simp[q])
  have c4:c≠i2:=λq=>hc (by simp[q])
  exact far c o c1 (e5 c o c1 c3 c2 c4 u)
theorem Zs.done{Q:Fin->Shared->Prop}(hh:A.handled=none)(W1:Wk prog w i1 l1 P1 g1)(W2:Wk prog w i2 l2 P2 g2)(S:Zs z TI TO i1 i2 l1 l2 P1 P2 k s.heap)(hxy:g1 k=none\/g2 k=none)
    (go:∀h1 e,(∀c o,c∉[z,TO,i1,i2]->s.heap.get? c=some o->h1.get? c=some o)->(∃o,h1.get? e=some o/\o.cls=.type "StopIteration")->E (.ref e) { s with heap:=h1 }) :
    wpAny (model prog w) A (Builtin.«zip.__next__» ⟨[.ref z],[]⟩) Q E s:=by
  obtain⟨D,isZ,pI,⟨a,b,pO⟩,p1,p2⟩:=S;obtain⟨h0,gg,dd,t0,oo⟩:=s;show wpAny _ _ (field (.ref z) 2 >>= _) _ _ ⟨h0,gg,dd,t0,oo⟩;refine SO (Tr isZ rfl (x:=Value.bool false) rfl ?_);show wpAny _ _ (field (.ref z) 3 >>= _) _ _ ⟨h0,gg,dd,t0,oo⟩;refine SO (Tr isZ rfl (x:=Value.ref TI) rfl (SO (UT pI rfl ?_)));show wpAny _ _ (Builtin.SmallTypes.ownedTupleIsFree (.ref z) >>= _) _ _ ⟨h0,gg,dd,t0,oo⟩;unfold Builtin.SmallTypes.ownedTupleIsFree;refine SO (SO (Tr isZ rfl (x:=Value.none) rfl (SU ?_)));simp only[Vl];refine SO (wpAny_rule (SO (Tr isZ rfl (x:=Value.ref TO) rfl (SO (T9 isZ (by simp) λq1 Z1 m1=>?_)))));have Z1:IsZip q1 z TI TO .ellipsis:=Z1;have m1:Heap.SameBut z h0 q1:=m1;simp only[List.zipIdx_cons,List.zipIdx_nil,Vh,List.forIn_nil];refine SO (SO (SO (wpAny_onRaise ?_)));show wpAny _ _ (Builtin.SmallTypes.nextOf (.ref i1) >>= _) _ _ ⟨q1,gg,dd,t0,oo⟩;have e1:∀c o,c≠z->h0.get? c=some o->q1.get? c=some o:=λc o n u=>m1.extBut c o n u
  have p1:P1 k q1:=W1.stay k _ _ p1 λc o hc u=>e1 c o (by rcases hc with rfl|rfl;exact D.i1z;exact D.l1z) u
  have nin:∀c,c∉[z,TO,i1,i2]->c≠z/\c≠TO/\c≠i1/\c≠i2:=λc hc=>⟨λq=>hc (by simp[q]),λq=>hc (by simp[q]),λq=>hc (by simp[q]),λq=>hc (by simp[q])⟩
  have last:∀(q2:Heap) (ex:Addr) (oe:Obj),IsZip q2 z TI TO .ellipsis->(∀c o,c∉[z,TO,i1,i2]->h0.get? c=some o->q2.get? c=some o)->q2.get? ex=some oe->oe.cls=.type "StopIteration" ->
      wpAny (model prog w) A (setField (.ref z) 0 .none) (λ_ s'=>E (.ref ex) s') E ⟨q2,gg,dd,t0,oo⟩:=λq2 ex oe Z2 k2 ho hc=>by
    have hez:ex≠z:=λu=>by subst u;rw[Z2]at ho;cases ho;simp at hc
    refine T9 Z2 (by simp) λq3 _ m3=>go q3 ex (λc o hc u=>?_) ⟨oe,m3.extBut _ _ hez ho,hc⟩
    exact m3.extBut c o (nin c hc).1 (k2 c o hc u)
  cases hx:g1 k with
  | none =>
    refine SO (W1.done _ _ _ k _ hh p1 hx λq2 ex m2 he=>?_);obtain⟨oe,ho,hc⟩:=he;have m2:Heap.ExtBut i1 q1 q2:=m2;exact last q2 ex oe (m2 _ _ D.i1z.symm Z1) (λc o hc u=>m2 c o (nin c hc).2.2.1 (e1 c o (nin c hc).1 u)) ho hc
  | some x =>
    have hy:g2 k=none:=hxy.resolve_left (by rw[hx];exact λq=>nomatch q);refine SO (W1.item _ _ _ k x _ p1 hx λq2 p1' m2=>SU ?_);have m2:Heap.SameBut i1 q1 q2:=m2;have e2:∀c o,c≠z->c≠i1->h0.get? c=some o->q2.get? c=some o:=λc o n n' u=>m2.extBut c o n' (e1 c o n u)
    have O2:IsPair q2 TO a b:=e2 _ _ D.TOz D.TOi1 pO;refine SO (UT O2 rfl (SO (wpAny_updateSeq_pair O2 λq3 O3 m3=>SO (wpAny_letGo (SU ?_)))));have m3:Heap.SameBut TO q2 q3:=m3;have e3:∀c o,c≠z->c≠i1->c≠TO->h0.get? c=some o->q3.get? c=some o:=λc o n n' n'' u=>m3.extBut c o n'' (e2 c o n n' u)
    refine SO (SO (wpAny_onRaise ?_));show wpAny _ _ (Builtin.SmallTypes.nextOf (.ref i2) >>= _) _ _ ⟨q3,gg,dd,t0,oo⟩;refine SO (W2.done _ _ _ k _ hh (W2.stay k _ _ p2 λc o hc u=>by
      rcases hc with rfl|rfl
      . exact e3 c o D.i2z D.i12.symm D.TOi2.symm u
      . exact e3 c o D.l2z D.l2i1 D.l2TO u) hy λq4 ex m4 he=>?_)
    obtain⟨oe,ho,hc⟩:=he;have m4:Heap.ExtBut i2 q3 q4:=m4;exact last q4 ex oe (m4 _ _ D.i2z.symm (m3.extBut _ _ D.TOz.symm (m2.extBut _ _ D.i1z.symm Z1))) (λc o hc u=>m4 c o (nin c hc).2.2.2 (e3 c o (nin c hc).1 (nin c hc).2.2.1 (nin c hc).2.1 u)) ho hc
theorem Zs.pyItem{Q:Option Value->Shared->Prop}(W1:Wk prog w i1 l1 P1 g1)(W2:Wk prog w i2 l2 P2 g2)(S:Zs z TI TO i1 i2 l1 l2 P1 P2 k s.heap)(hx:g1 k=some x)(hy:g2 k=some y)
  (go:∀h1,(∀h2,IsZip h2 z TI TO .none->Heap.SameBut z h1 h2->Zs z TI TO i1 i2 l1 l2 P1 P2 (k+1) h2)->IsZip h1 z TI TO (rawInt s.heap.objs.size)->IsPair h1 s.heap.objs.size x y->(∀c o,c∉[z,TO,i1,i2]->s.heap.get? c=some o->h1.get? c=some o)->Q (some (.ref s.heap.objs.size)) { s with heap:=h1 }) :
  wpAny (model prog w) A (pyNext (.ref z)) Q E s:=by
 have ty:s.TypeIs (.ref z) "zip" := ⟨_,S.rd,rfl⟩;unfold pyNext;exact SO (U5 (Uk (name:=Str.ofString "__next__") ty F.slot_zip_next (UH F.slot_zip_next ty F.entry_zip_next (S.item W1 W2 hx hy λh1 a b c d=>SU (go h1 a b c d)) (F.args_zip_next_1 _))))
theorem Zs.pyDone{Q:Option Value->Shared->Prop}(hh:A.handled=none)(W1:Wk prog w i1 l1 P1 g1)(W2:Wk prog w i2 l2 P2 g2)(S:Zs z TI TO i1 i2 l1 l2 P1 P2 k s.heap)(hxy:g1 k=none\/g2 k=none)
  (go:∀h1,(∀c o,c∉[z,TO,i1,i2]->s.heap.get? c=some o->h1.get? c=some o)->Q none { s with heap:=h1 }):wpAny (model prog w) A (pyNext (.ref z)) Q E s:=by
 have ty:s.TypeIs (.ref z) "zip" := ⟨_,S.rd,rfl⟩;unfold pyNext;refine SO (U5 (Uk (name:=Str.ofString "__next__") ty F.slot_zip_next (UH F.slot_zip_next ty F.entry_zip_next (S.done hh W1 W2 hxy λh1 e kk he=>?_) (F.args_zip_next_1 _))));obtain⟨oe,ho,hc⟩:=he;exact SO (wpAny_isInstance (T := "StopIteration") (b:=true) ⟨oe,ho,hc⟩ isSubtype_stop (SU (go h1 kk)))
end
variable{X:Cx}
theorem zH{t2:Nat}(I:aj X dl Z H s)
  (k:∀b u,b∉ch->s.heap.get? b=some u->h2.get? b=some u) (hn:∀b∈ch,gP X dl H b):aj X dl Z H { s with heap:=h2,toks:=t2 }:=by
 have tr:∀b u,H b=some u->b∉ch:=λb u e z=>by rw[(hn b z).1]at e;cases e
 have un:Un (bW X.stack) ch H H s.heap h2:=⟨λb ob e n _ c=>k b ob c e,λb ob e n _ c=>⟨ob.slots,k b ob c e⟩,λb ob e n c=>n,λb ob e c=>⟨ob,k b ob c e⟩,λb xs e=>e,λb ob u e=>e,λb ps e=>⟨#[],by rw[e];simp⟩⟩;refine I.call (g':=s.gens) (d':=s.drawn) un (λb u e=>?_) I.bare λb hb=>⟨(hn b hb).2.2.2.1,(hn b hb).2.1,(hn b hb).2.2.2.2.1,(hn b hb).2.2.2.2.2⟩
 refine(I.hok b u e).stay (λc v hc q=>k c v ?_ q) (λc q=>q) λc xs q=>q
 rcases hc with z|z
 ·rw[z];exact tr b u e
 ·exact tr c _ z
variable{X:Cx}
def jw(κ:Bool)(h:Heap)(i a:Addr)(k:Nat):Prop:=match κ with|true=>h.IsTupleIter i a k|false=>h.IsListIter i a k
def ip(κ:Bool)(h:Heap)(a:Addr)(xs:Array Value):Prop:=match κ with|true=>h.IsTuple a xs|false=>h.IsList a xs
def nr(κ:Bool)(K:W.Frag)(H:Hp)(a:Addr)(xs:List V):Prop:=match κ with|true=>bX K H a xs|false=>cF K H a xs
def my(κ:Bool)(l:List D):D:=match κ with|true=>.tup l|false=>.lst l
def MX(κ:Bool):String:=match κ with|true => "tuple_iterator" | false => "list_iterator"
theorem yS(κ:Bool){i l:Addr}(ne:l≠i):Wk prog w i l (λk h=>jw κ h i l k/\ip κ h l xs) (λk=>xs[k]?):=by
 cases κ
 ·exact KG ne
 ·exact KE ne
theorem kt{i a:Addr}(p:jw κ h i a k):∃o,h.get? i=some o/\∀v,o.data≠Data.cell v:=by
 cases κ
 ·obtain⟨o,e,_,d⟩:=(show h.IsListIter i a k from p);exact⟨o,e,λv z=>by rw[d]at z;cases z⟩
 ·obtain⟨o,e,_,d⟩:=(show h.IsTupleIter i a k from p);exact⟨o,e,λv z=>by rw[d]at z;cases z⟩
theorem v7{i a:Addr}(p:jw κ h i a k)(q:∀o,h.get? i=some o->h'.get? i=some o):jw κ h' i a k:=by
 cases κ
 ·exact(show h.IsListIter i a k from p).at q
 ·exact(show h.IsTupleIter i a k from p).at q
theorem v5{a:Addr}(p:ip κ h a xs)(q:∀o,h.get? a=some o->h'.get? a=some o):ip κ h' a xs:=by
 cases κ
 ·exact(show h.IsList a xs from p).at q
 ·exact(show h.IsTuple a xs from p).at q
theorem v4{a:Addr}(p:ip κ h a xs):a<h.objs.size:=by
 cases κ
 ·obtain⟨_,e,_⟩:=(show h.IsList a xs from p);exact S1 e
 ·obtain⟨_,e,_⟩:=(show h.IsTuple a xs from p);exact S1 e
theorem nP{a:Addr}{xs:List V}(I:aj X dl Z H s)(h:nr κ X.K H a xs):∃its:List Value,aP xs its/\ip κ s.heap a its.toArray/\xs.length<=sizeLine:=by
 cases κ
 ·obtain⟨its,r,p,z⟩:=I.list h;exact⟨its,r,p.isList,z⟩
 ·obtain⟨its,r,p,z⟩:=I.tuple h;exact⟨its,r,p,z⟩
theorem tM{a:Addr}{xs ys:List V}(I:aj X dl Z H s)(h:nr κ X.K H a xs)(h':nr κ X.K H a ys):xs=ys:=by
 cases κ
 ·exact I.list_inj h h'
 ·exact I.tuple_inj h h'
theorem ve(h:ae X.K H1 (Kp ow H k) (my κ l) v):∃a vs,v=.ref a/\nr κ X.K H1 a vs/\ah X.K H1 (Kp ow H k) l vs/\∀{P':bi} {H2:Hp},fh (Kd ow H k H1) P' H1 H2->nr κ X.K H2 a vs:=by
 cases κ
 ·rw[show my false l=.lst l from rfl,ae]at h;obtain⟨a,vs,b,rfl,hl,hp,rl⟩:=h;have hp':Kd ow H k H1 a b:=⟨hp,λhb=>by subst hb;exact⟨_,hl⟩⟩;exact⟨a,vs,rfl,hl.sq,rl,λst=>(st.ls hl hp').sq⟩
 ·rw[show my true l=.tup l from rfl,ae]at h;obtain⟨a,vs,rfl,hl,rl⟩:=h;exact⟨a,vs,rfl,hl,rl,λst=>st.sq hl⟩
abbrev Fy(κ:Bool)(h:Heap)(a:Addr):Heap:=h.push { cls:=.type (MX κ),data:=.fields #[.ref a,.int 0 0] }
abbrev Fw(κ κ':Bool)(h:Heap)(a b:Addr):Heap:=(Fy κ h a).push { cls:=.type (MX κ'),data:=.fields #[.ref b,.int 0 0] }
abbrev Fu(κ κ':Bool)(h:Heap)(a b:Addr):Heap:=(Fw κ κ' h a b).push { cls:=.type "tuple", data:=.seq #[.ref h.objs.size,.ref (Fy κ h a).objs.size] }
abbrev sQ(κ κ':Bool)(h:Heap)(a b:Addr):Heap:=(Fu κ κ' h a b).push { cls:=.type "tuple", data:=.seq #[.none,.none] }
noncomputable abbrev mr(κ κ':Bool)(h:Heap)(a b:Addr):Heap:=(sQ κ κ' h a b).push { cls:=.type "zip", data:=.fields #[.none,.bool false,.bool false,.ref (Fw κ κ' h a b).objs.size,.ref (Fu κ κ' h a b).objs.size] }
theorem mq(a b:Addr)(xs ys:Array Value) :
  Meets (Builtin.«zip.__new__» ⟨[.type "zip", .ref a,.ref b],[]⟩) (λ_ R s=>s.heap.IsList a xs/\s.heap.IsList b ys/\R (.ok (.ret (.ref (sQ false false s.heap a b).objs.size))) { s with heap:=mr false false s.heap a b }) :=
 .of_wp λpg wd AA RR st hh=>by
  obtain⟨hp0,gg,dd,tk0,oo⟩:=st;obtain⟨ha,hb,hh⟩:=hh;have hsub0:=sub_zip;have T1:Heap.IsList (Shared.heap ⟨hp0,gg,dd,tk0,oo⟩) a xs:=ha;have T2:Heap.IsList (Shared.heap ⟨hp0.push { cls:=.type "list_iterator", data:=.fields #[.ref a,.int 0 0] },gg,dd,tk0,oo⟩) b ys:=hb.at λo e=>SQ _ e
  wp_walk using Uc T1,Uc T2
  exact⟨_,rfl,hh⟩
theorem oh(a b:Addr)(xs ys:Array Value) :
  Meets (Builtin.«zip.__new__» ⟨[.type "zip", .ref a,.ref b],[]⟩) (λ_ R s=>s.heap.IsList a xs/\s.heap.IsTuple b ys/\R (.ok (.ret (.ref (sQ false true s.heap a b).objs.size))) { s with heap:=mr false true s.heap a b }) :=
 .of_wp λpg wd AA RR st hh=>by
  obtain⟨hp0,gg,dd,tk0,oo⟩:=st;obtain⟨ha,hb,hh⟩:=hh;have hsub0:=sub_zip;have T1:Heap.IsList (Shared.heap ⟨hp0,gg,dd,tk0,oo⟩) a xs:=ha;have T2:Heap.IsTuple (Shared.heap ⟨hp0.push { cls:=.type "list_iterator", data:=.fields #[.ref a,.int 0 0] },gg,dd,tk0,oo⟩) b ys:=hb.at λo e=>SQ _ e
  wp_walk using Uc T1,Vb T2
  exact⟨_,rfl,hh⟩
theorem og(a b:Addr)(xs ys:Array Value) :
  Meets (Builtin.«zip.__new__» ⟨[.type "zip", .ref a,.ref b],[]⟩) (λ_ R s=>s.heap.IsTuple a xs/\s.heap.IsList b ys/\R (.ok (.ret (.ref (sQ true false s.heap a b).objs.size))) { s with heap:=mr true false s.heap a b }) :=
 .of_wp λpg wd AA RR st hh=>by
  obtain⟨hp0,gg,dd,tk0,oo⟩:=st;obtain⟨ha,hb,hh⟩:=hh;have hsub0:=sub_zip;have T1:Heap.IsTuple (Shared.heap ⟨hp0,gg,dd,tk0,oo⟩) a xs:=ha;have T2:Heap.IsList (Shared.heap ⟨hp0.push { cls:=.type "tuple_iterator", data:=.fields #[.ref a,.int 0 0] },gg,dd,tk0,oo⟩) b ys:=hb.at λo e=>SQ _ e
  wp_walk using Vb T1,Uc T2
  exact⟨_,rfl,hh⟩
theorem oQ(a b:Addr)(xs ys:Array Value) :
  Meets (Builtin.«zip.__new__» ⟨[.type "zip", .ref a,.ref b],[]⟩) (λ_ R s=>s.heap.IsTuple a xs/\s.heap.IsTuple b ys/\R (.ok (.ret (.ref (sQ true true s.heap a b).objs.size))) { s with heap:=mr true true s.heap a b }) :=
 .of_wp λpg wd AA RR st hh=>by
  obtain⟨hp0,gg,dd,tk0,oo⟩:=st;obtain⟨ha,hb,hh⟩:=hh;have hsub0:=sub_zip;have T1:Heap.IsTuple (Shared.heap ⟨hp0,gg,dd,tk0,oo⟩) a xs:=ha;have T2:Heap.IsTuple (Shared.heap ⟨hp0.push { cls:=.type "tuple_iterator", data:=.fields #[.ref a,.int 0 0] },gg,dd,tk0,oo⟩) b ys:=hb.at λo e=>SQ _ e
  wp_walk using Vb T1,Vb T2
  exact⟨_,rfl,hh⟩
theorem Kx(κ κ':Bool)(a b:Addr)(xs ys:Array Value) :
  Meets (Builtin.«zip.__new__» ⟨[.type "zip", .ref a,.ref b],[]⟩) (λ_ R s=>ip κ s.heap a xs/\ip κ' s.heap b ys/\R (.ok (.ret (.ref (sQ κ κ' s.heap a b).objs.size))) { s with heap:=mr κ κ' s.heap a b }):=by
 cases κ<;>cases κ'
 ·exact mq a b xs ys
 ·exact oh a b xs ys
 ·exact og a b xs ys
 ·exact oQ a b xs ys
theorem v6{i a:Addr}(e:h.get? i=some { cls:=.type (MX κ),data:=.fields #[.ref a,.int 0 0] }):jw κ h i a 0:=by
 cases κ
 ·exact⟨_,e,rfl,rfl⟩
 ·exact⟨_,e,rfl,rfl⟩
theorem C6{a b:Addr}{ys:Array Value}(ha:ip κ s.heap a xs)(hb:ip κ' s.heap b ys)
  (go:∀h1,Zs (s.heap.objs.size+4) (s.heap.objs.size+2) (s.heap.objs.size+3) s.heap.objs.size (s.heap.objs.size+1) a b (λk h=>jw κ h s.heap.objs.size a k/\ip κ h a xs) (λk h=>jw κ' h (s.heap.objs.size+1) b k/\ip κ' h b ys) 0 h1->(∀c o,s.heap.get? c=some o->h1.get? c=some o)->Q (.ref (s.heap.objs.size+4)) { s with heap:=h1 }) :
  wpAny (model prog w) A (call (.type "zip") [.ref a,.ref b]) Q E s:=by
 refine callType_new F.called_zip (by decide) (F.typeCall_zip_2 _ _) (F.newCall_zip_2 _ _) (λob=>F.args_object_init_3 ob _ _) F.entry_zip_new (Kx κ κ' a b xs ys) ⟨ha,hb,?_⟩;have s1:(Fy κ s.heap a).objs.size=s.heap.objs.size+1:=T5 ..;have s2:(Fw κ κ' s.heap a b).objs.size=s.heap.objs.size+2:=by rw[T5,s1]
 have s3:(Fu κ κ' s.heap a b).objs.size=s.heap.objs.size+3:=by rw[T5,s2]
 have s4:(sQ κ κ' s.heap a b).objs.size=s.heap.objs.size+4:=by rw[T5,s3]
 have r5:(mr κ κ' s.heap a b).get? (sQ κ κ' s.heap a b).objs.size=some _:=S6 _ rfl;have r4:(mr κ κ' s.heap a b).get? (Fu κ κ' s.heap a b).objs.size=some _:=SQ _ (S6 _ rfl);have r3:(mr κ κ' s.heap a b).get? (Fw κ κ' s.heap a b).objs.size=some _:=SQ _ (SQ _ (S6 _ rfl));have r2:(mr κ κ' s.heap a b).get? (Fy κ s.heap a).objs.size=some _:=SQ _ (SQ _ (SQ _ (S6 _ rfl)));have r1:(mr κ κ' s.heap a b).get? s.heap.objs.size=some _:=SQ _ (SQ _ (SQ _ (SQ _ (S6 _ rfl))));have up:∀c o,s.heap.get? c=some o->(mr κ κ' s.heap a b).get? c=some o:=λc o e=>SQ _ (SQ _ (SQ _ (SQ _ (SQ _ e))))
 have la:a<s.heap.objs.size:=v4 ha;have lb:b<s.heap.objs.size:=v4 hb;rw[s2,s3,s4]at r5;rw[s1,s2]at r3;rw[s3]at r4;rw[s1]at r2;show _/\_;rw[s4];have ne:∀{m n:Nat},m<n->m≠n:=λh=>Ts h
 refine⟨⟨_,r5,rfl⟩,go _ ⟨?_,r5,r3,⟨_,_,r4⟩,⟨v6 r1,v5 ha λo e=>up _ _ e⟩,⟨v6 r2,v5 hb λo e=>up _ _ e⟩⟩ up⟩;generalize s.heap.objs.size=n at la lb;have la':(a:Nat)<n:=la;have lb':(b:Nat)<n:=lb;constructor<;>first|exact ne (by omega)|exact(ne (by omega)).symm|exact ne (S4 la (by omega))|exact ne (S4 lb (by omega))|exact ne la|exact ne lb
noncomputable def R5(κ κ':Bool)(K:W.Frag)(a b:Addr):It :=
 ⟨λi H => ∃xs ys x y,nr κ K H a xs/\xs[i]?=some x/\nr κ' K H b ys/\ys[i]?=some y,λi H x H' => ∃p u v,x=.ref p/\H p=none/\H'=aA H p (.tup [u,v])/\(∀xs,nr κ K H a xs->xs[i]?=some u)/\∀ys,nr κ' K H b ys->ys[i]?=some v,λi H => ∃xs ys,nr κ K H a xs/\nr κ' K H b ys/\(xs.length<=i\/ys.length<=i)⟩
theorem AM(κ κ':Bool)(a b z TI TO i1 i2:Addr)(D:ZipApart z TI TO i1 i2 a b) :
  L2.Turn P w K (.Tuple es n1 pos) (R5 κ κ' K a b) [z,TI,TO,i1,i2] z (λi h=>IsZip h z TI TO .none/\IsPair h TI (.ref i1) (.ref i2)/\(∃u v,IsPair h TO u v)/\jw κ h i1 a i/\jw κ' h i2 b i) where
 mem:=by simp
 obj:=λi h st c hc=>by
  obtain⟨q1,q2,⟨u,v,q3⟩,q4,q5⟩:=st;obtain⟨o4,q4,d4⟩:=kt q4;obtain⟨o5,q5,d5⟩:=kt q5;simp only[SS,Tg,TC]at hc;rcases hc with rfl|rfl|rfl|rfl|rfl
  ·exact⟨_,q1,λv e=>by have e':Data.fields _=Data.cell v:=e;cases e'⟩
  ·exact⟨_,q2,λv e=>by have e':Data.seq _ _=Data.cell v:=e;cases e'⟩
  ·exact⟨_,q3,λv e=>by have e':Data.seq _ _=Data.cell v:=e;cases e'⟩
  ·exact⟨_,q4,d4⟩
  ·exact⟨_,q5,d5⟩
 keep:=λi h h' ⟨q1,q2,⟨u,v,q3⟩,q4,q5⟩ k=>⟨k _ (by simp) _ q1,k _ (by simp) _ q2,⟨u,v,k _ (by simp) _ q3⟩,v7 q4 λo e=>k _ (by simp) o e,v7 q5 λo e=>k _ (by simp) o e⟩
 item:=by
  intro Y hP hw hK hc i dl s Z H E I hf st hg;subst hP hw hK;obtain⟨xs,ys,x,y,hq,hx,hr,hy⟩:=hg;obtain⟨its,rv,p1,hz⟩:=nP I hq;obtain⟨jts,rw',p2,hz'⟩:=nP I hr;obtain⟨u,hu,ru⟩:=rv.get hx;obtain⟨v,hv,rv'⟩:=rw'.get hy;obtain⟨q1,q2,q3,q4,q5⟩:=st;have zlt:z<s.heap.objs.size:=S1 q1;refine Zs.pyItem (yS κ (i:=i1) (l:=a) (xs:=its.toArray) D.l1i1) (yS κ' (i:=i2) (l:=b) (xs:=jts.toArray) D.l2i2) ⟨D,q1,q2,q3,⟨q4,p1⟩,⟨q5,p2⟩⟩ (x:=u) (y:=v) (by simpa using hu) (by simpa using hv) λh1 yb zo t1 k1=>?_
  refine⟨_,rfl,wpAny_letOwnedTupleGo_zip zo λh2 z2 m2=>?_⟩;have m2:Heap.SameBut z h1 h2:=m2;have N:=yb h2 z2 m2;have k2:∀c o,c∉[z,TI,TO,i1,i2]->s.heap.get? c=some o->h2.get? c=some o:=λc o nc q=>by
   have n1:c≠z:=λe=>nc (by simp[e])
   refine m2.extBut c o n1 (k1 c o (λe=>nc ?_) q);simp only[SS,Tg,TC]at e⊢;rcases e with e|e|e|e<;>simp[e]
  have t2:h2.get? s.heap.objs.size=some { cls:=.type "tuple", data:=.seq #[u,v] }:=m2.extBut _ _ (TR zlt) t1;have hn0:H s.heap.objs.size=none:=I.hok.fresh (SX _);refine⟨.ref s.heap.objs.size,aA H s.heap.objs.size (.tup [x,y]),tL (s:=s) (h2:=h2) (t2:=s.toks) I k2 (SX _) hf ?_,rfl,⟨_,x,y,rfl,hn0,rfl,λws hw=>by rw[tM I hw hq];exact hx,λws hw=>by rw[tM I hw hr];exact hy⟩,⟨N.rd,N.ins,N.out,N.fst.1,N.snd.1⟩,λc hc=>?_⟩
  ·exact⟨by show 2<=sizeLine;decide,[u,v],.cons ru (.cons rv' .nil),⟨_,t2,rfl,_,rfl⟩,_,t2,rfl⟩
  ·have hb':=hf c hc;have lt:c<s.heap.objs.size:=by
    obtain⟨u',v',q3⟩:=q3;obtain⟨o4,q4,_⟩:=kt q4;obtain⟨o5,q5,_⟩:=kt q5;simp only[SS,Tg,TC]at hc;rcases hc with rfl|rfl|rfl|rfl|rfl
    ·exact zlt
    ·exact S1 q2
    ·exact S1 q3
    ·exact S1 q4
    ·exact S1 q5
   rw[aq (Ts lt)];exact hb'.1
 done:=by
  intro Y hP hw hK hc i dl s Z H E I hf st hg;subst hP hw hK;obtain⟨xs,ys,hq,hr,hl⟩:=hg;obtain⟨its,rv,p1,hz⟩:=nP I hq;obtain⟨jts,rw',p2,hz'⟩:=nP I hr;obtain⟨q1,q2,q3,q4,q5⟩:=st;have l1:=rv.length;have l2:=rw'.length;refine Zs.pyDone (I.ok.hd hc) (yS κ (i:=i1) (l:=a) (xs:=its.toArray) D.l1i1) (yS κ' (i:=i2) (l:=b) (xs:=jts.toArray) D.l2i2) ⟨D,q1,q2,q3,⟨q4,p1⟩,⟨q5,p2⟩⟩ ?_ λh1 k1=>⟨rfl,zH (s:=s) (t2:=s.toks) (ch:=[z,TI,TO,i1,i2]) I (λc o nc q=>k1 c o (λe=>nc ?_) q) hf⟩
  ·rcases hl with hl|hl
   ·exact .inl (by simp;omega)
   ·exact .inr (by simp;omega)
  ·simp only[SS,Tg,TC]at e⊢;rcases e with e|e|e|e<;>simp[e]
 self:=λ_ _ _ _ _ st h=>wpAny_pyIter_zip st.1 h
theorem Jt{b:Expr}{m:List D}(hg:Gl X "zip")(hm0:X.mg "zip" = none)(ha:AD X U [a,b] [my κ l,my κ' m] k)(hst:∀e∈[a,b],∀y p,e ≠ .Starred y p)(hf:aK l=true)(hm:aK m=true) :
  IE X U (.Tuple es n1 tp) (.Call (.Name "zip" p) [a,b] [] pos) (List.zipWith (λx y=>.tup [x,y]) l m) k:=by
 intro ow dl s Z H R I ⟨E,q⟩;have n1':=ax (env:=X.env) (es:=[b]) (hst a (by simp));have n2':(backTo pos (starEach [b] X.env)).any (·.1)=false:=bE λx hx=>hst x (by simp at hx;simp[hx])
 refine Call_ (jQ I hg hm0 (show bootBuiltins "zip" = some (.type "zip") by decide +kernel) (UD (aG (ha ow pos dl s Z H (λvs H1=>ar H H1/\ah X.K H1 (Kp ow H k) [my κ l,my κ' m] vs) I ⟨E,λvs H1 s1 r1=>⟨s1,r1⟩⟩) λus s1 ⟨vs,H1,I1,rv,sm,rp⟩=>?_) n1' n2') (by decide +kernel) (by decide +kernel));rw[ah]at rp;obtain⟨v1,vr,rfl,rp1,rp2⟩:=rp;obtain⟨v2,rfl,rp3⟩:=rp2.only;obtain⟨ta,xs,rfl,hq,rl,hk1⟩:=ve rp1;obtain⟨tb,ys,rfl,hr,rm,hk2⟩:=ve rp3;obtain⟨u1,u2,rfl,ru1,ru2⟩:=FA rv;cases (show u1=Value.ref ta from ru1);cases (show u2=Value.ref tb from ru2);obtain⟨its,rvs,pt,hz⟩:=nP I1 hq;obtain⟨jts,rvs',pt',hz'⟩:=nP I1 hr;refine C6 (κ:=κ) (κ':=κ') pt pt' λh2 Zz k2=>?_
 refine wpAny_pyIter_zip Zz.rd ?_;have I2:aj X dl Z H1 { s1 with heap:=h2 }:=I1.kept (t':=s1.toks) k2;have fr:∀j,gP X dl H1 (s1.heap.objs.size+j):=λj=>I1.fpOk (Nat.le_add_right _ _) (I1.hok.fresh (Nat.le_add_right _ _))
 refine⟨s1.heap.objs.size+4,[s1.heap.objs.size+4,s1.heap.objs.size+2,s1.heap.objs.size+3,s1.heap.objs.size,s1.heap.objs.size+1],_,_,H1,rfl,I2,AM κ κ' ta tb _ _ _ _ _ Zz.ap,⟨Zz.rd,Zz.ins,Zz.out,Zz.fst.1,Zz.snd.1⟩,λc hc=>?_,q _ H1 sm ?_⟩
 ·simp only[SS,Tg,TC]at hc;rcases hc with rfl|rfl|rfl|rfl|rfl
  ·exact fr 4
  ·exact fr 2
  ·exact fr 3
  ·exact fr 0
  ·exact fr 1
 ·intro i H2 st;have rl':ah X.K H1 (Kd ow H k H1) l xs:=rl.flat _ hf;have rm':ah X.K H1 (Kd ow H k H1) m ys:=rm.flat _ hm;refine⟨λd hd=>?_,λhle=>?_⟩
  ·rw[List.getElem?_zipWith]at hd;cases e:l[i]? with
   | none=>rw[e]at hd;cases hd
   | some x =>
    cases e':m[i]? with
    | none=>rw[e,e']at hd;cases hd
    | some y =>
     rw[e,e']at hd;cases hd;obtain⟨u,hu,ru⟩:=rl'.get e;obtain⟨v,hv,rv⟩:=rm'.get e';refine⟨⟨xs,ys,u,v,hk1 st,hu,hk2 st,hv⟩,λx' H3 ⟨p',u',v',e1,e2,e3,e4,e5⟩=>?_⟩;have c1:=e4 xs (hk1 st);have c2:=e5 ys (hk2 st);rw[hu]at c1;cases c1;rw[hv]at c2;cases c2;subst e1 e3;have sm3:=cf (o:=HO.tup [u,v]) e2;refine⟨sm3,?_⟩;rw[ae];exact⟨p',_,rfl,bX.of aw,ah.cons ((ru.mono st).same sm3) (ah.one ((rv.mono st).same sm3))⟩
  ·rw[List.length_zipWith]at hle;have l1:=rl.length;have l2:=rm.length;exact⟨xs,ys,hk1 st,hk2 st,by omega⟩
theorem x6{x:D}(h:g8 x=some l):∃κ,x=my κ l:=by
 rcases iB h with rfl|rfl
 ·exact⟨true,rfl⟩
 ·exact⟨false,rfl⟩
theorem Jv:n9 "zip" zJ:=by
 refine⟨by decide +kernel,λX U p pos args ds k d j l tg o hc hg hm ha hst hlen h hp hl ht=>?_⟩;have ht2:ln tg=true:=by simpa [gI]using ht
 obtain⟨es,n1,tp,rfl⟩:=tK ht2;unfold zJ at h;split at h
 ·split at h
  ·rename_i x y _ a b e1 e2;cases h;cases hl;obtain⟨κ,rfl⟩:=x6 e1;obtain⟨κ',rfl⟩:=x6 e2
   match args,hlen,ha,hst with
   | [a',b'],_,ha,hst=>exact Jt hg hm ha hst hp.1 hp.2.1
  ·cases h
 ·cases h
open AutoSeq1 (wpAny_loadPart')
variable{X:Cx}
theorem JM(tu:Addr)(vs:Array Value)(n:Nat)(dc:Option Addr)(so:Array (Option Value)) :
  Meets (Builtin.«enumerate.__new__» ⟨[.type "enumerate", .ref tu],[]⟩) (λ_ R st=>st.heap.get? tu=some { cls:=.type "list", dict:=dc,data:=.seq vs n,slots:=so } /\
   R (.ok (.ret (.ref (st.heap.push { cls:=.type "list_iterator", data:=.fields #[.ref tu,.int 0 0] }).objs.size)))
    { st with heap:=(st.heap.push { cls:=.type "list_iterator", data:=.fields #[.ref tu,.int 0 0] }).push { cls:=.type "enumerate", data:=.fields #[.none,.bool false,.ref st.heap.objs.size,rawInt 0,.none,.none] } }) :=
 .of_wp λpg wd AA RR st hh=>by
  obtain⟨hp0,gg,dd,tk0,oo⟩:=st;obtain⟨htu,hh⟩:=hh;have hsub0:=sub_enumerate;have hTT:Heap.IsList (Shared.heap ⟨hp0,gg,dd,tk0,oo⟩) tu vs:=⟨_,htu,rfl,n,rfl⟩
  wp_walk using Uv htu
  refine wpAny_stack_any λstk0=>SU ?_
  split
  ·rename_i c0 _ _ _ _ _;cases (c0==Value.type "enumerate")
   ·wp_walk using Uv htu,Uc hTT
    exact⟨_,rfl,hh⟩
   ·wp_walk using Uv htu,Uc hTT
    exact⟨_,rfl,hh⟩
  ·wp_walk using Uv htu,Uc hTT
   exact⟨_,rfl,hh⟩
section
variable{prog:Program}{w:World}{A:Around}{E:Value->Shared->Prop}{s:Shared}
theorem Ew{vs:Array Value}(hT:s.heap.IsList tu vs)
  (go:∀h1,IsEnum h1 (s.heap.objs.size+1) s.heap.objs.size 0 .none->h1.IsListIter s.heap.objs.size tu 0->h1.objs.size=s.heap.objs.size+2->(∀b o,s.heap.get? b=some o->h1.get? b=some o)->Q (.ref (s.heap.objs.size+1)) { s with heap:=h1 }) :
  wpAny (model prog w) A (call (.type "enumerate") [.ref tu]) Q E s:=by
 obtain⟨⟨cc,dc,dt,so⟩,htu,hcc,n,hdd⟩:=hT;replace hcc:cc=.type "list" := hcc;replace hdd:dt=.seq vs n:=hdd;subst hcc hdd;refine callType_new F.called_enumerate (by decide) (F.typeCall_enumerate_1 _) (F.newCall_enumerate_1 _) (λob=>F.args_object_init_2 ob _) F.entry_enumerate_new (JM tu vs n dc so) ⟨htu,?_⟩;have sz:(s.heap.push { cls:=.type "list_iterator", data:=.fields #[.ref tu,.int 0 0] }).objs.size=s.heap.objs.size+1:=T5 ..;show _/\_;rw[sz];have isE:IsEnum ((s.heap.push { cls:=.type "list_iterator", data:=.fields #[.ref tu,.int 0 0] }).push { cls:=.type "enumerate", data:=.fields #[.none,.bool false,.ref s.heap.objs.size,rawInt 0,.none,.none] }) (s.heap.objs.size+1) s.heap.objs.size 0 .none:=by
  have q:=S6 (s.heap.push { cls:=.type "list_iterator", data:=.fields #[.ref tu,.int 0 0] }) (o:={ cls:=.type "enumerate", data:=.fields #[.none,.bool false,.ref s.heap.objs.size,rawInt 0,.none,.none] }) rfl;rw[sz]at q;exact q
 refine⟨⟨_,isE,rfl⟩,go _ isE ⟨_,SQ _ (S6 _ rfl),rfl,rfl⟩ (by rw[T5,sz]) λb o z=>SQ _ (SQ _ z)⟩
theorem Ev{e it:Addr}{vs:Array Value}{x:Value}{Q:Option Value->Shared->Prop}(isE:IsEnum s.heap e it i old)(hIt:s.heap.IsListIter it tu i)(hT:s.heap.IsList tu vs)(hx:vs[i]?=some x)(hne:e≠it)
  (go:∀h1,IsEnumOut h1 e it ((i:Int)+1) x s.heap.objs.size->h1.IsListIter it tu (i+1)->h1.get? s.heap.objs.size=some { cls:=.type "tuple", data:=.seq #[.int i s.toks,x] }->(∀b o,b≠e->b≠it->s.heap.get? b=some o->h1.get? b=some o)->Q (some (.ref s.heap.objs.size)) { s with heap:=h1,toks:=s.toks+1 }) :
  wpAny (model prog w) A (pyNext (.ref e)) Q E s:=by
 have tyE:s.TypeIs (.ref e) "enumerate" := ⟨_,isE,rfl⟩;unfold pyNext;refine SO (U5 (Uk (name:=Str.ofString "__next__") tyE F.slot_enumerate_next (UH F.slot_enumerate_next tyE F.entry_enumerate_next ?_ (F.args_enumerate_next_1 _))));exact JL (Kn:=λh1=>h1.IsListIter it tu (i+1)) isE hne (λh1 h2 k hk=>k.at hk) (λQ1 q1=>wpAny_nextOf_list_item hIt hT hx q1) λh1 a b c d=>SU (go h1 a b c d)
theorem JN{e it:Addr}{vs:Array Value}{Q:Option Value->Shared->Prop}(hh:A.handled=none)(isE:IsEnum s.heap e it i old)(hIt:s.heap.IsListIter it tu i)(hT:s.heap.IsList tu vs)(hx:vs[i]?=none)
  (go:∀h1,Heap.ExtBut it s.heap h1->Q none { s with heap:=h1 }):wpAny (model prog w) A (pyNext (.ref e)) Q E s:=by
 have tyE:s.TypeIs (.ref e) "enumerate" := ⟨_,isE,rfl⟩;unfold pyNext;refine SO (U5 (Uk (name:=Str.ofString "__next__") tyE F.slot_enumerate_next (UH F.slot_enumerate_next tyE F.entry_enumerate_next ?_ (F.args_enumerate_next_1 _))));show wpAny _ _ (field (.ref e) 2 >>= _) _ _ _;refine SO (Tr isE rfl (x:=Value.ref it) rfl (SO (wpAny_nextOf_list_end hh hIt hT hx λh1 xx eb hx'=>?_)));obtain⟨o,ho,hc⟩:=hx';exact SO (wpAny_isInstance (T := "StopIteration") (b:=true) ⟨o,ho,hc⟩ isSubtype_stop (SU (go _ eb)))
end
noncomputable def R6(K:W.Frag)(a:Addr):It :=
 ⟨λi H => ∃xs x,cF K H a xs/\xs[i]?=some x,λi H x H' => ∃p v,x=.ref p/\H p=none/\H'=aA H p (.tup [.int (i:Nat),v])/\∀xs,cF K H a xs->xs[i]?=some v,λi H => ∃xs,cF K H a xs/\xs.length<=i⟩
theorem yW(a e it:Addr)(hne:e≠it) :
  L2.Turn P w K (.Tuple es n1 pos) (R6 K a) [e,it] e (λi h=>(∃old,IsEnum h e it ((i:Nat):Int) old)/\h.IsListIter it a i) where
 mem:=by simp
 obj:=λi h st b hb=>by
  obtain⟨⟨old,q⟩,o,q2,c,d⟩:=st;rcases SS.mp hb with rfl|hb
  ·exact⟨_,q,λv z=>by have z':Data.fields _=Data.cell v:=z;cases z'⟩
  ·have eb:b=it:=by simpa using hb
   subst eb;exact⟨o,q2,λv z=>by rw[d]at z;cases z⟩
 keep:=λi h h' st k=>⟨let ⟨old,q⟩:=st.1;⟨old,k e (by simp) _ q⟩,st.2.at λo q=>k it (by simp) o q⟩
 item:=by
  intro Y hP hw hK hc i dl s Z H E I hf st hg;subst hP hw hK;obtain⟨xs,x,hq,hx⟩:=hg;obtain⟨its,rv,p,hz⟩:=I.list hq;obtain⟨u,hu,ru⟩:=rv.get hx;obtain⟨⟨old,isE⟩,hIt⟩:=st;refine Ev isE hIt (show s.heap.IsList a its.toArray from p.isList) (x:=u) (by simpa using hu) hne λh1 eo it1 t1 k1=>?_
  refine⟨_,rfl,wpAny_letOwnedTupleGo_enum eo λh2 e2 sb2=>?_⟩;have sb2':Heap.SameBut e h1 h2:=sb2;have elt:e<s.heap.objs.size:=S1 isE;have k2:∀b o,b∉[e,it]->s.heap.get? b=some o->h2.get? b=some o:=λb o nb q=>by
   have n1:b≠e:=λz=>nb (by simp[z])
   have n2:b≠it:=λz=>nb (by simp[z])
   exact sb2'.extBut b o n1 (k1 b o n1 n2 q)
  have t2:h2.get? s.heap.objs.size=some { cls:=.type "tuple", data:=.seq #[.int i s.toks,u] }:=sb2'.extBut _ _ (TR elt) t1;have hn0:H s.heap.objs.size=none:=I.hok.fresh (SX _);refine⟨.ref s.heap.objs.size,aA H s.heap.objs.size (.tup [.int (i:Nat),x]),tL (s:=s) (h2:=h2) (t2:=s.toks+1) I k2 (SX _) hf ?_,rfl,⟨_,x,rfl,hn0,rfl,λys hy=>by rw[I.list_inj hy hq];exact hx⟩,⟨⟨u,?_⟩,it1.at λo q=>sb2'.extBut it o (Ub hne) q⟩,λb hb=>?_⟩
  ·exact⟨by show 2<=sizeLine;decide,[.int i s.toks,u],.cons ⟨_,rfl⟩ (.cons ru .nil),⟨_,t2,rfl,_,rfl⟩,_,t2,rfl⟩
  ·have q:=e2;rw[show((i:Nat):Int)+1=((i+1:Nat):Int) by omega]at q;exact q
  ·have hb':=hf b hb;have lt:b<s.heap.objs.size:=by
    rcases SS.mp hb with rfl|hb
    ·exact elt
    ·have eb:b=it:=by simpa using hb
     subst eb;obtain⟨o,q,_⟩:=hIt;exact S1 q
   rw[aq (Ts lt)];exact hb'.1
 done:=by
  intro Y hP hw hK hc i dl s Z H E I hf st hg;subst hP hw hK;obtain⟨xs,hq,hx⟩:=hg;obtain⟨its,rv,p,hz⟩:=I.list hq;obtain⟨⟨old,isE⟩,hIt⟩:=st;obtain⟨f0,f1,f2,f3,f4,f5⟩:=hf it (by simp);have hl:=rv.length;exact JN (I.ok.hd hc) isE hIt (show s.heap.IsList a its.toArray from p.isList) (by simp;omega) λh1 eb=>⟨rfl,I.turned (t':=s.toks) (λb o hb q=>eb b o hb q) f0 f1 f3 f4 f5⟩
 self:=λ_ _ _ _ _ st h=>let ⟨old,q⟩:=st.1;wpAny_pyIter_enum q h
theorem Ej(hg:Gl X "enumerate")(hm0:X.mg "enumerate" = none)(ha:AD X U [a] [.lst l] k)(hst:∀y p,a ≠ .Starred y p)(hf:aK l=true) :
  IE X U (.Tuple es n1 tp) (.Call (.Name "enumerate" p) [a] [] pos) (l.mapIdx λi x=>.tup [.int (i:Nat),x]) k:=by
 intro ow dl s Z H R I ⟨E,q⟩;refine Call_ (jQ I hg hm0 (show bootBuiltins "enumerate" = some (.type "enumerate") by decide +kernel) (UD (aG (ha ow pos dl s Z H (λvs H1=>ar H H1/\ah X.K H1 (Kp ow H k) [.lst l] vs) I ⟨E,λvs H1 s1 r1=>⟨s1,r1⟩⟩) λus s1 ⟨vs,H1,I1,rv,sm,rp⟩=>?_) (ax hst) rfl) (by decide +kernel) (by decide +kernel));obtain⟨v,rfl,rv1⟩:=rp.only;obtain⟨ta,xs,rfl,hq,rl,hk1⟩:=ve (κ:=false) rv1;replace hq:cF X.K H1 ta xs:=hq;obtain⟨u,rfl,ru⟩:=bY rv;cases (show u=Value.ref ta from ru);obtain⟨its,rvs,pt,hz⟩:=I1.list hq;refine Ew (show s1.heap.IsList ta its.toArray from pt.isList) λh2 isE hIt sz k2=>?_
 refine wpAny_pyIter_enum isE ?_;have I2:aj X dl Z H1 { s1 with heap:=h2 }:=I1.kept (t':=s1.toks) k2;have f0:H1 s1.heap.objs.size=none:=I1.hok.fresh (SX _);have f1:H1 (s1.heap.objs.size+1)=none:=I1.hok.fresh (TM _);refine⟨s1.heap.objs.size+1,[s1.heap.objs.size+1,s1.heap.objs.size],_,_,H1,rfl,I2,yW ta _ _ (TR (Tx _)),⟨⟨_,isE⟩,hIt⟩,λb hb=>?_,q _ H1 sm ?_⟩
 ·rcases SS.mp hb with rfl|hb
  ·exact I1.fpOk (TM _) f1
  ·have eb:b=s1.heap.objs.size:=by simpa using hb
   subst eb;exact I1.fpOk (SX _) f0
 ·intro i H2 st;have rl':ah X.K H1 (Kd ow H k H1) l xs:=rl.flat _ hf;refine⟨λd hd=>?_,λhle=>?_⟩
  ·rw[List.getElem?_mapIdx]at hd;cases e:l[i]? with
   | none=>rw[e]at hd;cases hd
   | some x =>
    rw[e]at hd;cases hd;obtain⟨y,hy,ry⟩:=rl'.get e;refine⟨⟨xs,y,hk1 st,hy⟩,λx' H3 ⟨p',v',e1,e2,e3,e4⟩=>?_⟩;have hv:=e4 xs (hk1 st);rw[hy]at hv;cases hv;subst e1 e3;have sm3:=cf (o:=HO.tup [.int (i:Nat),y]) e2;refine⟨sm3,?_⟩;rw[ae];exact⟨p',_,rfl,bX.of aw,ah.cons (by rw[ae]) (ah.one ((ry.mono st).same sm3))⟩
  ·rw[List.length_mapIdx]at hle;exact⟨xs,hk1 st,by rw[<- rl.length];exact hle⟩
theorem Ek:n9 "enumerate" zK:=by
 refine⟨by decide +kernel,λX U p pos args ds k d j l tg o hc hg hm ha hst hlen h hp hl ht=>?_⟩;unfold zK at h;have ht2:ln tg=true:=by simpa [gI]using ht
 obtain⟨es,n1,tp,rfl⟩:=tK ht2;split at h
 ·cases h;cases hl
  match args,hlen,ha,hst with
  | [a'],_,ha,hst=>rw[yB];simp only[Nat.zero_add];exact Ej hg hm ha (hst a' SV) hp.1
 ·cases h
open PySem.W (KasT kas_sort kas_ask KatLex KatTups kat_sorted kat_kind kat_lt kat_cons kat_nil kat_go kat_yes kat_no kat_one KasFin)
section
variable{prog:Program}{w:World}{A:Around}{E:Value->Shared->Prop}{s:Shared}
end
variable{X:Cx}
open AutoSeq1 (wpAny_loadPart')
section
variable{prog:Program}{w:World}{A:Around}{E:Value->Shared->Prop}{s:Shared}
variable{n l1 l2 l3:Nat}{xs ys ws:Array Value}{k:Nat}{x y u:Value}{f0 f1:Value}
end
open AutoSeq1 (wpAny_loadPart')
section
variable{prog:Program}{w:World}{A:Around}{E:Value->Shared->Prop}{s:Shared}
end
section
variable{prog:Program}{w:World}{A:Around}{E:Value->Shared->Prop}{s:Shared}
end
variable{X:Cx}
theorem iQ{y:D×Bool}(z:Str):bK U x y z=if z=x then some y else U z:=rfl
theorem eQ{o:Bool}(hN:X.N.Nodup)(hl:Z.length=X.N.length)(E:aD X ow H Z U)(hi:X.N[i]?=some x)(hv:me X.env.scope x)(r:ae X.K H (o8 ow x o) d v) :
  aD X ow H (Z.set i (some v)) (bK U x (d,o)):=by
 have hil:i<Z.length:=by rw[hl];exact(Tl.mp hi).1
 refine⟨λy e o' h=>?_,E.own⟩;rw[iQ]at h;by_cases hy:y=x
 ·subst hy;rw[if_pos rfl]at h;cases h;exact⟨i,v,hi,hv,by rw[UF hil],r⟩
 ·rw[if_neg hy]at h;obtain⟨j,w,e1,e2,e3,e4⟩:=E.get y e o' h;have hij:i≠j:=by intro z;subst z;rw[hi]at e1;cases e1;exact hy rfl
  exact⟨j,w,e1,e2,by rw[Ul hij];exact e3,e4⟩
theorem fT(G:aJ O X sc)(h:dO sc x=true):yQ X.env.scope x/\me X.env.scope x/\(X.fn x=true\/X.env.scope.names.lookup x=some .local)/\∃i:Nat,X.N[i]?=some x:=by
 have hx:=G.ns x h;have hlt:=List.idxOf_lt_length_iff.mpr hx;have hi:∃i:Nat,X.N[i]?=some x:=⟨X.N.idxOf x,by rw[Tk hlt,Vi hlt]⟩;unfold dO at h;rw[Vs]at h;rcases h with h|h
 ·have h:=G.lc x (by simpa using h);exact⟨.inl h,.inl h,.inr h,hi⟩
 ·have h0:sc.names.lookup x=some .cell:=by simpa using h
  have h:=G.cc x h0;exact⟨.inr h,.inr (.inl h),.inl (G.ft x h0),hi⟩
theorem mH{O:Fx}{sc:Scope}(G:aJ O X sc):∀{es:List Expr} {ds:List D} {U U':ag},ba sc es ds U=some U'->∃t,yP X es t/\(assignEach es X.env).length=ds.length/\(assignEach es X.env).findIdx? (·.1)=none /\
  ∀(ow:Ow) (vs:List V) (Z:L2.St) (H:Hp) (Q:L2.St->Hp->Prop),Z.length=X.N.length->aD X ow H Z U->ah X.K H (λa b=>b=true->ow a=none) ds vs->(∀Z',Z'.length=X.N.length->aD X ow H Z' U'->Q Z' H)->t vs Z H Q
 | [],[],U,U',h=>by
  rw[ba]at h;cases h;refine⟨_,rN,rfl,rfl,λow vs Z H Q hl E r q=>?_⟩;rw[ah]at r;exact⟨r,q Z hl E⟩
 | .Name x p::es,d::ds,U,U',h=>by
  rw[ba]at h;split at h
  ·rename_i hx;obtain⟨t,h1,h2,h3,h4⟩:=mH G h;obtain⟨g1,g2,g3,i,g4⟩:=fT G hx;refine⟨_,jL (gR (i:=i) G.nd g4 g1 g3) h1 rfl,?_,?_,λow vs Z H Q hl E r q=>?_⟩
   ·show(assignEach es X.env).length+1=ds.length+1;rw[h2]
   ·show List.findIdx? (·.1) ((false,_)::assignEach es X.env)=none;rw[List.findIdx?_cons,h3];rfl
   ·rw[ah]at r;obtain⟨v,vr,rfl,r1,r2⟩:=r;refine⟨v,vr,rfl,?_⟩;exact h4 ow vr _ H Q (by rw[TU];exact hl) (eQ G.nd hl E g4 g2 r1) r2 q
  ·cases h
 | [],_::_,U,U',h=>by simp[ba]at h
 | .Name _ _::_,[],U,U',h=>by simp[ba]at h
 | .BoolOp .. :: _,ds,U,U',h=>by cases ds<;>simp[ba]at h
 | .NamedExpr .. :: _,ds,U,U',h=>by cases ds<;>simp[ba]at h
 | .BinOp .. :: _,ds,U,U',h=>by cases ds<;>simp[ba]at h
 | .UnaryOp .. :: _,ds,U,U',h=>by cases ds<;>simp[ba]at h
 | .Lambda .. :: _,ds,U,U',h=>by cases ds<;>simp[ba]at h
 | .IfExp .. :: _,ds,U,U',h=>by cases ds<;>simp[ba]at h
 | .Dict .. :: _,ds,U,U',h=>by cases ds<;>simp[ba]at h
 | .Set .. :: _,ds,U,U',h=>by cases ds<;>simp[ba]at h
 | .ListComp .. :: _,ds,U,U',h=>by cases ds<;>simp[ba]at h
 | .SetComp .. :: _,ds,U,U',h=>by cases ds<;>simp[ba]at h
 | .DictComp .. :: _,ds,U,U',h=>by cases ds<;>simp[ba]at h
 | .GeneratorExp .. :: _,ds,U,U',h=>by cases ds<;>simp[ba]at h
 | .Await .. :: _,ds,U,U',h=>by cases ds<;>simp[ba]at h
 | .Yield .. :: _,ds,U,U',h=>by cases ds<;>simp[ba]at h
 | .YieldFrom .. :: _,ds,U,U',h=>by cases ds<;>simp[ba]at h
 | .Compare .. :: _,ds,U,U',h=>by cases ds<;>simp[ba]at h
 | .Call .. :: _,ds,U,U',h=>by cases ds<;>simp[ba]at h
 | .FormattedValue .. :: _,ds,U,U',h=>by cases ds<;>simp[ba]at h
 | .JoinedStr .. :: _,ds,U,U',h=>by cases ds<;>simp[ba]at h
 | .Constant .. :: _,ds,U,U',h=>by cases ds<;>simp[ba]at h
 | .Attribute .. :: _,ds,U,U',h=>by cases ds<;>simp[ba]at h
 | .Subscript .. :: _,ds,U,U',h=>by cases ds<;>simp[ba]at h
 | .Starred .. :: _,ds,U,U',h=>by cases ds<;>simp[ba]at h
 | .List .. :: _,ds,U,U',h=>by cases ds<;>simp[ba]at h
 | .Tuple .. :: _,ds,U,U',h=>by cases ds<;>simp[ba]at h
 | .Slice .. :: _,ds,U,U',h=>by cases ds<;>simp[ba]at h
theorem js(G:aJ O X sc)(h:dk sc tg d U=some U'):GD X U tg d U':=by
 unfold dk at h;split at h
 ·split at h
  ·rename_i x p hx;cases h;obtain⟨g1,g2,g3,i,g4⟩:=fT G hx;exact⟨_,gR (i:=i) G.nd g4 g1 g3,λow v Z H Q hl E r q=>q _ (by rw[TU];exact hl) (eQ G.nd hl E g4 g2 r)⟩
  ·cases h
 ·split at h
  ·obtain⟨t,h1,h2,h3,h4⟩:=mH G h;refine⟨_,qd (n:=_) G.calm h1 h2 h3,λow v Z H Q hl E r q=>?_⟩;obtain⟨a,vs,rfl,hs,rl⟩:=jF r;exact⟨a,vs,rfl,hs,rl.length.symm,h4 ow vs Z H Q hl E rl q⟩
  ·cases h
 ·cases h
theorem yY{Q:Bool->Shared->Prop}
  (h:wpAny M A (isTrue c env (eval c env)) (λb s'=>if b=true then wpAny M A (iD cs env) Q E s' else Q false s') E s):wpAny M A (iD (c::cs) env) Q E s:=by
 have no:∀(l:List Expr) (s:Shared),Q false s->wpAny M A (forIn l false λc r=>if r=true then do let ok <- isTrue c env (eval c env);pure (ForInStep.yield ok)else pure (ForInStep.yield r)) Q E s:=by
  intro l;induction l with
  | nil=>intro s h;exact SU h
  | cons x l ih =>
   intro s h;rw[Vh];simp only[Bool.false_eq_true,if_false];exact SO (SU (ih s h))
 unfold iD;rw[Vh];simp only[Vl];refine SO (SO (Tn h (λb s' hb=>SU ?_) λ_ _ x=>x));cases b with
 | true=>exact hb
 | false=>exact no cs s' hb
theorem AQ:yM X U [] true:=λow dl s Z H Q I ⟨E,q⟩=>SU ⟨H,I,q H (ar.refl _)⟩
theorem rC{b':Bool}(h:TD X U c b)(h':if b=true then yM X U cs b' else b'=false):yM X U (c::cs) b':=by
 intro ow dl s Z H Q I ⟨E,q⟩;refine yY (aG (h ow dl s Z H (λt H1=>t=b/\ar H H1) I ⟨E,λH1 s1=>⟨rfl,s1⟩⟩) λt s1 ⟨H1,I1,e,sm⟩=>?_);subst e;cases t with
 | true =>
  rw[if_pos rfl]at h' ⊢;exact h' ow dl s1 Z H1 Q I1 ⟨E.same sm,λH2 s2=>q H2 (sm.trans s2)⟩
 | false =>
  rw[if_neg Ta]at h' ⊢;subst h';exact⟨H1,I1,q H1 sm⟩
variable{X:Cx}
structure gY(X:Cx)(U:ag)(e:Expr)(it:Bool)(d:D)(k:Nat):Prop where
 ed:it=false->ED X U e d k
 td:it=false->∀b,d=.bl b->TD X U e b
 ie:it=true->∀tg l,items d=some l->gI e tg=true->IE X U tg e l k
theorem gY.of(h:ED X U e d k)(t:∀b,d=.bl b->TD X U e b):gY X U e it d k:=⟨λ_=>h,λ_=>t,λ_ tg l hi _=>PC h hi⟩
theorem ic{r:D×Nat}{l:List Prop}(h:aB O e it sc U=.ok r l):∀x p,e ≠ .Starred x p:=by
 intro x p z;subst z;cases h
theorem cU{O:Fx}{sc:Scope}{U:ag}:∀{es:List Expr} {r:List D×Nat} {l:List Prop},cB O es sc U=.ok r l->aH l->(∀e∈es,∀x p,e ≠ .Starred x p)/\es.length=r.1.length
 | [],r,l,h,_=>by cases h;exact⟨λe he=>(by cases he),rfl⟩
 | e::es,r,l,h,hp=>by
  obtain⟨p,l1,l2,h1,p1,h,p2⟩:=aS h hp;obtain⟨q,l3,l4,h2,p3,h,p4⟩:=aS h p2;cases h;obtain⟨i1,i2⟩:=cU h2 p3;refine⟨λe' he=>?_,by rw[S7,S7,i2]⟩;rcases SS.mp he with rfl|he
  ·exact ic h1
  ·exact i1 e' he
theorem Pw:kn d k=0\/kn d k=k:=by
 unfold kn;split
 ·exact .inl rfl
 ·exact .inr rfl
theorem CL(h:ni sc scope=true):scope.kind=.function/\(∀y∈scope.names,y.2=.local->scope.names.lookup y.1=some .local) /\
  (∀y∈scope.names,y.2=.free->sc.names.lookup y.1=some .cell\/sc.names.lookup y.1=some .free)/\(scope.names.map (·.1)).Nodup:=by
 unfold ni at h;simp only[Tj,TJ,decide_eq_true_eq,Vs]at h;obtain⟨⟨⟨h1,h3⟩,h4⟩,h5⟩:=h;refine⟨h1,λy hy e=>(h3 y hy).resolve_left (λz=>z e),λy hy e=>?_,h5⟩;rcases h4 y hy with(q|q)|q
 ·exact absurd e q
 ·exact .inl q.2
 ·exact .inr q
theorem dM{env:Env}:∀{names:List (Str×NameKind)} {x:Str} {k0:NameKind},k0 ≠ .free->names.lookup x=some k0 ->
  (names.map λ(n,k)=>if (k==NameKind.free&&env.scope.kind == .function&&env.kindOf n==some .cell)then(n,NameKind.cell)else(n,k)).lookup x=some k0
 | [],_,_,_,h=>by simp at h
 | (n,k)::r,x,k0,hk,h=>by
  have ih:=@dM env r x k0 hk;show List.lookup x ((if (k==NameKind.free&&env.scope.kind == .function&&env.kindOf n==some .cell)=true then(n,NameKind.cell)else(n,k))::_)=_;cases hx:x==n with
  | true =>
   simp only[S9,hx]at h;cases h;have:(k==NameKind.free)=false:=by simpa using hk
   simp[S9,hx,this]
  | false =>
   simp only[S9,hx]at h;by_cases hc:(k==NameKind.free&&env.scope.kind == .function&&env.kindOf n==some .cell)=true
   ·rw[if_pos hc];simp only[S9,hx];exact ih h
   ·rw[if_neg hc];simp only[S9,hx];exact ih h
theorem jr{names:List (Str×NameKind)}:∀{x:Str} {k:NameKind},names.lookup x=some k->x∈names.map (·.1):=λ{x k} h=>T0.mpr ⟨_,S5 h,rfl⟩
theorem sg(G:aJ O X sc)(h:ni sc scope=true):aJ O (jp X scope cl C (scope.names.map (·.1)) s H fp) scope:=by
 obtain⟨h1,h3,h4,h5⟩:=CL h;refine⟨G.calm,h5,λx hx=>?_,λx hx=>?_,λx hx=>lookup_relabel_local hx,λx hx=>dM (by decide) hx,λg F hg=>G.fn g F hg,G.con,G.blt,G.itr,G.mth,G.mtt,G.slf,G.fld,G.omt,G.bl,G.room,λx hx=>?_,λx hx=>Tv hx⟩
 ·exact dM (by decide) hx
 ·rcases hx with hx|hx
  ·exact .inl (dM (by decide) hx)
  ·exact dN hx
 ·unfold dO at hx;rw[Vs]at hx;rcases hx with hx|hx<;>exact jr (by simpa using hx)
theorem m9(G:aJ O X sc)(h:ni sc scope=true):ir X.env scope (scope.names.map (·.1)):=by
 obtain⟨h1,h3,h4,h5⟩:=CL h;exact⟨h1,h5,h3,h5,λn hn=>G.kc n (h4 (n,.free) hn rfl)⟩
theorem Px:∀{a b:Nat},kj a b<=1->a<=kj a b/\b<=kj a b
 | 0,0,_=>by decide
 | 0,1,_=>by decide
 | 0,2,h=>absurd h (by decide)
 | 0,_+3,h=>by rw[kj]at h;omega
 | 1,0,_=>by decide
 | 1,1,_=>by decide
 | 1,2,h=>absurd h (by decide)
 | 1,_+3,h=>absurd h (by rw[kj]<;>simp)
 | 2,0,h=>absurd h (by decide)
 | 2,1,h=>absurd h (by decide)
 | 2,2,h=>absurd h (by decide)
 | 2,_+3,h=>absurd h (by rw[kj]<;>simp)
 | _+3,0,h=>by rw[kj]at h<;>simp_all<;>omega
 | _+3,1,h=>absurd h (by rw[kj]<;>simp)
 | _+3,2,h=>absurd h (by rw[kj]<;>simp)
 | _+3,_+3,h=>absurd h (by rw[kj]<;>simp)
theorem Kp.up(o:fX ow H){a:Addr}:∀{i j:Nat},i<=j->j<=1->Kp ow H i a b->Kp ow H j a b
 | 0,0,_,_,p=>p
 | 0,1,_,_,p=>λ_=>o.free p.2
 | 1,1,_,_,p=>p
 | 1,0,h,_,_=>absurd h (by omega)
 | _+2,_,h,g,_=>absurd h (by omega)
 | 0,_+2,_,g,_=>absurd g (by omega)
 | 1,_+2,_,g,_=>absurd g (by omega)
theorem ED.up(h:ED X U e d i)(h1:i<=j)(h2:j<=1):ED X U e d j:=λow=>bh (h ow) λZ H Q ⟨E,q⟩=>⟨E,λv H' s r=>q v H' s (r.imp λa b p=>Kp.up E.own h1 h2 p)⟩
def uy(step:D->Rs (Option (D×Nat)))(d:D):Option D:=match step d with | .ok (some p) _=>some p.1|_=>none
theorem wu{step:D->Rs (Option (D×Nat))}:∀{ds:List D} {r:List D×Nat} {l:List Prop},kC step ds=.ok r l->aH l ->
  (∀d∈ds,∃r l,step d=.ok r l/\aH l)/\r.1=ds.filterMap (uy step)/\(r.2<=1->∀d∈ds,∀p l,step d=.ok (some p) l->p.2<=r.2)
 | [],r,l,h,_=>by
  cases h;exact⟨λd hd=>(by cases hd),rfl,λ_ d hd=>(by cases hd)⟩
 | d::ds,r,l,h,hp=>by
  obtain⟨x,l1,l2,h1,p1,h,p2⟩:=aS h hp;obtain⟨q,l3,l4,h2,p3,h,p4⟩:=aS h p2;obtain⟨i1,i2,i3⟩:=wu h2 p3;have i1':∀y∈d::ds,∃r l,step y=.ok r l/\aH l:=λy hy=>by
   rcases SS.mp hy with rfl|hy
   ·exact⟨_,_,h1,p1⟩
   ·exact i1 y hy
  cases x with
  | none =>
   cases h;refine⟨i1',?_,λhj x hx y i e=>?_⟩
   ·rw[List.filterMap_cons_none (by unfold uy;rw[h1])];exact i2
   ·rcases SS.mp hx with rfl|hx
    ·rw[h1]at e;cases e
    ·exact i3 hj x hx y i e
  | some p =>
   cases h;refine⟨i1',?_,λhj x hx y i e=>?_⟩
   ·rw[List.filterMap_cons_some (by unfold uy;rw[h1]),i2]
   ·obtain⟨a1,a2⟩:=Px hj;rcases SS.mp hx with rfl|hx
    ·rw[h1]at e;cases e;exact a1
    ·exact SZ (i3 (SZ a2 hj) x hx y i e) a2
theorem bN(h:ED X U e d k)(he:∀whole,isTrue e X.env whole=(do let v <- whole;standAt e.pos;holding [v] (truthy v))):gY X U e it d k:=.of h λb hb=>by subst hb;exact Og h he
theorem AZ{b:Expr}{x:D}(hu:X.A.units+70<cLine)(ha:ED X U a x k)(hb:ED X U b y j)(h:gL op x y=.ok r o)(hp:aH o)(hm:behindInMarks op b=false):TD X U (.Compare a [op] [b] pos) r:=by
 have c:=jW (X:=X) hu h hp;intro ow dl s Z H Q I ⟨E,q⟩;refine wpAny_isTrue_Compare1 (Qw (ha ow) (hb ow) I (R:=λv u H2=>ar H H2/\ae X.K H2 (λ_ _=>True) x v/\ae X.K H2 (λ_ _=>True) y u) ⟨E,λv H1 s1 r1=>⟨E.same s1,λu H2 s2 r2=>⟨s1.trans s2,(r1.imp λ_ _ _=>True.intro).same s2,r2.imp λ_ _ _=>True.intro⟩⟩⟩ λv u s2 x y H2 I2 rx ry ⟨sm,r1,r2⟩=>?_) hm;refine aG (c _ _ dl s2 Z H2 x y v u (λw H'=>w=.bl r/\H2=H') I2 rx ry ⟨r1,r2,rfl,rfl⟩) λu' s3 ⟨w,H3,I3,r3,e1,e2⟩=>?_
 subst e1 e2;cases (show u'=Value.bool r from r3);exact T3 ⟨H2,I3,q H2 sm⟩
theorem Dt{b:Expr}{x y z:Int}(hu:X.A.units+70<cLine)(ha:ED X U a (.int x) k)(hb:ED X U b (.int y) j)(hc:ED X U c (.int z) i)(h:iF op x y=some r)(h2:iF op2 y z=some r2)(hm:behindInMarks op2 c=false):TD X U (.Compare a [op,op2] [b,c] pos) (r&&r2):=by
 have c1:=jW (X:=X) hu (qN h) (show aH []from True.intro);have c2:=jW (X:=X) hu (qN h2) (show aH []from True.intro);refine λow=>Ar (DH (c1 (λ_ _=>True) (λ_ _=>True)) (c2 (λ_ _=>True) (λ_ _=>True)) (ha ow) (hb ow) (hc ow) hm) λZ H Q ⟨E,q⟩=>⟨E,λv H1 s1 r1=>⟨E.same s1,λu H2 s2 r2=>?_⟩⟩
 rw[ae]at r1 r2;subst r1 r2;refine⟨by rw[ae],by rw[ae],r,rfl,?_⟩;cases r with
 | false=>exact⟨false,rfl,q H2 (s1.trans s2)⟩
 | true =>
  rw[if_pos rfl];refine⟨(E.same s1).same s2,λw H3 s3 r3=>?_⟩;rw[ae]at r3;subst r3;exact⟨by rw[ae],by rw[ae],_,rfl,q H3 ((s1.trans s2).trans s3)⟩
theorem KU(h:TD X U a b):TD X U (.UnaryOp .Not a pos) (!b):=λow=>Ar (LG (h ow)) λZ H Q ⟨E,q⟩=>⟨E,λH1 s1=>q H1 s1⟩
structure fK(X:Cx)(U:ag)(op:BoolOp)(es:List Expr)(b:Bool):Prop where
 ed:es≠[]->∀pos,ED X U (.BoolOp op es pos) (.bl b) 0
 tw:es≠[]->∀pos ow,PW X (.BoolOp op es pos) (KW X ow U b)
 ts:op=.And->yM X U es b
theorem iS{op:BoolOp}(h:ED X U e (.bl b) k)(t:TD X U e b):fK X U op [e] b:=by
 have h0:ED X U e (.bl b) 0:=by
  have:=h.kn;rw[show kn (.bl b) k=0 from rfl]at this;exact this
 refine⟨λ_ pos ow=>LO (h0 ow),λ_ pos ow=>?_,λ_=>rC t (by cases b;rfl;exact AQ)⟩;cases op with
 | And=>exact Io (t ow)
 | Or=>exact LC (t ow)
theorem xz(h:ED X U e (.bl true) k)(t:TD X U e true)(r:fK X U .And (e2::es) b):fK X U .And (e::e2::es) b:=by
 refine⟨λ_ pos ow=>?_,λ_ pos ow=>?_,λ_=>rC t (by rw[if_pos rfl];exact r.ts rfl)⟩
 ·refine bh (By (h ow) (r.ed (by simp) pos ow)) λZ H Q ⟨E,q⟩=>⟨E,λv H1 s1 r1=>?_⟩
  rw[ae]at r1;exact⟨true,r1,by rw[if_pos rfl];exact⟨E.same s1,λw H2 s2 r2=>q w H2 (s1.trans s2) (r2.imp (Kp.back s1 0))⟩⟩
 ·intro wh dl s Z H Q I hq;exact Br (t ow) (r.tw (by simp) pos ow) wh dl s Z H Q I ⟨hq.1,λH1 s1=>by dsimp only;rw[if_pos rfl];exact⟨hq.1.same s1,λH2 s2=>hq.2 H2 (s1.trans s2)⟩⟩
theorem wD(h:ED X U e (.bl false) k)(t:TD X U e false)(ne:∀pos,∃t,PE X (.BoolOp .And (e2::es) pos) t)(nw:∀pos,∃t,PW X (.BoolOp .And (e2::es) pos) t):fK X U .And (e::e2::es) false:=by
 refine⟨λ_ pos ow=>?_,λ_ pos ow=>?_,λ_=>rC t (by rw[if_neg Ta])⟩
 ·obtain⟨t2,h2⟩:=ne pos;refine bh (By (h ow) h2) λZ H Q ⟨E,q⟩=>⟨E,λv H1 s1 r1=>?_⟩
  rw[ae]at r1;exact⟨false,r1,by rw[if_neg Ta];exact q _ H1 s1 (by rw[ae])⟩
 ·obtain⟨t2,h2⟩:=nw pos;intro wh dl s Z H Q I hq;exact Br (t ow) h2 wh dl s Z H Q I ⟨hq.1,λH1 s1=>by dsimp only;rw[if_neg Ta];exact hq.2 H1 s1⟩
theorem Ag(h:ED X U e (.bl false) k)(t:TD X U e false)(r:fK X U .Or (e2::es) b):fK X U .Or (e::e2::es) b:=by
 refine⟨λ_ pos ow=>?_,λ_ pos ow=>?_,λz=>by cases z⟩
 ·refine bh (F5 (h ow) (r.ed (by simp) pos ow)) λZ H Q ⟨E,q⟩=>⟨E,λv H1 s1 r1=>?_⟩
  rw[ae]at r1;exact⟨false,r1,by rw[if_neg Ta];exact⟨E.same s1,λw H2 s2 r2=>q w H2 (s1.trans s2) (r2.imp (Kp.back s1 0))⟩⟩
 ·intro wh dl s Z H Q I hq;exact F3 (t ow) (r.tw (by simp) pos ow) wh dl s Z H Q I ⟨hq.1,λH1 s1=>by dsimp only;rw[if_neg Ta];exact⟨hq.1.same s1,λH2 s2=>hq.2 H2 (s1.trans s2)⟩⟩
theorem xy(h:ED X U e (.bl true) k)(t:TD X U e true)(ne:∀pos,∃t,PE X (.BoolOp .Or (e2::es) pos) t)(nw:∀pos,∃t,PW X (.BoolOp .Or (e2::es) pos) t):fK X U .Or (e::e2::es) true:=by
 refine⟨λ_ pos ow=>?_,λ_ pos ow=>?_,λz=>by cases z⟩
 ·obtain⟨t2,h2⟩:=ne pos;refine bh (F5 (h ow) h2) λZ H Q ⟨E,q⟩=>⟨E,λv H1 s1 r1=>?_⟩
  rw[ae]at r1;exact⟨true,r1,by rw[if_pos rfl];exact q _ H1 s1 (by rw[ae])⟩
 ·obtain⟨t2,h2⟩:=nw pos;intro wh dl s Z H Q I hq;exact F3 (t ow) h2 wh dl s Z H Q I ⟨hq.1,λH1 s1=>by dsimp only;rw[if_pos rfl];exact hq.2 H1 s1⟩
theorem vG:PE X e (λ_ _ _=>False):=λ_ _ _ _ _ _ h=>h.elim
theorem vD:PW X e (λ_ _ _=>False):=λ_ _ _ _ _ _ _ h=>h.elim
theorem GF{b:Expr}{r:D×Nat}{l:List Prop}(h:aB O b it sc U=.ok r l):behindInMarks op b=false:=by
 cases b<;>first|rfl|cases h
theorem yf{z:Str}(h:dO sc z=true)(hx:sc.names.lookup x=some .free):x≠z:=by
 intro e;subst e;unfold dO at h;rw[hx]at h
 revert h;decide
theorem Ah:∀{es:List Expr} {ds:List D} {U U':ag},ba sc es ds U=some U'->∀x y,sc.names.lookup x=some .free->U x=some y->U' x=some y:=by
 intro es;induction es with
 | nil =>
  intro ds U U' h x y hx hl;cases ds with
  | nil=>rw[ba]at h;cases h;exact hl
  | cons d ds=>cases h
 | cons e es ih =>
  intro ds U U' h x y hx hl;cases ds with
  | nil=>cases e<;>cases h
  | cons d ds =>
   cases e with
   | Name z p =>
    rw[ba]at h;split at h
    ·rename_i hz;exact ih h x y hx (by rw[iQ,if_neg (yf hz hx)];exact hl)
    ·cases h
   | _=>cases h
theorem tZ(h:dk sc tg d U=some U'):∀x y,sc.names.lookup x=some .free->U x=some y->U' x=some y:=by
 intro x y hx hl;unfold dk at h;split at h
 ·split at h
  ·rename_i hz;cases h;rw[iQ,if_neg (yf hz hx)];exact hl
  ·cases h
 ·split at h
  ·exact Ah h x y hx hl
  ·cases h
 ·cases h
theorem kA{r:D×Nat}{l:List Prop}(h:aB O e it sc U=.ok r l)(x:Value):foldedSetIterable e env x=pure x:=by
 cases e<;>first|rfl|cases h
mutual
theorem vP:∀x y:D,rR true x y=x
 | .int _,.int _=>rfl
 | .bl _,.bl _=>rfl
 | .tup l,.tup m=>by
  show(if l.length=m.length then D.tup (mO true l m)else cond true (.tup l) (.tup m))=.tup l;split
  ·rename_i h;rw[BI l m h]
  ·rfl
 | .non,_=>rfl
 | .str _,_=>rfl
 | .dct _ _,_=>rfl
 | .lst _,_=>rfl
 | .typ _,_=>rfl
 | .dcf _ _,_=>rfl
 | .dft _ _ _,_=>rfl
 | .sn _,_=>rfl
 | .obj _ _ _,_=>rfl
 | .cls _,_=>rfl
 | .xc _ _,_=>rfl
 | .int _,.non=>rfl
 | .int _,.bl _=>rfl
 | .int _,.str _=>rfl
 | .int _,.dct _ _=>rfl
 | .int _,.typ _=>rfl
 | .int _,.dcf _ _=>rfl
 | .int _,.dft _ _ _=>rfl
 | .int _,.sn _=>rfl
 | .int _,.obj _ _ _=>rfl
 | .int _,.cls _=>rfl
 | .int _,.xc _ _=>rfl
 | .int _,.tup _=>rfl
 | .int _,.lst _=>rfl
 | .bl _,.non=>rfl
 | .bl _,.int _=>rfl
 | .bl _,.str _=>rfl
 | .bl _,.dct _ _=>rfl
 | .bl _,.typ _=>rfl
 | .bl _,.dcf _ _=>rfl
 | .bl _,.dft _ _ _=>rfl
 | .bl _,.sn _=>rfl
 | .bl _,.obj _ _ _=>rfl
 | .bl _,.cls _=>rfl
 | .bl _,.xc _ _=>rfl
 | .bl _,.tup _=>rfl
 | .bl _,.lst _=>rfl
 | .tup _,.non=>rfl
 | .tup _,.int _=>rfl
 | .tup _,.bl _=>rfl
 | .tup _,.str _=>rfl
 | .tup _,.dct _ _=>rfl
 | .tup _,.typ _=>rfl
 | .tup _,.dcf _ _=>rfl
 | .tup _,.dft _ _ _=>rfl
 | .tup _,.sn _=>rfl
 | .tup _,.obj _ _ _=>rfl
 | .tup _,.cls _=>rfl
 | .tup _,.xc _ _=>rfl
 | .tup _,.lst _=>rfl
theorem BI:∀l m:List D,l.length=m.length->mO true l m=l
 | [],[],_=>rfl
 | x::l,y::m,h=>by
  show rR true x y::mO true l m=x::l;rw[vP x y,BI l m (by simpa using h)]
 | [],_::_,h=>by cases h
 | _::_,[],h=>by cases h
end
mutual
theorem vQ:∀x y:D,rR false x y=y
 | .int _,.int _=>rfl
 | .bl _,.bl _=>rfl
 | .tup l,.tup m=>by
  show(if l.length=m.length then D.tup (mO false l m)else cond false (.tup l) (.tup m))=.tup m;split
  ·rename_i h;rw[BJ l m h]
  ·rfl
 | .non,_=>rfl
 | .str _,_=>rfl
 | .dct _ _,_=>rfl
 | .lst _,_=>rfl
 | .typ _,_=>rfl
 | .dcf _ _,_=>rfl
 | .dft _ _ _,_=>rfl
 | .sn _,_=>rfl
 | .obj _ _ _,_=>rfl
 | .cls _,_=>rfl
 | .xc _ _,_=>rfl
 | .int _,.non=>rfl
 | .int _,.bl _=>rfl
 | .int _,.str _=>rfl
 | .int _,.dct _ _=>rfl
 | .int _,.typ _=>rfl
 | .int _,.dcf _ _=>rfl
 | .int _,.dft _ _ _=>rfl
 | .int _,.sn _=>rfl
 | .int _,.obj _ _ _=>rfl
 | .int _,.cls _=>rfl
 | .int _,.xc _ _=>rfl
 | .int _,.tup _=>rfl
 | .int _,.lst _=>rfl
 | .bl _,.non=>rfl
 | .bl _,.int _=>rfl
 | .bl _,.str _=>rfl
 | .bl _,.dct _ _=>rfl
 | .bl _,.typ _=>rfl
 | .bl _,.dcf _ _=>rfl
 | .bl _,.dft _ _ _=>rfl
 | .bl _,.sn _=>rfl
 | .bl _,.obj _ _ _=>rfl
 | .bl _,.cls _=>rfl
 | .bl _,.xc _ _=>rfl
 | .bl _,.tup _=>rfl
 | .bl _,.lst _=>rfl
 | .tup _,.non=>rfl
 | .tup _,.int _=>rfl
 | .tup _,.bl _=>rfl
 | .tup _,.str _=>rfl
 | .tup _,.dct _ _=>rfl
 | .tup _,.typ _=>rfl
 | .tup _,.dcf _ _=>rfl
 | .tup _,.dft _ _ _=>rfl
 | .tup _,.sn _=>rfl
 | .tup _,.obj _ _ _=>rfl
 | .tup _,.cls _=>rfl
 | .tup _,.xc _ _=>rfl
 | .tup _,.lst _=>rfl
theorem BJ:∀l m:List D,l.length=m.length->mO false l m=m
 | [],[],_=>rfl
 | x::l,y::m,h=>by
  show rR false x y::mO false l m=y::m;rw[vQ x y,BJ l m (by simpa using h)]
 | [],_::_,h=>by cases h
 | _::_,[],h=>by cases h
end
theorem Gk:B3 true k j=k:=by unfold B3;split<;>rfl
theorem Gm:B3 false k j=j:=by
 unfold B3;split
 ·assumption
 ·rfl
theorem Js{r s:R1}{d:D×Nat}{l:List Prop}(h:Gr t r s=.ok d l)(hp:aH l):∃m,(if t=true then r else s)=.ok d m/\aH m:=by
 unfold Gr at h;split at h
 ·cases t with
  | true=>cases h
  | false=>exact⟨l,h,hp⟩
 ·rename_i p m;split at h
  ·cases t with
   | true=>exact⟨l,h,hp⟩
   | false=>cases h
  ·rename_i q n;cases h;obtain⟨p1,p2⟩:=en.mp hp;cases t with
   | true=>exact⟨m,by rw[vP,Gk];rfl,qu p1 rfl⟩
   | false=>exact⟨n,by rw[vQ,Gm];rfl,qu p2 rfl⟩
theorem nW{p:D×Nat}{f:Bool->Rs α}{a:α}{l:List Prop}(h:qY p f=.ok a l):∃b,p.1=.bl b/\f b=.ok a l:=by
 unfold qY at h;split at h
 ·rename_i b e;exact⟨b,e,h⟩
 ·cases h
structure Ih(O:Fx)(n:Nat):Prop where
 e:∀(e:Expr) {it:Bool} {sc:Scope} {U:ag} {p:D×Nat} {l:List Prop} {X:Cx},sizeOf e<n->aB O e it sc U=.ok p l->aH l->aJ O X sc->gY X U e it p.1 p.2
 es:∀(es:List Expr) {sc:Scope} {U:ag} {p:List D×Nat} {l:List Prop} {X:Cx},sizeOf es<n->cB O es sc U=.ok p l->aH l->aJ O X sc->AD X U es p.1 p.2
 b:∀(op:BoolOp) (es:List Expr) {sc:Scope} {U:ag} {b:Bool} {l:List Prop} {X:Cx},sizeOf es<n->fb O op es sc U=.ok b l->aH l->aJ O X sc->fK X U op es b
 o:∀(e:Option Expr) {sc:Scope} {U:ag} {o:Option Int} {l:List Prop} {X:Cx},sizeOf e<n->yx O e sc U=.ok o l->aH l->aJ O X sc->OD X U e o
theorem cY{a b:Nat}(h:a<b)(hs:b<n+1):a<n:=S4 h (Nat.le_of_lt_succ hs)
section
variable{O:Fx}{n:Nat}{it:Bool}{sc:Scope}{U:ag}{r:D×Nat}{l:List Prop}{X:Cx}
theorem HK(h:uz O x sc U=.ok r l)(G:aJ O X sc):gY X U (.Name x pos) it r.1 r.2:=by
 unfold uz at h;split at h
 ·rename_i hx;split at h
  ·rename_i hg;split at h
   ·rename_i d hd;cases h;exact bN (NA G hd hg hx) (λ_=>rfl)
   ·split at h
    ·rename_i T hT;cases h;exact bN (Nw G hT hg) (λ_=>rfl)
    ·cases h
  ·split at h
   ·rename_i p hl;unfold mk at h;cases h;exact bN (JP (o:=p.2) hl hx) (λ_=>rfl)
   ·cases h
 ·cases h
theorem K8(I:Ih O n){b:Expr}{op:Operator}(hs:sizeOf (Expr.BinOp a op b pos)<n+1)(h:aB O (.BinOp a op b pos) it sc U=.ok r l)(hp:aH l)(G:aJ O X sc):gY X U (.BinOp a op b pos) it r.1 r.2:=by
 obtain⟨p,l1,l2,h1,p1,h,p2⟩:=aS (show Rs.bnd _ _=_ from h) hp;obtain⟨q,l3,l4,h2,p3,h,p4⟩:=aS h p2;exact bN (qE ((I.e a (cY (by simp<;>omega) hs) h1 p1 G).ed rfl) ((I.e b (cY (by simp<;>omega) hs) h2 p3 G).ed rfl) h p4) (λ_=>rfl)
theorem Oq(I:Ih O n){op:UnaryOp}(hs:sizeOf (Expr.UnaryOp op a pos)<n+1)(h:aB O (.UnaryOp op a pos) it sc U=.ok r l)(hp:aH l)(G:aJ O X sc):gY X U (.UnaryOp op a pos) it r.1 r.2:=by
 obtain⟨p,l1,l2,h1,p1,h,p2⟩:=aS (show Rs.bnd _ _=_ from h) hp;split at h
 ·rename_i z hu;cases h;have c:=I.e a (cY (by simp<;>omega) hs) h1 p1 G;refine .of (PZ (c.ed rfl) hu) λb hb=>?_
  have hb:z=.bl b:=hb;subst hb;unfold AK at hu;split at hu
  ·cases hu
  ·rename_i e;cases hu;exact KU (c.td rfl _ e)
  ·cases hu
 ·cases h
theorem K7(I:Ih O n){b:Expr}(hs:sizeOf (Expr.Compare a [op] [b] pos)<n+1)(h:aB O (.Compare a [op] [b] pos) it sc U=.ok r l)(hp:aH l)(G:aJ O X sc):gY X U (.Compare a [op] [b] pos) it r.1 r.2:=by
 obtain⟨p,l1,l2,h1,p1,h,p2⟩:=aS (show Rs.bnd _ _=_ from h) hp;obtain⟨q,l3,l4,h2,p3,h,p4⟩:=aS h p2;obtain⟨z,l5,l6,hc,p5,h,p6⟩:=aS h p4;cases h;have ca:=(I.e a (cY (by simp<;>omega) hs) h1 p1 G).ed rfl;have cb:=(I.e b (cY (by simp<;>omega) hs) h2 p3 G).ed rfl;exact .of (NB G.room ca cb hc p5 (GF h2)) λb' hb'=>by cases hb';exact AZ G.room ca cb hc p5 (GF h2)
theorem Dv(I:Ih O n){b:Expr}(hs:sizeOf (Expr.Compare a [op,op2] [b,c] pos)<n+1)(h:aB O (.Compare a [op,op2] [b,c] pos) it sc U=.ok r l)(hp:aH l)(G:aJ O X sc):gY X U (.Compare a [op,op2] [b,c] pos) it r.1 r.2:=by
 obtain⟨p,l1,l2,h1,p1,h,p2⟩:=aS (show Rs.bnd _ _=_ from h) hp;obtain⟨q,l3,l4,h2,p3,h,p4⟩:=aS h p2;obtain⟨t,l5,l6,h3,p5,h,p6⟩:=aS h p4;obtain⟨x,y,z,r1,r2,e1,e2,e3,k1,k2,rfl⟩:=J8 h;have ca:=(I.e a (cY (by simp<;>omega) hs) h1 p1 G).ed rfl;have cb:=(I.e b (cY (by simp<;>omega) hs) h2 p3 G).ed rfl;have cc:=(I.e c (cY (by simp<;>omega) hs) h3 p5 G).ed rfl;rw[e1]at ca;rw[e2]at cb;rw[e3]at cc;exact .of (EA G.room ca cb cc k1 k2 (GF h3)) λb' hb'=>by cases hb';exact Dt G.room ca cb cc k1 k2 (GF h3)
theorem Os(I:Ih O n){b:Expr}(hs:sizeOf (Expr.IfExp c a b pos)<n+1)(h:aB O (.IfExp c a b pos) it sc U=.ok r l)(hp:aH l)(G:aJ O X sc):gY X U (.IfExp c a b pos) it r.1 r.2:=by
 obtain⟨p,l1,l2,h1,p1,h,p2⟩:=aS (show Rs.bnd _ _=_ from h) hp;obtain⟨t,ht,h⟩:=nW h;obtain⟨m,he,hm⟩:=Js h p2;have hc:=(I.e c (cY (by simp<;>omega) hs) h1 p1 G).td rfl t ht;cases t with
 | true =>
  rw[if_pos rfl]at he;have ha:=I.e a (cY (by simp<;>omega) hs) he hm G;refine .of (Gz hc (by rw[if_pos rfl];exact ha.ed rfl)) λb' hb'=>?_
  intro ow dl s Z H Q I ⟨E,q⟩;refine isTrue_IfExp (aG (hc ow dl s Z H (λt H1=>t=true/\ar H H1) I ⟨E,λH1 s1=>⟨rfl,s1⟩⟩) λt s1 ⟨H1,I1,e1,s1'⟩=>?_);subst e1;exact ha.td rfl b' hb' ow dl s1 Z H1 Q I1 ⟨E.same s1',λH2 s2=>q H2 (s1'.trans s2)⟩
 | false =>
  rw[if_neg Ta]at he;have hb:=I.e b (cY (by simp<;>omega) hs) he hm G;refine .of (Gz hc (by rw[if_neg Ta];exact hb.ed rfl)) λb' hb'=>?_
  intro ow dl s Z H Q I ⟨E,q⟩;refine isTrue_IfExp (aG (hc ow dl s Z H (λt H1=>t=false/\ar H H1) I ⟨E,λH1 s1=>⟨rfl,s1⟩⟩) λt s1 ⟨H1,I1,e1,s1'⟩=>?_);subst e1;exact hb.td rfl b' hb' ow dl s1 Z H1 Q I1 ⟨E.same s1',λH2 s2=>q H2 (s1'.trans s2)⟩
theorem zh{r:D×Nat}{l:List Prop}(h:aB O e it sc U=.ok r l):lF e:=by
 cases e<;>first|(intro _ _;rfl)|cases h
theorem FX(I:Ih O n){i:Expr}(hs:sizeOf (Expr.Subscript a i pos)<n+1)(h:((aB O a false sc U).bnd λp=>(aB O i false sc U).bnd λq=>rE p q)=.ok r l)(hp:aH l)(G:aJ O X sc):gY X U (.Subscript a i pos) it r.1 r.2:=by
 obtain⟨p,l1,l2,h1,p1,h,p2⟩:=aS h hp;obtain⟨q,l3,l4,h2,p3,h,p4⟩:=aS h p2;exact bN (Nx ((I.e a (cY (by simp<;>omega) hs) h1 p1 G).ed rfl) ((I.e i (cY (by simp<;>omega) hs) h2 p3 G).ed rfl) (zh h2) h) (λ_=>rfl)
theorem Du(I:Ih O n)(hs:sizeOf (Expr.Subscript a (.Slice lo hi none p2) pos)<n+1)(h:aB O (.Subscript a (.Slice lo hi none p2) pos) it sc U=.ok r l)(hp:aH l)(G:aJ O X sc):gY X U (.Subscript a (.Slice lo hi none p2) pos) it r.1 r.2:=by
 obtain⟨p,l1,l2,h1,p1,h,q2⟩:=aS (show Rs.bnd _ _=_ from h) hp;obtain⟨q,l3,l4,h2,p3,h,p4⟩:=aS h q2;obtain⟨q',l5,l6,h3,p5,h,p6⟩:=aS h p4;exact bN (G.slf X U a lo hi p2 pos p.1 r.1 q q' p.2 r.2 l6 ((I.e a (cY (by simp<;>omega) hs) h1 p1 G).ed rfl) (I.o lo (cY (by simp<;>omega) hs) h2 p3 G) (I.o hi (cY (by simp<;>omega) hs) h3 p5 G) h p6) (λ_=>rfl)
theorem K6(I:Ih O n){i:Expr}(hs:sizeOf (Expr.Subscript a i pos)<n+1)(h:aB O (.Subscript a i pos) it sc U=.ok r l)(hp:aH l)(G:aJ O X sc):gY X U (.Subscript a i pos) it r.1 r.2:=by
 cases i with
 | Slice lo hi st p2 =>
  cases st with
  | none=>exact Du I hs h hp G
  | some e=>exact FX I hs h hp G
 | _=>exact FX I hs h hp G
theorem HL(I:Ih O n)(hs:sizeOf args<n)(hf:sc.names.lookup f=some .globalImplicit)(h0:((cB O args sc U).bnd λp=>lU O f it p.1 p.2)=.ok r l)(hp:aH l)(G:aJ O X sc):gY X U (.Call (.Name f p) args [] pos) it r.1 r.2:=by
 obtain⟨q,l1,l2,h1,p1,h,p2⟩:=aS h0 hp;clear h0;have ha:=I.es args hs h1 p1 G;obtain⟨hst,hlen⟩:=cU h1 p1;unfold lU at h;split at h
 ·rename_i F hF;obtain⟨d,l3,l4,h2,p3,h,p4⟩:=aS h p2;cases h;exact bN (JT G hF hf ha hst (λz=>by subst z;exact UA.mp hlen.symm) h2 p3) (λ_=>rfl)
 ·split at h
  ·rename_i B hB;split at hB
   ·rename_i hit;have hI:=G.itr f B hB;refine⟨λz=>(by rw[hit]at z;cases z),λz=>(by rw[hit]at z;cases z),λ_ tg l' hl ht=>?_⟩;exact hI.2 X U p pos args q.1 q.2 r.1 r.2 l' tg l2 G.calm (G.gl f hf) (G.bl f hI.1) ha hst hlen h p2 hl ht
   ·cases hB
  ·split at h
   ·rename_i B hB;have hb:=G.blt f B hB;cases args with
    | nil =>
     have e0:q.1=[]:=UA.mp hlen.symm;rw[e0,hb.2.2.2.1]at h;cases h
    | cons e es=>exact bN (NC G hb hf ha hst h p2) (λ_=>rfl)
   ·cases h
theorem Dw(I:Ih O n)(hs:sizeOf (Expr.Call (.Name f p) args [] pos)<n+1)(h:aB O (.Call (.Name f p) args [] pos) it sc U=.ok r l)(hp:aH l)(G:aJ O X sc):gY X U (.Call (.Name f p) args [] pos) it r.1 r.2:=by
 rw[lS]at h;split at h
 ·rename_i hf;exact HL I (cY (by simp<;>omega) hs) hf h hp G
 ·cases h
theorem Dx(I:Ih O n)(hs:sizeOf (Expr.Call (.Attribute a m ap) args [] pos)<n+1)(h:aB O (.Call (.Attribute a m ap) args [] pos) it sc U=.ok r l)(hp:aH l)(G:aJ O X sc):gY X U (.Call (.Attribute a m ap) args [] pos) it r.1 r.2:=by
 rw[pj]at h;split at h
 ·rename_i hln;obtain⟨p,l1,l2,h1,p1,h,p2⟩:=aS h hp;obtain⟨q,l3,l4,h2,p3,h,p4⟩:=aS h p2;obtain⟨hst,hlen⟩:=cU h2 p3;have hea:=(I.e a (cY (by simp<;>omega) hs) h1 p1 G).ed rfl;have hes:=I.es args (cY (by simp<;>omega) hs) h2 p3 G;obtain⟨x,kx⟩:=p;unfold zq at h;dsimp only at h hea;split at h
  ·rename_i n ns es;split at h
   ·rename_i hc;split at h
    ·rename_i F hF;obtain⟨d,l5,l6,h3,p5,h,p6⟩:=aS h p4;cases h;exact bN (JQ G hF hea hes hst hlen hc.1 hc.2.1 hc.2.2 hln h3 p5) (λ_=>rfl)
    ·cases h
   ·cases h
  ·split at h
   ·rename_i hb;split at h
    ·rename_i M hM;exact bN (G.mth m M hM X U a args ap pos x kx q.1 q.2 r.1 r.2 l4 G.calm G.room hea hes hst hlen hln hb h p4) (λ_=>rfl)
    ·cases h
   ·cases h
 ·cases h
theorem xV{q:List D×Nat}{m:List Prop}(hE:∀{U:ag} {p:D×Nat} {l:List Prop} {X:Cx},aB O elt false scope U=.ok p l->aH l->aJ O X scope->gY X U elt false p.1 p.2)
    (hB:∀{U:ag} {b:Bool} {l:List Prop} {X:Cx},fb O .And ifs scope U=.ok b l->aH l->aJ O X scope->fK X U .And ifs b) (hc:ni sc scope=true) (G:aJ O X sc)
    (h:kC (λd=>match dk scope tg d (flt scope U)with
            | none=>.st
            | some U'=>(fb O .And ifs scope U').bnd λb=>cond b ((aB O elt false scope U').bnd λr=>.ok (some r) []) (.ok none [])) ds=.ok q m) (hp:aH m) (hj:q.2<=1) :
    ∃f:D->Option D,q.1=ds.filterMap f/\∀cl C s H fp,∀d∈ds,kE (jp X scope cl C (scope.names.map (·.1)) s H fp) (flt scope U) tg ifs elt q.2 d (f d):=by
  generalize hst:(λd=>match dk scope tg d (flt scope U)with
            | none=>.st
            | some U'=>(fb O .And ifs scope U').bnd λb=>cond b ((aB O elt false scope U').bnd λr=>.ok (some r) []) (.ok none []):D->Rs (Option (D×Nat)))=step at h
  obtain⟨c1,c2,c3⟩:=wu h hp;refine⟨_,c2,λcl C s H fp d hd=>?_⟩;have G':=sg (cl:=cl) (C:=C) (s:=s) (H:=H) (fp:=fp) G hc;obtain⟨x,lx,hx,px⟩:=c1 d hd;have c3:=c3 hj d hd;have hs:=congrFun hst d;unfold uy;rw[hx];split at hs
  . rw[<- hs]at hx;cases hx
  . rename_i U' hb;have gd:=js G' hb;have ext:∀x y,flt scope U x=some y->U' x=some y:=λx y hxy=>tZ hb x y (iE hxy).2 hxy
    have hx0:=hx;rw[<- hs]at hx;obtain⟨b,l3,l4,h2,p3,hx,p4⟩:=aS hx px;have ts:=(hB h2 p3 G').ts rfl;cases b with
    | false =>
      cases hx;exact⟨U',false,gd,ext,ts,rfl⟩
    | true =>
      rw[cond_true]at hx;obtain⟨z,l5,l6,h3,p5,hx,p6⟩:=aS hx p4;cases hx;exact⟨U',true,gd,ext,ts,rfl,((hE h3 p5 G').ed rfl).up (c3 z lx hx0) hj⟩
theorem xX(I:Ih O n)(hs:sizeOf (Expr.ListComp elt [⟨tg,iter,ifs,0⟩] scope pos)<n+1)(h:aB O (.ListComp elt [⟨tg,iter,ifs,0⟩] scope pos) it sc U=.ok r l)(hp:aH l)(G:aJ O X sc) :
  ∃ds f k,(aK ds=true\/k<=1)/\r.2<=1/\ds.length<sizeLine/\ir X.env scope (scope.names.map (·.1))/\(∀x d o,flt scope U x=some (d,o)->x∈scope.names.map (·.1))/\IE X U tg iter ds k /\
   (∀cl C s H fp,∀d∈ds,kE (jp X scope cl C (scope.names.map (·.1)) s H fp) (flt scope U) tg ifs elt r.2 d (f d))/\(∀x,foldedSetIterable iter X.env x=pure x)/\r.1=.lst (ds.filterMap f):=by
 rw[yy]at h;split at h
 ·rename_i hc;obtain⟨p,l1,l2,h1,p1,h,p2⟩:=aS h hp;split at h
  ·rename_i ds hd;split at h
   ·rename_i ht;obtain⟨u0,l7,l8,h7,p7,h,p8⟩:=aS h p2;cases h7;have hl:=And.intro p7.1 p7.2.1;obtain⟨q,l3,l4,h2,p3,h,p4⟩:=aS h p8;split at h
    ·rename_i hj;cases h;obtain⟨f,e1,t⟩:=xV (λa b c=>I.e elt (by first|omega|(simp at *;omega)) a b c) (λa b c=>I.b .And ifs (by first|omega|(simp at *;omega)) a b c) hc G h2 p3 hj;refine⟨ds,f,p.2,hl.2,hj,Tu hl.1 i5,m9 G hc,λx d o hx=>jr (iE hx).2,(I.e iter (by first|omega|(simp at *;omega)) h1 p1 G).ie rfl tg ds hd ht,t,kA h1,by rw[e1]⟩
    ·cases h
   ·cases h
  ·cases h
 ·cases h
theorem yo{gens:List Comprehension}(h:aB O (.ListComp elt gens scope pos) it sc U=.ok r l):∃tg iter ifs,gens=[⟨tg,iter,ifs,0⟩]:=by
 match gens,h with
 | [⟨tg,iter,ifs,0⟩],h=>exact⟨_,_,_,rfl⟩
 | [],h=>cases h
 | ⟨_,_,_,.ofNat (n+1)⟩::r,h=>cases r<;>cases h
 | ⟨_,_,_,.negSucc n⟩::_,h=>cases h
 | ⟨_,_,_,0⟩::_::_,h=>cases h
theorem PX(I:Ih O n)(e:Expr)(hs:sizeOf e<n+1)(h:aB O e it sc U=.ok r l)(hp:aH l)(G:aJ O X sc):gY X U e it r.1 r.2:=by
 cases e with
 | Constant c k p =>
  replace h:(match GC c with|some d=>.ok (d,0) []|none=>.st:R1)=.ok r l:=h;split at h
  ·rename_i d hc;cases h;exact bN (wm hc) (λ_=>rfl)
  ·cases h
 | Name x p=>exact HK h G
 | BinOp a op b p=>exact K8 I hs h hp G
 | UnaryOp op a p=>exact Oq I hs h hp G
 | BoolOp op es p =>
  rw[yz]at h;split at h
  ·cases h
  ·rename_i hne;obtain⟨b,l1,l2,h1,p1,h,p2⟩:=aS h hp;cases h;have ne:es≠[]:=λz=>hne (by rw[z];rfl)
   have c:=I.b op es (cY (by simp<;>omega) hs) h1 p1 G;exact .of (c.ed ne p) λb' hb'=>by cases hb';exact λow=>(c.tw ne p ow).pt
 | Compare a ops bs p =>
  match ops,bs,hs,h with
  | [op],[b],hs,h=>exact K7 I hs h hp G
  | [],bs,_,h=>cases h
  | [op],[],_,h=>cases h
  | [op],_::_::_,_,h=>cases h
  | [op,op2],[b,c],hs,h=>exact Dv I hs h hp G
  | [_,_],[],_,h=>cases h
  | [_,_],[_],_,h=>cases h
  | [_,_],_::_::_::_,_,h=>cases h
  | _::_::_::_,bs,_,h=>cases h
 | IfExp c a b p=>exact Os I hs h hp G
 | Tuple es k p =>
  obtain⟨q,l1,l2,h1,p1,h,p2⟩:=aS (show Rs.bnd _ _=_ from h) hp;split at h
  ·rename_i hl;unfold mk at h;cases h;exact bN (wl (I.es es (cY (by simp<;>omega) hs) h1 p1 G) hl) (λ_=>rfl)
  ·cases h
 | List es p =>
  obtain⟨q,l1,l2,h1,p1,h,p2⟩:=aS (show Rs.bnd _ _=_ from h) hp;split at h
  ·rename_i hl;cases h;exact bN (yD (I.es es (cY (by simp<;>omega) hs) h1 p1 G) hl.2 hl.1) (λ_=>rfl)
  ·cases h
 | Attribute a f p =>
  cases a with
  | Name x pn =>
   obtain⟨q,l1,l2,h1,p1,h,p2⟩:=aS (show Rs.bnd _ _=_ from h) hp;have hea:=(I.e (.Name x pn) (cY (by simp<;>omega) hs) (it:=false) h1 p1 G).ed rfl;obtain⟨d,kd⟩:=q;unfold Nj at h;dsimp only at h hea;split at h
   ·rename_i n ns ds;split at h
    ·rename_i hf;split at h
     ·rename_i e hl;cases h;exact bN (Nz G hf hea rfl hl) (λ_=>rfl)
     ·cases h
    ·cases h
   ·split at h
    ·rename_i hf;subst hf;cases h;exact bN (JO hea rfl) (λ_=>rfl)
    ·cases h
   ·cases h
  | _=>cases h
 | Dict ks vs p =>
  match ks,vs,h with
  | [],[],h=>cases h
  | _::_,_,h=>cases h
  | [],_::_,h=>cases h
 | Subscript a i p=>exact K6 I hs h hp G
 | Call f args kws p =>
  cases f with
  | Name f fp =>
   cases kws with
   | nil=>exact Dw I hs h hp G
   | cons _ _=>cases h
  | Attribute a m ap =>
   cases kws with
   | nil=>exact Dx I hs h hp G
   | cons _ _=>cases h
  | _=>cases h
 | ListComp elt gens scope p =>
  obtain⟨tg,iter,ifs,rfl⟩:=yo h;obtain⟨ds,f,k,a1,a2,a3,a4,a5,a6,a7,a8,a9⟩:=xX I hs h hp G;rw[a9];exact bN (yE G.calm G.nd a1 a2 a3 a4 a5 a6 a7 a8) (λ_=>rfl)
 | _=>cases h
theorem Nq(I:Ih O n)(es:List Expr){r:List D×Nat}(hs:sizeOf es<n+1)(h:cB O es sc U=.ok r l)(hp:aH l)(G:aJ O X sc):AD X U es r.1 r.2:=by
 cases es with
 | nil=>cases h;exact ij
 | cons e es =>
  obtain⟨p,l1,l2,h1,p1,h,p2⟩:=aS (show Rs.bnd _ _=_ from h) hp;obtain⟨q,l3,l4,h2,p3,h,p4⟩:=aS h p2;cases h;exact dR ((I.e e (cY (by simp<;>omega) hs) h1 p1 G).ed rfl) (I.es es (cY (by simp<;>omega) hs) h2 p3 G) (ax (ic h1))
theorem EY{c:Bool}{r:Rs Bool}{l:List Prop}(h:Am b r=.ok c l)(hp:aH l):(b=true/\∃m,r=.ok c m/\aH m)\/(b=false/\c=false):=by
 unfold Am at h;split at h
 ·rename_i c' m;cases h;cases b with
  | true=>exact .inl ⟨rfl,m,rfl,qu hp rfl⟩
  | false=>exact .inr ⟨rfl,rfl⟩
 ·cases b with
  | true=>cases h
  | false=>cases h;exact .inr ⟨rfl,rfl⟩
theorem IM{c:Bool}{r:Rs Bool}{l:List Prop}(h:F6 b r=.ok c l)(hp:aH l):(b=false/\∃m,r=.ok c m/\aH m)\/(b=true/\c=true):=by
 unfold F6 at h;split at h
 ·rename_i c' m;cases h;cases b with
  | false=>exact .inl ⟨rfl,m,rfl,qu hp rfl⟩
  | true=>exact .inr ⟨rfl,rfl⟩
 ·cases b with
  | false=>cases h
  | true=>cases h;exact .inr ⟨rfl,rfl⟩
theorem Nt(I:Ih O n)(op:BoolOp)(es:List Expr)(hs:sizeOf es<n+1)(h:fb O op es sc U=.ok b l)(hp:aH l)(G:aJ O X sc):fK X U op es b:=by
 cases es with
 | nil =>
  cases op with
  | And=>cases h;exact⟨λz=>absurd rfl z,λz=>absurd rfl z,λ_=>AQ⟩
  | Or=>cases h;exact⟨λz=>absurd rfl z,λz=>absurd rfl z,λz=>(by cases z)⟩
 | cons e es =>
  cases op with
  | And =>
   obtain⟨p,l1,l2,h1,p1,h,p2⟩:=aS (show Rs.bnd _ _=_ from h) hp;obtain⟨b',hb,h⟩:=nW h;have c:=I.e e (cY (by simp<;>omega) hs) h1 p1 G;have ce:=c.ed rfl;rw[hb]at ce;have ct:=c.td rfl b' hb;rcases EY h p2 with⟨rfl,m,h,pm⟩|⟨rfl,rfl⟩
   ·cases es with
    | nil=>cases h;exact iS ce ct
    | cons e2 es=>exact xz ce ct (I.b .And (e2::es) (cY (by simp<;>omega) hs) h pm G)
   ·cases es with
    | nil=>exact iS ce ct
    | cons e2 es=>exact wD ce ct (λpos=>⟨_,vG⟩) (λpos=>⟨_,vD⟩)
  | Or =>
   obtain⟨p,l1,l2,h1,p1,h,p2⟩:=aS (show Rs.bnd _ _=_ from h) hp;obtain⟨b',hb,h⟩:=nW h;have c:=I.e e (cY (by simp<;>omega) hs) h1 p1 G;have ce:=c.ed rfl;rw[hb]at ce;have ct:=c.td rfl b' hb;rcases IM h p2 with⟨rfl,m,h,pm⟩|⟨rfl,rfl⟩
   ·cases es with
    | nil=>cases h;exact iS ce ct
    | cons e2 es=>exact Ag ce ct (I.b .Or (e2::es) (cY (by simp<;>omega) hs) h pm G)
   ·cases es with
    | nil=>exact iS ce ct
    | cons e2 es=>exact xy ce ct (λpos=>⟨_,vG⟩) (λpos=>⟨_,vD⟩)
theorem Nr(I:Ih O n)(e:Option Expr){o:Option Int}(hs:sizeOf e<n+1)(h:yx O e sc U=.ok o l)(hp:aH l)(G:aJ O X sc):OD X U e o:=by
 cases e with
 | none=>cases h;exact IT
 | some e =>
  obtain⟨p,l1,l2,h1,p1,h,p2⟩:=aS (show Rs.bnd _ _=_ from h) hp;have c:=(I.e e (cY (by simp<;>omega) hs) h1 p1 G).ed rfl;split at h
  ·rename_i i hi;cases h;rw[hi]at c;exact IS c
  ·cases h
end
theorem gz(O:Fx):∀n,Ih O n
 | 0=>⟨λ_ _ _ _ _ _ _ h=>absurd h (U0 _),λ_ _ _ _ _ _ h=>absurd h (U0 _),λ_ _ _ _ _ _ _ h=>absurd h (U0 _),λ_ _ _ _ _ _ h=>absurd h (U0 _)⟩
 | n+1=>⟨λe _ _ _ _ _ _ hs h hp G=>PX (gz O n) e hs h hp G,λe _ _ _ _ _ hs h hp G=>Nq (gz O n) e hs h hp G,λop e _ _ _ _ _ hs h hp G=>Nt (gz O n) op e hs h hp G,λe _ _ _ _ _ hs h hp G=>Nr (gz O n) e hs h hp G⟩
theorem Gy(e:Expr){p:D×Nat}{l:List Prop}(h:aB O e it sc U=.ok p l)(hp:aH l)(G:aJ O X sc):gY X U e it p.1 p.2:=(gz O _).e e (Tx _) h hp G
theorem lv(es:List Expr){p:List D×Nat}{l:List Prop}(h:cB O es sc U=.ok p l)(hp:aH l)(G:aJ O X sc):AD X U es p.1 p.2:=(gz O _).es es (Tx _) h hp G
structure aV(ow:Ow)(H:Hp)(ow':Ow)(H':Hp):Prop where
 keep:∀a o,H a=some o->(nm o\/ow a=none)->H' a=some o
 low:∀a o,H a=some o->ow a=none->ow' a=none
theorem aV.refl(ow:Ow)(H:Hp):aV ow H ow H:=⟨λ_ _ h _=>h,λ_ _ _ h=>h⟩
theorem aV.same(s:ar H H'):aV ow H ow H':=⟨λa o h _=>s a o h,λ_ _ _ h=>h⟩
theorem aV.trans{ow1 ow2:Ow}{H2:Hp}(a:aV ow H ow1 H1)(b:aV ow1 H1 ow2 H2):aV ow H ow2 H2 :=
 ⟨λx o h c=>b.keep x o (a.keep x o h c) (c.imp id λz=>a.low x o h z),λx o h z=>b.low x o (a.keep x o h (.inr z)) (a.low x o h z)⟩
def bP(H0:Hp)(ow:Ow)(H:Hp):Prop:=∀a o,H0 a=some o->H a=some o/\ow a=none
theorem bP.keep(b:bP H0 ow H)(k:aV ow H ow' H'):bP H0 ow' H':=λa o h=>let ⟨h1,h2⟩:=b a o h;⟨k.keep a o h1 (.inr h2),k.low a o h1 h2⟩
theorem bP.sm(b:bP H0 ow H):ar H0 H:=λa o h=>(b a o h).1
variable{X:Cx}
noncomputable def sK(X:Cx)(H0:Hp)(ow:Ow)(H:Hp)(fl:Fl)(D:kl):Prop :=
 match fl with
 | .nx U => ∀ow' Z' H',aD X ow' H' Z' U->Z'.length=X.N.length->aV ow H ow' H'->D.nx Z' H'
 | .bk U => ∀ow' Z' H',aD X ow' H' Z' U->Z'.length=X.N.length->aV ow H ow' H'->D.bk Z' H'
 | .ct U => ∀ow' Z' H',aD X ow' H' Z' U->Z'.length=X.N.length->aV ow H ow' H'->D.ct Z' H'
 | .rt d => ∀v H',ar H0 H'->ae X.K H' (λa b=>b=true/\H0 a=none) d v->D.rt v H'
theorem sK.keep{D:kl}(p:sK X H0 ow H fl D)(k:aV ow H ow' H'):sK X H0 ow' H' fl D:=by
 cases fl with
 | nx U=>exact λow2 σ2 H2 a b c=>p ow2 σ2 H2 a b (k.trans c)
 | bk U=>exact λow2 σ2 H2 a b c=>p ow2 σ2 H2 a b (k.trans c)
 | ct U=>exact λow2 σ2 H2 a b c=>p ow2 σ2 H2 a b (k.trans c)
 | rt d=>exact p
def FQ(X:Cx)(H0:Hp)(U:ag)(fl:Fl):TS:=λD Z H => ∃ow,aD X ow H Z U/\Z.length=X.N.length/\bP H0 ow H/\sK X H0 ow H fl D
def SD(X:Cx)(H0:Hp)(U:ag)(st:Stmt)(fl:Fl):Prop:=PS X st (FQ X H0 U fl)
def eU(X:Cx)(H0:Hp)(U:ag)(st:List Stmt)(fl:Fl):Prop:=fD X st (FQ X H0 U fl)
theorem HN:eU X H0 U [] (.nx U):=λdl s Z H D I ⟨ow,E,hl,B,q⟩=>rK dl s Z H D I (q ow Z H E hl (aV.refl _ _))
theorem d9{U1:ag}(h1:SD X H0 U st (.nx U1))(h2:eU X H0 U1 ss fl):eU X H0 U (st::ss) fl:=λdl s Z H D I ⟨ow,E,hl,B,q⟩ =>
 ef h1 h2 dl s Z H D I ⟨ow,E,hl,B,λow' Z' H' E' hl' k=>⟨ow',E',hl',B.keep k,q.keep k⟩⟩
theorem lJ(h1:SD X H0 U st fl)(hf:∀U',fl ≠ .nx U'):eU X H0 U (st::ss) fl:=λdl s Z H D I ⟨ow,E,hl,B,q⟩ =>
 ef h1 eZ dl s Z H D I ⟨ow,E,hl,B,by
  cases fl with
  | nx U'=>exact absurd rfl (hf U')
  | bk U'=>exact q
  | ct U'=>exact q
  | rt d=>exact q⟩
theorem Bj(h:ED X U e d k)(hk:k=0\/k=2):SD X H0 U (.Return (some e) pos) (.rt d):=λdl s Z H D I ⟨ow,E,hl,B,q⟩ =>
 mF (h ow) dl s Z H D I ⟨E,λv H1 s1 r1=>q v H1 (B.sm.trans s1) (r1.imp λa b p=>by
  rcases hk with rfl|rfl
  ·exact⟨p.1,B.sm.free p.2⟩
  ·refine⟨p.1,p.2.elim (λz=>?_) B.sm.free⟩;cases e0:H0 a with
   | none=>rfl
   | some o=>exact absurd (B a o e0).2 z)⟩
theorem Ib(h:ED X U e d k)(hc:∃f p args ks cp,e=.Call (.Name f p) args ks cp):SD X H0 U (.Expr e pos) (.nx U):=λdl s Z H D I ⟨ow,E,hl,B,q⟩=>by
 obtain⟨f,p,args,ks,cp,rfl⟩:=hc;exact ll (h ow) rfl dl s Z H D I ⟨E,λv H1 s1 r1=>q ow Z H1 (E.same s1) hl (aV.same s1)⟩
theorem HY:SD X H0 U (.Return none pos) (.rt .non):=λdl s Z H D I ⟨ow,E,hl,B,q⟩=>Iu dl s Z H D I (q .non H B.sm (by rw[ae]))
theorem HZ:SD X H0 U (.Pass pos) (.nx U):=λdl s Z H D I ⟨ow,E,hl,B,q⟩=>Iv dl s Z H D I (q ow Z H E hl (aV.refl _ _))
theorem DB:SD X H0 U (.Break pos) (.bk U):=λdl s Z H D I ⟨ow,E,hl,B,q⟩=>DJ dl s Z H D I (q ow Z H E hl (aV.refl _ _))
theorem Ic:SD X H0 U (.Continue pos) (.ct U):=λdl s Z H D I ⟨ow,E,hl,B,q⟩=>xp dl s Z H D I (q ow Z H E hl (aV.refl _ _))
theorem F0{a b:List Stmt}(hc:TD X U c t)(h:if t=true then eU X H0 U a fl else eU X H0 U b fl):SD X H0 U (.If c a b pos) fl:=by
 cases t with
 | true =>
  intro dl s Z H D I ⟨ow,E,hl,B,q⟩;exact qc (hc ow) h eZ dl s Z H D I ⟨E,λH1 s1=>by
   show if true=true then _ else _
   rw[if_pos rfl];exact⟨ow,E.same s1,hl,B.keep (aV.same s1),q.keep (aV.same s1)⟩⟩
 | false =>
  intro dl s Z H D I ⟨ow,E,hl,B,q⟩;exact qc (hc ow) eZ h dl s Z H D I ⟨E,λH1 s1=>by
   show if false=true then _ else _
   rw[if_neg Ta];exact⟨ow,E.same s1,hl,B.keep (aV.same s1),q.keep (aV.same s1)⟩⟩
theorem sj(hN:X.N.Nodup)(hl:Z.length=X.N.length)(E:aD X ow H Z U)(sm:ar H H1)(hi:X.N[i]?=some x)(hv:me X.env.scope x)(r:ae X.K H1 (Kp ow H 0) d v) :
  ∃ow',aD X ow' H1 (Z.set i (some v)) (bK U x (d,true))/\aV ow H ow' H1:=by
 classical
 let ow':Ow:=λa=>if H a=none/\∃o,H1 a=some o then some (some x)else ow a
 have o1:∀a o,H a=some o->ow' a=ow a:=λa o h=>if_neg (λz=>by rw[h]at z;cases z.1)
 have E1:aD X ow' H1 Z U:=⟨λy e o h=>by
  obtain⟨j,w,e1,e2,e3,e4⟩:=E.get y e o h;refine⟨j,w,e1,e2,e3,ae.same sm (e4.impH (λa ob ha p=>?_) λa p=>?_)⟩
  ·cases o with
   | true=>exact⟨p.1,(o1 a ob ha).trans p.2⟩
   | false=>exact λz=>(o1 a ob ha).trans (p z)
  ·cases o with
   | true=>cases p.1
   | false=>exact λz=>(by cases z),λa ha=>by
  by_cases hz:H a=none/\∃o,H1 a=some o
  ·exact hz.2
  ·have:ow' a=ow a:=if_neg hz;rw[this]at ha;exact(E.own.same sm) a ha⟩
 refine⟨ow',eQ hN hl E1 hi hv (r.impH (λa o ha p=>⟨rfl,if_pos ⟨p.2,o,ha⟩⟩) λa p=>(by cases p.1)),λa o h _=>sm a o h,λa o h z=>(o1 a o h).trans z⟩
theorem d8{t:Option Expr}(h:qp e=false):swapsWith e t n env=pure false:=by
 cases e<;>first|rfl|cases h
theorem mB{o:Bool}(G:aJ O X sc)(hx:dO sc x=true)(h:ED X U e d k)(ho:(k=0/\o=true)\/(k=1/\o=false))(hs:swapsWith e (some (.Name x p)) pos.line X.env=pure false) :
  SD X H0 U (.Assign [.Name x p] e pos) (.nx (bK U x (d,o))):=by
 obtain⟨g1,g2,g3,i,g4⟩:=fT G hx;intro dl s Z H D I ⟨ow,E,hl,B,q⟩;refine qb (i:=i) G.nd g4 g1 (h ow) hs g3 dl s Z H D I ⟨E,λv H1 s1 r1=>?_⟩;show D.nx (Z.set i (some v)) H1;rcases ho with⟨rfl,rfl⟩|⟨rfl,rfl⟩
 ·obtain⟨ow',E',k'⟩:=sj G.nd hl E s1 g4 g2 r1;exact q ow' _ H1 E' (by rw[TU];exact hl) k'
 ·exact q ow _ H1 (eQ G.nd hl (E.same s1) g4 g2 r1) (by rw[TU];exact hl) (aV.same s1)
theorem km:swapsWithSole [.Tuple es n p] e k env=pure false:=by
 cases e<;>rfl
theorem A4{i:Expr}:swapsWithSole [.Subscript a i p] e k env=pure false:=by
 cases e<;>rfl
def RF(K:W.Frag)(n:Nat)(t:re):TG:=λv Z H Q => ∃a xs,v=.ref a/\cF K H a xs/\xs.length=n/\t xs Z H Q
theorem LM{t:re}(hc:X.calm=true)(h:yP X es t)
  (hn:(assignEach es X.env).length=n) (hst:(assignEach es X.env).findIdx? (·.1)=none):PG X (.Tuple es k pos) (RF X.K n t):=by
 intro dl s Z H v u Q I r hw;obtain⟨a,xs,e1,hq,hl,hw⟩:=hw;subst e1;cases r;obtain⟨its,rv,pl,hz⟩:=I.list hq;have hsz:(assignEach es X.env).length=its.toArray.size:=by simp[hn,<- hl,rv.length]
 rw[assign_Tuple];refine SO (UG ?_);unfold unpack;rw[hst,hsz];refine SO (TB (W.kun_itemsOf (I.ok.hd hc) pl.isList λh' hx=>?_));have I1:aj X dl Z H { s with heap:=h' }:=I.kept (t':=s.toks) λb o e=>hx b o (Ts (S1 e)) e
 exact h dl _ Z H xs _ Q I1 (by simpa using rv) hw
theorem zc(o:fX ow H)(hf:aK ds=true\/k<=1)(r:ah X.K H1 (Kp ow H k) ds vs):ah X.K H1 (λa b=>b=true->ow a=none) ds vs:=by
 rcases hf with hf|hf
 ·exact r.flat _ hf
 ·exact r.imp λa b p hb=>by subst hb;exact fU o hf p
theorem rD(G:aJ O X sc)(ht:A5 sc es e=false):swappedStores [.Tuple es n p] e X.env=pure none:=by
 unfold A5 at ht;cases hte:ln e with
 | false=>cases e<;>first|rfl|cases hte
 | true =>
  rw[hte]at ht;have hc:wy sc es e=true:=by simpa using ht
  unfold wy at hc;split at hc
  ·rename_i x px y py a b m q;have k1:X.env.kindOf x=some .cell:=G.cc x (by simpa using hc);unfold swappedStores;dsimp only;split
   ·rfl
   ·split
    ·rfl
    ·rw[if_pos];rw[List.filterMap_cons_none (by simp[k1])];have:∀l:List Str,l.length<=1->(l.length != [Expr.Name x px,Expr.Name y py].length || l.eraseDups.length != l.length)=true:=λl hl=>by
      have:(l.length != [Expr.Name x px,Expr.Name y py].length)=true:=by simp;omega
      rw[this];rfl
     exact this _ (SZ (List.length_filterMap_le _ _) (SX _))
  ·cases hc
theorem Lp(G:aJ O X sc)(h:ED X U e d k)(hd:g8 d=some ds)(hf:aK ds=true\/k<=1)(hb:ba sc es ds U=some U')(ht:A5 sc es e=false) :
  SD X H0 U (.Assign [.Tuple es n p] e pos) (.nx U'):=by
 obtain⟨t,h1,h2,h3,h4⟩:=mH G hb;intro dl s Z H D I ⟨ow,E,hl,B,q⟩;have fin:∀H1 vs,ar H H1->ah X.K H1 (Kp ow H k) ds vs->t vs Z H1 D.nx:=λH1 vs s1 rl=>h4 ow vs Z H1 D.nx hl (E.same s1) (zc E.own hf rl) λZ' hl' E'=>q ow Z' H1 E' hl' (aV.same s1)
 rcases iB hd with rfl|rfl
 ·refine mG (h ow) (qd (n:=_) G.calm h1 h2 h3) km (rD G ht) rfl dl s Z H D I ⟨E,λv H1 s1 r1=>?_⟩;obtain⟨a,vs,rfl,hs,rl⟩:=jF r1;exact⟨a,vs,rfl,hs,rl.length.symm,fin H1 vs s1 rl⟩
 ·refine mG (h ow) (LM (n:=_) G.calm h1 h2 h3) km (rD G ht) rfl dl s Z H D I ⟨E,λv H1 s1 r1=>?_⟩;obtain⟨a,vs,rfl,hs,rl⟩:=iN r1;exact⟨a,vs,rfl,hs,rl.length.symm,fin H1 vs s1 rl⟩
theorem OI{P:bi}{a b:D}(h:ah K H P [a,b] vs):∃x y,vs=[x,y]/\ae K H P a x/\ae K H P b y:=by
 rw[ah]at h;obtain⟨x,r,rfl,h1,h⟩:=h;rw[ah]at h;obtain⟨y,r,rfl,h2,h⟩:=h;rw[ah]at h;subst h;exact⟨x,y,rfl,h1,h2⟩
theorem Ia{pt:Pos}{p:D×Nat}(G:aJ O X sc)(h:ED X U e p.1 p.2)(ho:DS sc es p=true)(ht:A5 sc es e=false) :
  SD X H0 U (.Assign [.Tuple es n pt] e pos) (.nx (LD es p U)):=by
 obtain⟨d,k⟩:=p;unfold DS at ho;split at ho
 ·rename_i x px y py d1 d2 e0 e1;have e0:d=_:=e0;have e1:k=_:=e1;subst e0 e1;simp only[Tj,U6,decide_eq_false_iff_not]at ho;obtain⟨⟨⟨⟨f1,_⟩,hxy⟩,hx⟩,hy⟩:=ho;obtain⟨g1,g2,g3,i,g4⟩:=fT G hx;obtain⟨j1,j2,j3,j,j4⟩:=fT G hy;have hij:i≠j:=λz=>by subst z;rw[g4]at j4;exact hxy (TN j4)
  intro dl s Z H D I ⟨ow,E,hl,B,q⟩;refine mG (h ow) (qd (n:=2) G.calm (jL (gR (i:=i) G.nd g4 g1 g3) (jL (gR (i:=j) G.nd j4 j1 j3) rN rfl) rfl) rfl rfl) km (rD G ht) rfl dl s Z H D I ⟨E,λv H1 s1 r1=>?_⟩;obtain⟨a,vs,rfl,hs,rl⟩:=jF r1;obtain⟨v1,v2,rfl,r2,r3⟩:=OI rl;refine⟨a,[v1,v2],rfl,hs,rfl,v1,[v2],rfl,v2,[],rfl,rfl,?_⟩;obtain⟨ow',E',k'⟩:=sj G.nd hl E s1 j4 j2 r3;have hl':(Z.set j (some v2)).length=X.N.length:=by rw[TU];exact hl
  have E2:=eQ (o:=false) G.nd hl' E' g4 g2 (r2.flat _ f1);rw[List.set_comm _ _ hij];exact q ow' _ H1 E2 (by rw[TU];exact hl') k'
 ·cases ho
theorem gy(I:aj X dl Z H s){a:Addr}{o:Obj}(h:X.K.lookup a=some o):H a=none:=(I.bs a o (I.ok.mod.kin a o h)).2
mutual
def D.lsz:D->Nat
 | .lst l=>1+kJ l
 | .tup l=>kJ l
 | _=>0
def kJ:List D->Nat
 | []=>0
 | d::l=>d.lsz+kJ l
end
theorem D3(I:aj X dl Z H s){P:bi}{a:Addr}(ha:H a=some (.lst vs))(h:ae X.K H P d (.ref a)):∃l,d=.lst l:=by
 cases d with
 | lst l=>exact⟨l,rfl⟩
 | tup l =>
  rw[ae]at h;obtain⟨a',vs',e,hs,_⟩:=h;cases e;rcases hs with(q|⟨o,q⟩)|⟨o,its,n,q,_⟩
  ·rw[ha]at q;cases q
  ·rw[ha]at q;cases q
  ·rw[gy I q]at ha;cases ha
 | dct _ _=>rw[ae]at h;obtain⟨_,_,a',_,e,hl,_⟩:=h;cases e;rw[ha]at hl;cases hl
 | dcf _ _=>rw[ae]at h;obtain⟨_,a',_,_,e,hl,_⟩:=h;cases e;rw[ha]at hl;cases hl
 | dft _ _ _=>rw[ae]at h;obtain⟨_,a',_,_,e,hl,_⟩:=h;cases e;rw[ha]at hl;cases hl
 | sn m=>rw[ae]at h;obtain⟨a',S,e,hl⟩:=h;cases e;rw[ha]at hl;cases hl
 | obj n ns es=>rw[ae]at h;obtain⟨_,_,a',C,dx,vs',e,_,_,hl,_⟩:=h;cases e;rw[ha]at hl;cases hl
 | cls n=>rw[ae]at h;obtain⟨C,o',e,_,hl,_⟩:=h;cases e;rw[gy I hl]at ha;cases ha
 | xc n p =>
  rw[ae]at h;rcases h.at with⟨o',hl,_⟩|⟨C,od,hl⟩
  ·rw[gy I hl]at ha;cases ha
  ·rw[ha]at hl;cases hl
 | _=>rw[ae]at h;cases h
theorem Dg(I:aj X dl Z H s){P:bi}(hP:∀a b,P a b->b=true){a:Addr}(ha:bX X.K H a vs)(h:ae X.K H P d (.ref a)):∃l,d=.tup l/\ah X.K H P l vs:=by
 have no:∀o,H a=some o->(∀xs,o ≠ .tup xs)->(∀p q,o ≠ .frz p q)->False:=λo e h1 h2=>by
  rcases ha with(q|⟨o',q⟩)|⟨o',its,n,q,_⟩
  ·rw[e]at q;cases q;exact h1 _ rfl
  ·rw[e]at q;cases q;exact h2 _ _ rfl
  ·rw[gy I q]at e;cases e
 cases d with
 | lst l =>
  rw[ae]at h;obtain⟨a',vs',b,e,hl,p,_⟩:=h;cases e;cases hP _ _ p;exact(no _ hl (λ_ z=>nomatch z) λ_ _ z=>nomatch z).elim
 | tup l =>
  rw[ae]at h;obtain⟨a',vs',e,hs,rl⟩:=h;cases e;have:=I.tuple_inj ha hs;subst this;exact⟨l,rfl,rl⟩
 | dct _ _=>rw[ae]at h;obtain⟨_,_,a',_,e,hl,_⟩:=h;cases e;exact(no _ hl (λ_ z=>nomatch z) λ_ _ z=>nomatch z).elim
 | dft _ _ _ =>
  rw[ae]at h;obtain⟨_,a',o2,_,e,hl,_⟩:=h;cases e;rcases ha with(q|⟨o',q⟩)|⟨o',its,n,q,_⟩
  ·rw[q]at hl;cases hl
  ·rw[q]at hl;cases hl
  ·rw[gy I q]at hl;cases hl
 | dcf _ _ =>
  rw[ae]at h;obtain⟨_,a',o2,_,e,hl,_⟩:=h;cases e;rcases ha with(q|⟨o',q⟩)|⟨o',its,n,q,_⟩
  ·rw[q]at hl;cases hl
  ·rw[q]at hl;cases hl
  ·rw[gy I q]at hl;cases hl
 | sn m=>rw[ae]at h;obtain⟨a',S,e,hl⟩:=h;cases e;exact(no _ hl (λ_ z=>nomatch z) λ_ _ z=>nomatch z).elim
 | obj n ns es=>rw[ae]at h;obtain⟨_,_,a',C,dx,vs',e,_,_,hl,_⟩:=h;cases e;exact(no _ hl (λ_ z=>nomatch z) λ_ _ z=>nomatch z).elim
 | cls n =>
  rw[ae]at h;obtain⟨C,o',e,_,hl,ht,_⟩:=h;cases e;rcases ha with(q|⟨o,q⟩)|⟨o,its,n,q,hc,_⟩
  ·rw[gy I hl]at q;cases q
  ·rw[gy I hl]at q;cases q
  ·rw[hl]at q;cases q;rw[hc]at ht;injection ht with ht;exact absurd ht (by decide)
 | xc n p =>
  rw[ae]at h;rcases h.at with⟨o',hl,ht⟩|⟨C,od,hl⟩
  ·rcases ha with(q|⟨o,q⟩)|⟨o,its,n,q,hc,_⟩
   ·rw[gy I hl]at q;cases q
   ·rw[gy I hl]at q;cases q
   ·rw[hl]at q;cases q;rw[hc]at ht;injection ht with ht;exact absurd ht (by decide)
  ·exact(no _ hl (λ_ z=>nomatch z) λ_ _ z=>nomatch z).elim
 | _=>rw[ae]at h;cases h
mutual
theorem vy{dl:List (Addr×Obj)}{Z:L2.St}{H:Hp}{s:Shared}(I:aj X dl Z H s){P:bi}(hP:∀a b,P a b->b=true):∀(d d':D) (v:V),ae X.K H P d v->ae X.K H P d' v->d.lsz<=d'.lsz
 | .tup l,d',v,h,h'=>by
  rw[ae]at h;obtain⟨a,vs,rfl,hs,rl⟩:=h;obtain⟨l',rfl,rl'⟩:=Dg I hP hs h';rw[D.lsz,D.lsz];exact mD I hP l l' vs rl rl'
 | .lst l,d',v,h,h'=>by
  rw[ae]at h;obtain⟨a,vs,b,rfl,hs,p,rl⟩:=h;cases hP _ _ p;replace hs:H a=some (.lst vs):=hs;obtain⟨l',rfl⟩:=D3 I hs h';rw[ae]at h';obtain⟨a',vs',b,e,hl,p',rl'⟩:=h';cases e;cases hP _ _ p';replace hl:H a=some (.lst vs'):=hl;rw[hs]at hl;cases hl;rw[D.lsz,D.lsz];exact Nat.add_le_add_left (mD I hP l l' vs rl rl') 1
 | .non,_,_,_,_=>Tc _
 | .bl _,_,_,_,_=>Tc _
 | .int _,_,_,_,_=>Tc _
 | .str _,_,_,_,_=>Tc _
 | .dct _ _,_,_,_,_=>Tc _
 | .typ _,_,_,_,_=>Tc _
 | .dcf _ _,_,_,_,_=>Tc _
 | .dft _ _ _,_,_,_,_=>Tc _
 | .sn _,_,_,_,_=>Tc _
 | .obj _ _ _,_,_,_,_=>Tc _
 | .cls _,_,_,_,_=>Tc _
 | .xc _ _,_,_,_,_=>Tc _
theorem mD{dl:List (Addr×Obj)}{Z:L2.St}{H:Hp}{s:Shared}(I:aj X dl Z H s){P:bi}(hP:∀a b,P a b->b=true):∀(l l':List D) (vs:List V),ah X.K H P l vs->ah X.K H P l' vs->kJ l<=kJ l'
 | [],l',vs,h,h'=>Tc _
 | d::l,l',vs,h,h'=>by
  rw[ah]at h;obtain⟨v,r,rfl,h1,h2⟩:=h;cases l' with
  | nil=>rw[ah]at h';cases h'
  | cons d' l' =>
   rw[ah]at h';obtain⟨v',r',e,h1',h2'⟩:=h';cases e;rw[kJ,kJ];exact Uz (vy I hP d d' v h1 h1') (mD I hP l l' r h2 h2')
end
mutual
theorem Lz{dl:List (Addr×Obj)}{Z:L2.St}{H:Hp}{s:Shared}(I:aj X dl Z H s){P:bi}(hP:∀a b,P a b->b=true){A:Addr}{l:List D}(hA:ae X.K H P (.lst l) (.ref A)):∀(d:D) (v:V),d.lsz<(D.lst l).lsz->ae X.K H P d v->ae X.K H (λa b=>P a b/\a≠A) d v
 | .tup m,v,hs,h=>by
  rw[ae]at h⊢;obtain⟨a,vs,e,h1,h2⟩:=h;exact⟨a,vs,e,h1,nJ I hP hA m vs (by rw[D.lsz]at hs;exact hs) h2⟩
 | .lst m,v,hs,h=>by
  have h0:=h;rw[ae]at h⊢;obtain⟨a,vs,b,e,h1,p,h2⟩:=h;refine⟨a,vs,b,e,h1,⟨p,λz=>?_⟩,nJ I hP hA m vs (by rw[D.lsz]at hs;omega) h2⟩;subst e z;have:=vy I hP _ _ _ hA h0;exact absurd (S4 hs this) (TH _)
 | .non,v,_,h=>by rw[ae]at h⊢;exact h
 | .bl _,v,_,h=>by rw[ae]at h⊢;exact h
 | .int _,v,_,h=>by rw[ae]at h⊢;exact h
 | .str _,v,_,h=>by rw[ae]at h⊢;exact h
 | .dct ks es,v,_,h=>by
  rw[ae]at h⊢;obtain⟨f,e0,a,vs,e,h1,p,r⟩:=h;refine⟨f,e0,a,vs,e,h1,⟨p,λz=>?_⟩,r.flat _ f⟩;subst z;rw[ae]at hA;obtain⟨a2,vs2,b,e2,hl,p2,_⟩:=hA;cases e2;cases hP _ _ p2;replace hl:H a=some (.lst vs2):=hl;rw[h1]at hl;cases hl
 | .typ _,v,_,h=>by rw[ae]at h⊢;exact h
 | .dcf _ _,v,_,h=>by rw[ae]at h⊢;exact h
 | .dft _ _ _,v,_,h=>by rw[ae]at h⊢;exact h
 | .sn _,v,_,h=>by rw[ae]at h⊢;exact h
 | .obj n ns es,v,_,h=>h.flat _ rfl
 | .cls n,v,_,h=>h.flat _ rfl
 | .xc n p,v,_,h=>h.flat _ rfl
theorem nJ{dl:List (Addr×Obj)}{Z:L2.St}{H:Hp}{s:Shared}(I:aj X dl Z H s){P:bi}(hP:∀a b,P a b->b=true){A:Addr}{l:List D}(hA:ae X.K H P (.lst l) (.ref A)):∀(m:List D) (vs:List V),kJ m<(D.lst l).lsz->ah X.K H P m vs->ah X.K H (λa b=>P a b/\a≠A) m vs
 | [],vs,_,h=>by rw[ah]at h⊢;exact h
 | d::m,vs,hs,h=>by
  rw[ah]at h⊢;obtain⟨v,r,e,h1,h2⟩:=h;exact⟨v,r,e,Lz I hP hA d v (by rw[kJ]at hs;omega) h1,nJ I hP hA m r (by rw[kJ]at hs;omega) h2⟩
end
theorem LZ(I:aj X dl Z H s)(E:aD X ow H Z U)(h:U x=some (.lst l,true)):∃(i:Nat) (a:Addr) (vs:List V),X.N[i]?=some x/\me X.env.scope x/\Z[i]?=some (some (.ref a))/\H a=some (.lst vs)/\ow a=some (some x)/\ah X.K H (λb c=>o8 ow x true b c/\b≠a) l vs:=by
 obtain⟨i,v,e1,e2,e3,e4⟩:=E.get x _ _ h;have e5:=e4;rw[ae]at e4;obtain⟨a,vs,b,rfl,hl,hp,rl⟩:=e4;cases hp.1;exact⟨i,a,vs,e1,e2,e3,hl,hp.2,nJ I (λ_ _ p=>p.1) e5 l vs (by rw[D.lsz];omega) rl⟩
theorem JI{a:Addr}{vs':List V}(E:aD X ow H Z U)(sm:ar H H1)(hi:X.N[i]?=some x)(hs:Z[i]?=some (some (.ref a)))
  (hv:me X.env.scope x) (h0:H a=some (.lst vs)) (ho:ow a=some (some x)) (r:ah X.K H1 (λb c=>(o8 ow x true b c/\b≠a)\/Kp ow H 0 b c) l' vs') :
  ∃ow',aD X ow' (aA H1 a (.lst vs')) Z (bK U x (.lst l',true))/\aV ow H ow' (aA H1 a (.lst vs')):=by
 classical
 let ow':Ow:=λa=>if H a=none/\∃o,H1 a=some o then some (some x)else ow a
 have o1:∀a o,H a=some o->ow' a=ow a:=λa o h=>if_neg (λz=>by rw[h]at z;cases z.1)
 have ha:H1 a=some (.lst vs):=sm _ _ h0;have ho':ow' a=some (some x):=(o1 a _ h0).trans ho;have E1:aD X ow' H1 Z U:=⟨λy e o h=>by
  obtain⟨j,w,e1,e2,e3,e4⟩:=E.get y e o h;refine⟨j,w,e1,e2,e3,ae.same sm (e4.impH (λa ob ha p=>?_) λa p=>?_)⟩
  ·cases o with
   | true=>exact⟨p.1,(o1 a ob ha).trans p.2⟩
   | false=>exact λz=>(o1 a ob ha).trans (p z)
  ·cases o with
   | true=>cases p.1
   | false=>exact λz=>(by cases z),λa ha=>by
  by_cases hz:H a=none/\∃o,H1 a=some o
  ·exact hz.2
  ·have:ow' a=ow a:=if_neg hz;rw[this]at ha;exact(E.own.same sm) a ha⟩
 have st:∀{P:bi},(P a true->False)->fh P P H1 (aA H1 a (.lst vs')):=λ{P} h=>⟨λb o hb hn=>by rw[aq (λz=>by subst z;rw[ha]at hb;cases hb;exact hn)];exact hb,λb ws hb p=>by rw[aq (λz=>by subst z;exact h p)];exact hb,λ_ _ _ p=>p,λ_ p=>p⟩
 have r1:ah X.K H1 (λb c=>o8 ow' x true b c/\b≠a) l' vs':=r.impH (λb o hb p=>by
  rcases p with⟨p,hne⟩|p
  ·refine⟨⟨rfl,?_⟩,hne⟩;by_cases hz:H b=none/\∃o,H1 b=some o
   ·exact if_pos hz
   ·exact(if_neg hz).trans p.2
  ·exact⟨⟨rfl,if_pos ⟨p.2,o,hb⟩⟩,λz=>by subst z;rw[p.2]at h0;cases h0⟩) λb p=>by
  rcases p with⟨p,_⟩|p
  ·cases p.1
  ·cases p.1
 have r':ah X.K (aA H1 a (.lst vs')) (o8 ow' x true) l' vs':=(r1.mono (st λz=>z.2 rfl)).imp λ_ _ p=>p.1
 refine⟨ow',⟨λy e o h=>?_,λb hb=>?_⟩,λb o h c=>?_,λb o h z=>(o1 b o h).trans z⟩
 ·rw[iQ]at h;by_cases hy:y=x
  ·subst hy;rw[if_pos rfl]at h;cases h;exact⟨i,.ref a,hi,hv,hs,by rw[ae];exact⟨a,vs',true,rfl,aw,⟨rfl,ho'⟩,r'⟩⟩
  ·rw[if_neg hy]at h;obtain⟨j,w,e1,e2,e3,e4⟩:=E1.get y e o h;refine⟨j,w,e1,e2,e3,e4.mono (st λp=>?_)⟩;cases o with
   | true=>have:=p.2;rw[ho']at this;cases this;exact hy rfl
   | false=>have:=p rfl;rw[ho']at this;cases this
 ·by_cases hz:b=a
  ·subst hz;exact⟨_,aw⟩
  ·rw[aq hz];exact E1.own b hb
 ·rw[aq (λz=>by
   subst z;rw[h0]at h;cases h;rcases c with c|c
   ·exact c
   ·rw[ho]at c;cases c)]
  exact sm b o h
theorem lN{env:Env}{pos:Pos}:∀{es:List Expr},(∀e∈es,∀x p,e ≠ .Starred x p)->(backTo pos (starEach es env)).all (λx => !x.1)=true
 | [],_=>rfl
 | e::es,h=>by
  have ih:=lN (env:=env) (es:=es) (pos:=pos) λx hx=>h x (SR _ hx)
  have he:=h e SV;cases e<;>first|exact absurd rfl (he _ _)|exact ih
theorem Lq{M:List D->List D->Nat->Rs (List D)}{p1 p4:Pos}(hcalm:X.calm=true)(hM:n6 m M)(hx:U x=some (.lst l,true))(h:AD X U args ds k)(hst:∀e∈args,∀y p,e ≠ .Starred y p)(hlen:args.length=ds.length)
  (hn:l9 x=true) (hln:(ap.endLine==cp.line)=true) (hm:M l ds k=.ok l' o) (hp:aH o):SD X H0 U (.Expr (.Call (.Attribute (.Name x p1) m ap) args [] cp) p4) (.nx (bK U x (.lst l',true))):=by
 obtain⟨id,r,sl,ty,mt,hr⟩:=hM X hcalm;intro dl s Z H D I ⟨ow,E,hl,B,q⟩;obtain⟨i,a,vs,g1,g2,g3,g4,g5,g6⟩:=LZ I E hx;have pn:PE X (.Name x p1) (vb i):=mI g1 g2 (hV hn).1 (hV hn).2;have fin:∀(H1:Hp) (ws:List V),ar H H1->ah X.K H1 (Kp ow H k) ds ws->r (.ref a) ws H1 λ_ H2=>D.nx Z H2:=λH1 ws s1 r1 =>
  (hr ow H H1 l ds l' k o a vs ws hm hp).2 (λb c=>(o8 ow x true b c/\b≠a)\/Kp ow H 0 b c) _ (λ_ _ p=>.inr p) E.own s1 (s1 _ _ g4) ((g6.same s1).imp λ_ _ p=>.inl p) r1 λvs' _ rv=>by
   obtain⟨ow',E',k'⟩:=JI E s1 g1 g3 g2 g4 g5 rv;exact q ow' Z _ E' hl k'
 have few:ds.length<29:=(hr ow H H l ds l' k o a vs vs hm hp).1;cases args with
 | nil =>
  have e0:ds=[]:=UA.mp hlen.symm;refine ll (LY PySem.F.plainAttrs_list sl ty mt pn rfl hln) rfl dl s Z H D I ⟨_,g3,.inl ⟨rfl,_,cF.of g4⟩,?_⟩;exact fin H [] (ar.refl _) (by rw[e0];exact ah.nil)
 | cons e es =>
  have hfew:((backTo cp (starEach (e::es) X.env)).all (λx => !x.1)&&(backToKw cp (keywordEach [] X.env)).all (λx=>x.1.isSome)&&decide ((e::es).length+([]:List Keyword).length+(if ([]:List Keyword).isEmpty then 0 else 1)<30))=true:=by
   rw[lN hst,hlen];have:decide (ds.length+0+0<30)=true:=by simp;omega
   exact this
  refine ll (kq PySem.F.plainAttrs_list sl ty mt pn (h ow) rfl hfew hln (ax (hst e SV)) (bE λx hx=>hst x (SR _ hx))) rfl dl s Z H D I ⟨_,g3,.inl ⟨rfl,_,cF.of g4⟩,E,λws H1 s1 r1=>?_⟩;exact fin H1 ws s1 r1
def OK:wO:=λo i v H Q => ∃p kvs k,o=.ref p/\i=kV k/\H p=some (.dK kvs)/\kvs.length<sizeLine/\Q (aA H p (.dK (hJ kvs k v)))
theorem Dz:Fj X OK:=by
 intro dl s Z H o i v ov iv u Q I ro ri rv h;obtain⟨p,kvs,k,rfl,rfl,hp,hz,q⟩:=h;cases ro;obtain⟨z,hd,vs,rel,dd⟩:=(show bz X.prog X.w H s.heap p (.dK kvs)from I.hok p _ hp);have hz':vs.length<=sizeLine:=by rw[<- rel.length];exact z
 have hl:(hJ kvs k v).length<=sizeLine:=by have:=xu kvs k v;omega
 refine wpAny_setItem_pairs (hsz:=hz') (uA ri) dd λh' dd' hs=>?_
 have he:∃q,h'.get? p=some q:=let ⟨q,_,_,hq,_⟩:=dd';⟨q,hq⟩
 exact⟨_,I.write (x:=p) (e:=p) (by rw[hp];exact True.intro) (.inl rfl) (λb q hb z=>(hs.2 b hb).trans z) he (show bz X.prog X.w (aA H p (.dK (hJ kvs k v))) h' p (.dK (hJ kvs k v))from⟨hl,hd,_,rel.put k rv,dd'⟩),q⟩
theorem G6{k:av}(h:ks.length=vs.length):(dv ks k).zip (cQ ks vs k v)=hJ (ks.zip vs) k v:=by
 unfold dv cQ hJ;rw[xR h];cases aO ks k with
 | true =>
  rw[if_pos rfl];show ks.zip (List.zipWith _ ks vs)=_;induction ks generalizing vs with
  | nil=>rfl
  | cons j ks ih =>
   cases vs with
   | nil=>cases h
   | cons w vs =>
    show(j,if j=k then v else w)::ks.zip (List.zipWith _ ks vs)=(if j=k then(j,v)else(j,w))::(ks.zip vs).map _;rw[ih (by simpa using h)];split<;>rfl
 | false =>
  rw[if_neg Ta];show(ks++[k]).zip (vs++[v])=_;rw[List.zip_append h];rfl
theorem zy:n6 "append" rV:=λX hc=>⟨"list.append", _,PySem.F.slot_list_append,PySem.F.type_list_append,mM,λow H0 H l ds l' j o a vs ws h hp=>by
 unfold rV at h;split at h
 ·rename_i d;cases h;have c:=hp.1;refine⟨by simp,λP Q hP oi sm ha rl rd q=>?_⟩;obtain⟨w,rfl,rw'⟩:=rd.only;refine⟨a,vs,w,rfl,rfl,ha,?_,q _ _ (rl.append (ah.one ?_))⟩
  ·rw[<- rl.length];exact UN hp.2.1 i5
  ·rcases c with c|c
   ·exact rw'.flat _ c
   ·subst c;exact rw'.imp hP
 ·cases h⟩
theorem zw:n6 "extend" rT:=λX hc=>⟨"list.extend", _,PySem.F.slot_list_extend,PySem.F.type_list_extend,BH,λow H0 H l ds l' j o a vs ws h hp=>by
 unfold rT at h;split at h
 ·rename_i d;cases h;refine⟨by simp,λP Q hP oi sm ha rl rd q=>?_⟩;obtain⟨w,rfl,rw'⟩:=rd.only;rw[ae]at rw';obtain⟨b,zs,bb,rfl,hb,pb,rz⟩:=rw';have hbb:bb=true:=pb.1;subst hbb;refine⟨a,b,vs,zs,rfl,rfl,ha,hb,?_,q _ _ (rl.append (rz.imp hP))⟩;rw[<- rl.length,<- rz.length];exact SZ hp.1 (Ud i5)
 ·cases h⟩
variable{X:Cx}
theorem pp(x:Str)(E:aD X ow H Z U):∃ow',aD X ow' H Z (su x U)/\aV ow H ow' H:=by
 classical
 unfold su;let ow':Ow:=λa=>if ow a=some (some x)then none else ow a
 have o1:∀a,ow a=none->ow' a=none:=λa h=>by show(if _ then _ else _)=_;split;rfl;exact h
 refine⟨ow',⟨λy e o h=>?_,λa ha=>?_⟩,λa o h _=>h,λa o h z=>o1 a z⟩
 ·by_cases hy:y=x
  ·subst hy;simp only[Vl]at h;cases hd:U y with
   | none=>rw[hd]at h;cases h
   | some q =>
    obtain⟨d,o'⟩:=q;rw[hd]at h;cases h;obtain⟨j,w,e1,e2,e3,e4⟩:=E.get y _ _ hd;refine⟨j,w,e1,e2,e3,e4.imp λa b p z=>?_⟩;cases o' with
    | true=>exact if_pos p.2
    | false=>exact o1 a (p z)
  ·simp only[if_neg hy]at h;obtain⟨j,w,e1,e2,e3,e4⟩:=E.get y e o h;refine⟨j,w,e1,e2,e3,e4.imp λa b p=>?_⟩;cases o with
   | true=>exact⟨p.1,by show(if _ then _ else _)=_;rw[if_neg (λz=>by rw[p.2]at z;cases z;exact hy rfl)];exact p.2⟩
   | false=>exact λz=>o1 a (p z)
 ·refine E.own a λz=>ha (o1 a z)
theorem JZ(x:Str)(U:ag):mY x U=U\/mY x U=su x U:=by
 cases h:U x with
 | none=>exact .inl (funext λy=>by unfold mY;split;(rename_i e;subst e;rw[h];rfl);rfl)
 | some p =>
  cases hl:p.1.lless with
  | true=>exact .inl (funext λy=>by unfold mY;split;(rename_i e;subst e;rw[h];show some (p.1,p.2&&p.1.lless)=_;rw[hl,Bool.and_true]);rfl)
  | false=>exact .inr (funext λy=>by unfold mY su;split;(rename_i e;subst e;rw[h];show some (p.1,p.2&&p.1.lless)=_;rw[hl,Vz];rfl);rfl)
theorem lT:∀{es:List Expr} {ow:Ow} {H:Hp} {Z:L2.St} {U:ag},aD X ow H Z U->∃ow',aD X ow' H Z (pz es U)/\aV ow H ow' H
 | [],ow,H,Z,U,E=>⟨ow,E,aV.refl _ _⟩
 | e::es,ow,H,Z,U,E=>by
  have one:∀x,∃ow',aD X ow' H Z (pz es (mY x U))/\aV ow H ow' H:=λx=>by
   rcases JZ x U with h|h
   ·rw[h];exact lT E
   ·rw[h];obtain⟨ow1,E1,k1⟩:=pp x E;obtain⟨ow2,E2,k2⟩:=lT (es:=es) E1;exact⟨ow2,E2,k1.trans k2⟩
  unfold pz;split
  ·rename_i z;cases z
  ·rename_i z;cases z;exact one _
  ·rename_i z;cases z;exact one _
  ·rename_i z;cases z;exact lT E
theorem qC(E:aD X ow H Z U):∃ow',aD X ow' H Z (cR e U)/\aV ow H ow' H:=by
 unfold cR;split
 ·exact pp _ E
 ·exact pp _ E
 ·exact lT E
 ·exact⟨ow,E,aV.refl _ _⟩
def ac{α:Type}(r:Rs α)(a:α):Prop:=∃l,r=.ok a l/\aH l
theorem ci{r:Rs α}{f:α->Rs β}{b:β}(h:ac (r.bnd f) b):∃a,ac r a/\ac (f a) b:=by
 obtain⟨l,h,hp⟩:=h;obtain⟨a,l1,l2,h1,p1,h2,p2⟩:=aS h hp;exact⟨a,⟨l1,h1,p1⟩,l2,h2,p2⟩
theorem bo{a:α}(h:ac (.st) a):False:=by obtain⟨l,h,_⟩:=h;cases h
theorem aX{a b:α}{l:List Prop}(h:ac (.ok a l) b):a=b:=by obtain⟨m,h,_⟩:=h;cases h;rfl
theorem Lr{bind:D->ag->Option ag}{bodyF:ag->Rs Fl}(hp:PassesOwn (model X.prog X.w) X.A X.env X.xe)(hcalm:X.calm=true)
  (hi:IE X (cR iter U) tg iter ds k) (hk:k<=1) (hg:∀d U U',bind d U=some U'->GD X U tg d U') (hb:∀U fl,ac (bodyF U) fl->eU X H0 U body fl) (h:ac (eL bind bodyF ds (cR iter U)) fl)
  (hs:∀x,foldedSetIterable iter X.env x=pure x):SD X H0 U (.For tg iter body [] pos) fl:=by
 intro dl s Z H D0 I ⟨ow0,E0,hl,B0,q0⟩;obtain⟨ow,E,k0⟩:=qC (e:=iter) E0;have B:=B0.keep k0;have q:=q0.keep k0;have pb:fD X body (λD Z H => ∃U fl,ac (bodyF U) fl/\FQ X H0 U fl D Z H):=λdl s Z H D I ⟨U1,fl1,h1,h2⟩=>hb U1 fl1 h1 dl s Z H D I h2
 have pg:PG X tg (λv Z H Q => ∃g:TG,PG X tg g/\g v Z H Q):=λdl s Z H v u Q I r ⟨g,h1,h2⟩=>h1 dl s Z H v u Q I r h2
 refine vF hp hcalm (hi ow) pg pb hs dl s Z H D0 I ⟨E,λJ H1 s1 itd=>?_⟩;refine⟨λi m Z' H'=>m=ds.length-i/\i<=ds.length/\∃ow' U',aD X ow' H' Z' U'/\Z'.length=X.N.length/\bP H0 ow' H'/\aV ow H1 ow' H'/\ac (eL bind bodyF (ds.drop i) U') fl,
  ⟨ds.length,by simp,Tc _,ow,_,E.same s1,hl,B.keep (aV.same s1),aV.refl _ _,h⟩,?_⟩
 rintro i m Z' H' ⟨rfl,hile,ow',U',E',hl',B',k',hf⟩;have q':sK X H0 ow' H' fl D0:=q.keep ((aV.same s1).trans k');have st:fh (Kd ow H k H1) (Kd ow H k H1) H1 H':=⟨λa o ha hn=>k'.keep a o ha (.inl hn),λa vs ha p=>k'.keep a _ ha (.inr (fU E.own hk p.1)),λ_ _ _ p=>p,λ_ p=>p⟩;have it:=itd i H' st;by_cases hlt:i<ds.length
 ·obtain⟨go,yl⟩:=it.1 ds[i] (Tk hlt);have hdrop:ds.drop i=ds[i]::ds.drop (i+1):=List.drop_eq_getElem_cons hlt;rw[hdrop,eL]at hf;refine .inr ⟨go,λσ2 H2=>i+1<=ds.length/\∃ow2 U2,aD X ow2 H2 σ2 U2/\σ2.length=X.N.length/\bP H0 ow2 H2/\aV ow H1 ow2 H2/\ac (eL bind bodyF (ds.drop (i+1)) U2) fl,λσ2 H2 n=>⟨ds.length-(i+1),by omega,rfl,n.1,n.2⟩,λx H3 y3=>?_⟩;obtain⟨sm3,rx⟩:=yl x H3 y3;cases hbd:bind ds[i] U' with
  | none=>rw[hbd]at hf;exact(bo hf).elim
  | some U1 =>
   rw[hbd]at hf;dsimp only at hf;obtain⟨g,g1,g2⟩:=hg _ _ _ hbd;have rx':ae X.K H3 (λa b=>b=true->ow' a=none) ds[i] x:=rx.impH (λa o ha p _=>by
    obtain⟨o1,h1⟩:=p.2 rfl;exact k'.low a o1 h1 (fU E.own hk p.1)) λa _ z=>(by cases z)
   refine⟨g,g1,g2 ow' x Z' H3 _ hl' (E'.same sm3) rx' λσ2 hl2 E2=>?_⟩;have k3:aV ow' H' ow' H3:=aV.same sm3;obtain⟨f1,hbo,hf⟩:=ci hf;refine⟨U1,f1,hbo,ow',E2,hl2,B'.keep k3,?_⟩;cases f1 with
   | nx U2=>exact λow2 Z3 H4 a b c=>⟨hlt,ow2,U2,a,b,(B'.keep k3).keep c,k'.trans (k3.trans c),hf⟩
   | ct U2=>exact λow2 Z3 H4 a b c=>⟨hlt,ow2,U2,a,b,(B'.keep k3).keep c,k'.trans (k3.trans c),hf⟩
   | bk U2=>cases aX hf;exact λow2 Z3 H4 a b c=>q' ow2 Z3 H4 a b (k3.trans c)
   | rt d=>cases aX hf;exact q'
 ·have ei:i=ds.length:=by omega
  subst ei;rw[List.drop_length,eL]at hf;cases aX hf;exact .inl ⟨it.2 (SX _),q' ow' Z' H' E' hl' (aV.refl _ _)⟩
theorem bO{p:D×Nat}(h:ac (aB O e it sc U) p)(G:aJ O X sc):gY X U e it p.1 p.2:=let ⟨_,h,hp⟩:=h;Gy e h hp G
theorem B7(h:qp e=true):(∃a b c d,e=.ListComp a b c d)\/∀(O:Fx) (sc:Scope) (U:ag),aB O e false sc U=.st:=by
 cases e<;>first|exact .inl ⟨_,_,_,_,rfl⟩|exact .inr λ_ _ _=>rfl|cases h
theorem tx{r:D×Nat}{o:Bool}(G:aJ O X sc)(hx:dO sc x=true)(h:ac (aB O e false sc U) r)(ho:(r.2=0/\o=true)\/(r.2=1/\o=false)) :
  SD X H0 U (.Assign [.Name x p] e pos) (.nx (bK U x (r.1,o))):=by
 by_cases hc:qp e=true
 ·rcases B7 hc with⟨elt,gens,scope,q,rfl⟩|hno
  rotate_left
  ·rw[hno]at h;exact(bo h).elim
  ·clear hc;have hsw:∃b,swapsWith (.ListComp elt gens scope q) (some (.Name x p)) pos.line X.env=pure b:=⟨_,rfl⟩;obtain⟨b,hsw⟩:=hsw;cases b with
   | false=>exact mB G hx ((bO h G).ed rfl) ho hsw
   | true =>
    obtain⟨l,h,hp⟩:=h;obtain⟨tg,iter,ifs,rfl⟩:=yo h;obtain⟨ds,f,k1,a1,a2,a3,a4,a5,a6,a7,a8,a9⟩:=xX (gz O _) (Tx _) h hp G;obtain⟨g1,g2,g3,i,g4⟩:=fT G hx;rw[a9];intro dl s Z H D0 I ⟨ow,E,hl,B,q⟩;refine Iw (D0:=D0) (i:=i) G.calm G.nd a1 a2 a3 a4 a5 a6 a7 a8 I E hsw g4 g1 g3 λv H1 s1 r1=>?_
    rcases ho with⟨ho,rfl⟩|⟨ho,rfl⟩<;>rw[ho]at r1
    ·obtain⟨ow',E',k'⟩:=sj G.nd hl E s1 g4 g2 r1;exact q ow' _ H1 E' (by rw[TU];exact hl) k'
    ·exact q ow _ H1 (eQ G.nd hl (E.same s1) g4 g2 r1) (by rw[TU];exact hl) (aV.same s1)
 ·exact mB G hx ((bO h G).ed rfl) ho (d8 (by simpa using hc))
theorem DQ{f:List D->Rs Fl}(h:ac (DR U x f) fl):∃l,U x=some (.lst l,true)/\l9 x=true/\ac (f l) fl:=by
 unfold DR at h;split at h
 ·rename_i l e;split at h
  ·rename_i c;exact⟨l,e,c,h⟩
  ·exact(bo h).elim
 ·exact(bo h).elim
theorem dj{a b:α}{l:List Prop}(h:ac (.ok a l) b):a=b/\aH l:=by obtain⟨m,h,hp⟩:=h;cases h;exact⟨rfl,hp⟩
theorem NQ{tgs:List Expr}(h:ac (zP O tgs e sc U) fl)(G:aJ O X sc):SD X H0 U (.Assign tgs e pos) fl:=by
 unfold zP at h;split at h
 ·obtain⟨p,h1,h⟩:=ci h;unfold DG at h;split at h
  ·rename_i hx;split at h
   ·rename_i ho;cases aX h;exact tx G hx h1 (.inl ⟨ho,rfl⟩)
   ·rename_i ho;cases aX h;exact tx G hx h1 (.inr ⟨ho,rfl⟩)
   ·exact(bo h).elim
  ·exact(bo h).elim
 ·split at h
  ·exact(bo h).elim
  ·rename_i ht;have ht:=Bool.eq_false_iff.mpr ht;obtain⟨p,h1,h⟩:=ci h;split at h
   ·rename_i ho;cases aX h;exact Ia G ((bO h1 G).ed rfl) ho ht
   split at h
   ·rename_i ds hd;split at h
    ·rename_i hf;split at h
     ·rename_i U' hb;cases aX h;exact Lp G ((bO h1 G).ed rfl) hd hf hb ht
     ·exact(bo h).elim
    ·exact(bo h).elim
   ·exact(bo h).elim
 ·exact(bo h).elim
theorem Nn(h:ac (zO O e sc U) fl)(G:aJ O X sc):SD X H0 U (.Expr e pos) fl:=by
 unfold zO at h;split at h
 ·split at h
  ·rename_i hln;obtain⟨p,⟨lp,h1,hp1⟩,h⟩:=ci h;split at h
   ·rename_i M hM;obtain⟨l,a1,a3,h⟩:=DQ h;obtain⟨l',⟨o,h2,hp2⟩,h⟩:=ci h;cases aX h;obtain⟨n1,n2⟩:=cU h1 hp1;exact Lq G.calm (G.mtt _ M hM) a1 (lv _ h1 hp1 G) n1 n2 a3 hln h2 hp2
   ·exact(bo h).elim
  ·exact(bo h).elim
 ·obtain⟨p,h1,h⟩:=ci h;cases aX h;exact Ib ((bO h1 G).ed rfl) ⟨_,_,_,_,_,rfl⟩
 ·exact(bo h).elim
structure Is(O:Fx)(n:Nat):Prop where
 s:∀(st:Stmt) {sc:Scope} {U:ag} {fl:Fl} {X:Cx} {H0:Hp},sizeOf st<n->ac (jU O st sc U) fl->aJ O X sc->PassesOwn (model X.prog X.w) X.A X.env X.xe->SD X H0 U st fl
 ss:∀(st:List Stmt) {sc:Scope} {U:ag} {fl:Fl} {X:Cx} {H0:Hp},sizeOf st<n->ac (aL O st sc U) fl->aJ O X sc->PassesOwn (model X.prog X.w) X.A X.env X.xe->eU X H0 U st fl
theorem L8{p:D×Nat}{f:Bool->Rs α}{a:α}(h:ac (qY p f) a):∃b,p.1=.bl b/\ac (f b) a:=by
 obtain⟨l,h,hp⟩:=h;obtain⟨b,h1,h2⟩:=nW h;exact⟨b,h1,l,h2,hp⟩
theorem PV(I:Is O n)(st:Stmt)(hs:sizeOf st<n+1)(h:ac (jU O st sc U) fl)(G:aJ O X sc)(hp:PassesOwn (model X.prog X.w) X.A X.env X.xe):SD X H0 U st fl:=by
 cases st with
 | Return e p =>
  cases e with
  | none=>cases aX h;exact HY
  | some e =>
   obtain⟨p,h1,h⟩:=ci (show ac (Rs.bnd _ _) fl from h);unfold DD at h;split at h
   ·rename_i hk;cases aX h;exact Bj ((bO h1 G).ed rfl) hk
   ·exact(bo h).elim
 | Pass p=>cases aX h;exact HZ
 | Break p=>cases aX h;exact DB
 | Continue p=>cases aX h;exact Ic
 | Assign tgs e p=>exact NQ h G
 | AugAssign t op e p=>exact(bo h).elim
 | Expr e p=>exact Nn h G
 | If c a b p =>
  obtain⟨p,h1,h⟩:=ci (show ac (Rs.bnd _ _) fl from h);obtain⟨t,ht,h⟩:=L8 h;refine F0 ((bO h1 G).td rfl t ht) ?_;cases t with
  | true=>rw[if_pos rfl];exact I.ss _ (cY (by simp<;>omega) hs) h G hp
  | false=>rw[if_neg Ta];exact I.ss _ (cY (by simp<;>omega) hs) h G hp
 | For tg it body els p =>
  rw[yw]at h;split at h
  ·rename_i he;have he:=List.isEmpty_iff.mp he;subst he;obtain⟨p,h1,h⟩:=ci h;split at h
   ·rename_i ds hd;split at h
    ·rename_i hk;obtain⟨lq,h1',_⟩:=id h1;exact Lr hp G.calm ((bO h1 G).ie rfl _ ds hd hk.2) hk.1 (λd U U' hb=>js G hb) (λU1 f1 h2=>I.ss _ (cY (by simp<;>omega) hs) h2 G hp) h (kA h1')
    ·exact(bo h).elim
   ·exact(bo h).elim
  ·exact(bo h).elim
 | _=>exact(bo h).elim
theorem Nm(I:Is O n)(ss:List Stmt)(hs:sizeOf ss<n+1)(h:ac (aL O ss sc U) fl)(G:aJ O X sc)(hp:PassesOwn (model X.prog X.w) X.A X.env X.xe):eU X H0 U ss fl:=by
 cases ss with
 | nil=>cases aX h;exact HN
 | cons s ss =>
  obtain⟨f1,h1,h⟩:=ci (show ac (Rs.bnd _ _) fl from h);have c:=I.s s (H0:=H0) (cY (by simp<;>omega) hs) h1 G hp;cases f1 with
  | nx U'=>exact d9 c (I.ss ss (cY (by simp<;>omega) hs) h G hp)
  | bk U'=>cases aX h;exact lJ c (λ_ z=>(by cases z))
  | ct U'=>cases aX h;exact lJ c (λ_ z=>(by cases z))
  | rt d=>cases aX h;exact lJ c (λ_ z=>(by cases z))
theorem i6(O:Fx):∀n,Is O n
 | 0=>⟨λ_ _ _ _ _ _ h=>absurd h (U0 _),λ_ _ _ _ _ _ h=>absurd h (U0 _)⟩
 | n+1=>⟨λe _ _ _ _ _ hs h G hp=>PV (i6 O n) e hs h G hp,λe _ _ _ _ _ hs h G hp=>Nm (i6 O n) e hs h G hp⟩
theorem dH(ss:List Stmt)(h:ac (aL O ss sc U) fl)(G:aJ O X sc)(hp:PassesOwn (model X.prog X.w) X.A X.env X.xe):eU X H0 U ss fl:=(i6 O _).ss ss (Tx _) h G hp
def aE(sc:Scope):List Str:=(sc.names.filter λy=>y.2 == .local || y.2 == .cell).map (·.1)
noncomputable def cI(P:Program)(w:World)(K:W.Frag)(mg:Str->Option Value)(base:Heap)(k:Nat)(g:Str)(F:List D->Rs D):Prop :=
 ∃f fd ps,bj P w K mg base cE k f fd ps (jG K F)/\mg g=some (.ref f)/\W.keepIn K (.ref f)=true/\bu K fd ps []/\(g==("__debug__" : Str))=false
theorem cI.mono(h:cI P w K mg base j g F)(hjk:j<=k):cI P w K mg base k g F :=
 let ⟨f,fd,ps,h1,h2⟩:=h;⟨f,fd,ps,h1.mono hjk,h2⟩
noncomputable def SN(P:Program)(w:World)(K:W.Frag)(mg:Str->Option Value)(base:Heap)(k:Nat)(g:Str)(F:List D->Rs D):Prop :=
 ∃j C f fd ps,j+1<=k/\(∀ds r l,F ds=.ok r l->r.lless=true)/\Mk K C f/\bj P w K mg base cE j f fd ps (Qo K g F)/\mg g=some (.ref C)/\W.nsIn K mainGlobals g=some (some (.ref C))/\eY K C/\bu K fd ps []/\(g==("__debug__" : Str))=false
def QD(P:Program)(w:World)(K:W.Frag)(mg:Str->Option Value)(base:Heap)(k:Nat)(g:Str)(F:List D->Rs D):Prop:=cI P w K mg base k g F\/SN P w K mg base k g F
noncomputable def fP(P:Program)(w:World)(K:W.Frag)(mg:Str->Option Value)(base:Heap)(k:Nat)(n m:Str)(F:List D->Rs D):Prop :=
 ∃C f fd ps,W.nsIn K mainGlobals n=some (some (.ref C))/\eY K C/\iL K C m f/\bj P w K mg base cE k f fd ps (jG K F)/\bu K fd ps []
theorem fP.mono{n:Str}(h:fP P w K mg base j n m F)(hjk:j<=k):fP P w K mg base k n m F :=
 let ⟨C,f,fd,ps,h1,h2,h3,h4,h5⟩:=h;⟨C,f,fd,ps,h1,h2,h3,h4.mono hjk,h5⟩
theorem wG:∀{ps:List Str} {ds:List D} {x:Str} {d:D} {o:Bool},bB ps ds x=some (d,o)->o=false/\∃i:Nat,ps[i]?=some x/\ds[i]?=some d
 | [],ds,x,d,o,h=>by cases ds<;>cases h
 | p::ps,[],x,d,o,h=>by cases h
 | p::ps,y::ds,x,d,o,h=>by
  replace h:(if x=p then some (y,false)else bB ps ds x)=some (d,o):=h;by_cases e:x=p
  ·rw[if_pos e]at h;cases h;subst e;exact⟨rfl,0,rfl,rfl⟩
  ·rw[if_neg e]at h;obtain⟨h1,i,h2,h3⟩:=wG h;exact⟨h1,i+1,by simpa using h2,by simpa using h3⟩
structure kg(P:Program)(w:World)(K:W.Frag)(mg:Str->Option Value)(base:Heap)(k:Nat)(O:Fx):Prop where
 fn:∀g F,O.fn g=some F->QD P w K mg base k g F
 con:∀x d,O.con x=some d->∃v u,mg x=some u/\aW v u/\∀H P,ae K H P d v
 blt:∀f B,O.blt f=some B->dy f B
 itr:∀f B,O.itr f=some B->n9 f B
 mth:∀m M,O.mth m=some M->iV m M
 mtt:∀m M,O.mtt m=some M->n6 m M
 slf:rg O.slf
 fld:∀n f,O.fld n f=true->∀C,W.nsIn K mainGlobals n=some (some (.ref C))->dZ K C f
 omt:∀n m F,O.omt n m=some F->fP P w K mg base k n m F
 bl:∀n∈i9,mg n=none
def cT(O:Fx)(sc:Scope)(ps:List Str)(body:List Stmt)(F:List D->Rs D):Prop:=∀ds r,ac (F ds) r->ac (bQ O sc ps body ds) r
theorem cT.self:cT O sc ps body (bQ O sc ps body):=λ_ _ h=>h
theorem ge{f:Addr}{E:XK}
  (S:bG (aE (aa st)) ps (aa st)) (hΦ:kg P w K mg base k O) (hr:bJ k (A.deeper (envOfC qual (aa st) s.heap.objs.size f cdv))) :
  aJ O (fV cE P w K mg base (aE (aa st)) qual (aa st) f cdv A outer s H E).nox (aa st):=by
 have hun:=hr.un;refine⟨rfl,S.nd,λx hx=>hx,λx hx=>hx,λx hx=>hx,λx hx=>hx,λg' F' hg=>?_,hΦ.con,hΦ.blt,hΦ.itr,hΦ.mth,hΦ.mtt,hΦ.slf,hΦ.fld,λn m F hF=>?_,hΦ.bl,?_,λx hx=>?_,λx _=>rfl⟩
 ·rcases hΦ.fn g' F' hg with z|z
  ·obtain⟨f',fd',ps',a1,a2,a3,a4,a5⟩:=z;exact .inl ⟨k,f',fd',ps',a1,hr,a2,a3,a4,a5⟩
  ·obtain⟨j,C,f',fd',ps',a0,a1,a2,a3,a4⟩:=z;exact .inr ⟨j,C,f',fd',ps',a1,a2,a3,hr.mono a0,a4⟩
 ·obtain⟨C,f',fd',ps',a1,a2,a3,a4,a5⟩:=hΦ.omt n m F hF;exact⟨k,C,f',fd',ps',a1,a2,a3,a4,hr,a5⟩
 ·show(A.deeper _).units+70<cLine;omega
 ·show x∈aE (aa st);unfold aE;unfold dO at hx;rw[Vs]at hx;rcases hx with hx|hx
  ·have hx:(aa st).names.lookup x=some .local:=by simpa using hx
   exact T0.mpr ⟨(x,.local),UY.mpr ⟨S5 hx,by simp⟩,rfl⟩
  ·have hx:(aa st).names.lookup x=some .cell:=by simpa using hx
   exact T0.mpr ⟨(x,.cell),UY.mpr ⟨S5 hx,by simp⟩,rfl⟩
theorem ig{f:Addr}{E:XK}
  (S:bG (aE (aa st)) ps (aa st)) (h1:ah K H (λ_ _=>True) ds vs) (hl:ds.length=ps.length) :
  aD (fV cE P w K mg base (aE (aa st)) qual (aa st) f cdv A outer s H E).nox (λ_=>none) H (start (aE (aa st)) vs) (bB ps ds)/\(start (aE (aa st)) vs).length=(aE (aa st)).length:=by
 have hpl:ps.length<=(aE (aa st)).length:=by have:=Ue List.length S.pre;rw[Um]at this;omega
 have hvl:vs.length=ps.length:=by rw[<- h1.length];exact hl
 refine⟨⟨λx d o hx=>?_,λa ha=>absurd rfl ha⟩,by unfold L2.start;rw[S8,SY,List.length_replicate];omega⟩;obtain⟨rfl,i,i1,i2⟩:=wG hx;obtain⟨v,i3,i4⟩:=h1.get i2;have hi:i<ps.length:=(Tl.mp i1).1;refine⟨i,v,?_,?_,?_,i4.imp λa b _ _=>rfl⟩
 ·show(aE (aa st))[i]?=some x;rw[<- S.pre,List.getElem?_take_of_lt hi]at i1;exact i1
 ·rcases S.par x (Ux i1)with z|z
  ·exact .inl z
  ·exact .inr (.inl z)
 ·unfold L2.start;rw[List.getElem?_append_left (by rw[SY];omega),TQ,i3];rfl
theorem yr{f:Addr}(Fn:fY K g qual st f fd)
  (S:bG (aE (aa st)) ps (aa st)) (hΦ:kg P w K mg base k O)
  (hrun:cT O (aa st) ps (af st) F):bj P w K mg base cE (k+1) f fd ps (jG K F):=by
 refine Fn.ok S (λvs H Q E h=>?_) (λcdv A outer s H vs Q E hr h=>?_)
 ·obtain⟨ds,r,l,h1,h2,hp,_⟩:=h;have:=hrun ds r ⟨l,h2,hp⟩;unfold bQ at this;split at this
  ·rename_i hl;rw[<- h1.length];exact hl
  ·exact(bo this).elim
 ·obtain⟨ds,r,l,h1,h2,hp,q⟩:=h;have hr1:=hrun ds r ⟨l,h2,hp⟩;unfold bQ at hr1;split at hr1
  ·rename_i hl;have G:=ge (outer:=outer) (H:=H) (E:=E) S hΦ hr;obtain⟨E0,hsl⟩:=ig (P:=P) (w:=w) (mg:=mg) (base:=base) (qual:=qual) (f:=f) (cdv:=cdv) (A:=A) (outer:=outer) (s:=s) (E:=E) S h1 hl;have B0:bP H (λ_=>none) H:=λa o h=>⟨h,rfl⟩
   obtain⟨fl,hx,hr1⟩:=ci hr1;cases fl with
   | rt d =>
    cases aX hr1;exact⟨_,dH _ (H0:=H) hx G TV,λ_=>none,E0,hsl,B0,λv H' sm rp=>q v H' sm rp⟩
   | nx U' =>
    cases aX hr1;exact⟨_,dH _ (H0:=H) hx G TV,λ_=>none,E0,hsl,B0,λow' Z' H' _ _ kp=>q .non H' (λa o h=>kp.keep a o h (.inr rfl)) (by rw[ae])⟩
   | bk U'=>exact(bo hr1).elim
   | ct U'=>exact(bo hr1).elim
  ·exact(bo hr1).elim
def aM(s:Stmt)(j:Nat):Stmt:=(match s with | .ClassDef _ _ _ b _ _ _ _ _ _ _=>b|_=>[]).getD j (.Pass ⟨0,0,0,0⟩)
theorem Nh{f:Addr}(Fn:fY K g qual st f fd)
  (S:bG (aE (aa st)) ps (aa st)) (hm:mg g=some (.ref f)) (hb:bu K fd ps []) (hd:(g==("__debug__" : Str))=false)
  (hΦ:kg P w K mg base k O) (hrun:cT O (aa st) ps (af st) F):cI P w K mg base (k+1) g F :=
 ⟨f,fd,ps,yr Fn S hΦ hrun,hm,Fn.kp,hb,hd⟩
theorem am{Pr:α->Prop}{x:α}{l:List α}(h1:Pr x)(h2:∀y∈l,Pr y):∀y∈x::l,Pr y:=λy hy=>(SS.mp hy).elim (λe=>e ▸ h1) (h2 y)
theorem ai{Pr:α->Prop}:∀y∈([]:List α),Pr y:=λy hy=>by cases hy
theorem M3{a:Addr}{ns:List Int}(hO:At H)(hS:cF K H a (ns.map V.int))(h:ac (F [.lst (ns.map D.int)]) (.bl true)):jG K F [.ref a] H (λv _=>v=.bl true) λ_ _ _=>False:=by
 obtain⟨l,h,hp⟩:=h;refine⟨[.lst (ns.map D.int)],.bl true,l,ah.one ?_,h,hp,λv H' _ r=>by rw[ae]at r;exact r⟩;rw[ae];rcases hS with(hS|hS)|hS
 ·rcases hO a with z|⟨o,xs,z⟩
  ·rw[z]at hS;cases hS
  ·rw[z]at hS;cases hS
 ·exact⟨a,_,false,rfl,.inl hS,True.intro,ah.ofInts⟩
 ·exact⟨a,_,false,rfl,.inr hS,True.intro,ah.ofInts⟩
abbrev C5(P:Program)(w:World)(K:W.Frag)(mg:Str->Option Value)(base:Heap)(k:Nat):Str×(List D->Rs D)->Prop:=λp=>QD P w K mg base k p.1 p.2
abbrev eu(mg:Str->Option Value)(K:W.Frag):Str×D->Prop:=λp => ∃v u,mg p.1=some u/\aW v u/\∀H P,ae K H P p.2 v
abbrev gQ:Str×(List D->R1)->Prop:=λp=>dy p.1 p.2
abbrev sM:Str×(List D->Nat->R1)->Prop:=λp=>n9 p.1 p.2
abbrev kY:Str×(D->List D->R1)->Prop:=λp=>iV p.1 p.2
abbrev wT:Str×(List D->List D->Nat->Rs (List D))->Prop:=λp=>n6 p.1 p.2
theorem br{l:List (Str×(List D->Rs D))}{c:List (Str×D)}{b:List (Str×(List D->R1))}{i:List (Str×(List D->Nat->R1))}{m:List (Str×(D->List D->R1))}{t:List (Str×(List D->List D->Nat->Rs (List D)))}
  (hl:∀p∈l,C5 P w K mg base k p) (hc:∀p∈c,eu mg K p) (hb:∀p∈b,gQ p) (hi:∀p∈i,sM p) (hm:∀p∈m,kY p) (ht:∀p∈t,wT p) (hs:rg sf) (hn:∀n∈i9,mg n=none):kg P w K mg base k (Tb l c b i m t sf) :=
 ⟨λg F h=>hl (g,F) (S5 h),λx d h=>hc (x,d) (S5 h),λf B h=>hb (f,B) (S5 h),λf B h=>hi (f,B) (S5 h),λf B h=>hm (f,B) (S5 h),λf B h=>ht (f,B) (S5 h),hs,(λ_ _ h=>by cases h),(λ_ _ _ h=>by cases h),hn⟩
abbrev Fo(K:W.Frag):Str×List Str->Prop:=λp => ∀f∈p.2,∀C,W.nsIn K mainGlobals p.1=some (some (.ref C))->dZ K C f
noncomputable abbrev Au(P:Program)(w:World)(K:W.Frag)(mg:Str->Option Value)(base:Heap)(k:Nat):Str×List (Str×(List D->Rs D))->Prop:=λp => ∀q∈p.2,fP P w K mg base k p.1 q.1 q.2
theorem eJ{l:List (Str×(List D->Rs D))}{c:List (Str×D)}{b:List (Str×(List D->R1))}{i:List (Str×(List D->Nat->R1))}{m:List (Str×(D->List D->R1))}{t:List (Str×(List D->List D->Nat->Rs (List D)))}{fl:List (Str×List Str)}{om:List (Str×List (Str×(List D->Rs D)))}
  (hl:∀p∈l,C5 P w K mg base k p) (hc:∀p∈c,eu mg K p) (hb:∀p∈b,gQ p) (hi:∀p∈i,sM p) (hm:∀p∈m,kY p) (ht:∀p∈t,wT p) (hs:rg sf) (hfl:∀p∈fl,Fo K p) (hom:∀p∈om,Au P w K mg base k p) (hn:∀n∈i9,mg n=none):kg P w K mg base k (ue l c b i m t sf fl om) :=
 ⟨λg F h=>hl (g,F) (S5 h),λx d h=>hc (x,d) (S5 h),λf B h=>hb (f,B) (S5 h),λf B h=>hi (f,B) (S5 h),λf B h=>hm (f,B) (S5 h),λf B h=>ht (f,B) (S5 h),hs,
  (λn f h C hC=>by
   replace h:(match fl.lookup n with|some fs=>fs.contains f|none=>false)=true:=h;split at h
   ·rename_i fs e;exact hfl (n,fs) (S5 e) f (List.contains_iff_mem.mp h) C hC
   ·cases h),
  (λn x F h=>by
   replace h:(match om.lookup n with|some ms=>ms.lookup x|none=>none)=some F:=h;split at h
   ·rename_i ms e;exact hom (n,ms) (S5 e) (x,F) (S5 h)
   ·cases h),hn⟩
theorem o9{n:Str}{f:Addr}(Fn:fY K g qual st f fd)
  (S:bG (aE (aa st)) ps (aa st)) (hn:W.nsIn K mainGlobals n=some (some (.ref C))) (hc:eY K C) (hm:iL K C g f) (hb:bu K fd ps [])
  (hΦ:kg P w K mg base k O) (hrun:cT O (aa st) ps (af st) F):fP P w K mg base (k+1) n g F :=
 ⟨C,f,fd,ps,hn,hc,hm,yr Fn S hΦ hrun,hb⟩
theorem yI{y:Str}{t:Tok}(hm:mg x=some (.str y t)):eu mg K (x,.str y):=⟨.str y,.str y t,hm,⟨t,rfl⟩,λH P=>by rw[ae]⟩
theorem nU{y:Int}{t:Tok}(hm:mg x=some (.int y t)):eu mg K (x,.int y):=⟨.int y,.int y t,hm,⟨t,rfl⟩,λH P=>by rw[ae]⟩
theorem ck{r:Rs α}{a:α}{l:List Prop}(h:r=.ok a l)(hp:aH l):ac r a:=⟨l,h,hp⟩
theorem ac.eq{r:Rs α}{a b:α}(h:ac r a)(e:a=b):ac r b:=e ▸ h
theorem ac.bnd{r:Rs α}{f:α->Rs β}{a:α}{b:β}(h1:ac r a)(h2:ac (f a) b):ac (r.bnd f) b:=by
 obtain⟨l,rfl,p1⟩:=h1;obtain⟨m,h2,p2⟩:=h2;refine⟨l++m,?_,en.mpr ⟨p1,p2⟩⟩;show(match f a with | .st=>(.st:Rs β) | .ok b m=>Rs.ok b (l++m))=_;rw[h2]
section
variable{O:Fx}{sc:Scope}{U U':ag}{fl:Fl}{ss:List Stmt}
theorem bR(h:ac (aL O body sc (bB ps ds)) (.rt d))(hl:ds.length=ps.length:=by rfl):ac (bQ O sc ps body ds) d:=by
 unfold bQ;rw[if_pos hl];exact h.bnd ⟨[],rfl,True.intro⟩
theorem aY:ac (aL O [] sc U) (.nx U):=⟨[],rfl,True.intro⟩
theorem aU{s:Stmt}(h:ac (jU O s sc U) (.nx U'))(h2:ac (aL O ss sc U') fl):ac (aL O (s::ss) sc U) fl:=ac.bnd h h2
theorem pV{s:Stmt}(h:ac (jU O s sc U) fl)(hf:∀U,fl ≠ .nx U):ac (aL O (s::ss) sc U) fl:=ac.bnd h (by
 cases fl with
 | nx U=>exact absurd rfl (hf U)
 | rt d=>exact⟨[],rfl,True.intro⟩
 | bk U=>exact⟨[],rfl,True.intro⟩
 | ct U=>exact⟨[],rfl,True.intro⟩)
theorem bD{s:Stmt}(h:ac (jU O s sc U) (.rt d)):ac (aL O (s::ss) sc U) (.rt d):=pV h λ_ z=>by cases z
theorem mw{s:Stmt}(h:ac (aL O (s::ss) sc U) fl):(∃U',ac (jU O s sc U) (.nx U')/\ac (aL O ss sc U') fl)\/((∀U,fl ≠ .nx U)/\ac (jU O s sc U) fl):=by
 obtain⟨f,h1,h2⟩:=ci (show ac (Rs.bnd _ _) fl from h);cases f with
 | nx U'=>exact .inl ⟨U',h1,h2⟩
 | rt d=>cases aX h2;exact .inr ⟨λ_ z=>(by cases z),h1⟩
 | bk U=>cases aX h2;exact .inr ⟨λ_ z=>(by cases z),h1⟩
 | ct U=>cases aX h2;exact .inr ⟨λ_ z=>(by cases z),h1⟩
theorem CQ:∀{a:List Stmt} {U:ag},ac (aL O a sc U) (.nx U')->ac (aL O ss sc U') fl->ac (aL O (a++ss) sc U) fl
 | [],U,h,h2=>by cases aX h;exact h2
 | s::a,U,h,h2=>by
  rcases mw h with⟨U1,h3,h4⟩|⟨h3,_⟩
  ·exact aU h3 (CQ h4 h2)
  ·exact absurd rfl (h3 _)
theorem sB:∀{a:List Stmt} {U:ag},ac (aL O (a++ss) sc U) fl->(∃U',ac (aL O a sc U) (.nx U')/\ac (aL O ss sc U') fl)\/((∀U,fl ≠ .nx U)/\ac (aL O a sc U) fl)
 | [],U,h=>.inl ⟨U,aY,h⟩
 | s::a,U,h=>by
  rcases mw h with⟨U1,h3,h4⟩|⟨h3,h4⟩
  ·rcases sB h4 with⟨U2,h5,h6⟩|⟨h5,h6⟩
   ·exact .inl ⟨U2,aU h3 h5,h6⟩
   ·exact .inr ⟨h5,aU h3 h6⟩
  ·exact .inr ⟨h3,pV h4 h3⟩
theorem dS(n:Nat)(h:ac (aL O (ss.take n) sc U) (.nx U'))(h2:ac (aL O (ss.drop n) sc U') fl):ac (aL O ss sc U) fl:=by
 rw[<- List.take_append_drop n ss];exact CQ h h2
theorem y0{a b:List Stmt}(hc:ac (aB O c false sc U) (.bl t,k))(h1:t=true->ac (aL O (a++ss) sc U) fl)(h2:t=false->ac (aL O (b++ss) sc U) fl):ac (aL O (.If c a b p::ss) sc U) fl:=by
 have key:∀x,ac (cond t (aL O a sc U) (aL O b sc U)) x->ac (jU O (.If c a b p) sc U) x:=λx hx=>ac.bnd hc hx
 cases t with
 | true =>
  rcases sB (h1 rfl)with⟨U1,h3,h4⟩|⟨h3,h4⟩
  ·exact aU (key _ h3) h4
  ·exact pV (key _ h4) h3
 | false =>
  rcases sB (h2 rfl)with⟨U1,h3,h4⟩|⟨h3,h4⟩
  ·exact aU (key _ h3) h4
  ·exact pV (key _ h4) h3
theorem bZ{a b:List Stmt}(hc:ac (aB O c false sc U) (.bl t,k))(ht:t=true)(h1:ac (aL O (a++ss) sc U) fl):ac (aL O (.If c a b p::ss) sc U) fl:=y0 hc (λ_=>h1) λz=>by rw[ht]at z;cases z
theorem ay{a b:List Stmt}(hc:ac (aB O c false sc U) (.bl t,k))(ht:t=false)(h1:ac (aL O (b++ss) sc U) fl):ac (aL O (.If c a b p::ss) sc U) fl:=y0 hc (λz=>by rw[ht]at z;cases z) λ_=>h1
theorem ia{it:Expr}(hi:ac (aB O it true sc (cR it U)) (d,k))(hd:items d=some ds)(hk:k<=1)(ht:gI it tg=true)(h:ac (eL (dk sc tg) (aL O body sc) ds (cR it U)) fl):ac (jU O (.For tg it body [] p) sc U) fl:=by
 rw[yw,if_pos (show List.isEmpty ([]:List Stmt)=true from rfl)];refine hi.bnd ?_;dsimp only;rw[hd];dsimp only;rw[if_pos ⟨hk,ht⟩];exact h
theorem aF{v:D}(ha:ac (cB O args sc U) (ds,k))(hv:ac (F ds) v)(hF:O.fn f=some F:=by rfl)(hg:sc.names.lookup f=some .globalImplicit:=by rfl):ac (aB O (.Call (.Name f p) args [] q) it sc U) (v,0):=by
 rw[lS,if_pos hg];refine ha.bnd ?_;unfold lU;rw[hF];exact hv.bnd ⟨[],rfl,True.intro⟩
theorem eO{v:D×Nat}(ha:ac (cB O args sc U) (ds,k))(hv:ac (B ds) v)(hF:O.fn f=none:=by rfl)(hI:(if it=true then O.itr f else none)=none:=by rfl)(hB:O.blt f=some B:=by rfl)(hg:sc.names.lookup f=some .globalImplicit:=by rfl):ac (aB O (.Call (.Name f p) args [] q) it sc U) v:=by
 rw[lS,if_pos hg];refine ha.bnd ?_;unfold lU;rw[hF];dsimp only;rw[hI];dsimp only;rw[hB];exact hv
theorem aN:ac (cB O [] sc U) ([],0):=⟨[],rfl,True.intro⟩
theorem au(h:ac (aB O e false sc U) (d,k))(h2:ac (cB O es sc U) (ds,j)):ac (cB O (e::es) sc U) (d::ds,kj k j):=ac.bnd h (ac.bnd h2 ⟨[],rfl,True.intro⟩)
theorem JH{out:List D}(hi:ac (aB O iter true sc U) (d,k))(hd:items d=some ds)(hl:ds.length<=bx/\(aK ds=true\/k<=1))
    (h:ac (kC (λd=>match dk scope tg d (flt scope U)with
            | none=>.st
            | some U'=>(fb O .And ifs scope U').bnd λb=>cond b ((aB O elt false scope U').bnd λr=>.ok (some r) []) (.ok none [])) ds) (out,j)) (hj:j<=1) (hc:ni sc scope=true:=by rfl) (ht:gI iter tg=true:=by rfl):ac (aB O (.ListComp elt [⟨tg,iter,ifs,0⟩] scope p) it sc U) (.lst out,j):=by
  rw[yy,if_pos hc];refine hi.bnd ?_;dsimp only;rw[hd];dsimp only;rw[if_pos ht];refine ac.bnd (a:=()) ⟨_,rfl,hl.1,hl.2,True.intro⟩ ?_;refine h.bnd ?_;rw[if_pos hj];exact⟨[],rfl,True.intro⟩
theorem bS{i:Expr}{x:D}{j:Int}{k2:Nat}(ha:ac (aB O a false sc U) (x,k))(hi:ac (aB O i false sc U) (.int j,k2))(hx:g8 x=some l)(hd:L2.atI l j=some d):ac (aB O (.Subscript a i p) it sc U) (d,kn d k):=by
 have key:ac ((aB O a false sc U).bnd λp=>(aB O i false sc U).bnd λq=>rE p q) (d,kn d k):=by
  refine ha.bnd (hi.bnd ?_);rcases iB hx with rfl|rfl
  ·show ac (v0 (.tup l) j k) _;unfold v0;rw[hx];dsimp only;rw[hd];exact⟨[],rfl,True.intro⟩
  ·show ac (v0 (.lst l) j k) _;unfold v0;rw[hx];dsimp only;rw[hd];exact⟨[],rfl,True.intro⟩
 cases i with
 | Slice lo hi st p2=>exact(bo hi).elim
 | _=>exact key
theorem bq(h:ac (aB O e false sc U) (d,0))(hx:dO sc x=true:=by rfl):ac (jU O (.Assign [.Name x p] e q) sc U) (.nx (bK U x (d,true))):=by
 refine ac.bnd h ?_;unfold DG;rw[if_pos hx];exact⟨[],rfl,True.intro⟩
theorem bw(h:ac (aB O e false sc U) (d,k))(hk:k=0\/k=2:=by exact .inl rfl)(hn:Pc e=false:=by rfl):ac (jU O (.Return (some e) q) sc U) (.rt d):=by
 refine ac.bnd h ?_;unfold DD;rw[if_pos hk];exact⟨[],rfl,True.intro⟩
end
theorem yq{bind:D->ag->Option ag}{body:ag->Rs Fl}(aj:List D->ag->Prop)(R:D->Prop)(step:∀d l U,aj (d::l) U->∃U1,bind d U=some U1/\((∃U2,(ac (body U1) (.nx U2)\/ac (body U1) (.ct U2))/\aj l U2)\/∃r,ac (body U1) (.rt r)/\R r)):∀{ds:List D} {U:ag},aj ds U->(∃U',ac (eL bind body ds U) (.nx U')/\aj [] U')\/∃r,ac (eL bind body ds U) (.rt r)/\R r
 | [],U,h=>.inl ⟨U,⟨[],rfl,True.intro⟩,h⟩
 | d::l,U,h=>by
  obtain⟨U1,h1,h2⟩:=step d l U h;have key:eL bind body (d::l) U=(body U1).bnd (yb (eL bind body l)):=by
   show(match bind d U with|none=>(.st:Rs Fl)|some U1=>(body U1).bnd (yb (eL bind body l)))=_;rw[h1]
  rw[key];rcases h2 with⟨U2,h2,h3⟩|⟨r,h2,h3⟩
  ·have go:∀x,ac (eL bind body l U2) x->ac ((body U1).bnd (yb (eL bind body l))) x:=λx hx=>by
    rcases h2 with h2|h2
    ·exact h2.bnd hx
    ·exact h2.bnd hx
   rcases yq aj R step h3 with⟨U',h4,h5⟩|⟨r,h4,h5⟩
   ·exact .inl ⟨U',go _ h4,h5⟩
   ·exact .inr ⟨r,go _ h4,h5⟩
  ·exact .inr ⟨r,h2.bnd ⟨[],rfl,True.intro⟩,h3⟩
theorem na{α:Type}{step:D->Rs (Option (D×Nat))}{g:α->D}{f:α->D}:∀{l:List α},(∀x∈l,ac (step (g x)) (some (f x,0)))->ac (kC step (l.map g)) (l.map f,0)
 | [],_=>⟨[],rfl,True.intro⟩
 | x::l,h=>ac.bnd (h x SV) (ac.bnd (na λy hy=>h y (SR _ hy)) ⟨[],rfl,True.intro⟩)
theorem IV{a b:Int}(h:a.natAbs<18446744073709551616):cP a b:=.inl h
theorem IU{a b:Int}(h:b.natAbs<18446744073709551616):cP a b:=.inr (.inl h)
theorem cC{a b:Int}(h:a.natAbs<lB)(g:b.natAbs<lB):cP a b:=.inr (.inr (.inl ⟨h,g⟩))
theorem NO(h:n<2 ^ 64):n<lB:=S4 h (Nat.pow_le_pow_right (by decide) (by decide))
theorem JW{b:Int}(h0:b≠0)(h:b.natAbs<18446744073709551616):uE b:=⟨h0,NO h⟩
theorem Kq{ns:List Int}{i:Int}(h0:0<=i)(h1:i<ns.length):L2.atI (ns.map D.int) i=some (.int (ns.getD i.toNat 0)):=by
 obtain⟨j,rfl⟩:=Int.eq_ofNat_of_zero_le h0;have hj:j<ns.length:=by omega
 have:=eT (xs:=ns.map D.int) (j:=j) (v:=.int (ns.getD j 0)) (by simp[hj]);simpa using this
theorem E9:aH []:=True.intro
theorem An{l m:List Prop}(h:aH l)(g:aH m):aH (l++m):=en.mpr ⟨h,g⟩
theorem EZ{p:Prop}(h:p):aH [p]:=⟨h,True.intro⟩
theorem xA{p:Prop}{l:List Prop}(h:p)(g:aH l):aH (p::l):=⟨h,g⟩
theorem Ix{a b:Int}(h0:0<=b)(h1:b<=1000)(h2:a.natAbs<18446744073709551616):zg a b:=⟨h0,h1,h2⟩
variable{X:Cx}
theorem xY{O:Fx}{sc:Scope}{H0:Hp}{fl:Fl}{rest:List Stmt}(G:aJ O X sc)(hp:PassesOwn (model X.prog X.w) X.A X.env X.xe):∀{pre:List Stmt} {U U1:ag},ac (aL O pre sc U) (.nx U1)->eU X H0 U1 rest fl->eU X H0 U (pre++rest) fl
 | [],U,U1,h,k=>by cases aX h;exact k
 | st::ss,U,U1,h,k=>by
  obtain⟨f1,h1,h2⟩:=ci (show ac (Rs.bnd _ _) _ from h);cases f1 with
  | nx U'=>exact d9 ((i6 O _).s st (Tx _) h1 G hp) (xY G hp h2 k)
  | rt d=>cases aX h2
  | bk U'=>cases aX h2
  | ct U'=>cases aX h2
theorem qw{f:Addr}(h:bj P w K mg base cE k f fd ps (jG K F))(hm:mg g=some (.ref f))(hk:W.keepIn K (.ref f)=true)(hb:bu K fd ps [])(hd:(g==("__debug__" : Str))=false):cI P w K mg base k g F :=
 ⟨f,fd,ps,h,hm,hk,hb,hd⟩
variable{X:Cx}
theorem rM{O:Fx}{sc:Scope}{H0:Hp}{rest:List Stmt}{t:TS}(G:aJ O X sc)(hp:PassesOwn (model X.prog X.w) X.A X.env X.xe)(hr:fD X rest t):∀{pre:List Stmt} {U U1:ag},ac (aL O pre sc U) (.nx U1) ->
  fD X (pre++rest) (λD Z H => ∃ow,aD X ow H Z U/\Z.length=X.N.length/\bP H0 ow H/\∀ow' Z' H',aD X ow' H' Z' U1->Z'.length=X.N.length->bP H0 ow' H'->t D Z' H')
 | [],U,U1,h=>by
  cases aX h;exact λdl s Z H D I ⟨ow,E,hl,B,q⟩=>hr dl s Z H D I (q ow Z H E hl B)
 | st::ss,U,U1,h=>by
  obtain⟨f1,h1,h2⟩:=ci (show ac (Rs.bnd _ _) _ from h);cases f1 with
  | nx U' =>
   have sd:=(i6 O _).s st (H0:=H0) (Tx _) h1 G hp;have ih:=rM (H0:=H0) G hp hr h2;exact λdl s Z H D I ⟨ow,E,hl,B,q⟩=>ef sd ih dl s Z H D I ⟨ow,E,hl,B,λow' Z' H' E' hl' k=>⟨ow',E',hl',B.keep k,q⟩⟩
  | rt d=>cases aX h2
  | bk U'=>cases aX h2
  | ct U'=>cases aX h2
theorem wk(E:aD X ow H Z U):aD X (λ_=>none) H Z (qH U):=⟨λx d o h=>by
 unfold qH at h;cases e:U x with
 | none=>rw[e]at h;cases h
 | some p =>
  rw[e]at h;obtain⟨i,v,e1,e2,e3,e4⟩:=E.get x p.1 p.2 (by rw[e]);cases h;exact⟨i,v,e1,e2,e3,e4.imp λ_ _ _ _=>rfl⟩,λa ha=>absurd rfl ha⟩
def Sub(C U:ag):Prop:=∀x y,C x=some y->U x=some y
theorem gh{m:List Prop}(h:b=true->aH m):aH (gd b m):=by
 cases m with
 | nil=>exact True.intro
 | cons p l=>exact⟨h,True.intro⟩
theorem NS{c:Bool}{r:Rs Bool}(h:b=true->ac r c)(hf:b=false->c=false):ac (Am b r) c:=by
 cases b with
 | true =>
  obtain⟨m,rfl,hm⟩:=h rfl;exact⟨_,rfl,gh λ_=>hm⟩
 | false =>
  rw[hf rfl];cases r with
  | ok c' m=>exact⟨_,rfl,gh λz=>(by cases z)⟩
  | st=>exact⟨_,rfl,True.intro⟩
theorem OQ{c:Bool}{r:Rs Bool}(h:b=false->ac r c)(hf:b=true->c=true):ac (F6 b r) c:=by
 cases b with
 | false =>
  obtain⟨m,rfl,hm⟩:=h rfl;exact⟨_,rfl,gh λ_=>hm⟩
 | true =>
  rw[hf rfl];cases r with
  | ok c' m=>exact⟨_,rfl,gh λz=>(by cases z)⟩
  | st=>exact⟨_,rfl,True.intro⟩
theorem PB{r s:R1}{d:D×Nat}(h:ac (if t=true then r else s) d):ac (Gr t r s) d:=by
 cases t with
 | true =>
  rw[if_pos rfl]at h;obtain⟨m,rfl,hm⟩:=h;cases s with
  | ok q n=>exact⟨_,by show Rs.ok _ _=Rs.ok _ _;rw[vP,Gk],en.mpr ⟨gh λ_=>hm,gh λz=>(by cases z)⟩⟩
  | st=>exact⟨m,rfl,hm⟩
 | false =>
  rw[if_neg Ta]at h;obtain⟨m,rfl,hm⟩:=h;cases r with
  | ok q n=>exact⟨_,by show Rs.ok _ _=Rs.ok _ _;rw[vQ,Gm],en.mpr ⟨gh λz=>(by cases z),gh λ_=>hm⟩⟩
  | st=>exact⟨m,rfl,hm⟩
theorem EI{p:D×Nat}{f:Bool->Rs α}{a:α}(h:p.1=.bl b)(h2:ac (f b) a):ac (qY p f) a:=by
 unfold qY;rw[h];exact h2
section
variable{O:Fx}{n:Nat}{it:Bool}{sc:Scope}{C U:ag}{p:D×Nat}
end
theorem jM{a:α}:ac (.ok a []) a:=⟨[],rfl,True.intro⟩
def bU:List (Str×D×Bool)->ag
 | []=>λ_=>none
 | p::l=>λz=>if z=p.1 then some p.2 else bU l z
theorem dh:Sub (bU []) U:=λ_ _ h=>by cases h
theorem az{y:D×Bool}{l:List (Str×D×Bool)}(h:U x=some y)(g:Sub (bU l) U):Sub (bU ((x,y)::l)) U:=λz w e=>by
 replace e:(if z=x then some y else bU l z)=some w:=e;by_cases hz:z=x
 ·rw[if_pos hz]at e;cases e;rw[hz];exact h
 ·rw[if_neg hz]at e;exact g z w e
section
variable{O:Fx}{sc:Scope}{U U':ag}{fl:Fl}{ss:List Stmt}
theorem HP{it:Expr}(aj:List D->ag->Prop)(R:D->Prop)(hi:ac (aB O it true sc (cR it U)) (d,k))(h0:aj ds (cR it U))
  (step:∀d l U,aj (d::l) U->∃U1,dk sc tg d U=some U1/\((∃U2,ac (aL O body sc U1) (.nx U2)/\aj l U2)\/∃r,ac (aL O body sc U1) (.rt r)/\R r)) (rest:∀U',aj [] U'->∃r,ac (aL O ss sc U') (.rt r)/\R r) (hd:items d=some ds:=by rfl) (hk:k<=1:=by first|exact SX 1|exact Tc 1) (ht:gI it tg=true:=by rfl):∃r,ac (aL O (.For tg it body [] p::ss) sc U) (.rt r)/\R r:=by
 rcases yq (bind:=dk sc tg) (body:=aL O body sc) aj R (λd l U h=>by
  obtain⟨U1,a,b⟩:=step d l U h;rcases b with⟨U2,b,c⟩|⟨r,b,c⟩
  ·exact⟨U1,a,.inl ⟨U2,.inl b,c⟩⟩
  ·exact⟨U1,a,.inr ⟨r,b,c⟩⟩) h0 with⟨U',h1,h2⟩|⟨r,h1,h2⟩
 ·obtain⟨r,h3,h4⟩:=rest U' h2;exact⟨r,aU (ia hi hd hk ht h1) h3,h4⟩
 ·exact⟨r,bD (ia hi hd hk ht h1),h2⟩
theorem bg{b:Expr}{x:D}(ha:ac (aB O a false sc U) (x,k))(hb:ac (aB O b false sc U) (y,j))(h:ac (gL op x y) r):ac (aB O (.Compare a [op] [b] p) it sc U) (.bl r,0) :=
 ac.bnd ha (ac.bnd hb (ac.bnd h jM))
theorem gA{op:BoolOp}(h:ac (fb O op (e::es) sc U) b):ac (aB O (.BoolOp op (e::es) p) it sc U) (.bl b,0):=by
 rw[yz,if_neg (show ¬ (List.isEmpty (e::es)=true)from Ta)];exact ac.bnd h jM
theorem lw{c:Bool}(h:ac (aB O e false sc U) (.bl b,k))(h1:b=true->ac (fb O .And es sc U) c)(h2:b=false->c=false):ac (fb O .And (e::es) sc U) c:=ac.bnd h (EI rfl (NS h1 h2))
theorem wf{c:Bool}(h:ac (aB O e false sc U) (.bl b,k))(h1:b=false->ac (fb O .Or es sc U) c)(h2:b=true->c=true):ac (fb O .Or (e::es) sc U) c:=ac.bnd h (EI rfl (OQ h1 h2))
theorem zQ{c:Bool}(h:ac (aB O e false sc U) (.bl true,k))(h1:ac (fb O .And es sc U) c):ac (fb O .And (e::es) sc U) c:=lw h (λ_=>h1) λz=>by cases z
theorem kB{c:Bool}(h:ac (aB O e false sc U) (.bl false,k))(h1:ac (fb O .Or es sc U) c):ac (fb O .Or (e::es) sc U) c:=wf h (λ_=>h1) λz=>by cases z
theorem Cj:ac (fb O .And [] sc U) true:=jM
theorem qz:ac (fb O .Or [] sc U) false:=jM
theorem ac.bl{r:R1}{c:Bool}(h:ac r (.bl b,k))(e:b=c):ac r (.bl c,k):=e ▸ h
theorem ly(h:ac (cB O es sc U) (ds,k))(hl:ds.length<=bx):ac (aB O (.Tuple es n p) it sc U) (.tup ds,kn (.tup ds) k):=ac.bnd h (by dsimp only;rw[if_pos hl];exact jM)
theorem Nu(h:ac (cB O es sc U) (ds,k))(hl:ds.length<=bx/\k<=1):ac (aB O (.List es p) it sc U) (.lst ds,k):=ac.bnd h (by dsimp only;rw[if_pos hl];exact jM)
theorem pi{x:D}{l h:Option Int}{r:D×Nat}(ha:ac (aB O a false sc U) (x,k))(hl:ac (yx O lo sc U) l)(hh:ac (yx O hi sc U) h)(hr:ac (O.slf x l h) r):ac (aB O (.Subscript a (.Slice lo hi none p2) p) it sc U) r:=ac.bnd ha (ac.bnd hl (ac.bnd hh hr))
theorem dJ{g f:α->D}{l:List α}(hi:ac (aB O iter true sc U) (d,k))(hd:items d=some (l.map g))(hl:l.length<=bx)(hk:aK (l.map g)=true\/k<=1)
  (h:∀x∈l,∃U',dk scope tg (g x) (flt scope U)=some U'/\ac (aB O elt false scope U') (f x,0)) (hc:ni sc scope=true:=by rfl) (ht:gI iter tg=true:=by rfl):ac (aB O (.ListComp elt [⟨tg,iter,[],0⟩] scope p) it sc U) (.lst (l.map f),0):=by
 refine JH hi hd ⟨by rw[SY];exact hl,hk⟩ (na λx hx=>?_) (Tc _) hc ht;obtain⟨U',h1,h2⟩:=h x hx;rw[h1];refine ac.bnd (a:=true) jM ?_;rw[cond_true];exact ac.bnd h2 jM
end
theorem MK(h:us.length=1):∃a,us=[a]:=List.length_eq_one_iff.mp h
theorem D9(h:us.length=n+1):∃a r,us=a::r/\r.length=n:=by
 cases us with
 | nil=>cases h
 | cons a r=>exact⟨a,r,rfl,by simpa using h⟩
theorem Ea(h:us.length=2):∃a b,us=[a,b]:=by
 obtain⟨a,r,e1,h1⟩:=D9 h;subst e1;obtain⟨b,rfl⟩:=MK h1;exact⟨a,b,rfl⟩
theorem MJ(h:us.length=3):∃a b c,us=[a,b,c]:=by
 obtain⟨a,r,e1,h1⟩:=D9 h;subst e1;obtain⟨b,c,rfl⟩:=Ea h1;exact⟨a,b,c,rfl⟩
theorem Rg(h:us.length=4):∃a b c d,us=[a,b,c,d]:=by
 obtain⟨a,r,e1,h1⟩:=D9 h;subst e1;obtain⟨b,c,d,rfl⟩:=MJ h1;exact⟨a,b,c,d,rfl⟩
variable{O:Fx}{sc:Scope}{U U':ag}{fl:Fl}{ss:List Stmt}
theorem qA{b:Expr}{r:D×Nat}(hc:ac (aB O c false sc U) (.bl t,k))(h1:t=true->ac (aB O a false sc U) r)(h2:t=false->ac (aB O b false sc U) r):ac (aB O (.IfExp c a b p) it sc U) r:=by
 refine ac.bnd hc (EI rfl (PB ?_));cases t with
 | true=>exact h1 rfl
 | false=>exact h2 rfl
end Sp
namespace Qm
end Qm
namespace K
open PySem L2 Sp
variable{α β:Type}{ds:List D}{r:D}
structure Dc(α:Type) where
 dec:D->Option α
 enc:α->D
 ok:∀x a,dec x=some a->x=enc a
def dI:Dc Int:=⟨λ| .int i=>some i|_=>none,.int,λx a h=>by cases x<;>cases h;rfl⟩
def dL:Dc (List D):=⟨λ| .lst i=>some i|_=>none,.lst,λx a h=>by cases x<;>cases h;rfl⟩
def tj{α:Type}(A:Dc α)(f:α->Rs D):List D->Rs D
 | [x]=>(match A.dec x with|some a=>f a|none=>.st)
 | _=>.st
noncomputable def vi{α β:Type}(A:Dc α)(B:Dc β)(f:α->β->Rs D):List D->Rs D
 | [x,y]=>(match A.dec x with|some a=>(match B.dec y with|some b=>f a b|none=>.st)|none=>.st)
 | _=>.st
theorem wp{A:Dc α}{x:D}{f:α->Rs β}{r:β}(h:ac (match A.dec x with|some a=>f a|none=>.st) r):∃a,x=A.enc a/\ac (f a) r:=by
 split at h
 ·rename_i a e;exact⟨a,A.ok _ _ e,h⟩
 ·exact(bo h).elim
theorem jy{A:Dc α}{f:α->Rs D}(h:ac (tj A f ds) r):∃a,ds=[A.enc a]/\ac (f a) r:=by
 unfold tj at h;split at h
 ·obtain⟨a,e1,h1⟩:=wp h;exact⟨a,by rw[e1],h1⟩
 ·exact(bo h).elim
theorem k9{A:Dc α}{B:Dc β}{f:α->β->Rs D}(h:ac (vi A B f ds) r):∃a b,ds=[A.enc a,B.enc b]/\ac (f a b) r:=by
 unfold vi at h;split at h
 ·obtain⟨a,e1,h1⟩:=wp h;obtain⟨b,e2,h2⟩:=wp h1;exact⟨a,b,by rw[e1,e2],h2⟩
 ·exact(bo h).elim
def Sk:D->Int
 | .int i=>i
 | _=>0
def u9(l:List D):List Int:=l.map Sk
theorem yX(ns:List Int):u9 (ns.map D.int)=ns:=by
 induction ns with
 | nil=>rfl
 | cons n ns ih=>show n::u9 (ns.map D.int)=_;rw[ih]
def oA(l:List D):Prop:=∃ns:List Int,l=ns.map D.int
def ng(ns:List Int)(k:Int):Int:=if ns=[]then 0 else ns.getD (k.fmod ns.length).toNat 0
def GE(ns:List Int)(k:Int):Int :=
 (ng ns k).fdiv 2147483647*2147483647+((((ng ns k).fmod 2147483647+7919*k+1)*48271).fmod 2147483647*69621+k).fmod 2147483647
def bC(l:List D)(k:Int):Int:=GE (u9 l) k
abbrev t4(a b c d:Int):D:=.tup [.int a,.int b,.int c,.int d]
abbrev Qd:=Int×Int×Int×Int
def dq(q:Qd):D:=t4 q.1 q.2.1 q.2.2.1 q.2.2.2
def q4:D->Option Qd
 | .tup [.int a,.int b,.int c,.int d]=>some (a,b,c,d)
 | _=>none
theorem OL(x:D)(q:Qd)(h:q4 x=some q):x=dq q:=by
 unfold q4 at h;split at h
 ·cases h;rfl
 ·cases h
def dQ:Dc Qd:=⟨q4,dq,OL⟩
abbrev ii(q:Qd):Prop:=q.1.natAbs<lB/\q.2.1.natAbs<lB/\q.2.2.1.natAbs<lB/\q.2.2.2.natAbs<lB
@[simp] theorem jt(a b:Int):gT (.int a) (.int b)=decide (a=b):=by
 show(a==b)=_;rw[Vr];simp
@[simp] theorem eqD_q(p q:Qd):gT (dq p) (dq q)=decide (p=q):=by
 show(p.1==q.1&&(p.2.1==q.2.1&&(p.2.2.1==q.2.2.1&&(p.2.2.2==q.2.2.2&&true))))=_;obtain⟨a,b,c,d⟩:=p;obtain⟨e,f,g,h⟩:=q;rw[Vr];simp
noncomputable def Q0(p q:Qd):Qd :=
 (p.1*q.1-p.2.1*q.2.1-p.2.2.1*q.2.2.1-p.2.2.2*q.2.2.2,p.1*q.2.1+p.2.1*q.1+p.2.2.1*q.2.2.2-p.2.2.2*q.2.2.1,
  p.1*q.2.2.1-p.2.1*q.2.2.2+p.2.2.1*q.1+p.2.2.2*q.2.1,p.1*q.2.2.2+p.2.1*q.2.2.1-p.2.2.1*q.2.1+p.2.2.2*q.1)
theorem qZ{p q:Qd}(h:ii p)(g:ii q):(cP p.1 q.1/\cP p.2.1 q.2.1/\cP p.2.2.1 q.2.2.1/\cP p.2.2.2 q.2.2.2)/\(cP p.1 q.2.1/\cP p.2.1 q.1/\cP p.2.2.1 q.2.2.2/\cP p.2.2.2 q.2.2.1)/\(cP p.1 q.2.2.1/\cP p.2.1 q.2.2.2/\cP p.2.2.1 q.1/\cP p.2.2.2 q.2.1)/\(cP p.1 q.2.2.2/\cP p.2.1 q.2.2.1/\cP p.2.2.1 q.2.1/\cP p.2.2.2 q.1) :=
 ⟨⟨cC h.1 g.1,cC h.2.1 g.2.1,cC h.2.2.1 g.2.2.1,cC h.2.2.2 g.2.2.2⟩,⟨cC h.1 g.2.1,cC h.2.1 g.1,cC h.2.2.1 g.2.2.2,cC h.2.2.2 g.2.2.1⟩,⟨cC h.1 g.2.2.1,cC h.2.1 g.2.2.2,cC h.2.2.1 g.1,cC h.2.2.2 g.2.1⟩,⟨cC h.1 g.2.2.2,cC h.2.1 g.2.2.1,cC h.2.2.1 g.2.1,cC h.2.2.2 g.1⟩⟩

end K
namespace K
open PySem L2 Sp Qm
variable{a b:Int}{O:Fx}{sc:Scope}{U:ag}{p:Pos}{k:Nat}
noncomputable def jN(p q:Qd):Qd :=
 ((p.1*q.1-p.2.1*q.2.1-p.2.2.1*q.2.2.1-p.2.2.2*q.2.2.2).fdiv 2,(p.1*q.2.1+p.2.1*q.1+p.2.2.1*q.2.2.2-p.2.2.2*q.2.2.1).fdiv 2,
  (p.1*q.2.2.1-p.2.1*q.2.2.2+p.2.2.1*q.1+p.2.2.2*q.2.1).fdiv 2,(p.1*q.2.2.2+p.2.1*q.2.2.1-p.2.2.1*q.2.1+p.2.2.2*q.1).fdiv 2)
def tf(q:Qd):Int:=(q.1*q.1+(q.2.1*q.2.1+(q.2.2.1*q.2.2.1+(q.2.2.2*q.2.2.2+0)))).fdiv 4
def jg(q:Qd):Qd:=(q.1,-q.2.1,-q.2.2.1,-q.2.2.2)
def kI(p q:Qd):Qd:=(p.1+q.1,p.2.1+q.2.1,p.2.2.1+q.2.2.1,p.2.2.2+q.2.2.2)
theorem si(x:Int){n:Int}(h:0<n):(x.fdiv n).natAbs<=x.natAbs:=by
 rw[Int.fdiv_eq_ediv_of_nonneg _ (by omega)];exact Int.natAbs_ediv_le_natAbs x n

theorem rQ(h:a=b):(!gT (.int a) (.int b))=false:=by rw[h];simp
theorem zR(h:a=b):gT (.int a) (.int b)=true:=by rw[h];simp

theorem cH{a b:Expr}{op:Operator}{it:Bool}{x y:D}{j:Nat}{r:D×Nat}(ha:ac (aB O a false sc U) (x,k))(hb:ac (aB O b false sc U) (y,j))(h:ac (sx op x y k j) r):ac (aB O (.BinOp a op b p) it sc U) r:=ac.bnd ha (ac.bnd hb h)
theorem uP{α:Type}{f:α->D}{l:List α}{i:Int}(h0:0<=i)(h1:i<l.length):∃x∈l,L2.atI (l.map f) i=some (f x):=by
 obtain⟨j,rfl⟩:=Int.eq_ofNat_of_zero_le h0;have hj:j<l.length:=by omega
 exact⟨l[j],Vn _,eT (by simp[hj])⟩
noncomputable def N8(O:Fx)(sc:Scope)(tg:Expr)(body ss:List Stmt)(r:D):List D->ag->Prop
 | [],U=>ac (aL O ss sc U) (.rt r)
 | d::l,U => ∃U1,dk sc tg d U=some U1/\((∃U2,ac (aL O body sc U1) (.nx U2)/\N8 O sc tg body ss r l U2)\/ac (aL O body sc U1) (.rt r))
theorem xZ{ss:List Stmt}{tg it:Expr}{body:List Stmt}{d r:D}(ds:List D)(hi:ac (aB O it true sc (cR it U)) (d,k))(h:N8 O sc tg body ss r ds (cR it U))(hd:items d=some ds:=by rfl)(hk:k<=1:=by first|exact SX 1|exact Tc 1)(ht:gI it tg=true:=by rfl):ac (aL O (.For tg it body [] p::ss) sc U) (.rt r):=by
 obtain⟨r',h1,rfl⟩:=HP (ds:=ds) (λds U=>N8 O sc tg body ss r ds U) (λr'=>r'=r) hi h (λd l U ⟨U1,h1,h2⟩=>⟨U1,h1,by
  rcases h2 with h2|h2
  ·exact .inl h2
  ·exact .inr ⟨r,h2,rfl⟩⟩) (λU' h=>⟨r,h,rfl⟩) hd hk ht
 exact h1
theorem wE{n m:Nat}(h:n<=2 ^ m)(hm:m<9000):n<lB:=Tu h (Nat.pow_lt_pow_right (by decide) hm)
open Builtin.Int (intBits)
theorem Qt(d:D):kn d 1<=1:=by rcases Pw (d:=d) (k:=1)with q|q<;>omega


end K
namespace K
open PySem PySem.Spec PyProof.Rows L2 Sp Qm
theorem lA{O:Fx}{sc:Scope}{U:ag}{a:Expr}{m n:Str}{ap cp:Pos}{args:List Expr}{it:Bool}{ns:List Str}{es ds:List D}{k j:Nat}{F:List D->Rs D}{d:D}(ha:ac (aB O a false sc U) (.obj n ns es,k))(hs:ac (cB O args sc U) (ds,j))(hF:O.omt n m=some F)(h:ac (F (.obj n ns es::ds)) d)
  (hl:(ap.endLine==cp.line)=true:=by rfl) (hn:ns.contains m=false:=by rfl) (hb:de a=true:=by rfl) (hf:ds.length<29:=by exact SW rfl):ac (aB O (.Call (.Attribute a m ap) args [] cp) it sc U) (d,0):=by
 rw[pj,if_pos hl];refine ac.bnd ha (ac.bnd hs ?_);unfold zq;dsimp only;rw[if_pos ⟨hn,hb,hf⟩,hF];exact ac.bnd h jM

end K
namespace K
open PySem L2 Sp Qm
section
variable{O:Fx}{sc:Scope}{U U1:ag}{ss:List Stmt}
end
end K
namespace Sp
open PySem PySem.Spec PyProof.Rows L2
variable{e:Expr}{k kd:Nat}{t:Str}{p1 p2 p3:Pos}
variable{X:Cx}
def fq:List D->Option (List Str)
 | []=>some []
 | .str i::l=>(fq l).map (i :: ·)
 | _::_=>none
noncomputable def iP(x:D)(ds:List D):R1 :=
 match x,ds with
 | .str sep,[.lst l]=>(match fq l with
  | some ys=>.ok (.str (Txt.join sep ys),0) [sep.length<=16,(ys.map λy=>y.length).sum+ys.length<=1048576]
  | none=>.st)
 | _,_=>.st
theorem tF{K:W.Frag}{H:Hp}{P:bi}:∀{l:List D} {ys:List Str} {vs:List V} {us:List Value},fq l=some ys->ah K H P l vs->aP vs us->StrsAre us ys
 | [],ys,vs,us,h,r,q=>by
  rw[fq]at h;cases h;rw[ah]at r;subst r;cases q;exact .nil
 | .str x::l,ys,vs,us,h,r,q=>by
  rw[fq]at h;cases e:fq l with
  | none=>rw[e]at h;cases h
  | some zs =>
   rw[e]at h;cases h;rw[ah]at r;obtain⟨v,vr,rfl,r1,r2⟩:=r;rw[ae]at r1;subst r1;cases q with
   | cons q1 q2 =>
    obtain⟨t,rfl⟩:=q1;exact .cons x t (tF e r2 q2)
 | .non::l,ys,vs,us,h,_,_=>by cases h
 | .bl _::l,ys,vs,us,h,_,_=>by cases h
 | .int _::l,ys,vs,us,h,_,_=>by cases h
 | .dct _ _::l,ys,vs,us,h,_,_=>by cases h
 | .typ _::l,ys,vs,us,h,_,_=>by cases h
 | .dcf _ _::l,ys,vs,us,h,_,_=>by cases h
 | .dft _ _ _::l,ys,vs,us,h,_,_=>by cases h
 | .sn _::l,ys,vs,us,h,_,_=>by cases h
 | .obj _ _ _::l,ys,vs,us,h,_,_=>by cases h
 | .cls _::l,ys,vs,us,h,_,_=>by cases h
 | .xc _ _::l,ys,vs,us,h,_,_=>by cases h
 | .tup _::l,ys,vs,us,h,_,_=>by cases h
 | .lst _::l,ys,vs,us,h,_,_=>by cases h
theorem IY:nv X "str.join" (λx xs H Q => ∃sep l ys P v,x=.str sep/\xs=[v]/\ae X.K H P (.lst l) v/\fq l=some ys/\sep.length<=16/\(ys.map λy=>y.length).sum+ys.length<=1048576/\Q (.str (Txt.join sep ys)) H):=by
 intro dl s Z H x xs v us Q I rx rxs h;obtain⟨sep,l,ys,P,v1,rfl,rfl,r,hl,h1,h2,q⟩:=h;obtain⟨t,rfl⟩:=rx;obtain⟨u,rfl,ru⟩:=bY rxs;rw[ae]at r;obtain⟨a,vs,b,rfl,ha,_,rl⟩:=r;cases ru;obtain⟨its,rv,⟨o,n,e1,e2,_,e3⟩,_⟩:=I.list ha.sq;exact join_listW (D:=a) (items:=its.toArray) ⟨o,e1,e2,n,e3⟩ (by rw[List.toList_toArray];exact tF hl rl rv) h1 h2 λt' k=>⟨.str _,H,I.tok _,⟨_,rfl⟩,q⟩
theorem DX:iV "join" iP:=by
 intro X U a args ap cp x k ds j z l o hc hroom hea hes hst hlen hline hb h hp;unfold iP at h;split at h
 ·rename_i sep l1;split at h
  ·rename_i ys hy;cases h;obtain⟨e,rfl⟩:∃e,args=[e]:=by
    match args,hlen with
    | [e],_=>exact⟨e,rfl⟩
   intro ow;refine bh (kq UU PySem.F.slot_str_join PySem.F.type_str_join IY (hea ow) (hes ow) (cj hb) (eN hst (show 1<29 by decide)) hline (ax (hst e SV)) rfl) λZ H Q ⟨E,q⟩=>⟨E,λv H1 s1 r1=>?_⟩
   rw[ae]at r1;subst r1;refine⟨rfl,E.same s1,λvs H2 s2 r2=>?_⟩;obtain⟨v,rfl,r3⟩:=r2.only;exact⟨sep,l1,ys,_,v,rfl,rfl,r3,hy,hp.1,hp.2.1,q _ _ (s1.trans s2) (by rw[ae])⟩
  ·cases h
 ·cases h
theorem qy{O:Fx}{sc:Scope}{rest:List Stmt}{d:D}:∀{pre:List Stmt} {U:ag},ac (aL O pre sc U) (.rt d)->ac (aL O (pre++rest) sc U) (.rt d)
 | [],U,h=>by cases aX h
 | st::ss,U,h=>by
  obtain⟨f1,h1,h2⟩:=ci (show ac (Rs.bnd _ _) _ from h);refine ac.bnd (f:=λ| .nx U'=>aL O (ss++rest) sc U' | f=>.ok f []) h1 ?_;cases f1 with
  | nx U'=>exact qy h2
  | rt d'=>exact h2
  | bk U'=>exact h2
  | ct U'=>exact h2
theorem LS{U:ag}{i:Int}(he:ED X U e (.int i) k)(hi:i.natAbs<2 ^ 1900)(ht:t.length<=64):ED X U (.JoinedStr [.FormattedValue e (-1) none p1,.Constant (.str t) kd p2] p3) (.str (Str.ofString (toString i)++t)) 0:=by
 intro ow dl s Z H Q I ⟨E,q⟩;have hl:i.natAbs.log2<1920:=by
  rcases UJ i.natAbs with z|z
  ·rw[z];decide
  ·exact S4 ((VA (TR z)).mpr hi) (by decide)
 have tl:=int_text_len_1921 hl;refine wpAny_JoinedStr ?_;show wpAny _ _ (eval (.FormattedValue e (-1) none p1) X.env) (λv s₁ => ∃y t',v=Value.str y t'/\(Str.empty++y).length<=sizeLine/\wpAny _ _ (eval (.Constant (.str t) kd p2) X.env) (λv s₂ => ∃z t'',v=Value.str z t''/\(Str.empty++y++z).length<=sizeLine/\_) _ s₁) _ s;refine wpAny_FormattedValue_plain ?_;refine aG (he ow dl s Z H (λv H'=>v=.int i/\ar H H') I ⟨E,λv H' s' r=>⟨by rw[ae]at r;exact r,s'⟩⟩) λu s1 ⟨v,H1,I1,r1,e1,s1'⟩=>?_
 subst e1;obtain⟨tk,rfl⟩:=r1;refine wpAny_formatField_int hl ⟨_,_,rfl,?_,?_⟩
 ·rw[Uo];exact SZ tl (by rw[TW];decide)
 ·refine wpAny_Constant_str ⟨_,_,rfl,?_,?_⟩
  ·rw[Uo,UQ];exact SZ (Uz tl ht) (by rw[TW];decide)
  ·refine⟨?_,.str _,H1,(I1.tok _).tok _ |>.tok _,⟨_,rfl⟩,q _ _ s1' (by rw[ae,Uo])⟩;rw[Uo,UQ];exact SZ (Uz tl ht) (by rw[TW];decide)
def SA:Stmt->Expr
 | .Return (some (.JoinedStr [.FormattedValue e _ _ _,_] _)) _=>e
 | _=>.Constant .none 0 ⟨0,0,0,0⟩
def Sz:Stmt->Str
 | .Return (some (.JoinedStr [_,.Constant (.str t) _ _] _)) _=>t
 | _ => ""
noncomputable def mC(O:Fx)(sc:Scope)(ps:List Str)(pre:List Stmt)(e:Expr)(t:Str)(ds:List D):Rs D :=
 if ds.length=ps.length then(aL O pre sc (bB ps ds)).bnd fun
  | .rt d=>.ok d []
  | .nx U1=>(aB O e false sc U1).bnd λp=>(match p.1 with
   | .int i=>.ok (.str (Str.ofString (toString i)++t)) [i.natAbs<2 ^ 1900,t.length<=64]
   | _=>.st)
  | _=>.st
 else .st
theorem Ng{P:Program}{w:World}{K:W.Frag}{mg:Str->Option Value}{base:Heap}{g qual:Str}{st:Stmt}{f:Addr}{fd:FuncData}{ps:List Str}{O:Fx}{pre:List Stmt}{q:Pos}{F:List D->Rs D}(Fn:fY K g qual st f fd)
  (S:bG (aE (aa st)) ps (aa st)) (hΦ:kg P w K mg base k O) (hb:af st=pre++[.Return (some (.JoinedStr [.FormattedValue e (-1) none p1,.Constant (.str t) kd p2] p3)) q])
  (hrun:∀ds r,ac (F ds) r->ac (mC O (aa st) ps pre e t ds) r):bj P w K mg base cE (k+1) f fd ps (jG K F):=by
 refine Fn.ok S (λvs H Q E h=>?_) (λcdv A outer s H vs Q E hr h=>?_)
 ·obtain⟨ds,r,l,h1,h2,hp,_⟩:=h;have:=hrun ds r ⟨l,h2,hp⟩;unfold mC at this;split at this
  ·rename_i hl;rw[<- h1.length];exact hl
  ·exact(bo this).elim
 ·obtain⟨ds,r,l,h1,h2,hp,qq⟩:=h;have h2:=hrun ds r ⟨l,h2,hp⟩;unfold mC at h2;split at h2
  ·rename_i hl;have G:=ge (outer:=outer) (H:=H) (E:=E) S hΦ hr;obtain⟨E0,hsl⟩:=ig (P:=P) (w:=w) (mg:=mg) (base:=base) (qual:=qual) (f:=f) (cdv:=cdv) (A:=A) (outer:=outer) (s:=s) (E:=E) S h1 hl;have B0:bP H (λ_=>none) H:=λa o h=>⟨h,rfl⟩
   obtain⟨fl,h3,h4⟩:=ci h2;cases fl with
   | nx U1 =>
    obtain⟨p,h5,h6⟩:=ci h4;split at h6
    ·rename_i i hi;obtain⟨l6,h6,p6⟩:=h6;cases h6;obtain⟨px,pk⟩:=p;cases (show px=.int i from hi);have ed:=LS (p1:=p1) (p2:=p2) (p3:=p3) (kd:=kd) ((bO h5 G).ed rfl) p6.1 p6.2.1;rw[hb];refine⟨_,rM (H0:=H) (t:=λD Z' H' => ∃ow,aD _ ow H' Z' U1/\∀v H2,ar H' H2->ae K H2 (λ_ _=>True) (.str (Str.ofString (toString i)++t)) v->D.rt v H2) G TV (nK λdl s Z H1 D I ⟨ow,E1,q1⟩=>mF (ed ow) dl s Z H1 D I ⟨E1,λv H2 s2 r2=>q1 v H2 s2 (r2.imp λ_ _ _=>True.intro)⟩) h3,λ_=>none,E0,hsl,B0,λow' Z' H' E' hl' B'=>⟨ow',E',λv H2 s2 r2=>?_⟩⟩;refine qq v H2 (λa o h=>s2 a o (B' a o h).1) ?_;rw[ae]at r2⊢;exact r2
    ·exact(bo h6).elim
   | rt d =>
    cases aX h4;have hx:=qy (rest:=[.Return (some (.JoinedStr [.FormattedValue e (-1) none p1,.Constant (.str t) kd p2] p3)) q]) h3;rw[hb];exact⟨_,dH _ (H0:=H) hx G TV,λ_=>none,E0,hsl,B0,λv H' sm rp=>qq v H' sm rp⟩
   | bk _=>exact(bo h4).elim
   | ct _=>exact(bo h4).elim
  ·exact(bo h2).elim
end Sp
namespace K
open PySem L2 Sp Qm
variable{i p:Int}{ps:List Str}{pre:List Stmt}{e:Expr}{t y:Str}{ds:List D}{k:Nat}
section
variable{O:Fx}{sc:Scope}{U U1:ag}{ss:List Stmt}
def fN(p:Int):Str:=if p.fmod 2=0 then Str.ofString (toString (p.fdiv 2))else Str.ofString (toString p)++Str.ofString "/2"
def fA(p:Qd):Str:=Txt.join (Str.ofString " ") [fN p.1,fN p.2.1,fN p.2.2.1,fN p.2.2.2]
theorem yi(h:i.natAbs<2 ^ 1900):(Str.ofString (toString i)).length<=1921:=by
 refine PyProof.Rows.int_text_len_1921 ?_;rcases UJ i.natAbs with z|z
 ·rw[z];decide
 ·exact S4 ((VA (TR z)).mpr h) (by decide)
theorem se(h:p.natAbs<2 ^ 1900):(p.fdiv 2).natAbs<2 ^ 1900:=Tu (si p (by decide)) h
theorem qa(h:p.natAbs<2 ^ 1900):(fN p).length<=1923:=by
 unfold fN;split
 ·have:=yi (se h);omega
 ·rw[UQ];have:=yi h;have e:(Str.ofString "/2").length=2:=by decide +kernel
  omega
def L9(p:Qd):Prop:=p.1.natAbs<2 ^ 1900/\p.2.1.natAbs<2 ^ 1900/\p.2.2.1.natAbs<2 ^ 1900/\p.2.2.2.natAbs<2 ^ 1900
theorem Gu{p:Qd}(h:L9 p):([fN p.1,fN p.2.1,fN p.2.2.1,fN p.2.2.2].map λy=>y.length).sum+[fN p.1,fN p.2.1,fN p.2.2.1,fN p.2.2.2].length<=1048576:=by
 have h1:=qa h.1;have h2:=qa h.2.1;have h3:=qa h.2.2.1;have h4:=qa h.2.2.2;simp only[S2,UW,List.sum_cons,List.sum_nil,S7,Vg];omega
theorem Lx{d:D}(h:ac (aL O pre sc (bB ps ds)) (.rt d))(hl:ds.length=ps.length:=by rfl):ac (mC O sc ps pre e t ds) d:=by
 unfold mC;rw[if_pos hl];exact ac.bnd h jM
theorem Ly(h:ac (aL O pre sc (bB ps ds)) (.nx U1))(he:ac (aB O e false sc U1) (.int i,k))(hi:i.natAbs<2 ^ 1900)(ht:t.length<=64)(hl:ds.length=ps.length:=by rfl):ac (mC O sc ps pre e t ds) (.str (Str.ofString (toString i)++t)):=by
 unfold mC;rw[if_pos hl];exact ac.bnd h (ac.bnd he (ck rfl ⟨hi,ht,True.intro⟩))
theorem rG(i:Int):PyData.strOk (Str.ofString (toString i))=true:=by
 unfold PyData.strOk;rw[<- Array.all_toList,TJ];intro k hk;refine Tv ?_;rcases UX k 1114112 with h|h
 ·exact h
 ·exact absurd hk (PyProof.Rows.int_text_free' k ⟨by omega,.inr (by omega)⟩ i)
theorem HR{a b:Str}(h:PyData.strOk a=true)(g:PyData.strOk b=true):PyData.strOk (a++b)=true:=by
 unfold PyData.strOk at *;rw[Str.cps_append,Array.all_append,h,g];rfl
theorem vk{sep:Str}(hs:PyData.strOk sep=true):∀{ys:List Str} {a:Array Nat},a.all (λx=>decide (x<1114112))=true->(∀y∈ys,PyData.strOk y=true)->(ys.foldl (λacc p=>acc++sep.cps++p.cps) a).all (λx=>decide (x<1114112))=true
  | [],a,ha,_=>ha
  | y::ys,a,ha,h=>vk hs (ys:=ys) (by
      have h1:=h y SV;unfold PyData.strOk at hs h1;rw[Array.all_append,Array.all_append,ha,hs,h1];rfl) λz hz=>h z (SR _ hz)
theorem vj{sep:Str}{ys:List Str}(hs:PyData.strOk sep=true)(h:∀z∈y::ys,PyData.strOk z=true):PyData.strOk (Txt.join sep (y::ys))=true :=
 vk (ys:=ys) (a:=y.cps) hs (h y SV) λz hz=>h z (SR _ hz)
theorem wj{x:Str}(h:PyData.strOk x=true)(g:PyData.strOk y=true):fL (.str x) (.str y)=true:=by
 have k:∀x:Str,PyData.strOk x=true->SeqAt.shaped (D.str x).py=true:=λx h=>by
  rw[D.py];unfold SeqAt.shaped;simp[PyData.canLay0,PyData.depth,h]
 unfold fL;rw[k x h,k y g];rfl
theorem Lh(p:Int):PyData.strOk (fN p)=true:=by
 unfold fN;split
 ·exact rG _
 ·exact HR (rG _) (by decide +kernel)
theorem mx(p:Qd):PyData.strOk (fA p)=true:=vj (by decide +kernel) (by
 intro z hz;simp only[SS,Tg,TC]at hz;rcases hz with rfl|rfl|rfl|rfl<;>exact Lh _)
end
section
variable{O:Fx}{sc:Scope}{U U1:ag}{ss:List Stmt}{P Q:ag->Prop}
def qv:Stmt->Expr
 | .For _ i _ _ _=>i
 | _=>.Name (Str.ofString "") ⟨0,0,0,0⟩
def fG:Stmt->List Stmt
 | .For _ _ b _ _=>b
 | _=>[]
theorem Gw{a:Expr}{p:Pos}{it:Bool}{b c:Bool}(h:ac (aB O a false sc U) (.bl b,k))(e:(!b)=c):ac (aB O (.UnaryOp .Not a p) it sc U) (.bl c,0):=by
 subst e;exact(show ac (Rs.bnd (aB O a false sc U) λp=>(match AK .Not p.1 with|some d=>.ok (d,0) []|none=>.st)) (.bl (!b),0)from ac.bnd h jM)
end
end K
namespace Sp
open PySem PySem.Spec PyProof.Rows L2
variable{X:Cx}
section
variable{prog:Program}{w:World}{A:Around}{E:Value->Shared->Prop}{s:Shared}
end
def v8:Stmt->Expr
 | .If c _ _ _=>c
 | _=>.Constant .none 0 ⟨0,0,0,0⟩

theorem tE{K:W.Frag}{H:Hp}{P:bi}:∀{ns:List Int} {vs:List V},ah K H P (ns.map D.int) vs->vs=ns.map V.int
 | [],vs,h=>by rw[UW,ah]at h;exact h
 | n::ns,vs,h=>by
  rw[S2,ah]at h;obtain⟨v,r,rfl,h1,h2⟩:=h;rw[ae]at h1;rw[tE h2,h1];rfl
section
variable{prog:Program}{w:World}{A:Around}{E:Value->Shared->Prop}{s:Shared}
end
noncomputable def G5(X:Cx)(H0:Hp)(tg:Expr)(body:List Stmt):List D->ag->Fl->Prop
 | [],U,fl=>fl=.nx U
 | d::ds,U,fl => ∃U1,GD X U tg d U1/\((∃U2,eU X H0 U1 body (.nx U2)/\G5 X H0 tg body ds U2 fl)\/∃r,fl=.rt r/\eU X H0 U1 body (.rt r))
theorem x8{H0:Hp}{U:ag}{tg iter:Expr}{body:List Stmt}{pos:Pos}{ds:List D}{k:Nat}{fl:Fl}(hp:PassesOwn (model X.prog X.w) X.A X.env X.xe)(hcalm:X.calm=true)
  (hi:IE X (cR iter U) tg iter ds k) (hk:k<=1) (h:G5 X H0 tg body ds (cR iter U) fl)
  (hs:∀x,foldedSetIterable iter X.env x=pure x):SD X H0 U (.For tg iter body [] pos) fl:=by
 intro dl s Z H D0 I ⟨ow0,E0,hl,B0,q0⟩;obtain⟨ow,E,k0⟩:=qC (e:=iter) E0;have B:=B0.keep k0;have q:=q0.keep k0;have pb:fD X body (λD Z H => ∃U fl,eU X H0 U body fl/\FQ X H0 U fl D Z H):=λdl s Z H D I ⟨U1,fl1,h1,h2⟩=>h1 dl s Z H D I h2
 have pg:PG X tg (λv Z H Q => ∃g:TG,PG X tg g/\g v Z H Q):=λdl s Z H v u Q I r ⟨g,h1,h2⟩=>h1 dl s Z H v u Q I r h2
 refine vF hp hcalm (hi ow) pg pb hs dl s Z H D0 I ⟨E,λJ H1 s1 itd=>?_⟩;refine⟨λi m Z' H'=>m=ds.length-i/\i<=ds.length/\∃ow' U',aD X ow' H' Z' U'/\Z'.length=X.N.length/\bP H0 ow' H'/\aV ow H1 ow' H'/\G5 X H0 tg body (ds.drop i) U' fl,
  ⟨ds.length,by simp,Tc _,ow,_,E.same s1,hl,B.keep (aV.same s1),aV.refl _ _,h⟩,?_⟩
 rintro i m Z' H' ⟨rfl,hile,ow',U',E',hl',B',k',hf⟩;have q':sK X H0 ow' H' fl D0:=q.keep ((aV.same s1).trans k');have st:fh (Kd ow H k H1) (Kd ow H k H1) H1 H':=⟨λa o ha hn=>k'.keep a o ha (.inl hn),λa vs ha p=>k'.keep a _ ha (.inr (fU E.own hk p.1)),λ_ _ _ p=>p,λ_ p=>p⟩;have it:=itd i H' st;by_cases hlt:i<ds.length
 ·obtain⟨go,yl⟩:=it.1 ds[i] (Tk hlt);have hdrop:ds.drop i=ds[i]::ds.drop (i+1):=List.drop_eq_getElem_cons hlt;rw[hdrop]at hf;refine .inr ⟨go,λσ2 H2=>i+1<=ds.length/\∃ow2 U2,aD X ow2 H2 σ2 U2/\σ2.length=X.N.length/\bP H0 ow2 H2/\aV ow H1 ow2 H2/\G5 X H0 tg body (ds.drop (i+1)) U2 fl,λσ2 H2 n=>⟨ds.length-(i+1),by omega,rfl,n.1,n.2⟩,λx H3 y3=>?_⟩;obtain⟨sm3,rx⟩:=yl x H3 y3;obtain⟨U1,⟨g,g1,g2⟩,hf⟩:=hf;have rx':ae X.K H3 (λa b=>b=true->ow' a=none) ds[i] x:=rx.impH (λa o ha p _=>by
   obtain⟨o1,h1⟩:=p.2 rfl;exact k'.low a o1 h1 (fU E.own hk p.1)) λa _ z=>(by cases z)
  refine⟨g,g1,g2 ow' x Z' H3 _ hl' (E'.same sm3) rx' λσ2 hl2 E2=>?_⟩;have k3:aV ow' H' ow' H3:=aV.same sm3;rcases hf with⟨U2,hb,hf⟩|⟨r,rfl,hb⟩
  ·exact⟨U1,.nx U2,hb,ow',E2,hl2,B'.keep k3,λow2 Z3 H4 a b c=>⟨hlt,ow2,U2,a,b,(B'.keep k3).keep c,k'.trans (k3.trans c),hf⟩⟩
  ·exact⟨U1,.rt r,hb,ow',E2,hl2,B'.keep k3,q'⟩
 ·have ei:i=ds.length:=by omega
  subst ei;rw[List.drop_length]at hf;cases (show fl=.nx U' from hf);exact .inl ⟨it.2 (SX _),q' ow' Z' H' E' hl' (aV.refl _ _)⟩

def Ak(ds:List D):R1 :=
 match ds with
 | [.str x]=>.ok (.int x.length,0) [x.length<=1048576]
 | ds=>ER ds
theorem EO:dy "len" Ak:=by
 refine⟨by decide +kernel,by decide +kernel,by decide +kernel,rfl,λX ds z l o hc h hp=>?_⟩;unfold Ak at h;split at h
 ·rename_i x;refine .inl ⟨"len", by decide +kernel,?_⟩;cases h;refine⟨_,wC,λow H0 H2 vs P Q o s rx q=>?_⟩;obtain⟨v,rfl,ry⟩:=rx.only;rw[ae]at ry;subst ry;exact⟨x,rfl,by rw[TW];have:=hp.1;omega,q _ _ (ar.refl _) (by rw[ae])⟩
 ·exact Ki.2.2.2.2 X _ z l o hc h hp
def nX(ds:List D):R1 :=
 match ds with
 | [.str x]=>(match intText? x with|some n=>.ok (.int n,0) [x.length<=640]|none=>.st)
 | ds=>EU ds
theorem CI:dm X (.type "int") (λxs H Q => ∃x n,xs=[.str x]/\intText? x=some n/\x.length<=640/\Q (.int n) H):=by
 intro dl s Z H xs us Q I r h;obtain⟨x,n,rfl,h1,h2,q⟩:=h;obtain⟨u,rfl,t,rfl⟩:=bY r;exact W.KIN.call_text h1 h2 ⟨.int n,H,I.tok _,⟨_,rfl⟩,q⟩
theorem ET:dy "int" nX:=by
 refine⟨by decide +kernel,by decide +kernel,by decide +kernel,rfl,λX ds z l o hc h hp=>?_⟩;unfold nX at h;split at h
 ·rename_i x;split at h
  ·rename_i n e;refine .inr ⟨"int", by decide +kernel,?_⟩;cases h;refine⟨_,CI,λow H0 H2 vs P Q o s rx q=>?_⟩;obtain⟨v,rfl,ry⟩:=rx.only;rw[ae]at ry;subst ry;exact⟨x,n,rfl,e,hp.1,q _ _ (ar.refl _) (by rw[ae])⟩
  ·cases h
 ·exact Kk.2.2.2.2 X _ z l o hc h hp
theorem Ll:GP X (λx lo hi H Q => ∃y,x=.str y/\y.length<=sizeLine/\Q (.str (Txt.slice y lo hi)) H):=by
 intro dl s Z H x v vl vu lo hi sl Q I rx hs pl pu h;obtain⟨y,rfl,hy,q⟩:=h;obtain⟨t,rfl⟩:=rx;refine⟨"str", "str.__getitem__", PySem.F.slot_str_getitem.lookup,typeIs_str s y t,?_⟩;obtain⟨l,hl,el⟩:∃l:Option (Int×Tok),partValue l=vl/\l.map (·.1)=lo:=by
  cases pl with
  | none=>exact⟨none,rfl,rfl⟩
  | int i t=>exact⟨some (i,t),rfl,rfl⟩
 obtain⟨m,hm,em⟩:∃l:Option (Int×Tok),partValue l=vu/\l.map (·.1)=hi:=by
  cases pu with
  | none=>exact⟨none,rfl,rfl⟩
  | int i t=>exact⟨some (i,t),rfl,rfl⟩
 obtain⟨o,h1,h2,h3⟩:=hs;refine wpAny_getItem_str_slice (l:=l) (u:=m) (st:=none) ⟨o,h1,h2,by rw[h3,hl,hm];rfl⟩ rfl ?_;subst el em;exact post_val_or_str ⟨SZ (Txt.slice_le y (l.map (·.1)) (m.map (·.1))) hy,λt' k=>⟨.str (Txt.slice y (l.map (·.1)) (m.map (·.1))),H,I.tok _,⟨t',rfl⟩,q⟩⟩
def aT(x:D)(lo hi:Option Int):R1 :=
 match x with
 | .str y=>.ok (.str (Txt.slice y lo hi),0) [y.length<=1048576]
 | x=>vn x lo hi
theorem aC:rg aT:=λX U a lo hi p2 pos x z l h k j o ha hl hh e hp=>by
 unfold aT at e;split at e
 ·rename_i y;cases e;refine λow=>bh (o7 Ll (ha ow) (hl ow) (hh ow)) λZ H Q ⟨E,q⟩=>⟨E,λv H1 s1 r1=>⟨E.same s1,λH2 s2=>⟨(E.same s1).same s2,λH3 s3=>?_⟩⟩⟩
  rw[ae]at r1;subst r1;exact⟨y,rfl,by rw[TW];have:=hp.1;omega,q _ H3 (s1.trans (s2.trans s3)) (by rw[ae])⟩
 ·exact Ey ha hl hh e hp
theorem A8{prog:Program}{w:World}{A:Around}{E:Value->Shared->Prop}{s:Shared}{x y:Str}{t u:Tok}{Q:Value->Shared->Prop}(hy:(y.length==0)=false)(hsz:x.length+2<=sizeLine)
  (h:∀(l:List (Str×Tok)) (k:Nat),l.map (·.1)=Txt.split x y->Q (.ref s.heap.objs.size) { s with heap:=s.heap.push { cls:=.type "list", data:=.seq (strValues l).toArray },toks:=k }) :
  wpAny (model prog w) A (call (.builtin "str.split") [.str x t,.str y u]) Q E s:=by
 have e1:=(fact_split x y).2;cases h1:(decide (x.length<y.length) || decide (Builtin.Str.strKind x<Builtin.Str.strKind y))with
 | true=>exact call_meets PySem.F.slot_str_split (typeIs_str s x t) PySem.F.entry_str_split (PySem.F.args_str_split_2 _ _) (meets_str_split_cannot_occur x y t u h1) (h [(x,t)] s.toks (by unfold Txt.split;rw[if_pos h1];rfl))
 | false =>
  cases hf:(Builtin.Str.occurrences x y 0 x.length (x.length+1)).isEmpty with
  | true=>exact call_meets PySem.F.slot_str_split (typeIs_str s x t) PySem.F.entry_str_split (PySem.F.args_str_split_2 _ _) (meets_str_split_not_found x y t u h1 hy hf) (h [(x,t)] s.toks (by unfold Txt.split;rw[if_neg (by rw[h1];decide),if_pos hf];rfl))
  | false =>
   have es:Txt.split x y=Builtin.Str.partsBetween x (Builtin.Str.occurrences x y 0 x.length (x.length+1)) y.length:=by unfold Txt.split;rw[if_neg (by rw[h1];decide),if_neg (by rw[hf];decide)]
   rw[es]at e1 h;refine call_meets PySem.F.slot_str_split (typeIs_str s x t) PySem.F.entry_str_split (PySem.F.args_str_split_2 _ _) (meets_str_split_sep x y t u h1 hy hf (by omega) (by omega)) ?_;rw[strsFrom_eq];exact h _ _ (numbered_texts _ _)
theorem sX:∀l:List (Str×Tok),aP (l.map λp=>V.str p.1) (strValues l)
 | []=>.nil
 | p::l=>.cons ⟨p.2,rfl⟩ (sX l)
theorem vz{K:W.Frag}{P:bi}{H:Hp}:∀ys:List Str,ah K H P (ys.map D.str) (ys.map V.str)
 | []=>ah.nil
 | y::ys=>ah.cons (by rw[ae]) (vz ys)
theorem DW:nv X "str.split" (λx xs H Q => ∃a b,x=.str a/\xs=[.str b]/\(b.length==0)=false/\a.length+2<=sizeLine/\∀p,H p=none->Q (.ref p) (aA H p (.lst ((Txt.split a b).map V.str)))):=by
 intro dl s Z H x xs v us Q I rx rxs h;obtain⟨a,b,rfl,rfl,h1,h2,q⟩:=h;obtain⟨t,rfl⟩:=rx;obtain⟨u,rfl,t',rfl⟩:=bY rxs;refine A8 h1 h2 λl k hl=>?_
 have hz:l.length<=sizeLine:=by
  have e:=(fact_split a b).2;have:=Ue List.length hl;rw[SY]at this;omega
 refine⟨.ref s.heap.objs.size,_,I.laid (t':=k) (o:=.lst ((Txt.split a b).map V.str)) (λb ob q=>SQ _ q) (SX _) ?_,rfl,q _ (I.hok.fresh (SX _))⟩;rw[<- hl,Ug];exact⟨by rw[SY];exact hz,strValues l,0,sX l,S6 _ rfl⟩
def eF(x:D)(ds:List D):R1 :=
 match x,ds with
 | .str a,[.str b]=>.ok (.lst ((Txt.split a b).map D.str),0) [(b.length==0)=false,a.length<=1048576]
 | _,_=>.st
theorem BP:iV "split" eF:=by
 intro X U a args ap cp x k ds j z l o hc hroom hea hes hst hlen hline hb h hp;unfold eF at h;split at h
 ·rename_i y b;cases h;obtain⟨e,rfl⟩:∃e,args=[e]:=by
   match args,hlen with
   | [e],_=>exact⟨e,rfl⟩
  intro ow;refine bh (kq UU PySem.F.slot_str_split PySem.F.type_str_split DW (hea ow) (hes ow) (cj hb) (eN hst (show 1<29 by decide)) hline (ax (hst e SV)) rfl) λZ H Q ⟨E,q⟩=>⟨E,λv H1 s1 r1=>?_⟩
  rw[ae]at r1;subst r1;refine⟨rfl,E.same s1,λvs H2 s2 r2=>?_⟩;obtain⟨v,rfl,r3⟩:=r2.only;rw[ae]at r3;subst r3;refine⟨y,b,rfl,rfl,hp.1,by rw[TW];have:=hp.2.1;omega,λp hp'=>q _ _ ((s1.trans s2).trans (cf hp')) ?_⟩;rw[ae];exact⟨p,_,true,rfl,aw,⟨rfl,(s1.trans s2).free hp'⟩,vz _⟩
 ·cases h
theorem Pk:nv X "str.startswith" (λx xs H Q => ∃a b,x=.str a/\xs=[.str b]/\Q (.bl (Txt.startswith a b)) H):=by
 intro dl s Z H x xs v us Q I rx rxs h;obtain⟨a,b,rfl,rfl,q⟩:=h;obtain⟨t,rfl⟩:=rx;obtain⟨u,rfl,t',rfl⟩:=bY rxs;exact SC.startswith ⟨.bl _,H,I,rfl,q⟩
theorem Pl:nv X "str.endswith" (λx xs H Q => ∃a b,x=.str a/\xs=[.str b]/\Q (.bl (Txt.endswith a b)) H):=by
 intro dl s Z H x xs v us Q I rx rxs h;obtain⟨a,b,rfl,rfl,q⟩:=h;obtain⟨t,rfl⟩:=rx;obtain⟨u,rfl,t',rfl⟩:=bY rxs;exact SC.endswith ⟨.bl _,H,I,rfl,q⟩
def Mt(x:D)(ds:List D):R1 :=
 match x,ds with
 | .str a,[.str b]=>.ok (.bl (Txt.startswith a b),0) []
 | _,_=>.st
def Mv(x:D)(ds:List D):R1 :=
 match x,ds with
 | .str a,[.str b]=>.ok (.bl (Txt.endswith a b),0) []
 | _,_=>.st
theorem Ms:iV "startswith" Mt:=by
 intro X U a args ap cp x k ds j z l o hc hroom hea hes hst hlen hline hb h hp;unfold Mt at h;split at h
 ·rename_i y b;cases h;obtain⟨e,rfl⟩:∃e,args=[e]:=by
   match args,hlen with
   | [e],_=>exact⟨e,rfl⟩
  intro ow;refine bh (kq UU PySem.F.slot_str_startswith PySem.F.type_str_startswith Pk (hea ow) (hes ow) (cj hb) (eN hst (show 1<29 by decide)) hline (ax (hst e SV)) rfl) λZ H Q ⟨E,q⟩=>⟨E,λv H1 s1 r1=>?_⟩
  rw[ae]at r1;subst r1;refine⟨rfl,E.same s1,λvs H2 s2 r2=>?_⟩;obtain⟨v,rfl,r3⟩:=r2.only;rw[ae]at r3;subst r3;exact⟨y,b,rfl,rfl,q _ _ (s1.trans s2) (by rw[ae])⟩
 ·cases h
theorem Mu:iV "endswith" Mv:=by
 intro X U a args ap cp x k ds j z l o hc hroom hea hes hst hlen hline hb h hp;unfold Mv at h;split at h
 ·rename_i y b;cases h;obtain⟨e,rfl⟩:∃e,args=[e]:=by
   match args,hlen with
   | [e],_=>exact⟨e,rfl⟩
  intro ow;refine bh (kq UU PySem.F.slot_str_endswith PySem.F.type_str_endswith Pl (hea ow) (hes ow) (cj hb) (eN hst (show 1<29 by decide)) hline (ax (hst e SV)) rfl) λZ H Q ⟨E,q⟩=>⟨E,λv H1 s1 r1=>?_⟩
  rw[ae]at r1;subst r1;refine⟨rfl,E.same s1,λvs H2 s2 r2=>?_⟩;obtain⟨v,rfl,r3⟩:=r2.only;rw[ae]at r3;subst r3;exact⟨y,b,rfl,rfl,q _ _ (s1.trans s2) (by rw[ae])⟩
 ·cases h
end Sp
namespace K
open PySem L2 Sp Qm
variable{a l:List Nat}{c k:Nat}{i:Int}
abbrev sN(l:List Nat):Str:=⟨l.toArray⟩
theorem pU(x:Str):x=sN x.cps.toList:=by cases x;simp[sN]
theorem fv(s:String):Str.ofString s=sN (s.toList.map Char.toNat):=by rw[pU (Str.ofString s),PyProof.Rows.signs_ofString]
theorem aQ(l:List Nat):(sN l).length=l.length:=by show l.toArray.size=_;simp
theorem fR(l m:List Nat):sN l++sN m=sN (l++m):=by show(⟨l.toArray++m.toArray⟩:Str)=_;simp
theorem Bl{m:List Nat}(h:sN l=sN m):l=m:=by
 have:=Ue (λx:Str=>x.cps.toList) h;simpa using this
theorem fu(l:List Nat):(sN l).cps.toList=l:=by simp
def dn(m:Nat):List Nat:=(Nat.toDigits 10 m).map Char.toNat
def dg(i:Int):List Nat:=if i<0 then 45::dn i.natAbs else dn i.natAbs
theorem pR(m:Nat):Str.ofString (toString (m:Int))=sN (dn m):=by rw[pU (Str.ofString _),W.KIN.signs_num];rfl
theorem pQ(i:Int):Str.ofString (toString i)=sN (dg i):=by
 unfold dg;by_cases h:i<0
 ·have e:(0-i)=((i.natAbs:Nat):Int):=by omega
  rw[if_pos h,PyProof.Rows.toString_neg h,e,fv,String.toList_append,U3,<- fR];have h2:=pR i.natAbs;rw[fv]at h2;rw[h2,fR];rfl
 ·have e:i=((i.natAbs:Nat):Int):=by omega
  rw[if_neg h]
  conv=>lhs;rw[e]
  exact pR _
theorem i8(m:Nat):∀c∈dn m,48<=c/\c<=57:=by
 intro c hc;obtain⟨d,hd,rfl⟩:=T0.mp hc;have:=Nat.isDigit_of_mem_toDigits (by decide) (by decide) hd;simp only[Char.isDigit,Tj,decide_eq_true_eq]at this;obtain⟨h1,h2⟩:=this;exact⟨UInt32.le_iff_toNat_le.mp h1,UInt32.le_iff_toNat_le.mp h2⟩
theorem qG(m:Nat):NumText.digitsVal (dn m)=m:=W.KIN.val_back m
theorem zT(m:Nat):dn m≠[]:=by
 intro z;have:=(PyProof.Rows.digitsFacts10 m).ge1;have e:=Ue List.length z;unfold dn at e;rw[SY]at e;simp at e;try omega
theorem mX{m:Nat}(h1:1<=k)(h:m<10 ^ k):(dn m).length<=k:=by unfold dn;rw[SY];exact PyProof.Rows.digits10_le h1 h
theorem xm(h:c<=57):(Char.ofNat c).toNat=c:=by
 have hv:c.isValidChar:=.inl (by omega);unfold Char.ofNat
 rw[dif_pos hv];first|done|rfl
theorem tP:∀{l:List Nat} {c:Nat} {r:List Nat},l.dropWhile (λx=>x==48)=c::r->c≠48
 | [],c,r,h=>by cases h
 | a::l,c,r,h=>by
  rw[List.dropWhile_cons]at h;split at h
  ·exact tP h
  ·rename_i hn;cases h;intro z;subst z;exact hn rfl
theorem JY(m:Nat):dn m=[48]\/∃c r,dn m=c::r/\c≠48:=by
 have h:=NumText.toDigits_all (dn m) (i8 m);rw[qG]at h;cases e:(dn m).dropWhile (λx=>x==48)with
 | nil =>
  rw[e]at h;left;unfold dn;rw[h];rfl
 | cons c r =>
  rw[e]at h;right;have hc:=tP e;have hm:∀x∈c::r,x<=57:=λx hx=>(i8 m x ((List.dropWhile_sublist (λx=>x==48)).subset (by rw[e];exact hx))).2
  refine⟨c,r,?_,hc⟩;show(Nat.toDigits 10 m).map Char.toNat=_;rw[h];show List.map Char.toNat (List.map Char.ofNat (c::r))=c::r;rw[Ug]
  conv=>rhs;rw[<- List.map_id (c::r)]
  exact List.map_congr_left λx hx=>xm (hm x hx)
theorem nI(i:Int):∀c∈dg i,c=45\/48<=c/\c<=57:=by
 intro c hc;unfold dg at hc;split at hc
 ·rcases SS.mp hc with z|z
  ·exact .inl z
  ·exact .inr (i8 _ c z)
 ·exact .inr (i8 _ c hc)
def jn:List (List Nat)->List Nat
 | []=>[]
 | a::l=>a++l.flatMap λp=>32::p
theorem sh(ws:List (List Nat)):Txt.join (sN [32]) (ws.map sN)=sN (jn ws):=by
 have key:∀(ws:List (List Nat)) (acc:Array Nat),List.foldl (λ(acc:Array Nat) (p:Str)=>acc++(sN [32]).cps++p.cps) acc (ws.map sN)=(acc.toList++ws.flatMap λp=>32::p).toArray:=by
  intro ws;induction ws with
  | nil=>intro acc;simp
  | cons w ws ih =>
   intro acc;rw[S2,List.foldl_cons,ih,UC];simp
 show(⟨List.foldl _ ((ws.map sN).headD Str.empty).cps ((ws.map sN).drop 1)⟩:Str)=_;cases ws with
 | nil=>rfl
 | cons w ws =>
  show(⟨List.foldl (λ(acc:Array Nat) (p:Str)=>acc++(sN [32]).cps++p.cps) (sN w).cps (ws.map sN)⟩:Str)=_;rw[key];show sN ((sN w).cps.toList++_)=_;rw[fu];rfl
theorem yk:∀(ws:List (List Nat)),Str.join (sN [32]) (ws.map sN)=sN (jn ws)
 | []=>rfl
 | [w]=>by show sN w=sN (w++[]);rw[Tw]
 | w::v::ws=>by
  show sN w++sN [32]++Str.join (sN [32]) ((v::ws).map sN)=_;rw[yk (v::ws),fR,fR];simp[jn]
def cm(w:List Nat):Prop:=32∉w
theorem FB{l:List (List Nat)}(h:cm a):(jn (a::l)).takeWhile (λc=>c != 32)=a/\(jn (a::l)).dropWhile (λc=>c != 32)=l.flatMap λp=>32::p:=by
 unfold jn;have ha:∀c∈a,(c != 32)=true:=λc hc=>by
  have:c≠32:=λz=>h (z ▸ hc)
  simpa using this
 cases l with
 | nil =>
  refine⟨?_,?_⟩
  ·show List.takeWhile _ (a++[])=a;rw[List.takeWhile_append_of_pos ha];simp
  ·show List.dropWhile _ (a++[])=[];rw[List.dropWhile_append_of_pos ha];rfl
 | cons b l =>
  show List.takeWhile _ (a++List.flatMap _ (b::l))=a/\List.dropWhile _ (a++List.flatMap _ (b::l))=_;rw[List.takeWhile_append_of_pos ha,List.dropWhile_append_of_pos ha,UC];refine⟨?_,?_⟩
  ·show a++List.takeWhile _ (32::(b++_))=a;rw[List.takeWhile_cons_of_neg (by decide),Tw]
  ·show List.dropWhile _ (32::(b++_))=_;rw[List.dropWhile_cons_of_neg (by decide)];rfl
theorem B5:∀{l m:List (List Nat)},l≠[]->m≠[]->(∀w∈l,cm w)->(∀w∈m,cm w)->jn l=jn m->l=m
 | [],m,h,_,_,_,_=>absurd rfl h
 | a::l,[],_,h,_,_,_=>absurd rfl h
 | a::l,b::m,_,_,hl,hm,e=>by
  obtain⟨a1,a2⟩:=FB (l:=l) (hl a SV);obtain⟨b1,b2⟩:=FB (l:=m) (hm b SV);rw[e]at a1 a2;rw[b1]at a1;rw[b2]at a2;subst a1;cases l with
  | nil =>
   cases m with
   | nil=>rfl
   | cons v m=>rw[List.flatMap_nil,UC]at a2;cases a2
  | cons u l =>
   cases m with
   | nil=>rw[List.flatMap_nil,UC]at a2;cases a2
   | cons v m =>
    rw[UC,UC]at a2;have e2:jn (v::m)=jn (u::l):=by
     have:=Ue List.tail a2;exact this
    rw[B5 (by simp) (by simp) (λw hw=>hl w (SR _ hw)) (λw hw=>hm w (SR _ hw)) e2.symm]
theorem vg{ws:List (List Nat)}(h0:ws≠[])(h:∀w∈ws,cm w):Txt.split (sN (jn ws)) (sN [32])=ws.map sN:=by
 have hc:=PyProof.Rows.split_closes (sN (jn ws)) 32;rw[Tj]at hc;obtain⟨h1,h2⟩:=hc;have h1:Str.join (sN [32]) (Txt.split (sN (jn ws)) (sN [32]))=sN (jn ws):=by simpa using h1
 have hl:=(PyProof.Rows.fact_split (sN (jn ws)) (sN [32])).1;generalize hP:Txt.split (sN (jn ws)) (sN [32])=ps at *;obtain⟨qs,rfl⟩:∃qs:List (List Nat),ps=qs.map sN:=⟨ps.map λp=>p.cps.toList,by
  rw[Ug]
  conv=>lhs;rw[<- List.map_id ps]
  exact List.map_congr_left λp _=>pU p⟩
 rw[yk]at h1;have h1:=Bl h1;have hq:∀w∈qs,cm w:=λw hw z=>by
  have:=TJ.mp h2 (sN w) (T0.mpr ⟨w,hw,rfl⟩);rw[PyProof.Rows.countIn_signs_decide,fu,Tv z]at this;cases this
 rw[B5 (λz=>by subst z;simp at hl) h0 hq h h1]
theorem Qn(l:List Nat)(c:Nat):Txt.startswith (sN l) (sN [c])=decide (l.head?=some c):=by
 unfold Txt.startswith Builtin.Str.subAt;rw[aQ,aQ];cases l with
 | nil=>rfl
 | cons a l =>
  have e:((a::l).toArray.extract 0 (0+[c].length)==[c].toArray)=decide (a=c):=by
   rw[List.extract_toArray,Vr];simp
  show(decide (0+[c].length<=(a::l).length)&&((a::l).toArray.extract 0 (0+[c].length)==[c].toArray))=_;rw[e,Tv (by simp),Bool.true_and];simp
theorem RL(l:List Nat):Txt.endswith (sN (l++[47,50])) (sN [47,50])=true:=by rw[<- fR];exact W.KT.ends_app _ _
theorem RM(h:47∉l):Txt.endswith (sN l) (sN [47,50])=false:=by
 cases e:Txt.endswith (sN l) (sN [47,50])with
 | false=>rfl
 | true =>
  exfalso;unfold Txt.endswith Builtin.Str.subAt at e;rw[Tj]at e;have e2:(l.toArray.extract ((sN l).length-(sN [47,50]).length) ((sN l).length-(sN [47,50]).length+(sN [47,50]).length))=[47,50].toArray:=by simpa using e.2
  rw[List.extract_toArray]at e2;have e3:=Ue Array.toList e2;simp only[List.extract_eq_take_drop]at e3;apply h;have m:47∈List.take ((sN l).length-(sN [47,50]).length+(sN [47,50]).length-((sN l).length-(sN [47,50]).length)) (List.drop ((sN l).length-(sN [47,50]).length) l):=by rw[e3];simp
  exact List.mem_of_mem_drop (List.mem_of_mem_take m)
theorem RP(l:List Nat):Txt.slice (sN (l++[47,50])) none (some (-2))=sN l:=by
 have hl:(sN (l++[47,50])).length=l.length+2:=by rw[aQ];simp
 have:=PyProof.Rows.slice_closes_to_neg (x:=sN (l++[47,50])) (j:=-2) (k:=l.length) (by decide) (by rw[hl];omega) (by rw[hl];omega);rw[fu]at this;have:=eq_of_beq this;rw[this];show sN _=sN _;simp
theorem P5(c:Nat)(l:List Nat):Txt.slice (sN (c::l)) (some 1) none=sN l:=by
 have hl:(sN (c::l)).length=l.length+1:=by rw[aQ];simp
 have:=PyProof.Rows.slice_from_eq (x:=sN (c::l)) (i:=1) (b:=l.length+1) (by decide) (by rw[hl];omega) (by rw[hl];omega);rw[fu]at this;rw[this];show sN _=sN _;congr 1;rw[show((l.length:Int)+1-1).toNat=l.length by omega];simp
def RK:Str:=Str.ofString "0123456789"
theorem Nk(h1:48<=c)(h2:c<=57):Txt.contains RK (sN [c])=true:=by
 have:c=48\/c=49\/c=50\/c=51\/c=52\/c=53\/c=54\/c=55\/c=56\/c=57:=by omega
 rcases this with rfl|rfl|rfl|rfl|rfl|rfl|rfl|rfl|rfl|rfl<;>decide +kernel
theorem MY(h:(dg i).length<=640):intText? (sN (dg i))=some i:=by
 unfold dg at h⊢;by_cases hi:i<0
 ·rw[if_pos hi]at h⊢;rw[intText_neg (cs:=dn i.natAbs) (fu _) (i8 _) (zT _) (by rw[aQ];omega),qG];congr 1;omega
 ·rw[if_neg hi]at h⊢;rw[intText_digits (by rw[fu];exact i8 _) (by rw[fu];exact zT _) (by rw[aQ];omega),fu,qG];congr 1;omega
theorem F8(h:∀c∈l,c<128):PyData.strOk (sN l)=true:=by
 unfold PyData.strOk;rw[Array.all_eq_true'];intro c hc;have:=h c (by simpa using hc);exact Tv (by omega)
theorem CP(h:∀c∈l,c<128):((sN l).cps.all λc=>decide (c<128))=true:=by
 rw[Array.all_eq_true'];intro c hc;exact Tv (h c (by simpa using hc))
theorem Bi(l:List Nat):Sp.sgs (sN l)=l.map λc=>D.str (sN [c]):=by unfold Sp.sgs;rw[fu]
theorem jV(x y:Str):gT (.str x) (.str y)=decide (x=y):=by
 show((x==y):Bool)=_;by_cases h:x=y
 ·subst h;simp
 ·rw[Th h];simpa using h
def fM(p:Int):List Nat:=if p.fmod 2=0 then dg (p.fdiv 2)else dg p++[47,50]
theorem uw(p:Int):fN p=sN (fM p):=by
 unfold fN fM;split
 ·exact pQ _
 ·rw[pQ,show Str.ofString "/2" = sN [47,50] by rw[fv];rfl,fR]
theorem Ha(p:Int):∀c∈fM p,45<=c/\c<=57:=by
 intro c hc;unfold fM at hc;split at hc
 ·rcases nI _ c hc with z|z<;>omega
 ·rcases TZ.mp hc with hc|hc
  ·rcases nI _ c hc with z|z<;>omega
  ·simp only[SS,Tg,TC]at hc;omega
theorem k7(p:Int):cm (fM p):=λh=>by have:=Ha p 32 h;omega
def eB(q:Qd):List (List Nat):=[fM q.1,fM q.2.1,fM q.2.2.1,fM q.2.2.2]
theorem uD(q:Qd):fA q=sN (jn (eB q)):=by
 unfold fA;rw[uw,uw,uw,uw,show Str.ofString " " = sN [32] by rw[fv];rfl];exact sh (eB q)
theorem Eo(q:Qd):Txt.split (fA q) (Str.ofString " ")=(eB q).map sN:=by
 rw[uD,show Str.ofString " " = sN [32] by rw[fv];rfl];refine vg (by unfold eB;simp) λw hw=>?_
 simp only[eB,SS,Tg,TC]at hw;rcases hw with rfl|rfl|rfl|rfl<;>exact k7 _
theorem pS(h:i.natAbs<10 ^ 40):(dg i).length<=41:=by
 unfold dg;have:=mX (m:=i.natAbs) (k:=40) (by decide) h;split
 ·rw[S7];omega
 ·omega
theorem cX{p:Int}(h:p.natAbs<10 ^ 40):(fM p).length<=43:=by
 unfold fM;split
 ·have:=pS (i:=p.fdiv 2) (Tu (si p (by decide)) h);omega
 ·rw[S8];have:=pS h;show _+2<=43;omega
theorem MV{b c d:List Nat}(h1:a.length<=43)(h2:b.length<=43)(h3:c.length<=43)(h4:d.length<=43):(jn [a,b,c,d]).length<=200:=by
 show(a++(32::b++(32::c++(32::d++[])))).length<=200;simp only[S8,S7,Vg];omega
theorem GH(l:List Nat):ac (kO [.lst (l.map λ_=>D.bl true)]) (.bl true,0):=by
 have e:∀l:List Nat,bF (l.map λ_=>D.bl true)=some (l.map λ_=>true):=λl=>by
  induction l with
  | nil=>rfl
  | cons b bs ih=>rw[S2,bF,ih];rfl
 have z:(l.map λ_=>true).all id=true:=TJ.mpr λx hx=>by
  obtain⟨_,_,rfl⟩:=T0.mp hx;rfl
 unfold kO;dsimp only;rw[e];have h:ac (Rs.ok (D.bl ((l.map λ_=>true).all id),0) []:R1) (D.bl ((l.map λ_=>true).all id),0):=jM;rw[z]at h;dsimp only;rw[z];exact h
def SK:Stmt->Expr
 | .If (.BoolOp _ (e::_) _) _ _ _=>e
 | _=>.Constant .none 0 ⟨0,0,0,0⟩
def SL:Stmt->Expr
 | .Assign _ e _=>e
 | _=>.Constant .none 0 ⟨0,0,0,0⟩
theorem ib{O:Fx}{sc:Scope}{U:ag}{a:Expr}{m:Str}{ap cp:Pos}{args:List Expr}{it:Bool}{y:Str}{ds:List D}{j:Nat}{M:D->List D->R1}{r:D×Nat}(ha:ac (aB O a false sc U) (.str y,k))(hs:ac (cB O args sc U) (ds,j))(hM:ac (M (.str y) ds) r)(hm:O.mth m=some M:=by rfl)(hp:(ap.endLine==cp.line)=true:=by rfl)(hb:de a=true:=by rfl):ac (aB O (.Call (.Attribute a m ap) args [] cp) it sc U) r:=by
 rw[pj,if_pos hp];refine ha.bnd (hs.bnd ?_);show ac (if de a=true then(match O.mth m with|some M=>M (.str y) ds|none=>.st)else .st) r;rw[if_pos hb,hm];exact hM
theorem nZ(i:Int):(if i<0 then -i else i)=((i.natAbs:Nat):Int):=by split<;>omega
def dU(q:Qd):Prop:=q.1.natAbs<10 ^ 40/\q.2.1.natAbs<10 ^ 40/\q.2.2.1.natAbs<10 ^ 40/\q.2.2.2.natAbs<10 ^ 40
theorem zn{q:Qd}(h:dU q):L9 q:=by
 have:10 ^ 40<2 ^ 1900:=S4 (show 10 ^ 40<2 ^ 200 by decide) (Nat.pow_le_pow_right (by decide) (by decide));exact⟨UN h.1 this,UN h.2.1 this,UN h.2.2.1 this,UN h.2.2.2 this⟩
theorem BQ{n:Nat}(h:n<10 ^ 40):n<2 ^ 1900:=UN h (S4 (show 10 ^ 40<2 ^ 200 by decide) (Nat.pow_le_pow_right (by decide) (by decide)))
theorem uY(i:Int):(dg i).head?=some 45↔i<0:=by
 unfold dg;split
 ·rename_i h;simp[h]
 ·rename_i h;constructor
  ·intro e;exfalso;have hm:45∈dn i.natAbs:=List.mem_of_mem_head? e;have:=i8 _ 45 hm;omega
  ·intro z;exact absurd z h
theorem Hd(i:Int):sN (dg i)≠Str.ofString "-0" := by
 intro e;rw[fv]at e;have e:dg i=[45,48]:=Bl e;have hi:=(uY i).mp (by rw[e];rfl);unfold dg at e;rw[if_pos hi]at e;have e2:dn i.natAbs=[48]:=by injection e
 have:=qG i.natAbs;rw[e2]at this;have z:NumText.digitsVal [48]=0:=rfl;rw[z]at this;omega
theorem KM(i:Int):∀c∈dg i,c<128:=λc hc=>by rcases nI i c hc with z|z<;>omega




end K
namespace Sp
open PySem PySem.Spec PyProof.Rows L2
end Sp
namespace K
open PySem L2 Sp Qm


theorem rF:∀ws:List (List Nat),fq (ws.map λw=>D.str (sN w))=some (ws.map sN)
 | []=>rfl
 | w::ws=>by
  show(fq (ws.map λw=>D.str (sN w))).map (sN w :: ·)=_;rw[rF ws];rfl
theorem A6:∀{ws:List (List Nat)},(∀w∈ws,w.length<=43)->((ws.map sN).map λy=>y.length).sum<=43*ws.length
 | [],_=>Tc _
 | w::ws,h=>by
  have h1:=h w SV;have h2:=A6 (ws:=ws) λv hv=>h v (SR _ hv)
  rw[S2,S2,List.sum_cons,aQ,S7];omega
theorem Dy:Str.ofString " " = sN [32]:=by rw[fv];rfl
theorem B4{ws:List (List Nat)}(hn:ws.length<=100)(h:∀w∈ws,w.length<=43):ac (iP (.str (Str.ofString " ")) [.lst (ws.map λw=>D.str (sN w))]) (.str (sN (jn ws)),0):=by
 have h1:=A6 h;rw[Dy];unfold iP;dsimp only;rw[rF];refine ac.eq ⟨_,rfl,by rw[aQ];decide,by rw[SY];omega,True.intro⟩ ?_;rw[sh]
theorem wa:∀{ws:List (List Nat)},(∀w∈ws,w.length<=43)->(ws.flatMap λp=>32::p).length<=44*ws.length
 | [],_=>Tc _
 | w::ws,h=>by
  have h1:=h w SV;have h2:=wa (ws:=ws) λv hv=>h v (SR _ hv)
  rw[UC,S8,S7,S7];omega
def uZ(n:Int):D:=.str (sN (dg n))
end K
namespace Sp
open PySem PySem.Spec PyProof.Rows L2
variable{P:Program}{w:World}{H H' H0:Hp}{base h:Heap}{C S f x z:Addr}{o:Obj}{X:Cx}{a b fl g n qual:Str}{mc:Value}{p p0 p1 p3 pos:Pos}{es:List Expr}{t:TA}{cd:ClassData}{e:Expr}{te:TE}{k kd:Nat}{cv:Int}{K:W.Frag}{mg:Str->Option Value}{st:Stmt}{fd:FuncData}{dl:List (Addr×Obj)}{Z:L2.St}{s:Shared}{ps:List Str}{Q:Value->Shared->Prop}{sp:L2.Sp}{E:XK}{ow:Ow}{U:ag}{O:Fx}{sc:Scope}{fs:List (Str×Fv)}{G:List D->Option Xs}{ds:List D}{Ψ:Str->Option (List D->Option Xs)}{Ex:Str->Option (Str×Option Str)}{r:Xs}
abbrev i7(x:Addr)(o:Obj):HO:=.ext (λh=>h.get? x=some o)
theorem wc(e:h.get? x=some o):bz P w H h x (i7 x o):=⟨e,⟨o,e⟩,λh1 h2 a b=>b _ a⟩
theorem we(e:bz P w H h x (i7 x o)):h.get? x=some o:=e.1
theorem DP{apos:Pos}{e1:Expr}(hg:Gl X b)(hm:X.mg b=some (.ref S))(hga:W.specialIn X.K (.ref S) "__getattribute__" = some (some (.builtin "type.__getattribute__")))
  (hrd:W.readsIn X.K S mc=true) (hfc:W.findCls X.K (.ref S) mc "__init__" = some (.val (.builtin "ValueError.__init__"))) (hex:kM X.K C S=true) (ha:PA X (e1::es) t)
  (hst:starEach (e1::es) X.env=(false,eval e1 X.env)::starEach es X.env) (hpl:(backTo pos (starEach es X.env)).any (·.1)=false) (hdb:(b==("__debug__" : Str))=false)
  (ht:eval (.Call (.Attribute (.Name b p) "__init__" apos) (e1::es) [] pos) X.env=(do
   let ov <- eval (.Name b p) X.env
   standAt apos.atName
   let (f,first) <- holding [ov] (getMethod ov "__init__" (do return (<- importBound (.Name b p) X.env).getD true))
   callWith pos f first (backTo pos (starEach (e1::es) X.env)) (backToKw pos (keywordEach [] X.env)))) :
  PE X (.Call (.Attribute (.Name b p) "__init__" apos) (e1::es) [] pos) (λZ H Q=>t Z H λvs H1 => ∃x y o vv t0,vs=[.ref x,y]/\H1 x=some (i7 x o)/\o.cls=.ref C/\o.data=.fields vv/\vv[0]?=some (.ref t0)/\∀t1,Q .non (aA H1 x (i7 x { o with data:=.fields (vv.setIfInBounds 0 (.ref t1)) }))):=by
 intro dl s Z H Q I h;obtain⟨nm,qn,N,bs,hdct,sn,sub,ab,col,dd,k0,k1,k2,k3,k5,mN,g1,g2,g3,g4⟩:=gK hex I.ok.mod.kin;refine Vc (pl:=(do return (<- importBound (.Name b p) X.env).getD true)) (dP I hg hm ?_ hdb) ht;refine W.method_cls I.kIn hga (W.cls_value I.kIn hrd hfc rfl ?_);have I':=I.tok (s.toks+1);refine PyProof.Rows.callWith_builtin1 (aG (ha pos dl _ Z H _ I' h) λus s2 ⟨vs,H2,I2,r,q2⟩=>?_) hst hpl;obtain⟨x,y,o,vv,t0,rfl,hx,hc,hd,h0,q⟩:=q2;have e0:=we (I2.hok x _ hx);cases r with
 | cons r1 r =>
  cases r with
  | cons r2 r =>
   cases r;cases r1;refine Af PySem.F.excBase_ValueError ((OwnTailQ.tail g4).keeps I2.bk) (Code.quiet_builtin _ (by decide +kernel)) (I2.bk _ _ g1) e0 hc hd h0 (λh' w1 w2=>?_);exact⟨.non,_,I2.write (x:=x) (e:=x) (by rw[hx];exact True.intro) (.inl rfl) w1 ⟨_,w2⟩ (wc w2),rfl,q _⟩
theorem Ir{o value:Expr}{ta tv:TE}{f:Str}{pos':Pos}(hcd:W.clsIn X.K C=some cd)(hmro:cd.mro=.ref C :: .ref S::gU)(hdd:cd.hasDict=true)(hsa:W.findIn X.K (.ref C) "__setattr__" = some (some (.builtin "object.__setattr__")))(hff:W.findIn X.K (.ref C) f=some none)
  (ha:PE X o ta) (hv:PE X value tv) (hs:swapsWith value (some (.Attribute o f pos')) pos.line X.env=pure false):PS X (.Assign [.Attribute o f pos'] value pos) (λD Z H=>tv Z H λy H1=>ta Z H1 λx H2 => ∃a ob vv,x=.ref a/\H2 a=some (i7 a ob)/\ob.cls=.ref C/\ob.data=.fields vv/\ob.dict=none/\∀dx,H2 dx=none->D.nx Z (aA (aA H2 a (i7 a { ob with dict:=some dx })) dx (.xd [(f,y)]))):=by
 intro dl s Z H D I h;refine plainObj_wpAny_Assign_Attribute (aG (hv dl s Z H _ I h) λu s1 ⟨y,H1,I1,ry,q⟩=>aG (ha dl s1 Z H1 _ I1 q) λov s2 ⟨x,H2,I2,rx,a,ob,vv,ex,ea,c1,c2,c3,q2⟩=>?_) hs;subst ex;obtain rfl:ov=Value.ref a:=rx;have e0:=we (I2.hok a _ ea);refine JE I2.kIn e0 c1 c2 c3 hcd hmro hdd hsa hff (λh' dx w1 w2 w3 w4=>?_);have n1:H2 dx=none:=I2.hok.fresh w1;have hne:a≠dx:=λz=>by subst z;rw[n1]at ea;cases ea
 have up:(s2.heap.update a λ_ => { ob with dict:=some dx }).get? a=some { ob with dict:=some dx }:=Uf _ e0 (by show Obj.isFreed _=false;unfold Obj.isFreed;rw[c2]);have J1:aj X dl Z (aA H2 a (i7 a { ob with dict:=some dx })) { s2 with heap:=s2.heap.update a λ_ => { ob with dict:=some dx },toks:=s2.toks }:=I2.write (x:=a) (e:=a) (by rw[ea];exact True.intro) (.inl rfl) (λb u hb e=>(Te _ _ hb.symm).trans e) ⟨_,up⟩ (wc up);have J2:=J1.laid (a:=dx) (o:=.xd [(f,y)]) (h':=h') (t':=s2.toks+2) (λb u e=>by
  by_cases hb:b=a
  ·subst hb;have:some { ob with dict:=some dx }=some u:=up.symm.trans e;rw[w3,this]
  ·exact w2 b u hb ((Te _ _ (Ub hb)).symm.trans e)) (by show(s2.heap.update a _).objs.size<=dx;rw[Heap.size_update];exact w1) ⟨_,w4,λg=>by
   by_cases hg:g=f
   ·subst hg;simp[S9];exact ry
   ·rw[if_neg hg,S9,show(g==f)=false from by simpa using hg];exact True.intro⟩
 exact⟨Z,_,J2,q2 dx n1⟩
theorem LW(he:PE X e te)(ha:a.length<=200)(hfl:fl ≠ "name"):PE X (.JoinedStr [.Constant (.str a) kd p0,.FormattedValue e (-1) none p1] p3) (λZ H Q=>te Z H λv H1 => ∃i:Fv,v=fw i/\sO fl i/\∀y,Q (.str y) H1):=by
 intro dl s Z H Q I h;have hz:(2200:Nat)<=sizeLine:=by rw[TW];decide
 refine wpAny_JoinedStr ?_;show wpAny _ _ (eval (.Constant (.str a) kd p0) X.env) (λv s₁ => ∃y t',v=Value.str y t'/\(Str.empty++y).length<=sizeLine/\wpAny _ _ (eval (.FormattedValue e (-1) none p1) X.env) (λv s₂ => ∃z t'',v=Value.str z t''/\(Str.empty++y++z).length<=sizeLine/\_) _ s₁) _ s;refine wpAny_Constant_str ⟨_,_,rfl,?_,?_⟩
 ·rw[Uo];omega
 refine wpAny_FormattedValue_plain ?_;refine aG (he dl _ Z H _ (I.tok _) h) λu s1 ⟨v,H1,I1,r1,i,e1,hi,q⟩=>?_
 cases i with
 | inr s'=>exact absurd hi.1 hfl
 | inl i =>
 replace hi:=hi.2;subst e1;obtain⟨tk,rfl⟩:=r1;have hl:i.natAbs.log2<1920:=by
  rcases UJ i.natAbs with z|z
  ·rw[z];decide
  ·exact S4 ((VA (TR z)).mpr hi) (by decide)
 have tl:=int_text_len_1921 hl;refine wpAny_formatField_int hl ⟨_,_,rfl,?_,?_⟩
 ·rw[Uo,UQ];omega
 ·refine⟨?_,.str _,H1,(I1.tok _).tok _,⟨_,rfl⟩,q _⟩;rw[Uo,UQ];omega
theorem LV(he:PE X e te)(ha:a.length<=200)(hfl:fl = "name"):PE X (.JoinedStr [.Constant (.str a) kd p0,.FormattedValue e 114 none p1] p3) (λZ H Q=>te Z H λv H1 => ∃i:Fv,v=fw i/\sO fl i/\∀y,Q (.str y) H1):=by
 intro dl s Z H Q I h;have hz:(2200:Nat)<=sizeLine:=by rw[TW];decide
 refine wpAny_JoinedStr ?_;show wpAny _ _ (eval (.Constant (.str a) kd p0) X.env) (λv s₁ => ∃y t',v=Value.str y t'/\(Str.empty++y).length<=sizeLine/\wpAny _ _ (eval (.FormattedValue e 114 none p1) X.env) (λv s₂ => ∃z t'',v=Value.str z t''/\(Str.empty++y++z).length<=sizeLine/\_) _ s₁) _ s;refine wpAny_Constant_str ⟨_,_,rfl,?_,?_⟩
 ·rw[Uo];omega
 rw[arm_eval_FormattedValue];refine SO (aG (he dl _ Z H _ (I.tok _) h) λu s1 ⟨v,H1,I1,r1,i,e1,hi,q⟩=>?_);cases i with
 | inl i=>exact absurd hfl hi.1
 | inr x =>
 replace hi:=hi.2;subst e1;obtain⟨tk,rfl⟩:=r1;have hx':(reprText x).length<=sizeLine:=by omega
 refine SO (UG ?_);refine SO (TB ?_);show wpAny _ _ (pyReprObj (Value.str x tk)) _ _ _;refine wpAny_pyReprObj_str ?_ hx';show wpAny _ _ (formatField (Value.str (reprText x) s1.toks) Str.empty) _ _ _;refine PyProof.Rows.formatField_str (λt' tk'=>⟨_,_,rfl,?_,?_⟩) hx'
 ·rw[Uo,UQ];omega
 ·refine⟨?_,.str _,H1,(I1.tok _).tok _,⟨_,rfl⟩,q _⟩;rw[Uo,UQ];omega
theorem LU(he:PE X e te)(ha:a.length<=200)(hcv:cv = -1/\fl ≠ "name" \/ cv=114/\fl = "name"):PE X (.JoinedStr [.Constant (.str a) kd p0,.FormattedValue e cv none p1] p3) (λZ H Q=>te Z H λv H1 => ∃i:Fv,v=fw i/\sO fl i/\∀y,Q (.str y) H1):=by
 rcases hcv with⟨rfl,h⟩|⟨rfl,h⟩
 ·exact LW he ha h
 ·exact LV he ha h
noncomputable def vh(C:Addr)(f:Str):Sp:=λvs H Q _ => ∃x i o vv t0,vs=[.ref x,fw i]/\sO f i/\H x=some (i7 x o)/\o.cls=.ref C/\o.data=.fields vv/\o.dict=none/\vv[0]?=some (.ref t0) /\
 ∀t1 dx,H dx=none->Q .non (aA (aA H x (i7 x ⟨o.cls,some dx,.fields (vv.setIfInBounds 0 (.ref t1)),o.slots⟩)) dx (.xd [(f,fw i)]))
theorem C7{S0:Addr}(Fn:fY K g qual st f fd){s0 a1:Str}{p2 p5 p6 p7 p8 p9 p10 q1 q2 q3 q4:Pos}
  (hN:aE (aa st)=[s0,a1]) (S:bG (aE (aa st)) [s0,a1] (aa st)) (hv:∀x∈[s0,a1],me (aa st) x) (hok:∀x∈[s0,a1],l9 x=true)
  (hgb:(aa st).names.lookup b=some .globalImplicit) (hm:mg b=some (.ref S0)) (hga:W.specialIn K (.ref S0) "__getattribute__" = some (some (.builtin "type.__getattribute__"))) (hrd:W.readsIn K S0 mc=true) (hfc:W.findCls K (.ref S0) mc "__init__" = some (.val (.builtin "ValueError.__init__"))) (hex:kM K C S0=true)
  (hcd:W.clsIn K C=some cd) (hmro:cd.mro=.ref C :: .ref S0::gU) (hdd:cd.hasDict=true) (hsa:W.findIn K (.ref C) "__setattr__" = some (some (.builtin "object.__setattr__"))) (hff:W.findIn K (.ref C) fl=some none)
  (hb:af st=[.Expr (.Call (.Attribute (.Name b p1) "__init__" p2) [.Name s0 p3,.JoinedStr [.Constant (.str a) kd p5,.FormattedValue (.Name a1 p6) cv none p7] p8] [] p9) p10,.Assign [.Attribute (.Name s0 q1) fl q2] (.Name a1 q3) q4]) (ha:a.length<=200) (hln:(p2.endLine==p9.line)=true) (hdb:(b==("__debug__" : Str))=false) (hcv:cv = -1/\fl ≠ "name" \/ cv=114/\fl = "name") :
  bj P w K mg base cE 1 f fd [s0,a1] (vh C fl):=by
 refine Fn.ok (k:=0) S (λvs H Q E h=>?_) (λcdv A outer s H vs Q E hr h=>?_)
 ·obtain⟨x,i,o,vv,t0,rfl,_⟩:=h;rfl
 ·obtain⟨x,i,o,vv,t0,rfl,hi,hx,hc,hd,hdi,h0,q⟩:=h;have nm:∀(i:Nat) (x:Str) (p:Pos),[s0,a1][i]?=some x->PE (fV cE P w K mg base (aE (aa st)) qual (aa st) f cdv A outer s H E).nox (.Name x p) (vb i):=λi x p hi =>
   mI (by show(aE (aa st))[i]?=some x;rw[hN];exact hi) (hv x (Ux hi)) (hV (hok x (Ux hi))).1 (hV (hok x (Ux hi))).2
  have ns:∀e∈[Expr.Name s0 p3,.JoinedStr [.Constant (.str a) kd p5,.FormattedValue (.Name a1 p6) cv none p7] p8],∀y p,e≠Expr.Starred y p:=λe he=>by
   simp only[SS,Tg,TC]at he;rcases he with rfl|rfl<;>(intro y p z;cases z)
  rw[hb];refine⟨_,ef (ll (DP (C:=C) hgb hm hga hrd hfc hex (fZ (nm 0 s0 p3 rfl) (fZ (LU (fl:=fl) (nm 1 a1 p6 rfl) ha hcv) mK (ax λ_ _ z=>by cases z)) (ax λ_ _ z=>by cases z)) (ax λ_ _ z=>by cases z) (bE λe he=>ns e (SR _ he)) hdb (qt (cj rfl) (eN ns (SW rfl)) hln)) rfl) (nK (Ir hcd hmro hdd hsa hff (nm 0 s0 q1 rfl) (nm 1 a1 q3 rfl) rfl)),?_⟩;rw[hN];refine⟨.ref x,rfl,fw i,rfl,i,rfl,hi,λy=>⟨x,.str y,o,vv,t0,rfl,hx,hc,hd,h0,λt1=>?_⟩⟩;refine⟨fw i,rfl,.ref x,rfl,x,_,_,rfl,aw,hc,rfl,hdi,λdx hdx=>?_⟩;rw[iw];have hne:dx≠x:=λz=>by subst z;rw[aw]at hdx;cases hdx
  exact q t1 dx (by rw[aq hne]at hdx;exact hdx)
def hide(H:Hp)(z:Addr):Hp:=λa=>if a=z then none else H a
theorem Un.hide{fs ex:List Addr}{h1 h2:Heap}{o:HO}(u:Un fs ex (aA H z o) H' h1 h2)(k:∀b q,h.get? b=some q->h1.get? b=some q)(hz:h.get? z=none)(nz:H z=none):Un fs ex H (Sp.hide H' z) h h2:=by
 have ne:∀b q,h.get? b=some q->b≠z:=λb q e y=>by subst y;rw[hz]at e;cases e
 have up:∀b q,h.get? b=some q->H b=none->aA H z o b=none:=λb q e n=>(aq (ne b q e)).trans n
 have nt:∀b q,H b=some q->b≠z:=λb q e y=>by subst y;rw[nz]at e;cases e
 refine⟨λb q e n hf hx=>u.keep b q (k b q e) (up b q e n) hf hx,λb q e n hf hx=>u.slot b q (k b q e) (up b q e n) hf hx,λb q e n hx=>?_,λb q e hx=>u.there b q (k b q e) hx,λb xs e=>?_,λb q v e=>?_,λb ps e=>?_⟩
 ·show(if b=z then none else H' b)=none;rw[if_neg (ne b q e)];exact u.free b q (k b q e) (up b q e n) hx
 ·show(if b=z then none else H' b)=_;rw[if_neg (nt b _ e)];exact u.tups b xs ((aq (nt b _ e)).trans e)
 ·show(if b=z then none else H' b)=_;rw[if_neg (nt b _ e)];exact u.frzs b q v ((aq (nt b _ e)).trans e)
 ·show ∃more,(if b=z then none else H' b)=_;rw[if_neg (nt b _ e)];exact u.tbls b ps ((aq (nt b _ e)).trans e)
theorem df.hide{φ:Heap->Prop}(ok:df P w H h)(hz:H z=some (.ext φ)):df P w (Sp.hide H z) h:=λb o e=>by
 have hb:b≠z:=λy=>by subst y;unfold Sp.hide at e;rw[if_pos rfl]at e;cases e
 have e':H b=some o:=by unfold Sp.hide at e;rw[if_neg hb]at e;exact e
 have st:∀a q,H a=some q->(∀φ,q ≠ .ext φ)->Sp.hide H z a=some q:=λa q ea hq=>by
  unfold Sp.hide;rw[if_neg (λy=>by subst y;rw[hz]at ea;cases ea;exact hq _ rfl)];exact ea
 exact(ok b o e').stay (λc v _ q=>q) (λx q=>st _ _ q (λ_ y=>by cases y)) (λa xs q=>st _ _ q (λ_ y=>by cases y))
theorem Bp{x f:Str}{fI:Addr}{oI:Obj}{np cpos:Pos}{Q:Flow->Shared->Prop}(I:aj X dl Z H s)(hc:X.calm=true)(hg:Gl X x)(hm:X.mg x=some (.ref C))(hx:iq X.K C S)(hin:gE X.K C=some (.ref fI))
  (hfo:X.K.lookup fI=some oI) (hfc:oI.cls=.type "function") (hkC:W.keepIn X.K (.ref C)=true) (F:bj X.prog X.w X.K X.mg X.base cE k fI fd ps (vh C f)) (hr:bJ (k+1) X.A) (hb:bu X.K fd ps []) (hdb:(x==("__debug__" : Str))=false)
  (ha:PA X [e] t) (he:starEach [e] X.env=(false,eval e X.env)::starEach [] X.env)
  (h:t Z H λvs H1 => ∃i:Fv,vs=[fw i]/\sO f i/\∀s1 z dx o vv a0,aj X dl Z (aA H1 dx (.xd [(f,fw i)])) s1->H1 dx=none->s1.heap.get? z=some o->o.cls=.ref C->o.dict=some dx->o.data=.fields vv->1<vv.size->vv[0]?=some a0->vv[1]?=some .none->(aA H1 dx (.xd [(f,fw i)])) z=none->X.s₀.heap.get? z=none->X.xe (.ref z) s1) :
  wpAny (model X.prog X.w) X.A (exec (.Raise (some (.Call (.Name x np) [e] [] cpos)) none pos) X.env) Q X.xe s:=by
 obtain⟨nm,qn,N,bs,hdct,sn,sub,ab,col,dd,k0,k1,k2,k3,k5,mN,g1,g2,g3,g4⟩:=gK hx.ex I.ok.mod.kin;rw[arm_exec_Raise];refine SO (UG ?_);refine ze (x:=(do let v <- eval (.Call (.Name x np) [e] [] cpos) X.env;standAt pos;pure v)) (C:=C) (nm:=nm) (q:=qn) (N:=N) (bs:=bs) (bm:=.ref S::gU) (hdct:=hdct) (sn:=sn) (sub:=sub) (ab:=ab) (col:=col) (dd:=dd) (k0:=k0) (k1:=k1) (k2:=k2) (k3:=k3) (k5:=k5) (newId := "ValueError.__new__") (CM S) (I.ok.hd hc) ?_;refine SO (wpAny_Call_ofName (dP I hg hm ?_ hdb));refine UM (h₀:=X.base) I.ok.mod.kin hkC (aG (ha cpos dl s Z H _ I h) λus s1 ⟨vs,H1,I1,r,i,ev,hi,q⟩=>⟨I1.kIn,?_⟩) he rfl;subst ev;cases r with
 | cons r1 r =>
 rename_i u0 us0 x0;cases r;obtain⟨hh,gg,d0,tt,oo⟩:=s1;have gN:hh.Ns N mN:=by obtain⟨o,es,ep,e1,e2⟩:=g2;exact⟨o,es,ep,I1.bk _ _ e1,e2⟩
 refine Ae PySem.F.excBase_ValueError ((OwnTailQ.tail g4).keeps I1.bk) (I1.bk _ _ g1) gN (g3.trans hin) (I1.kIn _ _ hfo) hfc (λh' z hz m=>?_) (by rw[TW];exact SW rfl);obtain⟨t0,w1,w2,w3⟩:=m.there;have n1:H1 z=none:=I1.hok.fresh hz;have I2:aj X dl Z (aA H1 z (i7 z _)) ⟨h',gg,d0,tt,oo⟩:=I1.laid (a:=z) (h':=h') (t':=tt) m.keeps hz (wc w1);have hsp:vh C f [.ref z,fw i] (aA H1 z (i7 z { cls:=.ref C,data:=.fields #[.ref t0,.none,.none,.none,.bool false,.none] })) (λv H'=>v=.non/\∃t1 dx,(aA H1 z (i7 z { cls:=.ref C,data:=.fields #[.ref t0,.none,.none,.none,.bool false,.none] })) dx=none/\H'=aA (aA (aA H1 z (i7 z { cls:=.ref C,data:=.fields #[.ref t0,.none,.none,.none,.bool false,.none] })) z (i7 z ⟨.ref C,some dx,.fields (#[.ref t0,.none,.none,.none,.bool false,.none].setIfInBounds 0 (.ref t1)),#[]⟩)) dx (.xd [(f,fw i)])) (λ_ _ _=>False) :=
  ⟨z,i,_,_,t0,rfl,hi,aw,rfl,rfl,rfl,rfl,λt1 dx hdx=>⟨rfl,t1,dx,hdx,rfl⟩⟩
 have r2:aP [.ref z,fw i] [.ref z,u0]:=.cons rfl (.cons r1 .nil);have hl:([Value.ref z,u0]++[]).length=ps.length:=F.len _ _ _ _ hsp;refine UL (UV (F.run (X.A.under (.builtin "type.__call__" ⟨.ref C::([]++[u0]),[]⟩)) X.stack ⟨h',gg,d0,tt,oo⟩ _ ⟨[.ref z,u0],[]⟩ [.ref z,u0] [.ref z,fw i] _ _ (hr.make C _ []) (I2.env0.make C _ []) (by have:=hb ⟨h',gg,d0,tt,oo⟩ [.ref z,u0] I2.kIn hl;rw[Tw]at this;exact this) r2 hsp) λr s' hq=>?_);cases r with
 | error e=>exact iO dl Z _ _ e s' I2 hq
 | ok fl =>
  cases fl with
  | next=>exact False.elim hq
  | brk=>exact False.elim hq
  | cont=>exact False.elim hq
  | ret u =>
   obtain⟨v,H',os',bare,un,hok,ru,rfl,t1,dx,hdx,rfl⟩:=hq;have hne:dx≠z:=λy=>by subst y;rw[aw]at hdx;cases hdx
   rw[aq hne]at hdx;rw[iw]at un hok;have hzn:hh.get? z=none:=UK hz;have un2:=Un.hide un m.keeps hzn n1;have ez:(aA (aA H1 z (i7 z ⟨.ref C,some dx,.fields (#[.ref t0,.none,.none,.none,.bool false,.none].setIfInBounds 0 (.ref t1)),#[]⟩)) dx (.xd [(f,fw i)])) z=some (i7 z ⟨.ref C,some dx,.fields (#[.ref t0,.none,.none,.none,.bool false,.none].setIfInBounds 0 (.ref t1)),#[]⟩):=by rw[aq hne.symm];exact aw
   have hok2:=df.hide hok ez;have oz:=we (hok z _ ez);have eH:Sp.hide (aA (aA H1 z (i7 z ⟨.ref C,some dx,.fields (#[.ref t0,.none,.none,.none,.bool false,.none].setIfInBounds 0 (.ref t1)),#[]⟩)) dx (.xd [(f,fw i)])) z=aA H1 dx (.xd [(f,fw i)]):=by
    funext a;unfold Sp.hide;by_cases ha:a=z
    ·subst ha;rw[if_pos rfl,aq hne.symm,n1]
    ·rw[if_neg ha];by_cases hb:a=dx
     ·subst hb;rw[aw,aw]
     ·rw[aq hb,aq hb,aq ha]
   rw[eH]at un2 hok2;obtain⟨hh',g',d',t',o'⟩:=s';obtain rfl:o'=oo:=os';have I3:=I1.call (h':=hh') (g':=g') (d':=d') (t':=t') (ch:=[]) un2 hok2 bare (λb z=>absurd z (by simp));have ru:u=Value.none:=ru;refine⟨ru,SO (UG (SU ⟨z,_,_,rfl,I3.bk _ _ g1,oz,rfl,rfl,by simp,q _ z dx _ _ _ I3 hdx oz rfl rfl rfl (by simp) (by simp;rfl) (by simp) (by rw[aq hne.symm];exact n1) (UK (SZ I1.sz hz))⟩))⟩
theorem _root_.L2.PA.nox(h:PA X.nox es t):PA X es t:=λpos dl s Z H Q I hw =>
 Tn (h pos dl s Z H Q (I.wish _) hw) (λ_ _ ⟨v,H',I',r,q⟩=>⟨v,H',I'.unwish,r,q⟩) λ_ _ z=>False.elim z
theorem _root_.L2.PS.nox{t:TS}(h:PS X.nox st t):PS X st t:=λdl s Z H D I hw =>
 Tn (h dl s Z H D (I.wish _) hw) (λ_ _ q=>q.unwish) λ_ _ z=>False.elim z
theorem J9{x:Str}(F:bj X.prog X.w X.K X.mg X.base (dC X.prog X.w) k f fd ps sp)(hr:bJ k X.A)(hg:Gl X x)(hm:X.mg x=some (.ref f))(hk:W.keepIn X.K (.ref f)=true)(hb:bu X.K fd ps [])
  (I:aj X dl Z H s) (hx:∀H1 s1 e s',aj X dl Z H1 s1->dC X.prog X.w X.stack H1 s1 E e s'->X.xe e s')
  (ha:PA X (e::es) t) (hdb:(x==("__debug__" : Str))=false) (he:starEach (e::es) X.env=(false,eval e X.env)::starEach es X.env) (hpl:(backTo pos (starEach es X.env)).any (·.1)=false)
  (h:t Z H λvs H1=>sp vs H1 (λ_ _=>False) E):wpAny (model X.prog X.w) X.A (eval (.Call (.Name x p) (e::es) [] pos) X.env) Q X.xe s:=by
 refine Uh (dP I hg hm ?_ hdb);refine UM (h₀:=X.base) I.ok.mod.kin hk (aG (ha pos dl s Z H _ I h) λus s1 ⟨vs,H1,I1,r,q⟩=>⟨I1.kIn,?_⟩) he hpl;have hl:us.length=ps.length:=by rw[<- r.length];exact F.len _ _ _ _ q
 refine UL (UV (F.run X.A X.stack s1 H1 ⟨us,[]⟩ us vs _ E hr I1.env0 (by have:=hb s1 us I1.kIn (by rw[Tw];exact hl);rw[Tw]at this;exact this) r q) λr s' hq=>?_);cases r with
 | error e=>exact hx H1 s1 e s' I1 hq
 | ok fl =>
  cases fl with
  | ret u=>obtain⟨_,_,_,_,_,_,_,z⟩:=hq;exact z.elim
  | next=>exact False.elim hq
  | brk=>exact False.elim hq
  | cont=>exact False.elim hq
theorem Jd{x:Str}(M:Mk X.K C f)(F:bj X.prog X.w X.K X.mg X.base (dC X.prog X.w) k f fd ps sp)(hr:bJ (k+1) X.A)(hg:Gl X x)(hm:X.mg x=some (.ref C))(hb:bu X.K fd ps [])
  (I:aj X dl Z H s) (hx:∀H1 s1 e s',aj X dl Z H1 s1->dC X.prog X.w X.stack H1 s1 E e s'->X.xe e s')
  (ha:PA X (e::es) t) (hdb:(x==("__debug__" : Str))=false) (he:starEach (e::es) X.env=(false,eval e X.env)::starEach es X.env) (hpl:(backTo pos (starEach es X.env)).any (·.1)=false)
  (h:t Z H λvs H1 => ∀x dx,H1 x=none->H1 dx=none->dx≠x->sp (.ref x::vs) (aA (aA H1 dx (.own x)) x (.ins C dx [])) (λ_ _=>False) E):wpAny (model X.prog X.w) X.A (eval (.Call (.Name x p) (e::es) [] pos) X.env) Q X.xe s:=by
 refine Uh (dP I hg hm ?_ hdb);refine UM (h₀:=X.base) I.ok.mod.kin M.kp (aG (ha pos dl s Z H _ I h) λus s1 ⟨vs,H1,I1,r,q⟩=>⟨I1.kIn,?_⟩) he hpl;have hq:=q (s1.heap.objs.size+1) s1.heap.objs.size (I1.hok.fresh (TM _)) (I1.hok.fresh (SX _)) (Ts (Tx _));have I2:=aj.made (C:=C) I1;have r2:aP (V.ref (s1.heap.objs.size+1)::vs) (Value.ref (s1.heap.objs.size+1)::us):=.cons rfl r;have hl:(Value.ref (s1.heap.objs.size+1)::us++[]).length=ps.length:=by
  have e:=r2.length;rw[F.len _ _ _ _ hq]at e;rw[Tw];exact e.symm
 refine UL (vS (f:=f) I1.kIn M.makes M.init (Vw.mp M.fn) (UV (F.run _ X.stack _ _ ⟨Value.ref (s1.heap.objs.size+1)::us,[]⟩ (Value.ref (s1.heap.objs.size+1)::us) _ _ E (hr.make C us [])
  (I2.env0.make C us []) (by have:=hb _ (Value.ref (s1.heap.objs.size+1)::us) I2.kIn hl;rw[Tw]at this;exact this) r2 hq) λr s' hq'=>?_))
 cases r with
 | error e=>exact hx _ _ e s' I2 hq'
 | ok fl =>
  cases fl with
  | ret u=>obtain⟨_,_,_,_,_,_,_,z⟩:=hq';exact z.elim
  | next=>exact False.elim hq'
  | brk=>exact False.elim hq'
  | cont=>exact False.elim hq'
noncomputable def pX(K:W.Frag)(G:List D->Option Xs):L2.Sp:=λvs H _ E => ∃ds n p fs C S,ah K H (λ_ _=>True) ds vs/\G ds=some (n,p,fs)/\W.nsIn K mainGlobals n=some (some (.ref C))/\W.nsIn K mainGlobals p=some (some (.ref S))/\iq K C S/\∀od H',ar H H'->oH H' od fs->E (.ref C) od H'
def ug(H0:Hp)(C:Addr)(fs:List (Str×Fv)):XK:=λc od H'=>c=.ref C/\ar H0 H'/\oH H' od fs
def Li(g:Str)(G:List D->Option Xs):List D->Option Xs:=λds=>match ds with
 | .obj n [] []::l=>if n=g then G l else none
 | _=>none
noncomputable def R8(X:Cx)(g:Str)(G:List D->Option Xs):Prop:=∃k f fd ps,bj X.prog X.w X.K X.mg X.base (dC X.prog X.w) k f fd ps (pX X.K G)/\bJ k X.A/\X.mg g=some (.ref f)/\W.keepIn X.K (.ref f)=true/\bu X.K fd ps []/\(g==("__debug__" : Str))=false
noncomputable def R3(X:Cx)(g:Str)(G:List D->Option Xs):Prop:=∃k C f fd ps,Mk X.K C f/\bj X.prog X.w X.K X.mg X.base (dC X.prog X.w) k f fd ps (pX X.K (Li g G))/\bJ (k+1) X.A/\X.mg g=some (.ref C)/\W.nsIn X.K mainGlobals g=some (some (.ref C))/\eY X.K C/\bu X.K fd ps []/\(g==("__debug__" : Str))=false
def wZ(X:Cx)(g:Str)(G:List D->Option Xs):Prop:=R8 X g G\/R3 X g G
inductive Rz(O:Fx)(Ψ:Str->Option (List D->Option Xs))(Ex:Str->Option (Str×Option Str))(sc:Scope):List Stmt->ag->Xs->Prop where
 | raise {e:Expr} {d:D} {k:Nat} {x p:Str} {np cpos pos:Pos} {ss:List Stmt} {U:ag} (he:ac (aB O e false sc U) (d,k)) (hx:sc.names.lookup x=some .globalImplicit) (hd:(x==("__debug__" : Str))=false) (hp:Ex x=some (p,none)):Rz O Ψ Ex sc (.Raise (some (.Call (.Name x np) [e] [] cpos)) none pos::ss) U (x,p,[])
 | raiseF {e:Expr} {i:Fv} {k:Nat} {x p f:Str} {np cpos pos:Pos} {ss:List Stmt} {U:ag} (he:ac (aB O e false sc U) (oG i,k)) (hi:sO f i) (hx:sc.names.lookup x=some .globalImplicit) (hd:(x==("__debug__" : Str))=false) (hp:Ex x=some (p,some f)):Rz O Ψ Ex sc (.Raise (some (.Call (.Name x np) [e] [] cpos)) none pos::ss) U (x,p,[(f,i)])
 | iff {c:Expr} {a b ss:List Stmt} {t:Bool} {k:Nat} {pos:Pos} {U:ag} {r:Xs} (hc:ac (aB O c false sc U) (.bl t,k)) (h:Rz O Ψ Ex sc (cond t a b) U r):Rz O Ψ Ex sc (.If c a b pos::ss) U r
 | step {s:Stmt} {ss:List Stmt} {U U':ag} {r:Xs} (hs:ac (jU O s sc U) (.nx U')) (h:Rz O Ψ Ex sc ss U' r):Rz O Ψ Ex sc (s::ss) U r
def A0(X:Cx)(H0:Hp)(U:ag):TS:=λ_ Z H => ∃ow,aD X.nox ow H Z U/\Z.length=X.N.length/\bP H0 ow H
theorem bP.same(b:bP H0 ow H)(s:ar H H'):bP H0 ow H':=b.keep (aV.same s)
theorem lg{ss:List Stmt}(h:PS X st (A0 X H0 U)):fD X (st::ss) (A0 X H0 U):=λdl s Z H D I q=>ef h eZ dl s Z H D I q
theorem Ig{p:Str}{f:Str}{fp q:Pos}
  (Gd:aJ O X.nox sc) (GR:wZ X f G) (hcn:W.nsIn X.K mainGlobals n=some (some (.ref C))) (hcp:W.nsIn X.K mainGlobals p=some (some (.ref S))) (hex:iq X.K C S)
  (ha:ac (cB O (e::es) sc U) (ds,k)) (hf:sc.names.lookup f=some .globalImplicit) (h:G ds=some (n,p,fs)) (I:aj X dl Z H s) (E:aD X.nox ow H Z U) (B:ar H0 H)
  (hx:∀H1 s1 e s',aj X dl Z H1 s1->dC X.prog X.w X.stack H1 s1 (ug H0 C fs) e s'->X.xe e s'):wpAny (model X.prog X.w) X.A (eval (.Call (.Name f fp) (e::es) [] q) X.env) Q X.xe s:=by
 rcases GR with GR|GR
 ·obtain⟨k',fa,fd,ps,F,hr,hm,hk,hb,hdb⟩:=GR;obtain⟨l,ha,hp⟩:=ha;obtain⟨hst,_⟩:=cU ha hp;have ad:=lv (e::es) ha hp Gd;refine J9 F hr (Gd.gl f hf) hm hk hb I hx (ad ow).nox hdb (ax (hst e SV)) (bE λx hx=>hst x (SR _ hx)) ⟨E,λvs H1 s1 r1=>?_⟩;exact⟨ds,n,p,fs,C,S,r1.imp λ_ _ _=>True.intro,h,hcn,hcp,hex,λod H' s' fd=>⟨rfl,(B.trans s1).trans s',fd⟩⟩
 ·obtain⟨k',Cc,fa,fd,ps,hM,F,hr,hm,hns,hc,hb,hdb⟩:=GR;obtain⟨l,ha,hp⟩:=ha;obtain⟨hst,_⟩:=cU ha hp;have ad:=lv (e::es) ha hp Gd;refine Jd hM F hr (Gd.gl f hf) hm hb I hx (ad ow).nox hdb (ax (hst e SV)) (bE λx hx=>hst x (SR _ hx)) ⟨E,λvs H1 s1 r1=>?_⟩;intro x dx hx0 hd0 ne;exact⟨.obj f [] []::ds,n,p,fs,C,S,ah.cons (by rw[ae];exact⟨rfl,rfl,x,Cc,dx,[],rfl,hns,hc,aw,ah.nil⟩) ((r1.same (iZ hx0 hd0)).imp λ_ _ _=>True.intro),(if_pos rfl).trans h,hcn,hcp,hex,λod H' s' fd=>⟨rfl,((B.trans s1).trans (iZ hx0 hd0)).trans s',fd⟩⟩
noncomputable def Qh(X:Cx)(C:Addr)(f:Str):Prop:=∃j fI oI fd ps,gE X.K C=some (.ref fI)/\X.K.lookup fI=some oI/\oI.cls=.type "function" /\ W.keepIn X.K (.ref C)=true/\bj X.prog X.w X.K X.mg X.base cE j fI fd ps (vh C f)/\bJ (j+1) X.A/\bu X.K fd ps []
theorem F2{p:Str}(Gd:aJ O X.nox sc)(GR:∀f G,Ψ f=some G->wZ X f G)(hcn:W.nsIn X.K mainGlobals n=some (some (.ref C)))(hcp:W.nsIn X.K mainGlobals p=some (some (.ref S)))(hex:iq X.K C S)(hmn:X.mg n=some (.ref C))(hin:∀p',Ex n=some (p',none)->gE X.K C=none)(hif:∀p' f,Ex n=some (p',some f)->Qh X C f)
  (hr:fs=[]->∀dl Z H s h' a us,aj X dl Z H s->ar H0 H->s.heap.MadeExcOf h' a (.ref C) us->X.xe (.ref a) { s with heap:=h' })
  (hr2:∀f i,fs=[(f,i)]->∀dl Z H1 s1 z dx o vv a0,ar H0 H1->aj X dl Z (aA H1 dx (.xd [(f,fw i)])) s1->H1 dx=none->s1.heap.get? z=some o->o.cls=.ref C->o.dict=some dx->o.data=.fields vv->1<vv.size->vv[0]?=some a0->vv[1]?=some .none->(aA H1 dx (.xd [(f,fw i)])) z=none->X.s₀.heap.get? z=none->X.xe (.ref z) s1)
  (hx:∀dl Z H1 s1 e s',aj X dl Z H1 s1->dC X.prog X.w X.stack H1 s1 (ug H0 C fs) e s'->X.xe e s'):∀{ss:List Stmt} {U:ag} {r:Xs},Rz O Ψ Ex sc ss U r->r=(n,p,fs)->fD X ss (A0 X H0 U):=by
 intro ss U r h;induction h with
 | raise he hl hd hp =>
  rename_i e d k x p' np cpos pos ss U;intro er;cases er;refine lg λdl s Z H D I ⟨ow,E,hl',B⟩=>?_
  have ed:=(bO he Gd).ed rfl;obtain⟨l,he',_⟩:=id he;have ns:=ic he';have ad:AD X.nox U [e] [d] (kj k 0):=dR ed ij (ax ns);refine DE I Gd.calm (Gd.gl _ hl) hmn hex (hin _ hp) hd (ad ow).nox (bE λy hy=>by rw[Tq.mp hy];exact ns) (ax ns) ⟨E,λvs H1 s1 r1=>⟨?_,λs2 h' a us I2 m=>hr rfl dl Z H1 s2 h' a us I2 (B.sm.trans s1) m⟩⟩;rw[<- r1.length];exact SZ (show 1<=bx by decide) gJ
 | raiseF he hi hl hd hp =>
  rename_i e i k x p' f np cpos pos ss U;intro er;cases er;refine lg λdl s Z H D I ⟨ow,E,hl',B⟩=>?_
  have ed:=(bO he Gd).ed rfl;obtain⟨l,he',_⟩:=id he;have ns:=ic he';have ad:AD X.nox U [e] [oG i] (kj k 0):=dR ed ij (ax ns);obtain⟨j,fI,oI,fd,ps,q1,q2,q3,q4,q5,q6,q7⟩:=hif _ _ hp;refine Bp I Gd.calm (Gd.gl _ hl) hmn hex q1 q2 q3 q4 q5 q6 q7 hd (ad ow).nox (ax ns) ⟨E,λvs H1 s1 r1=>?_⟩;obtain⟨v,rfl,rv⟩:=r1.only;obtain rfl:=LA rv;exact⟨i,rfl,hi,λs2 z dx o vv a0 I2 w1 w2 w3 w4 w5 w6 w7 w8 w9 w10=>hr2 f i rfl dl Z H1 s2 z dx o vv a0 (B.sm.trans s1) I2 w1 w2 w3 w4 w5 w6 w7 w8 w9 w10⟩
 | iff hc h ih =>
  rename_i c a b ss t k pos U r;intro er;refine lg λdl s Z H D I ⟨ow,E,hl',B⟩=>?_
  have td:=((bO hc Gd).td rfl t rfl ow).nox;refine wpAny_If (aG (td dl s Z H (λb H'=>b=t/\ar H H') I ⟨E,λH' sm=>⟨rfl,sm⟩⟩) λd s1 ⟨H1,I1,e,sm⟩=>?_);subst e;cases d with
  | true=>exact ih er dl s1 Z H1 _ I1 ⟨ow,E.same sm,hl',B.same sm⟩
  | false=>exact ih er dl s1 Z H1 _ I1 ⟨ow,E.same sm,hl',B.same sm⟩
 | step hs h ih =>
  rename_i st ss U U' r;intro er;have sd:=((i6 O _).s st (H0:=H0) (Tx _) hs Gd TV);intro dl s Z H D I ⟨ow,E,hl',B⟩;exact ef (L2.PS.nox sd) (ih er) dl s Z H D I ⟨ow,E,hl',B,λow' Z' H' E' hl2 k=>⟨ow',E',hl2,B.keep k⟩⟩
noncomputable def R7(P:Program)(w:World)(K:W.Frag)(mg:Str->Option Value)(base:Heap)(k:Nat)(g:Str)(G:List D->Option Xs):Prop:=∃f fd ps,bj P w K mg base (dC P w) k f fd ps (pX K G)/\mg g=some (.ref f)/\W.keepIn K (.ref f)=true/\bu K fd ps []/\(g==("__debug__" : Str))=false
noncomputable def SM(P:Program)(w:World)(K:W.Frag)(mg:Str->Option Value)(base:Heap)(k:Nat)(g:Str)(G:List D->Option Xs):Prop:=∃j C f fd ps,j+1<=k/\Mk K C f/\bj P w K mg base (dC P w) j f fd ps (pX K (Li g G))/\mg g=some (.ref C)/\W.nsIn K mainGlobals g=some (some (.ref C))/\eY K C/\bu K fd ps []/\(g==("__debug__" : Str))=false
noncomputable def oP(P:Program)(w:World)(K:W.Frag)(mg:Str->Option Value)(base:Heap)(k:Nat)(g:Str)(G:List D->Option Xs):Prop:=R7 P w K mg base k g G\/SM P w K mg base k g G
theorem oP.mono{j:Nat}(h:oP P w K mg base j g G)(hjk:j<=k):oP P w K mg base k g G:=by
 rcases h with⟨f,fd,ps,h1,h2⟩|⟨i,C,f,fd,ps,h0,h1⟩
 ·exact .inl ⟨f,fd,ps,h1.mono hjk,h2⟩
 ·exact .inr ⟨i,C,f,fd,ps,SZ h0 hjk,h1⟩
theorem oP.at(h:oP X.prog X.w X.K X.mg X.base k g G)(hr:bJ k X.A):wZ X g G:=by
 rcases h with⟨f',fd',ps',a1,a2,a3,a4,a5⟩|⟨j,C',f',fd',ps',a0,a1,a2,a3,a4,a5,a6,a7⟩
 ·exact .inl ⟨k,f',fd',ps',a1,hr,a2,a3,a4,a5⟩
 ·exact .inr ⟨j,C',f',fd',ps',a1,a2,hr.mono a0,a3,a4,a5,a6,a7⟩
noncomputable def G4(P:Program)(w:World)(K:W.Frag)(mg:Str->Option Value)(base:Heap)(k:Nat)(Ex:Str->Option (Str×Option Str)):Prop:=∀c C,W.nsIn K mainGlobals c=some (some (.ref C))->(∀p,Ex c=some (p,none)->gE K C=none) /\
 ∀p f,Ex c=some (p,some f)->∃j fI oI fd ps,j+1<=k/\gE K C=some (.ref fI)/\K.lookup fI=some oI/\oI.cls=.type "function" /\ W.keepIn K (.ref C)=true/\bj P w K mg base cE j fI fd ps (vh C f)/\bu K fd ps []
theorem Nf(Fn:fY K g qual st f fd)
  (S:bG (aE (aa st)) ps (aa st)) (hΦ:kg P w K mg base k O) (hΨ:∀g G,Ψ g=some G->oP P w K mg base k g G) (hmg:∀n C,W.nsIn K mainGlobals n=some (some (.ref C))->mg n=some (.ref C)) (hEI:G4 P w K mg base k Ex)
  (hrun:∀ds r,G ds=some r->ds.length=ps.length/\Rz O Ψ Ex (aa st) (af st) (bB ps ds) r):bj P w K mg base (dC P w) (k+1) f fd ps (pX K G):=by
 obtain⟨oc,od,kV,doc,pm,an,cdv,ct,osl,rfl,lk,hcd⟩:=Fn.ex;refine zM lk hcd S (λvs H Q E h=>?_) λA outer s H vs Q E hr hsp=>?_
 ·obtain⟨ds,n,p,fs,C,S',h1,h2,_⟩:=h;rw[<- h1.length];exact(hrun ds _ h2).1
 ·obtain⟨ds,n,p,fs,C,S',h1,h2,h3,h4,h5,h6⟩:=hsp;obtain⟨hl,hz⟩:=hrun ds _ h2;have Gd:=ge (outer:=outer) (H:=H) (E:=E) S hΦ hr;obtain⟨E0,hsl⟩:=ig (P:=P) (w:=w) (mg:=mg) (base:=base) (qual:=qual) (f:=f) (cdv:=cdv) (A:=A) (outer:=outer) (s:=s) (E:=E) S h1 hl;have B0:bP H (λ_=>none) H:=λa o h=>⟨h,rfl⟩
  refine⟨_,F2 (X:=fV (dC P w) P w K mg base (aE (aa st)) qual (aa st) f cdv A outer s H E) (H0:=H) (C:=C) (S:=S') Gd (λg' G' hG=>?_) h3 h4 h5 (hmg n C h3) (hEI n C h3).1 (λp' f' hp'=>?_) (λhfs dl Z H1 s1 h' a us I sm m=>?_) (λf' i' hfs dl Z H1 s1 z dx o vv a0 sm I w1 w2 w3 w4 w5 w6 w7 w8 w9 w10=>?_) (λdl Z H1 s1 e s' I c=>?_) hz rfl,λ_=>none,E0,hsl,B0⟩
  ·exact(hΨ g' G' hG).at hr
  ·obtain⟨j,fI,oI,fd',ps',q0,q1,q2,q3,q4,q5,q6⟩:=(hEI n C h3).2 p' f' hp';exact⟨j,fI,oI,fd',ps',q1,q2,q3,q4,q5,hr.mono q0,q6⟩
  ·subst hfs;exact oF I rfl rfl m (h6 none H1 sm oH.nil)
  ·subst hfs;exact jP I rfl rfl w2 w3 w4 w5 w6 w7 w8 w10 w9 (h6 _ _ (sm.trans (cf w1)) (λf i z=>by cases z;exact⟨dx,rfl,aw⟩))
  ·refine qk I rfl rfl ?_;obtain⟨x,C',T,od,H',rfl,z1,z2,z3,z4,z5,z6,z7,z8,z9,⟨e1,e2,e3⟩⟩:=c;cases e1;exact⟨x,C,T,od,H',rfl,z1,z2,z3,z4,z5,z6,z7,z8,z9,h6 od H' e2 e3⟩
def zN(U:ag)(n y c B:Str)(fs:List (Str×Fv)):ag:=λz=>if z=n then none else if z=y then some (.xc c (some (B,fs)),true)else U z
theorem sW{M:Model}{A:Around}{E:Value->Shared->Prop}{env:Env}{Q:Flow->Shared->Prop}(h:wpAny M A (exec st env) Q E s):wpAny M A (execs [st] env) Q E s :=
 wpAny_execs_cons (aG h λf s1 q=>by
  cases f with
  | next=>exact Va q
  | ret v=>exact q
  | brk=>exact q
  | cont=>exact q)
theorem JJ{od:Option Addr}{c B y:Str}{ie iy:Nat}(E:aD X ow H Z U)(sm:ar H H')(nx:H' x=none)(hie:X.N[ie]?=some n)(hiy:X.N[iy]?=some y)(hv:me X.env.scope y)(hne:iy≠ie)(hl:iy<Z.length)
  (hcn:W.nsIn X.K mainGlobals c=some (some (.ref C))) (hcp:W.nsIn X.K mainGlobals B=some (some (.ref S))) (hex:iq X.K C S) (hfd:oH H' od fs) (hfo:∀f i,fs=[(f,i)]->xa X.K C f) :
  aD X ow (aA H' x (lr x C od)) (((Z.set ie (some (.ref x))).set iy (some (.ref x))).set ie none) (zN U n y c B fs):=by
 have sm':ar H (aA H' x (lr x C od)):=sm.trans λa o h=>by rw[aq (aR h nx)];exact h
 refine⟨λz d o h=>?_,(E.same sm').own⟩;unfold zN at h;by_cases hz:z=n
 ·rw[if_pos hz]at h;cases h
 ·rw[if_neg hz]at h;by_cases hy:z=y
  ·rw[if_pos hy]at h;cases h;refine⟨iy,.ref x,by rw[hiy,hy],by rw[hy];exact hv,?_,?_⟩
   ·rw[Ul (Ub hne),UF (by rw[TU];exact hl)]
   ·rw[ae];refine⟨x,C,S,od,rfl,hcn,hcp,hex,aw,λf i z=>?_,hfo⟩;obtain⟨dx,e1,e2⟩:=hfd f i z;exact⟨dx,e1,by rw[aq (aR e2 nx)];exact e2⟩
  ·rw[if_neg hy]at h;obtain⟨i,v,e1,e2,e3,e4⟩:=(E.same sm').get z d o h;have n1:i≠ie:=λq=>hz (by rw[q,hie]at e1;exact(TN e1).symm)
   have n2:i≠iy:=λq=>hy (by rw[q,hiy]at e1;exact(TN e1).symm)
   exact⟨i,v,e1,e2,by rw[Ul (Ub n1),Ul (Ub n2),Ul (Ub n1)];exact e3,e4⟩
theorem HX{Y:Cx}{hd:ExceptHandler}{tb:List Stmt}{U2:ag}{tpos:Pos}(Gd:aJ O Y.nox sc)(h:ac (aL O tb sc U) (.nx U2)):SD Y.nox H0 U (.Try tb [hd] [] [] tpos) (.nx U2):=by
 intro dl s Z H D I hq;refine wpAny_Try_except ?_;refine Tn (dH tb (H0:=H0) h Gd TV dl s Z H D I hq) (λf s1 q=>?_) (λ_ _ z=>z.elim);cases f with
 | next=>exact Va q
 | ret v=>exact q
 | brk=>exact q
 | cont=>exact q
noncomputable def Fp(K:W.Frag)(Ex:Str->Option (Str×Option Str)):Prop:=∀c p o,Ex c=some (p,o)->∃C S,W.nsIn K mainGlobals c=some (some (.ref C))/\W.nsIn K mainGlobals p=some (some (.ref S))/\iq K C S/\W.exmOne K (.ref C) (.ref S)=some true/\∀f,o=some f->xa K C f
noncomputable def qP(f:List D->Option Xs)(P:List D->Xs->Prop):List D->Option Xs:=λds => @ite (Option Xs) (∃r,f ds=some r/\P ds r) (Classical.propDecidable _) (f ds) none
theorem sv{f:List D->Option Xs}{P:List D->Xs->Prop}(h:qP f P ds=some r):P ds r:=by
 unfold qP at h;split at h
 ·rename_i k;obtain⟨r',e,p⟩:=k;rw[e]at h;cases h;exact p
 ·cases h
theorem qO{f:List D->Option Xs}{P:List D->Xs->Prop}(e:f ds=some r)(h:P ds r):qP f P ds=some r:=by
 unfold qP;rw[if_pos ⟨r,e,h⟩];exact e
end Sp
namespace L2
open PySem PySem.Spec PyProof.Rows
section
variable{X:Cx}{dl:List (Addr×Obj)}{Z:St}{H H':Hp}{s:Shared}
noncomputable def GV(X:Cx)(E:XK)(F:Value->Shared->Prop):Prop:=∀e s2,wpAny (model X.prog X.w) X.A (leaving X.env e) (λ_ s''=>dC X.prog X.w X.outer X.H₀ X.s₀ E e s'') (λ_ _=>False) s2->F e s2
theorem GV.two{E:XK}{F:Value->Shared->Prop}(h:GV X E F){x:Addr}(s2:Shared)(k:wpAny (model X.prog X.w) X.A (noteFrame (.ref x) X.env) (λ_ s3=>wpAny (model X.prog X.w) X.A (setFlight (.ref x) none) (λ_ s''=>dC X.prog X.w X.outer X.H₀ X.s₀ E (.ref x) s'') (λ_ _=>False) s3) (λ_ _=>False) s2):F (.ref x) s2:=h _ _ (SO k)
end
end L2
namespace Sp
open PySem PySem.Spec PyProof.Rows L2
variable{X:Cx}
end Sp
namespace TS
open PySem PyProof.Rows
section
variable{M:Model}{A:Around}{E:Value->Shared->Prop}{s:Shared}
end
end TS
namespace TS
open PySem PyProof.Rows
section
variable{Oou:KeyOrd}(ky:Keyed->Oou.α)
end
section
variable{Oou:KeyOrd}{ky:Keyed->Oou.α}{T out A B X:List Keyed}
end
end TS
namespace TS
open PySem PyProof.Rows
section
variable{Oou:KeyOrd}{ky:Keyed->Oou.α}{M:Model}{A:Around}{E:Value->Shared->Prop}{s:Shared}{Uu:List Keyed}{kd:SortKind}
variable{T:List Keyed}{a b o:Array Keyed}{i j:Nat}
end
end TS
namespace TS
open PySem PyProof.Rows
section
variable{Oou:KeyOrd}{ky:Keyed->Oou.α}{M:Model}{A:Around}{E:Value->Shared->Prop}{s:Shared}{Uu:List Keyed}{kd:SortKind}
variable{T:List Keyed}{a b o:Array Keyed}{m n:Nat}
end
end TS
namespace TS
open PySem PyProof.Rows
end TS
namespace TS
open PySem PyProof.Rows
section
variable{Oou:KeyOrd}{ky:Keyed->Oou.α}{prog:Program}{w:World}{A:Around}{E:Value->Shared->Prop}{s:Shared}{kd:SortKind}{a₀:Array Keyed}{p:Array (Nat×Nat×Nat)}
end
end TS
namespace TS
open PySem PyProof.Rows
section
variable{Oou:KeyOrd}{ky:Keyed->Oou.α}
variable{prog:Program}{w:World}{A:Around}{E:Value->Shared->Prop}{s:Shared}{kd:SortKind}{a₀:Array Keyed}{p:Array (Nat×Nat×Nat)}
end
end TS
namespace TS
open PySem PyProof.Rows
section
variable{Oou:KeyOrd}{ky:Keyed->Oou.α}{prog:Program}{w:World}{A:Around}{E:Value->Shared->Prop}{s:Shared}{kd:SortKind}{a₀:Array Keyed}{p:Array (Nat×Nat×Nat)}
end
end TS
namespace Sp
open PySem PySem.Spec PyProof.Rows L2
open PySem.W (KatLex KatTups kat_kind kat_lt)
variable{K:W.Frag}{H:Hp}{a d f:Addr}{vs:List V}{P:Program}{w:World}{k:Nat}{g qual x:Str}{mg:Str->Option Value}{kvs:List (av×V)}{U:ag}{e:Expr}{X:Cx}{base:Heap}{st:Stmt}{fd:FuncData}{o:Obj}{dl:List (Addr×Obj)}{Z:L2.St}{s:Shared}{ps:List Str}{O:Fx}{F:List D->Rs D}{sc:Scope}{ks:List av}
section
variable{prog:Program}{A:Around}{E:Value->Shared->Prop}
end
abbrev jD(ns:List Int):D:=.tup (ns.map D.int)
theorem HQ{o o':HO}(ha:H a=some o)(ho:¬ nm o){b:Addr}(h:bX K H b vs):bX K (aA H a o') b vs:=by
 have ne:∀{u:HO},H b=some u->nm u->b≠a:=λhb hn z=>by subst z;rw[ha]at hb;cases hb;exact ho hn
 rcases h with(h|⟨p,h⟩)|h
 ·exact .inl (.inl (by rw[aq (ne h True.intro)];exact h))
 ·exact .inl (.inr ⟨p,by rw[aq (ne h True.intro)];exact h⟩)
 ·exact .inr h
theorem vf{H':Hp}(s:ar H H')(h:bX K H a vs):bX K H' a vs:=by
 rcases h with(h|⟨o,h⟩)|h
 ·exact .inl (.inl (s _ _ h))
 ·exact .inl (.inr ⟨o,s _ _ h⟩)
 ·exact .inr h
theorem Jo{k:av}{u:Value}(h:(dE P w).is k u=true):aW (kV k) u:=by
 rcases cG h with⟨i,t,rfl,rfl⟩|⟨x,t,rfl,rfl⟩
 ·exact⟨t,rfl⟩
 ·exact⟨t,rfl⟩
noncomputable def pF(P:Program)(w:World)(K:W.Frag)(mg:Str->Option Value)(d:Str)(kvs:List (Str×List Str)):Prop:=∃a,mg d=some (.ref a)/\(a==sysModules)=false/\(d==("__debug__" : Str))=false/\(∃o,K.lookup a=some o/\o.cls=.type "dict" /\ o.dict=none)/\∀h:Heap,K.In h->∃f,Heap.MapOf (strKind P w) h a f/\∀x,(kvs.lookup x=none->f x=none)/\∀ws,kvs.lookup x=some ws->∃b,f x=some (.ref b)/\∀H P,ae K H P (.tup (ws.map D.str)) (.ref b)
def qF(P:Params):List (Str×Value)->List Tok->List DictEntry
 | (x,v)::l,t::ts=>⟨PyData.keyHash P x,.str x t,v⟩::qF P l ts
 | _,_=>[]
theorem yF{P:Program}{w:World}:∀(l:List (Str×Value)) (ts:List Tok),∀e∈qF w.params l ts,∃k,(strKind P w).is k e.key=true/\e.hash=(strKind P w).hash k
 | (x,i)::l,t::ts,e,h=>by
  rcases SS.mp h with rfl|h
  ·exact⟨x,by show Value.isStrOf x (.str x t)=true;simp[Value.isStrOf],rfl⟩
  ·exact yF l ts e h
 | [],_,e,h=>by unfold qF at h;cases h
 | _::_,[],e,h=>by unfold qF at h;cases h
theorem yG{P:Params}:∀(l:List (Str×Value)) (ts:List Tok) (x:Str),l.length=ts.length->((qF P l ts).find? (λe=>Value.isStrOf x e.key)).map (·.val)=l.lookup x
 | [],[],x,_=>rfl
 | (y,v)::l,t::ts,x,hl=>by
  have ih:=yG (P:=P) l ts x (by simpa using hl);have hd:Value.isStrOf x (.str y t)=decide (y=x):=by
   by_cases e:y=x
   ·subst e;rw[Tv rfl];simp[Value.isStrOf]
   ·rw[Th e];simp[Value.isStrOf,e]
  rw[S9,qF,Vf,hd];by_cases e:y=x
  ·subst e;rw[beq_self_eq_true,Tv rfl];rfl
  ·have eb:(x==y)=false:=by
    rw[TF];exact λz=>e z.symm
   rw[eb,Th e];exact ih
 | [],_::_,x,hl=>by cases hl
 | _::_,[],x,hl=>by cases hl
noncomputable def G1(K:W.Frag):List (Str×List Str)->List (Str×Value)->Prop
 | [],[]=>True
 | (x,ws)::l,(y,v)::r=>x=y/\(∃b,v=.ref b/\∀H P,ae K H P (.tup (ws.map D.str)) (.ref b))/\G1 K l r
 | _,_=>False
theorem G1.look:∀{l:List (Str×List Str)} {r:List (Str×Value)},G1 K l r->(l.lookup x=none->r.lookup x=none)/\∀ws,l.lookup x=some ws->∃b,r.lookup x=some (.ref b)/\∀H P,ae K H P (.tup (ws.map D.str)) (.ref b)
 | [],[],_=>⟨λ_=>rfl,λ_ h=>by cases h⟩
 | (y,ws)::l,(y',v)::r,h=>by
  obtain⟨rfl,⟨b,rfl,hb⟩,h3⟩:=h;obtain⟨i1,i2⟩:=h3.look;rw[S9,S9];cases e:x==y with
  | true=>exact⟨λz=>(by cases z),λws' z=>by cases z;exact⟨b,rfl,hb⟩⟩
  | false=>exact⟨i1,i2⟩
 | [],_::_,h=>h.elim
 | _::_,[],h=>h.elim
theorem PU{d:Str}{kvs:List (Str×List Str)}{r:List (Str×Value)}{ts:List Tok}{n:Nat}(hm:mg d=some (.ref a))(hs:(a==sysModules)=false)(hd:(d==("__debug__" : Str))=false)(hl:r.length=ts.length)(hv:G1 K kvs r)
  (hk:K.lookup a=some { cls:=.type "dict", dict:=none,data:=.dict (qF w.params r ts).toArray n,slots:=#[] }):pF P w K mg d kvs:=by
 refine⟨a,hm,hs,hd,⟨_,hk,rfl,rfl⟩,λh X=>⟨λx=>findBy (strKind P w).is (qF w.params r ts).toArray x,⟨_,_,n,X a _ hk,⟨rfl,rfl,rfl⟩,rfl,λe he=>yF r ts e (by simpa using he),λ_=>rfl⟩,λx=>?_⟩⟩;have e0:findBy (strKind P w).is (qF w.params r ts).toArray x=r.lookup x:=by
  rw[<- yG (P:=w.params) r ts x hl];show Option.map _ (Array.find? _ _)=_;rw[List.find?_toArray];rfl
 dsimp only;rw[e0];exact hv.look
theorem JS{d:Str}{kvs:List (Str×List Str)}{p ap cp:Pos}(D0:pF X.prog X.w X.K X.mg d kvs)(hg:Gl X d)(he:ED X U e (.str x) k)(hst:∀y p,e ≠ .Starred y p)(hln:(ap.endLine==cp.line)=true)(hb:attributeBase (.Name d p) "get" X.env (eval (.Name d p) X.env)=eval (.Name d p) X.env) :
  ED X U (.Call (.Attribute (.Name d p) "get" ap) [e] [] cp) (match kvs.lookup x with|some ws=>.tup (ws.map D.str)|none=>.non) 0:=by
 obtain⟨a,hm,hs',hdb,⟨o,ho,hoc,hod⟩,hf⟩:=D0;have n1:=ax (env:=X.env) (es:=[]) hst;intro ow dl s Z H Q I ⟨E,q⟩;refine wpAny_Call_method_late hb (by rw[lN (λz hz=>by rw[Tq.mp hz];exact hst)];rfl) hln rfl (aG (ya (v:=.ref a) hg hm rfl hdb dl s Z H (λv H1=>v=.ref a/\H1=H) I ⟨rfl,rfl⟩) λv s1 ⟨z,H1,I1,r1,e1,e2⟩=>?_);subst e1 e2;cases r1;have hka:=I1.kIn a _ ho;refine⟨"dict", "dict.get", PySem.F.plainAttrs_dict,PySem.F.slot_dict_get,PySem.F.type_dict_get,⟨o,hka,hoc⟩,λb eb=>by cases eb;exact⟨o,hka,hod⟩,?_⟩;have hA:=dR he ij n1 ow cp dl s1 Z H1 (λvs H2=>vs=[.str x]/\ar H1 H2) I1 ⟨E,λvs H2 s2 r2=>by
  obtain⟨v,rfl,r⟩:=r2.only;rw[ae]at r;exact⟨by rw[r],s2⟩⟩
 rw[n1]at hA⊢;refine Calls.callWith_builtin rfl (Calls.evalArgs_plain ?_);refine aG hA λus s2 ⟨vs,H2,I2,r2,e3,sm⟩=>?_
 subst e3;obtain⟨u,rfl,t,rfl⟩:=bY r2;obtain⟨f,mo,hx⟩:=hf s2.heap I2.kIn;have hka2:=I2.kIn a _ ho;refine call_meetsIn PySem.F.slot_dict_get ⟨o,hka2,hoc⟩ PySem.F.entry_dict_get (PySem.F.args_dict_get_2 _ _) (meets_dict_get (strKind X.prog X.w) (k:=x) a (by show Value.isStrOf x (.str x t)=true;simp[Value.isStrOf]) hs') ⟨_,mo,?_⟩;cases z:kvs.lookup x with
 | none =>
  rw[(hx x).1 z];exact⟨.non,H2,I2.tok _,rfl,q _ _ sm (by rw[z,ae])⟩
 | some ws =>
  obtain⟨b,h1,h2⟩:=(hx x).2 ws z;rw[h1];exact⟨.ref b,H2,I2.tok _,rfl,q _ _ sm (by rw[z];exact h2 _ _)⟩
theorem vI{pos:Pos}:PE X (.Dict [] [] pos) (λ_ H Q => ∀d,H d=none->Q (.ref d) (aA H d (.dK []))):=by
 intro dl s Z H Q I q;exact wpAny_Dict_empty ⟨.ref s.heap.objs.size,_,I.laid (t':=s.toks) (o:=.dK []) (λb ob q=>SQ _ q) (SX _) ⟨Tc _,TF.mpr (TR (modules_low I.nolimit)),[],.nil,Heap.DictOf.new _⟩,rfl,q _ (I.hok.fresh (SX _))⟩
noncomputable def FY(K:W.Frag)(f:Str):Sp:=λvs H Q _ => ∃x C dx,vs=[.ref x]/\H x=some (.ins C dx [])/\eY K C/\dZ K C f/\∀d,H d=none->Q .non (aA (aA H d (.dK [])) x (.ins C dx [(f,.ref d)]))
theorem JV(Fn:fY K g qual st f fd){s0 f1:Str}{p1 p2 q p4:Pos}
  (hN:aE (aa st)=[s0]) (S:bG (aE (aa st)) [s0] (aa st)) (hv:me (aa st) s0) (hok:l9 s0=true)
  (hb:af st=[.Assign [.Attribute (.Name s0 p1) f1 p2] (.Dict [] [] q) p4]):bj P w K mg base cE 1 f fd [s0] (FY K f1):=by
 refine Fn.ok (k:=0) S (λvs H Q E h=>?_) (λcdv A outer s H vs Q E hr h=>?_)
 ·obtain⟨x,C,dx,rfl,_⟩:=h;rfl
 ·obtain⟨x,C,dx,rfl,hx,hc,hn,q⟩:=h;have nm:PE (fV cE P w K mg base (aE (aa st)) qual (aa st) f cdv A outer s H E).nox (.Name s0 p1) (vb 0):=mI (by show(aE (aa st))[0]?=some s0;rw[hN];rfl) hv (hV hok).1 (hV hok).2;rw[hb];refine⟨_,nK (LH nm vI rfl),?_⟩;rw[hN];refine λd hd=>⟨.ref x,rfl,x,C,dx,[],rfl,?_,hc,hn,by decide,?_⟩
  ·rw[aq (λz=>by subst z;rw[hd]at hx;cases hx)];exact hx
  ·exact q d hd
theorem El{h:Heap}(ok:df P w H h)(hd:H d=some (.frz o (.dK kvs))):df P w (aA H d (.dK kvs)) h:=by
 have nt:∀b xs,H b=some (.tup xs)->aA H d (.dK kvs) b=some (.tup xs):=λb xs e=>by rw[aq (λz=>by subst z;rw[hd]at e;cases e)];exact e
 have no:∀b c,H b=some (.own c)->aA H d (.dK kvs) b=some (.own c):=λb c e=>by rw[aq (λz=>by subst z;rw[hd]at e;cases e)];exact e
 intro b u q;by_cases z:b=d
 ·subst z;rw[aw]at q;cases q;obtain⟨_,x⟩:=(show bz P w H h b (.frz o (.dK kvs))from ok b _ hd);exact bz.stay x (λc v _ e=>e) (λc e=>no c b e) nt
 ·rw[aq z]at q;exact bz.stay (ok b u q) (λc v _ e=>e) (λc e=>no c b e) nt
theorem jR(I:aj X dl Z H s)(hd:H d=some (.frz o (.dK kvs)))(h0:∀o u,X.H₀ d≠some (.frz o u)):aj X dl Z (aA H d (.dK kvs)) s:=by
 have ne:∀b,H b=none->aA H d (.dK kvs) b=none:=λb e=>by rw[aq (λz=>by subst z;rw[hd]at e;cases e)];exact e
 have nd:∀b u,H b=some u->(∀o u',u ≠ .frz o u')->aA H d (.dK kvs) b=some u:=λb u e h=>by rw[aq (λz=>by subst z;rw[hd]at e;cases e;exact h _ _ rfl)];exact e
 refine⟨I.ok,I.os,I.bare,⟨I.base.keep,I.base.slot,λb o e n hx=>ne b (I.base.free b o e n hx),I.base.there,λb xs e=>nd b _ (I.base.tups b xs e) (λ_ _ z=>nomatch z),λb o u e=>?_,λb ps e=>?_⟩,I.loc,I.cell,ne _ I.free,λx c e=>ne _ (I.freeC x c e),λp hp=>?_,El I.hok hd,I.len⟩
 ·rw[aq (λz=>by subst z;exact h0 _ _ e)];exact I.base.frzs b o u e
 ·obtain⟨m,e'⟩:=I.base.tbls b ps e;exact⟨m,nd b _ e' (λ_ _ z=>nomatch z)⟩
 ·obtain⟨a,b,c⟩:=I.pin p hp;exact⟨a,ne _ b,c⟩
theorem gc(I:aj X dl Z H s)(hd:H d=some (.dK kvs)):∃o,aj X dl Z (aA H d (.frz o (.dK kvs))) s:=by
 obtain⟨z1,z2,ws,z3,oo,es,ep,eo,z4⟩:=(show bz X.prog X.w H s.heap d (.dK kvs)from I.hok d _ hd);exact⟨oo,I.write (t':=s.toks) (x:=d) (e:=d) (h':=s.heap) (by rw[hd];exact True.intro) (.inl rfl) (λb u _ q=>q) ⟨_,eo⟩ (show bz X.prog X.w (aA H d (.frz oo (.dK kvs))) s.heap d (.frz oo (.dK kvs))from⟨eo,z1,z2,ws,z3,oo,es,ep,eo,z4⟩)⟩

noncomputable def GO(O:Fx)(sc:Scope)(ps:List Str)(ss:List Stmt)(ds:List D)(r:D):Prop:=ds.length=ps.length/\∀(X:Cx) (H0:Hp),aJ O X sc->PassesOwn (model X.prog X.w) X.A X.env X.xe->eU X H0 (bB ps ds) ss (.rt r)
theorem JD(Fn:fY K g qual st f fd)
  (S:bG (aE (aa st)) ps (aa st)) (hΦ:kg P w K mg base k O) (hrun:∀ds r,ac (F ds) r->GO O (aa st) ps (af st) ds r):bj P w K mg base cE (k+1) f fd ps (jG K F):=by
 refine Fn.ok S (λvs H Q E h=>?_) (λcdv A outer s H vs Q E hr h=>?_)
 ·obtain⟨ds,r,l,h1,h2,hp,_⟩:=h;rw[<- h1.length];exact(hrun ds r ⟨l,h2,hp⟩).1
 ·obtain⟨ds,r,l,h1,h2,hp,qq⟩:=h;obtain⟨hl,hr'⟩:=hrun ds r ⟨l,h2,hp⟩;have G:=ge (outer:=outer) (H:=H) (E:=E) S hΦ hr;obtain⟨E0,hsl⟩:=ig (P:=P) (w:=w) (mg:=mg) (base:=base) (qual:=qual) (f:=f) (cdv:=cdv) (A:=A) (outer:=outer) (s:=s) (E:=E) S h1 hl;have B0:bP H (λ_=>none) H:=λa o h=>⟨h,rfl⟩
  exact⟨_,hr' _ H G TV,λ_=>none,E0,hsl,B0,λv H' sm rp=>qq v H' sm rp⟩
theorem k8{H0:Hp}(n:Nat){ss:List Stmt}{U1:ag}{fl:Fl}(G:aJ O X sc)(hp:PassesOwn (model X.prog X.w) X.A X.env X.xe)(h:ac (aL O (ss.take n) sc U) (.nx U1))(k:eU X H0 U1 (ss.drop n) fl):eU X H0 U ss fl:=by
 rw[<- List.take_append_drop n ss];exact xY G hp h k
theorem aZ{d:D}(h:ac (aB O e false sc U) (d,k))(G:aJ O X sc):ED X U e d k:=(bO h G).ed rfl

theorem u7{K:W.Frag}{H:Hp}{v:V}{ns:List Int}(hv:∃a,v=.ref a/\bX K H a (ns.map V.int)/\ns≠[]):∀{us:List V} {ts:List (List Int)},cg K H us ts->cg K H (us++[v]) (ts++[ns])
 | [],[],_=>⟨hv,trivial⟩
 | _::_,_::_,h=>⟨h.1,u7 hv h.2⟩
 | [],_::_,h=>h.elim
 | _::_,[],h=>h.elim
theorem u5{K:W.Frag}{H:Hp}{k:av}{v:V}{ns:List Int}(hv:∃a,v=.ref a/\bX K H a (ns.map V.int)/\ns≠[]):∀{ks:List av} {us:List V} {ts:List (List Int)},cg K H us ts->cg K H (List.zipWith (λj e=>if j=k then v else e) ks us) (List.zipWith (λj e=>if j=k then ns else e) ks ts)
 | [],us,ts,_=>by rw[List.zipWith_nil_left,List.zipWith_nil_left];trivial
 | j::ks,[],[],_=>trivial
 | j::ks,u::us,t::ts,h=>by
  rw[List.zipWith_cons_cons,List.zipWith_cons_cons];refine⟨?_,u5 hv h.2⟩;by_cases e:j=k
  ·rw[if_pos e,if_pos e];exact hv
  ·rw[if_neg e,if_neg e];exact h.1
 | j::ks,[],_::_,h=>h.elim
 | j::ks,_::_,[],h=>h.elim
theorem Df{k:av}{v:V}{ns:List Int}{us:List V}{ts:List (List Int)}(hv:∃a,v=.ref a/\bX K H a (ns.map V.int)/\ns≠[])(h:cg K H us ts):cg K H (cQ ks us k v) (cQ ks ts k ns):=by
 unfold cQ;cases aO ks k with
 | true=>exact u5 hv h
 | false=>exact u7 hv h
theorem Jg{α:Type}{k:av}{ts:List α}{a:α}(h:ks.length=ts.length):(dv ks k).length=(cQ ks ts k a).length:=by
 unfold dv cQ;cases aO ks k with
 | true=>show ks.length=(List.zipWith _ ks ts).length;rw[List.length_zipWith,<- h,Nat.min_self]
 | false=>show(ks++[k]).length=(ts++[a]).length;rw[S8,S8,h];rfl
theorem vd{K:W.Frag}{H:Hp}{P:bi}:∀ws:List Str,ah K H P (ws.map D.str) (ws.map V.str)
 | []=>ah.nil
 | w::ws=>ah.cons (by rw[ae]) (vd ws)
theorem bT{c:Addr}{ss:Array (Option Value)}{nn:Nat}{its:Array Value}{ws:List Str}(hl:K.lookup c=some ⟨.type "tuple", none,.seq its nn,ss⟩)(hz:its.size<=sizeLine)(hv:aP (ws.map V.str) its.toList):∀H P,ae K H P (.tup (ws.map .str)) (.ref c) :=
 λH P=>by rw[ae];exact⟨c,_,rfl,.inr ⟨_,its,nn,hl,rfl,rfl,rfl,hz,hv⟩,vd ws⟩
abbrev Fm:=Str->Option (List (Str×List Str))
noncomputable def rf(O:Fx)(Δ:Fm)(sc:Scope)(ps:List Str)(ss:List Stmt)(ds:List D)(r:D):Prop:=ds.length=ps.length/\∀(X:Cx) (H0:Hp),aJ O X sc->PassesOwn (model X.prog X.w) X.A X.env X.xe->(∀d kvs,Δ d=some kvs->pF X.prog X.w X.K X.mg d kvs)->eU X H0 (bB ps ds) ss (.rt r)
theorem Es{Δ:Fm}(Fn:fY K g qual st f fd)
  (S:bG (aE (aa st)) ps (aa st)) (hΦ:kg P w K mg base k O) (hD:∀d kvs,Δ d=some kvs->pF P w K mg d kvs) (hrun:∀ds r,ac (F ds) r->rf O Δ (aa st) ps (af st) ds r):bj P w K mg base cE (k+1) f fd ps (jG K F):=by
 refine Fn.ok S (λvs H Q E h=>?_) (λcdv A outer s H vs Q E hr h=>?_)
 ·obtain⟨ds,r,l,h1,h2,hp,_⟩:=h;rw[<- h1.length];exact(hrun ds r ⟨l,h2,hp⟩).1
 ·obtain⟨ds,r,l,h1,h2,hp,qq⟩:=h;obtain⟨hl,hr'⟩:=hrun ds r ⟨l,h2,hp⟩;have G:=ge (outer:=outer) (H:=H) (E:=E) S hΦ hr;obtain⟨E0,hsl⟩:=ig (P:=P) (w:=w) (mg:=mg) (base:=base) (qual:=qual) (f:=f) (cdv:=cdv) (A:=A) (outer:=outer) (s:=s) (E:=E) S h1 hl;have B0:bP H (λ_=>none) H:=λa o h=>⟨h,rfl⟩
  exact⟨_,hr' _ H G TV hD,λ_=>none,E0,hsl,B0,λv H' sm rp=>qq v H' sm rp⟩
theorem Ni{l:List (Str×List (Str×List Str))}(h:∀q∈l,pF P w K mg q.1 q.2):∀d kvs,(λd:Str=>l.lookup d) d=some kvs->pF P w K mg d kvs:=λd kvs e=>by
 have:l.lookup d=some kvs:=e;exact h (d,kvs) (S5 this)
end Sp
namespace L2
open PySem PySem.Spec PyProof.Rows
variable{M:Model}{A:Around}{E:Value->Shared->Prop}{s:Shared}{cenv env:Env}
theorem ul{e:Expr}{scope:Scope}{pos:Pos}{newAcc first:Sem Value}{g:Comprehension}{gs:List Comprehension}{cl:List (Str×Addr)}{use:Option (Value->Sem Unit)}{Q:Value->Shared->Prop}
    (hcl:clausesOf e=g::gs) (hs:∀x,foldedSetIterable g.iter env x=pure x) (hclos:closureFor scope env=pure cl)
    (hkind:scope.kind=.function) (hnames:∀x∈scope.names,x.2=.local->scope.names.lookup x.1=some .local)
    (h:wpAny M A first (λx s₁=>wpAny M A (pyIter x) (λit s₂=>wpAny M A newAcc (λacc s₃ =>
      wpAny M A (newFunctionEnv scope env.globals cl [] env.qual none .none (some env)) (λcenv s₄ =>
        codeAny M A (.compStart e 0 it acc { cenv with scope:=relabel scope env }) (λr s'=>match r with
          | .ok _=>False
          | .error x => ∃m,s'.heap.Ns cenv.locals m/\∀h',Heap.SameBut cenv.locals s'.heap h'->wpAny M A (PySem.passOn "comprehension.variables-let-go" x { cenv with scope:=relabel scope env }:Sem Value) (λ_ _=>False) E { s' with heap:=h' }) s₄) E s₃) E s₂) E s₁) E s) :
    wpAny M A (comprehension e scope env pos newAcc false first use) Q E s:=by
  unfold comprehension;rw[hclos,hcl];refine SO (Tn h (λx s₁ h₁=>SO (UG (SO (wpAny_of_eq (hs x) (SO (TB (Tn h₁ (λit s₂ h₂ =>
    wpAny_standIf (SO (Tn h₂ (λacc s₃ h₃=>SO (SU (SO (Tn h₃ (λcenv s₄ h₄=>?_) λ_ _ h'=>h')))) λ_ _ h'=>h')))
      λ_ _ h'=>h'))))))) λ_ _ h'=>h')
  dsimp only;have hv:∀x∈(scope.names.filter λx=>(x.2 == .local || x.2 == .cell)&&x.1 != (".0" : Str)).reverse,x.2=.local ->
      Env.kindOf { cenv with scope:=relabel scope env } x.1=some .local:=λx hx hl=>lookup_relabel_local (hnames x (UY.mp (List.mem_reverse.mp hx)).1 hl)
  refine TB (SO (U5 (TB (wpAny_run (UV h₄ λr s' hr=>?_)))));cases r with
  | ok f=>exact hr.elim
  | error x =>
    obtain⟨m,hn,hr⟩:=hr;exact SO (TB (wpAny_comp_letGo (cenv:={ cenv with scope:=relabel scope env }) hkind _ s' m hv hn λh' m' _ hs'=>Tn (hr h' hs') (λ_ _ f=>f.elim) λ_ _ y=>y))
theorem zp{e:Value}(h:cenv.frame=env.frame):noteFrame e cenv=noteFrame e env:=by
 unfold noteFrame PySem.frameOf;rw[h]
theorem Eb{F:Value->Shared->Prop}{base:Heap}{outer:List Env}{L x C C0:Addr}{od:Option Addr}{oe:Obj}{vs:Array Value}{a0:Value}{Q:Unit->Shared->Prop}(fs:A.frames=some (env::outer))(hf:s.heap.FunFrames base (env::outer))(hfr:env.frame=some L)(hcf:cenv.frame=env.frame)
  (e1:s.heap.get? x=some oe) (e2:oe.cls=.ref C) (e6:oe.dict=od) (e3:oe.data=.fields vs) (hsz:1<vs.size) (e4:vs[0]?=some a0) (e5:vs[1]?=some .none\/∃T oT ts,vs[1]?=some (.ref T)/\T≠x/\s.heap.get? T=some oT/\oT.data=.fields ts/\ts[3]?=some .none)
  (hns:∃m,s.heap.Ns C0 m) (hx0:C0≠x) (hT0:vs[1]? ≠ some (.ref C0)) (hC0:C0∉bW (env::outer))
  (hF:∀s2,wpAny M A (noteFrame (.ref x) env) (λ_ s3=>wpAny M A (setFlight (.ref x) none) Q E s3) E s2->F (.ref x) s2)
  (h:∀h2 T',(∀b o,s.heap.get? b=some o->b≠x->b≠C0->vs[1]? ≠ some (.ref b)->b∉bW (env::outer)->h2.get? b=some o)->(∀b∈bW (env::outer),∀o,s.heap.get? b=some o->∃sl,h2.get? b=some { o with slots:=sl }) ->
   s.heap.get? T'=none->GN x C T' od h2->Q () { s with heap:=h2 }) :
  notedBy M A cenv (λe s1 => ∃m,s1.heap.Ns C0 m/\∀h',Heap.SameBut C0 s1.heap h'->wpAny M A (PySem.passOn "comprehension.variables-let-go" e cenv:Sem Value) (λ_ _=>False) F { s1 with heap:=h' }) (.ref x) s:=by
 unfold notedBy;rw[zp hcf];refine BC fs hf hfr e1 e3 hsz e5 λh2 T' k1 k2 nT nTx ex ⟨oT,ts,f1,f2,f3⟩=>?_
 have d1:(Obj.mapFields (λv=>v.setIfInBounds 1 (.ref T')) oe).data=.fields (vs.setIfInBounds 1 (.ref T')):=TY e3 _;have v1:(vs.setIfInBounds 1 (.ref T'))[1]?=some (.ref T'):=by simp[hsz]
 have f4:3<ts.size:=by
  rcases UX 3 ts.size with z|z
  ·exact z
  ·rw[Ua z]at f3;cases f3
 have nT2:∀b o,s.heap.get? b=some o->T'≠b:=λb o eb z=>by rw[<- z,nT]at eb;cases eb
 have ce:(Obj.mapFields (λv=>v.setIfInBounds 1 (.ref T')) oe).cls=.ref C/\(Obj.mapFields (λv=>v.setIfInBounds 1 (.ref T')) oe).dict=od:=by
  obtain⟨c,d,da,sl⟩:=oe;simp only at e3 e2 e6;subst e3;exact⟨e2,e6⟩
 obtain⟨m,o0,es0,ep0,g0,g0'⟩:=hns;have nTC:T'≠C0:=nT2 C0 o0 g0;refine⟨m,⟨o0,es0,ep0,k1 C0 o0 g0 hx0 hT0 hC0,g0'⟩,λh3 sb=>?_⟩;have ex3:=sb.extBut x _ (Ub hx0) ex;have f13:=sb.extBut T' _ nTC f1;unfold PySem.passOn;refine SO (Tr (s:={ s with heap:=h3 }) ex3 d1 v1 ?_);rw[if_neg (by simp)];refine SO ?_;unfold setFlight;refine SO (Tr (s:={ s with heap:=h3 }) ex3 d1 v1 ?_);rw[if_pos (by simp),hcf,hfr];refine U8 (s:={ s with heap:=h3 }) f13 f2 f4 (wpAny_throw ?_);have g1:(h3.update T' (Obj.mapFields λv=>v.setIfInBounds 3 (rawInt L))).get? x=some (Obj.mapFields (λv=>v.setIfInBounds 1 (.ref T')) oe):=(Te _ _ nTx).trans ex3;have g2:(h3.update T' (Obj.mapFields λv=>v.setIfInBounds 3 (rawInt L))).get? T'=some (Obj.mapFields (λv=>v.setIfInBounds 3 (rawInt L)) oT):=Uf _ f13 (UZ (TY f2 _));have g3:(Obj.mapFields (λv=>v.setIfInBounds 3 (rawInt L)) oT).data=.fields (ts.setIfInBounds 3 (rawInt L)):=TY f2 _;have g4:(ts.setIfInBounds 3 (rawInt L))[3]?=some (rawInt L):=by simp[f4]
 refine hF _ ?_;unfold noteFrame;rw[hfr];dsimp only;refine SO (Tr (s:={ s with heap:=h3.update T' (Obj.mapFields λv=>v.setIfInBounds 3 (rawInt L)) }) g1 d1 v1 ?_);rw[if_pos (by simp)];refine SO (Tr (s:={ s with heap:=h3.update T' (Obj.mapFields λv=>v.setIfInBounds 3 (rawInt L)) }) g2 g3 g4 ?_);rw[if_pos (by simp[rawInt])];refine SU ?_;refine ph (s:={ s with heap:=h3.update T' (Obj.mapFields λv=>v.setIfInBounds 3 (rawInt L)) }) g1 d1 v1 g2 g3 (by simp[f4]) ?_;refine h ((h3.update T' (Obj.mapFields λv=>v.setIfInBounds 3 (rawInt L))).update T' _) T' (λb o eb b1 b0 b2 b3=>(Te _ _ (nT2 b o eb)).trans ((Te _ _ (nT2 b o eb)).trans (sb.extBut b o b0 (k1 b o eb b1 b2 b3)))) (λb hb o eb=>?_) nT ⟨_,_,_,_,a0,(Te _ _ nTx).trans g1,ce.1,ce.2,d1,?_,v1,nTx,Uf _ g2 (UZ (TY g3 _)),TY g3 _,by simp[f4]⟩
 ·obtain⟨sl,z⟩:=k2 b hb o eb;exact⟨sl,(Te _ _ (nT2 b o eb)).trans ((Te _ _ (nT2 b o eb)).trans (sb.extBut b _ (λy=>hC0 (y ▸ hb)) z))⟩
 ·rw[Array.getElem?_setIfInBounds_ne (by decide)];exact e4
end L2
namespace Sp
open PySem PySem.Spec PyProof.Rows L2
variable{w:World}{s:Shared}{c e e1 elt iter:Expr}{es ifs:List Expr}{sc scope:Scope}{ap bp cp hpos p1 p2 p3 pos px q tp tpos:Pos}{ow ow':Ow}{dl:List (Addr×Obj)}{Z:L2.St}{H H' H0 H2:Hp}{U U' U1:ag}{j k kc kk ko:Nat}{fs:List (Str×Fv)}{E1:XK}{O:Fx}{C S a b f:Addr}{B cn f1 g m n p qual x y:Str}{G:List D->Option Xs}{o:Obj}{ns ps:List Str}{ds fds l l':List D}{Q:Value->Shared->Prop}{d d' d1 r:D}{Ψ:Str->Option (List D->Option Xs)}{Ex:Str->Option (Str×Option Str)}{P:Program}{K:W.Frag}{mg:Str->Option Value}{base:Heap}{st:Stmt}{fd:FuncData}{kvs:List (av×V)}{vs:List V}{k0 ks ks':List av}{t0 ts ts':List (List Int)}{as:List Addr}{body ss tb:List Stmt}{F:List D->Rs D}
variable{X:Cx}
theorem zW{prog:Program}{A:Around}{R:Result->Shared->Prop}{target:Expr}{it acc:Value}{env:Env}(J:Nat->Shared->Prop)
    (turn:∀n s,J n s->wpAny (model prog w) A (pyNext it) (λr s₁=>match r with
      | none=>R (.ok .next) s₁
      | some v=>wpAny (model prog w) A (letOwnedTupleGo target it v) (λ_ s₁=>wpAny (model prog w) A (assign target env v) (λ_ s₂ =>
          wpAny (model prog w) A (iD ifs env) (λok s₃ =>
            if ok=true then wpAny (model prog w) A (eval elt env) (λx s₄ =>
              wpAny (model prog w) A (call (.builtin "list.append") [acc,x]) (λ_ s₅ => ∃m,m<n/\J m s₅) (λ_ _=>False) s₄) (notedBy (model prog w) A env λx s'=>R (.error x) s') s₃
            else ∃m,m<n/\J m s₃) (λ_ _=>False) s₂) (λ_ _=>False) s₁) (λ_ _=>False) s₁) (λ_ _=>False) s)
    (n:Nat) (h:J n s):codeAny (model prog w) A (.compLoop (.ListComp elt [⟨target,iter,ifs,0⟩] scope pos) 0 it acc env) R s:=by
  refine codeAny_loop rfl J (λn s hI=>?_) n h;show wpAny _ A ((compTurn (.ListComp elt [⟨target,iter,ifs,0⟩] scope pos) 0 it acc env).onRaise (λx=>do noteFrame x env;theTreesLotGoes x)) _ _ s;refine wpAny_noted ?_;rw[compTurn_list];refine SO (UG (SO (Tn (turn n s hI) (λr s₁ h₁=>?_) λ_ _ h'=>h'.elim)));cases r with
  | none=>exact SU h₁
  | some v =>
    refine SO (Tn h₁ (λ_ s₁' h₁'=>?_) λ_ _ h'=>h'.elim);refine SO (Tn h₁' (λ_ s₂ h₂=>SO (Tn h₂ (λok s₃ h₃=>?_) λ_ _ h'=>h'.elim)) λ_ _ h'=>h'.elim);cases ok with
    | false=>exact SU ⟨rfl,h₃⟩
    | true =>
      exact SO (SO (Tn h₃ (λx s₄ h₄=>SO (Tn h₄ (λ_ s₅ h₅=>SU (SU ⟨rfl,h₅⟩)) λ_ _ h'=>h'.elim)) λ_ _ h'=>h'))
noncomputable def GL(X':Cx)(U:ag)(tg:Expr)(ifs:List Expr)(elt:Expr)(Cc:Addr)(fs:List (Str×Fv))(d:D):Prop :=
 ∃U',GD X' U tg d U'/\yM X' U' ifs true/\∀(F:Value->Shared->Prop) (Q:Value->Shared->Prop) ow dl s Z H,aj (X'.wish F) dl Z H s->aD X' ow H Z U'->(∀H1 s1 e s',aj (X'.wish F) dl Z H1 s1->dC X'.prog X'.w X'.stack H1 s1 (ug H Cc fs) e s'->F e s')->wpAny (model X'.prog X'.w) X'.A (eval elt X'.env) Q F s
theorem EC{use:Option (Value->Sem Unit)}{Q':Value->Shared->Prop}{tg:Expr}{pos2:Pos}(pre:List D){x0:D}{post:List D}{f:D->Option D}{N':List Str}{Cc:Addr}
    (hcalm:X.calm=true) (hN:X.N.Nodup) (hk:aK (pre++x0::post)=true\/k<=1) (hlen:pre.length<sizeLine) (S:ir X.env scope N') (hsub:∀x d o,flt scope U x=some (d,o)->x∈N')
    (hi:IE X.nox U tg iter (pre++x0::post) k)
    (turn:∀cl C s H fp,∀d∈pre,kE (jp X scope cl C N' s H fp) (flt scope U) tg ifs elt ko d (f d))
    (hrz:∀cl C s H fp,GL (jp X scope cl C N' s H fp) (flt scope U) tg ifs elt Cc fs x0)
    (hs:∀x,foldedSetIterable iter X.env x=pure x) (I:aj X dl Z H s) (E:aD X.nox ow H Z U)
    (hst:X.stack=X.env::X.outer) (hex:X.ex=[]) (hlv:GV X E1 X.xe) (hE:∀od H',ar H H'->oH H' od fs->E1 (.ref Cc) od H') :
    wpAny (model X.prog X.w) X.A (comprehension (.ListComp elt [⟨tg,iter,ifs,0⟩] scope pos) scope X.env pos2 (newList []) false (eval iter X.env) use) Q' X.xe s:=by
  obtain⟨cl,hclos,h1,h2⟩:=oK (env:=X.env) (scope:=scope) λn hn=>I.ok.has n (S.fr n hn)
  refine ul rfl hs hclos S.kind S.names ?_;refine Tn (hi ow dl s Z H (λJ H1=>ar H H1/\N7 X.K J (pre++x0::post) (Kd ow H k H1) H1) (I.wish _) ⟨E,λJ H1 a b=>⟨a,b⟩⟩) (λv s1 h1'=>Tn h1' (λitv s2 h2'=>?_) λ_ _ z=>z.elim) λ_ _ z=>z.elim
  obtain⟨it,fp,tn,J,H2,rfl,I2,T,st2,f2,s12,itd⟩:=h2';replace I2:aj X dl Z H2 s2:=I2.unwish;have hD2:H2 s2.heap.objs.size=none:=I2.hok.fresh (SX _);refine Ur (sV (λx c hc=>(I2.cell x c (h1 x c hc).1).imp λv q=>q.keeps λb o e=>SQ _ e) λh₁ hns₁ kp0 k60=>?_);have I3:aj X dl Z (aA H2 s2.heap.objs.size (.lst [])) { s2 with heap:=s2.heap.push { cls:=.type "list", dict:=none,data:=.seq ([]:List Value).toArray } } :=
    I2.laid (t':=s2.toks) (λb u e=>SQ _ e) (SX _) ⟨Tc _,[],0,.nil,S6 _ rfl⟩
  generalize hD:s2.heap.objs.size=D at *;generalize hs3:({ s2 with heap:=s2.heap.push { cls:=.type "list", dict:=none,data:=.seq ([]:List Value).toArray } }:Shared)=s3 at *;have hsz3:s3.heap.objs.size=D+1:=by rw[<- hs3];show(s2.heap.push _).objs.size=_;rw[T5,hD]
  have f3:∀b∈fp,gP X dl (aA H2 D (.lst [])) b:=λb hb=>by
    obtain⟨g0,g⟩:=f2 b hb;obtain⟨o,e,_⟩:=T.obj _ _ st2 b hb;have hlt:=S1 e;rw[hD]at hlt;exact⟨by rw[aq (Ts hlt)];exact g0,g⟩
  have fl3:∀b∈fp,b<s3.heap.objs.size:=λb hb=>by
    obtain⟨o,e,_⟩:=T.obj _ _ st2 b hb;have hlt:=S1 e;rw[hD]at hlt;rw[hsz3];exact Vj hlt
  have kp:∀b o,s3.heap.get? b=some o->h₁.get? b=some o:=kp0;have kc:lG X scope (cellsFrom (s3.heap.objs.size+1) scope.names cl) s3.heap.objs.size:=ww I3 S h1 h2;generalize hcl':cellsFrom (s3.heap.objs.size+1) scope.names cl=cl' at *;have I4:=B9 (s1:={ s3 with heap:=h₁,toks:=s3.toks+0 }) (N':=N') I3 S kc k60 f3 fl3 ⟨_,_,rfl⟩ hns₁ kp;have sH2:∀vs,ar H2 (aA H2 D (.lst vs)):=λvs b o e=>by rw[aq (aR e hD2)];exact e
  let ow':Ow:=λa=>if a=D then some none else ow a
  have ow'D:ow' D=some none:=if_pos rfl;have ow'n:∀a,a≠D->ow' a=ow a:=λa h=>if_neg h
  have own':∀{H':Hp} (vs:List V),H' D=some (.lst vs)->ar H2 H'->fX ow' H':=λ{H'} vs hd sm a ha=>by
    by_cases hz:a=D
    . subst hz;exact⟨_,hd⟩
    . rw[ow'n a hz]at ha;obtain⟨o,e⟩:=(E.same s12).own a ha;exact⟨o,sm a o e⟩
  have EX:aD X ow H2 Z U:=⟨(E.same s12).get,(E.same s12).own⟩;have E4:aD (jp X scope cl' s3.heap.objs.size N' s3 (aA H2 D (.lst [])) fp) ow' (aA H2 D (.lst [])) (lK X scope N' Z) (flt scope U):=by
    have E3:=Cn (scope:=scope) (cl:=cl') (C:=s3.heap.objs.size) (N':=N') (s:=s3) (fp:=fp) (H0:=aA H2 D (.lst [])) EX hN hsub;refine⟨λx d o h=>?_,own' [] aw (sH2 [])⟩;obtain⟨i,v,e1,e2,e3,e4⟩:=E3.get x d o h;refine⟨i,v,e1,e2,e3,ae.same (sH2 []) (e4.impH (λa ob ha p=>?_) λa p=>?_)⟩
    . have hz:a≠D:=aR ha hD2;cases o with
      | true=>exact⟨p.1,(ow'n a hz).trans p.2⟩
      | false=>exact λ_=>(ow'n a hz).trans (p rfl)
    . cases o with
      | true=>cases p.1
      | false=>exact λz=>(by cases z)
  generalize hX':jp X scope cl' s3.heap.objs.size N' s3 (aA H2 D (.lst [])) fp=X' at *;have turn':∀d∈pre,kE X' (flt scope U) tg ifs elt ko d (f d):=λd hd=>by rw[<- hX'];exact turn _ _ _ _ _ d hd
  have hrz':GL X' (flt scope U) tg ifs elt Cc fs x0:=by rw[<- hX'];exact hrz _ _ _ _ _
  have eK:X'.K=X.K:=by rw[<- hX']
  have eP:X'.prog=X.prog:=by rw[<- hX']
  have eW:X'.w=X.w:=by rw[<- hX']
  have eA:X'.A=X.A:=by rw[<- hX']
  have eE:X'.env=compEnvC scope cl' s3.heap.objs.size X.env:=by rw[<- hX']
  have eX:X'.xe=λ_ _=>False:=by rw[<- hX']
  have eS:X'.stack=X.stack:=by rw[<- hX']
  have eC:X'.calm=true:=by rw[<- hX'];exact hcalm
  have stat:∀{H':Hp},(∀b∈fp,H' b=none)->∀b∈fp,gP X' [] H' b:=λhn b hb=>by
    rw[<- hX'];refine⟨hn b hb,?_,?_,.inl hb,λx c h=>(kc.k1 x c h).elim (λq=>(f3 b hb).2.2.2.2.1 x c q) (λq z=>by subst z;exact absurd (UN q.1 (fl3 _ hb)) (TH _)),λp hp=>absurd (show p∈([]:List (Addr×Obj))from hp) (by simp)⟩
    . show b≠s3.heap.objs.size;exact Ts (fl3 b hb)
    . intro z;rcases SS.mp (I3.stkSub b z)with q|q
      . exact(f3 b hb).2.1 q
      . exact(f3 b hb).2.2.1 q
  have toX:∀{H5:Hp} {σ5:L2.St} {s6:Shared} {pins':List (Addr×Obj)},aj X' pins' σ5 H5 s6->aj X dl Z H5 s6:=λ{H5 σ5 s6 pins'} I6=>by
    have b6:=I6.base;have o6:=I6.os;have k6:=I6.hok;have g6:=I6.bare;rw[<- hX']at b6 o6 k6;exact I3.call' o6 b6 k6 g6 λb hb=>⟨(f3 b hb).2.2.2.1,(f3 b hb).2.1,(f3 b hb).2.2.2.2.1,(f3 b hb).2.2.2.2.2⟩
  have loop:codeAny (model X.prog X.w) X.A (.compLoop (.ListComp elt [⟨tg,iter,ifs,0⟩] scope pos) 0 (.ref it) (.ref D) (compEnvC scope cl' s3.heap.objs.size X.env)) (λr s'=>match r with
      | .ok _=>False
      | .error x => ∃m,s'.heap.Ns s3.heap.objs.size m/\∀h',Heap.SameBut s3.heap.objs.size s'.heap h'->wpAny (model X.prog X.w) X.A (PySem.passOn "comprehension.variables-let-go" x (compEnvC scope cl' s3.heap.objs.size X.env):Sem Value) (λ_ _=>False) X.xe { s' with heap:=h' }) { s3 with heap:=h₁,toks:=s3.toks+0 }:=by
    refine zW (λn s' => ∃(i:Nat) (Z':L2.St) (H':Hp) (vs:List V),aj X' [] Z' H' s'/\tn i s'.heap/\(∀b∈fp,H' b=none)/\aD X' ow' H' Z' (flt scope U)/\H' D=some (.lst vs)/\ar H2 H' /\
      vs.length<=i/\i<=pre.length/\n=pre.length-i) ?_ pre.length
      ⟨0,lK X scope N' Z,aA H2 D (.lst []),[],I4,?_,λb hb=>(f3 b hb).1,E4,aw,sH2 [],SX _,Tc _,rfl⟩
    . rintro n s5 ⟨i,σ5,H5,vs,I5,st5,fr5,E5,hD5,sm5,lv5,hi5,rfl⟩;have stay:fh (Kd ow H k H2) (Kd ow H k H2) H2 H5:=.same sm5 λ_ _ p=>p
      have itd5:=itd i H5 stay;have hlt:i<(pre++x0::post).length:=by rw[S8,S7];omega
      obtain⟨go,yl⟩:=itd5.1 (pre++x0::post)[i] (by simp[hlt]);have Ti:=T.item X' eP eW eK eC i [] s5 σ5 H5 (λ_ _=>False) I5 (stat fr5) st5 go;rw[eA]at Ti;refine aG Ti λr s6 ⟨u,hr,h6⟩=>?_
      subst hr;refine aG h6 λ_ s7 ⟨x,H7,I7,r7,y7,st7,fr7⟩=>?_
      obtain⟨sm7,rx7⟩:=yl x H7 y7;have rx7':ae X'.K H7 (λa b=>b=true->ow' a=none) (pre++x0::post)[i] x:=by
        rw[eK];rcases hk with hk|hk
        . exact rx7.flat _ (lQ hk (Tk hlt))
        refine rx7.impH (λa o ha p _=>?_) λa _ z=>(by cases z)
        obtain⟨p,p2⟩:=p;obtain⟨o2,ho2⟩:=p2 rfl;show ow' a=none;rw[ow'n a (aR ho2 hD2)];exact fU E.own hk p
      have E7:=E5.same sm7;have I7':=I7.pinned (stat fr7) (T.obj _ _ st7);by_cases hp:i<pre.length
      . have ei:(pre++x0::post)[i]=pre[i]:=List.getElem_append_left hp;rw[ei]at rx7';obtain⟨U',b,⟨g,hg,hgd⟩,hext,hts,hel⟩:=turn' pre[i] (Vn hp);have hg':=hg _ s7 σ5 H7 x u (λZ' H'=>aD X' ow' H' Z' U'/\H7=H') I7' r7 (hgd ow' x σ5 H7 _ I7.len E7 rx7' λZ' _ e=>⟨e,rfl⟩);rw[eP,eW,eA,eE,eX]at hg';refine aG hg' λ_ s8 ⟨σ8,H8,I8,E8,eH8⟩=>?_
        subst eH8;have ht':=hts ow' _ s8 σ8 H7 (λc H'=>c=b/\ar H7 H') I8 ⟨E8,λH' sm=>⟨rfl,sm⟩⟩;rw[eP,eW,eA,eE,eX]at ht';refine aG ht' λc s9 ⟨H9,I9,ec,sm9⟩=>?_
        subst ec;have back:∀{H':Hp} {Z':L2.St} {s':Shared},aj X' ([]++jK fp s7.heap) Z' H' s'->aj X' [] Z' H' s'/\tn (i+1) s'.heap/\∀b∈fp,H' b=none:=λ{H' Z' s'} J7=>by
          refine⟨J7.unpinned,T.keep _ _ _ st7 λb hb o e=>(J7.pin (b,o) (To _ (To _ (gb hb e)))).1,λb hb=>?_⟩;obtain⟨o,e,d⟩:=T.obj _ _ st7 b hb;exact(J7.pin (b,o) (To _ (To _ (gb hb e)))).2.1
        have envf:∀{H':Hp} {Z':L2.St},aD X' ow' H' Z' U'->aD X' ow' H' Z' (flt scope U):=λ{H' Z'} e=>⟨λx d o h=>e.get x d o (hext x _ h),e.own⟩
        have sm59:ar H5 H9:=sm7.trans sm9;cases hc:c with
        | false =>
          rw[if_neg Ta];subst hc;obtain⟨I9',st9,fr9⟩:=back I9;exact⟨pre.length-(i+1),by omega,i+1,σ8,H9,vs,I9',st9,fr9,envf (E8.same sm9),sm59 _ _ hD5,sm5.trans sm59,Nat.le_succ_of_le lv5,hp,rfl⟩
        | true =>
          rw[if_pos rfl];subst hc;obtain⟨d',hed⟩:∃d',ED X' U' elt d' ko:=by
            cases hf:f pre[i]with
            | none=>rw[hf]at hel;cases hel
            | some d'=>rw[hf]at hel;exact⟨d',hel.2⟩
          have he':=hed ow' _ s9 σ8 H9 (λv H'=>ar H9 H'/\ae X'.K H' (Kp ow' H9 ko) d' v) I9 ⟨E8.same sm9,λv H' a r=>⟨a,r⟩⟩;rw[eP,eW,eA,eE,eX]at he';refine Tn he' (λy s10 ⟨v10,H10,I10,r10,sm10,rp10⟩=>?_) λ_ _ z=>z.elim
          have sm510:=sm59.trans sm10;have hD10:=sm510 _ _ hD5;have hlv:vs.length<sizeLine:=by omega
          have ha':=mM (X:=X') _ s10 σ8 H10 (.ref D) [v10] (.ref D) [y] (λw H'=>aA H10 D (.lst (vs++[v10]))=H') I10 rfl (.cons r10 .nil) ⟨D,vs,v10,rfl,rfl,hD10,hlv,rfl⟩;rw[eP,eW,eA,eX]at ha';refine aG ha' λ_ s11 ⟨w11,H11,I11,_,eH11⟩=>?_
          subst eH11;obtain⟨I11',st11,fr11⟩:=back I11;have s2D:∀a o,H2 a=some o->a≠D:=λa o e=>aR e hD2
          refine⟨pre.length-(i+1),by omega,i+1,σ8,_,vs++[v10],I11',st11,fr11,?_,aw,?_,by rw[S8];show vs.length+1<=_;omega,hp,rfl⟩
          . have E10:=envf ((E8.same sm9).same sm10);refine⟨λx d o h=>?_,own' _ aw (λa o e=>by rw[aq (s2D a o e)];exact(sm5.trans sm510) a o e)⟩;obtain⟨i',v',e1,e2,e3,e4⟩:=E10.get x d o h;refine⟨i',v',e1,e2,e3,e4.mono ⟨λa o h hn=>by rw[aq (λz=>by subst z;rw[hD10]at h;cases h;exact hn)];exact h,λa ws h p=>?_,λ_ _ _ p=>p,λ_ p=>p⟩⟩;have hz:a≠D:=by
              intro z;subst z;cases o with
              | true=>have:=p.2;rw[ow'D]at this;cases this
              | false=>have:ow' a=none:=p rfl;rw[ow'D]at this;cases this
            rw[aq hz];exact h
          . intro a o e;rw[aq (s2D a o e)];exact(sm5.trans sm510) a o e
      . have ei:i=pre.length:=by omega
        subst ei;have ex:(pre++x0::post)[pre.length]=x0:=by rw[List.getElem_append_right (SX _)];simp
        rw[ex]at rx7';obtain⟨U',⟨g,hg,hgd⟩,hts,hel⟩:=hrz';have hg':=hg _ s7 σ5 H7 x u (λZ' H'=>aD X' ow' H' Z' U'/\H7=H') I7' r7 (hgd ow' x σ5 H7 _ I7.len E7 rx7' λZ' _ e=>⟨e,rfl⟩);rw[eP,eW,eA,eE,eX]at hg';refine aG hg' λ_ s8 ⟨σ8,H8,I8,E8,eH8⟩=>?_
        subst eH8;have ht':=hts ow' _ s8 σ8 H7 (λc H'=>c=true/\ar H7 H') I8 ⟨E8,λH' sm=>⟨rfl,sm⟩⟩;rw[eP,eW,eA,eE,eX]at ht';refine aG ht' λc s9 ⟨H9,I9,ec,sm9⟩=>?_
        subst ec;rw[if_pos rfl];have key:=hel (notedBy (model X.prog X.w) X.A (compEnvC scope cl' s3.heap.objs.size X.env) λx s' => ∃m,s'.heap.Ns s3.heap.objs.size m/\∀h',Heap.SameBut s3.heap.objs.size s'.heap h'->wpAny (model X.prog X.w) X.A (PySem.passOn "comprehension.variables-let-go" x (compEnvC scope cl' s3.heap.objs.size X.env):Sem Value) (λ_ _=>False) X.xe { s' with heap:=h' }) (λx s₄=>wpAny (model X.prog X.w) X.A (call (.builtin "list.append") [.ref D,x]) (λ_ s₅ => ∃m,m<pre.length-pre.length/\∃(i:Nat) (Z':L2.St) (H':Hp) (vs:List V),aj X' [] Z' H' s₅/\tn i s₅.heap/\(∀b∈fp,H' b=none)/\aD X' ow' H' Z' (flt scope U)/\H' D=some (.lst vs)/\ar H2 H'/\vs.length<=i/\i<=pre.length/\m=pre.length-i) (λ_ _=>False) s₄) ow' _ s9 σ8 H9 (I9.wish _) (E8.same sm9) (λHA sA e s' IA c=>?_)
        . rw[eP,eW,eA,eE]at key;exact key
        . replace IA:=IA.unwish;have IXA:=toX IA;rw[eP,eW,eS]at c;obtain⟨xx,C',T',od,H',rfl,hx,hT,t,ho,hg0,uu,hk0,nx,nT,⟨q1,q2,q3⟩⟩:=c;cases q1;have JX:aj X dl Z H' s':=IXA.call' (ch:=[]) ho uu hk0 hg0 (λb z=>absurd z (by simp));have hC0:X'.env.locals=s3.heap.objs.size:=by rw[eE];rfl
          have JA:aj X' ([]++jK fp s7.heap) σ8 H' s':=IA.call' (ch:=[]) ho (by rw[eS];exact uu) (by rw[eP,eW];exact hk0) hg0 (λb z=>absurd z (by simp));obtain⟨mA,hnA,_⟩:=IA.loc;obtain⟨mJ,hnJ,_⟩:=JA.loc;rw[hC0]at hnA hnJ;have hfree:H' s3.heap.objs.size=none:=by have:=JA.free;rw[hC0]at this;exact this
          have hfr:=I3.frame hst;have fsX:X.A.frames=some (X.env::X.outer):=by rw[<- hst];exact I3.ok.frames
          have hf:=JX.stack;rw[hst]at hf;have ub:Un X.fs [] X.H₀ HA X.s₀.heap sA.heap:=by have:=IXA.base;rw[hex]at this;exact this
          have old:∀b,sA.heap.get? b=none->X.s₀.heap.get? b=none:=λb hb=>by
            cases z:X.s₀.heap.get? b with
            | none=>rfl
            | some o=>obtain⟨o',e'⟩:=ub.there b o z (by simp);rw[hb]at e';cases e'
          obtain⟨oe,vs',oT,ts,a0,e1,e2,e6,e3,e4,e5,f0,f1,f2',f3'⟩:=id t;have hsz:1<vs'.size:=by
            rcases UX 1 vs'.size with z|z
            . exact z
            . rw[Ua z]at e5;cases e5
          have there:∃o,sA.heap.get? s3.heap.objs.size=some o:=by obtain⟨o,es,ep,g1,_⟩:=hnA;exact⟨o,g1⟩
          have nC0x:s3.heap.objs.size≠xx:=λz=>by obtain⟨o,e⟩:=there;rw[z,hx]at e;cases e
          have nC0T:s3.heap.objs.size≠T':=λz=>by obtain⟨o,e⟩:=there;rw[z,hT]at e;cases e
          have nC0f:s3.heap.objs.size∉bW X.stack:=λz=>by
            rcases SS.mp (I3.stkSub _ z)with q|q
            . exact absurd q (TR I3.lt)
            . exact I3.nofs (SX _) q
          have oldC0:X.s₀.heap.get? s3.heap.objs.size=none:=UK I3.sz;refine Eb (C:=Cc) (od:=od) (Q:=λ_ s''=>dC X.prog X.w X.outer X.H₀ X.s₀ E1 (.ref xx) s'') (E:=λ_ _=>False) fsX hf hfr rfl e1 e2 e6 e3 hsz e4 (.inr ⟨T',oT,ts,e5,f0,f1,f2',f3'⟩) ⟨mJ,hnJ⟩ nC0x (by rw[e5];intro z;injection z with z;injection z with z;exact nC0T z.symm) (by rw[<- hst];exact nC0f) hlv.two λh2 T2 k1 k2 nT2 tr=>?_
          have ov:pD X (xx::T'::s3.heap.objs.size::bW X.stack) s'.heap h2:=⟨λb o eb nb=>k1 b o eb (λz=>nb (by rw[z];simp)) (λz=>nb (by rw[z];simp)) (by rw[e5];intro z;injection z with z;injection z with z;exact nb (by rw[<- z];simp)) (λz=>nb (SR _ (SR _ (SR _ (by rw[hst];exact z))))),λb hb o eb=>k2 b (by rw[<- hst];exact hb) o eb⟩;refine wq JX hst hex (λb hb=>?_) (λb hb=>?_) ov tr (.inl nT2) (old xx hx) nx (hE od H' ((s12.trans (sm5.trans (sm7.trans sm9))).trans q2) q3)
          . simp only[SS]at hb;rcases hb with rfl|rfl|rfl|hb
            . exact .inr (old _ hx)
            . exact .inr (old _ hT)
            . exact .inr oldC0
            . exact .inl hb
          . simp only[SS]at hb;rcases hb with rfl|rfl|rfl|hb
            . exact nx
            . exact nT
            . exact hfree
            . exact JX.stkFree b hb
    . exact T.keep 0 s2.heap h₁ st2 λb hb o e=>kp b o (by rw[<- hs3];exact SQ _ e)
  exact codeAny_compStart_list loop (T.self _ 0 _ _ _ (T.keep 0 s2.heap h₁ st2 λb hb o e=>kp b o (by rw[<- hs3];exact SQ _ e)) loop)
noncomputable def wU(X:Cx)(n m:Str)(G:List D->Option Xs):Prop:=∃k C f fd ps,W.nsIn X.K mainGlobals n=some (some (.ref C))/\eY X.K C/\iL X.K C m f/\bj X.prog X.w X.K X.mg X.base (dC X.prog X.w) k f fd ps (pX X.K G)/\bJ k X.A/\bu X.K fd ps []
theorem x9{o:Expr}
  (Gd:aJ O X.nox sc) (GR:wU X cn m G) (hcn:W.nsIn X.K mainGlobals n=some (some (.ref C))) (hcp:W.nsIn X.K mainGlobals p=some (some (.ref S))) (hex:iq X.K C S)
  (ho:ac (aB O o false sc U) (.obj cn ns fds,ko)) (hnm:ns.contains m=false) (ha:ac (cB O (e::es) sc U) (ds,k)) (hbo:de o=true) (hfew:(e::es).length<29) (hln:(ap.endLine==q.line)=true) (h:G (.obj cn ns fds::ds)=some (n,p,fs)) (I:aj X dl Z H s) (E:aD X.nox ow H Z U) (B:ar H0 H)
  (hx:∀H1 s1 e s',aj X dl Z H1 s1->dC X.prog X.w X.stack H1 s1 (ug H0 C fs) e s'->X.xe e s'):wpAny (model X.prog X.w) X.A (eval (.Call (.Attribute o m ap) (e::es) [] q) X.env) Q X.xe s:=by
 obtain⟨kk,Cd,fa,fd,ps,hns,hc,hm,F,hr,hb⟩:=GR;obtain⟨l,ha,hp⟩:=ha;obtain⟨hst,_⟩:=cU ha hp;have ad:=lv (e::es) ha hp Gd;have ed:=aZ ho Gd;have ht:=qt (o:=o) (name:=m) (apos:=ap) (pos:=q) (args:=e::es) (env:=X.env) (cj hbo) (eN hst hfew) hln;refine Vc (Tn (ed ow dl s Z H (λv H1=>ar H H1/\ae X.K H1 (Kp ow H ko) (.obj cn ns fds) v) (I.wish _) ⟨E,λv H1 a b=>⟨a,b⟩⟩) (λu s1 ⟨v,H1,I1,rx,sm,r1⟩=>?_) λ_ _ z=>z.elim) ht;replace I1:aj X dl Z H1 s1:=I1.unwish;have r0:=r1;rw[ae]at r1;obtain⟨f,e0,a,C',dx,vs,rfl,h1,h2,h3,r2⟩:=r1;rw[hns]at h1;cases h1;obtain rfl:u=Value.ref a:=rx;refine hZ I1 h3 hc hm (jA hnm) ?_;refine UM (first:=[.ref a]) (h₀:=X.base) I.ok.mod.kin hm.kp (aG ((ad ow).nox q dl s1 Z H1 (λvs H2=>ar H1 H2/\ah X.K H2 (Kp ow H1 k) ds vs) I1 ⟨E.same sm,λvs H2 a b=>⟨a,b⟩⟩) λus s2 ⟨ws,H2,I2,r,sm2,rw2⟩=>⟨I2.kIn,?_⟩) (ax (hst e SV)) (bE λx hx=>hst x (SR _ hx));have hsp:pX X.K G (.ref a::ws) H2 (λ_ _=>False) (ug H0 C fs):=⟨.obj cn ns fds::ds,n,p,fs,C,S,ah.cons ((r0.same sm2).imp λ_ _ _=>True.intro) (rw2.imp λ_ _ _=>True.intro),h,hcn,hcp,hex,λod H' s' fd=>⟨rfl,((B.trans sm).trans sm2).trans s',fd⟩⟩;have rr:aP (V.ref a::ws) (Value.ref a::us):=.cons rfl r;have hl:(Value.ref a::us).length=ps.length:=by rw[<- rr.length];exact F.len _ _ _ _ hsp
 refine UL (UV (F.run X.A X.stack s2 H2 ⟨.ref a::us,[]⟩ (.ref a::us) (.ref a::ws) _ _ hr I2.env0 (by have:=hb s2 (.ref a::us) I2.kIn (by rw[Tw];exact hl);rw[Tw]at this;exact this) rr hsp) λr s' hq=>?_);cases r with
 | error e=>exact hx H2 s2 e s' I2 hq
 | ok fl =>
  cases fl with
  | ret u=>obtain⟨_,_,_,_,_,_,_,z⟩:=hq;exact z.elim
  | next=>exact False.elim hq
  | brk=>exact False.elim hq
  | cont=>exact False.elim hq
abbrev j7:=Str->Str->Option (List D->Option Xs)
noncomputable def zV(O:Fx)(scope:Scope)(U:ag)(tg:Expr)(ifs:List Expr)(elt:Expr):D->Rs (Option (D×Nat)):=λd=>match dk scope tg d (flt scope U)with
 | none=>.st
 | some U'=>(fb O .And ifs scope U').bnd λb=>cond b ((aB O elt false scope U').bnd λr=>.ok (some r) []) (.ok none [])
inductive gX(O:Fx)(Ψ:Str->Option (List D->Option Xs))(Ω:j7)(Ex:Str->Option (Str×Option Str))(sc:Scope):List Stmt->ag->Xs->Prop where
  | rz {ss:List Stmt} {U:ag} {r:Xs} (h:Rz O Ψ Ex sc ss U r):gX O Ψ Ω Ex sc ss U r
  | step {s:Stmt} {ss:List Stmt} {U U':ag} {r:Xs} (hs:ac (jU O s sc U) (.nx U')) (h:gX O Ψ Ω Ex sc ss U' r):gX O Ψ Ω Ex sc (s::ss) U r
  | iff {c:Expr} {a b ss:List Stmt} {t:Bool} {k:Nat} {pos:Pos} {U:ag} {r:Xs} (hc:ac (aB O c false sc U) (.bl t,k)) (h:gX O Ψ Ω Ex sc (cond t a b) U r):gX O Ψ Ω Ex sc (.If c a b pos::ss) U r
  | comp {x:Str} {o e tg iter:Expr} {es:List Expr} {scope:Scope} {cn m:Str} {G:List D->Option Xs} {px spos p ap q:Pos} {ss:List Stmt} {U U1:ag} {d x0:D} (pre:List D) {post fds ds:List D} {ns:List Str} {qq:List D×Nat} {k ko ka:Nat} {r:Xs} (hc:ni sc scope=true)
      (hi:ac (aB O iter true sc U) (d,k)) (hd:items d=some (pre++x0::post)) (ht:gI iter tg=true) (hll:aK (pre++x0::post)=true) (hlen:pre.length<=bx)
      (hpre:ac (kC (zV O scope U tg [] (.Call (.Attribute o m ap) (e::es) [] q)) pre) qq) (hq:qq.2<=1)
      (hb:dk scope tg x0 (flt scope U)=some U1) (ho:ac (aB O o false scope U1) (.obj cn ns fds,ko)) (hnm:ns.contains m=false) (ha:ac (cB O (e::es) scope U1) (ds,ka)) (hbo:de o=true) (hfew:(e::es).length<29) (hln:(ap.endLine==q.line)=true) (hG:Ω cn m=some G) (h:G (.obj cn ns fds::ds)=some r) :
      gX O Ψ Ω Ex sc (.Assign [.Name x px] (.ListComp (.Call (.Attribute o m ap) (e::es) [] q) [⟨tg,iter,[],0⟩] scope p) spos::ss) U r
  | argM {o a1 e:Expr} {es:List Expr} {cn m g:Str} {M G:List D->Option Xs} {gp q ap cp pos:Pos} {ss:List Stmt} {U:ag} {ds fds:List D} {d1:D} {ns:List Str} {k ko k1:Nat} {r:Xs} (hM:Ω cn m=some M) (ho:ac (aB O o false sc U) (.obj cn ns fds,ko)) (hnm:ns.contains m=false) (h1:ac (aB O a1 false sc U) (d1,k1)) (hbo:de o=true) (hln:(ap.endLine==cp.line)=true)
      (ha:ac (cB O (e::es) sc U) (ds,k)) (hg:sc.names.lookup g=some .globalImplicit) (hG:Ψ g=some G) (h:G ds=some r) :
      gX O Ψ Ω Ex sc (.Return (some (.Call (.Attribute o m ap) [a1,.Call (.Name g gp) (e::es) [] q] [] cp)) pos::ss) U r
theorem vo{O:Fx}{Ψ:Str->Option (List D->Option Xs)}{Ω:j7}{Ex:Str->Option (Str×Option Str)}{sc:Scope}{r:Xs}:∀(n:Nat) {ss:List Stmt} {U U':ag},ac (aL O (ss.take n) sc U) (.nx U')->gX O Ψ Ω Ex sc (ss.drop n) U' r->gX O Ψ Ω Ex sc ss U r
 | 0,ss,U,U',h,k=>by cases aX h;exact k
 | n+1,[],U,U',h,k=>by cases aX h;exact k
 | n+1,s::ss,U,U',h,k=>by
  rcases mw h with⟨U1,h1,h2⟩|⟨h1,_⟩
  ·exact gX.step h1 (vo n h2 k)
  ·exact absurd rfl (h1 _)
theorem Ii{M:List D->Option Xs}{o a1:Expr}{gp:Pos}{k1:Nat}
  (Gd:aJ O X.nox sc) (GM:wU X cn m M) (GR:wZ X g G) (hcn:W.nsIn X.K mainGlobals n=some (some (.ref C))) (hcp:W.nsIn X.K mainGlobals p=some (some (.ref S))) (hex:iq X.K C S)
  (ho:ac (aB O o false sc U) (.obj cn ns fds,ko)) (hnm:ns.contains m=false) (h1:ac (aB O a1 false sc U) (d1,k1)) (hbo:de o=true) (hln:(ap.endLine==cp.line)=true) (ha:ac (cB O (e::es) sc U) (ds,k)) (hg:sc.names.lookup g=some .globalImplicit) (h:G ds=some (n,p,fs)) (I:aj X dl Z H s) (E:aD X.nox ow H Z U) (B:ar H0 H)
  (hx:∀dl Z H1 s1 e s',aj X dl Z H1 s1->dC X.prog X.w X.stack H1 s1 (ug H0 C fs) e s'->X.xe e s'):wpAny (model X.prog X.w) X.A (eval (.Call (.Attribute o m ap) [a1,.Call (.Name g gp) (e::es) [] q] [] cp) X.env) Q X.xe s:=by
 obtain⟨kk,Cd,fa,fd,ps,hns,hc,hm,F,hr,hb⟩:=GM;have ed:=aZ ho Gd;have e1:=aZ h1 Gd;obtain⟨l1,h1',_⟩:=h1;have ns1:=ic h1';have hst:∀z∈[a1,Expr.Call (.Name g gp) (e::es) [] q],∀(u:Expr) (r:Pos),z ≠ .Starred u r:=λz hz=>by
  rcases SS.mp hz with rfl|hz
  ·exact ns1
  ·rw[Tq.mp hz];exact λ_ _ y=>by cases y
 have ht:=qt (o:=o) (name:=m) (apos:=ap) (pos:=cp) (args:=[a1,Expr.Call (.Name g gp) (e::es) [] q]) (env:=X.env) (cj hbo) (eN hst (show 2<29 by decide)) hln;have P2:PE X (.Call (.Name g gp) (e::es) [] q) (λZ' H' _=>aD X.nox ow H' Z' U/\ar H0 H'):=λpins' s' Z' H' Q' I' ⟨E',B'⟩=>Ig Gd GR hcn hcp hex ha hg h I' E' B' (hx pins' Z')
 refine Vc (Tn (ed ow dl s Z H (λv H1=>ar H H1/\ae X.K H1 (Kp ow H ko) (.obj cn ns fds) v) (I.wish _) ⟨E,λv H1 a b=>⟨a,b⟩⟩) (λu s1 ⟨v,H1,I1,rx,sm,r1⟩=>?_) λ_ _ z=>z.elim) ht;replace I1:aj X dl Z H1 s1:=I1.unwish;rw[ae]at r1;obtain⟨f,e0,a,C',dx,vs,rfl,h1,h2,h3,r2⟩:=r1;rw[hns]at h1;cases h1;obtain rfl:u=Value.ref a:=rx;refine hZ I1 h3 hc hm (jA hnm) ?_;exact UM (first:=[.ref a]) (h₀:=X.base) I.ok.mod.kin hm.kp (aG ((fZ (PE.nox (e1 ow)) (fZ P2 mK (ax λ_ _ y=>by cases y)) (ax ns1)) cp dl s1 Z H1 (λ_ _=>False) I1 ⟨E.same sm,λv H2 sm2 r2=>⟨(E.same sm).same sm2,(B.trans sm).trans sm2⟩⟩) λus s2 ⟨vs,H2,I2,r,z⟩=>z.elim) (ax ns1) (bE λz hz=>hst z (SR _ hz))
theorem Lw{Ω:j7}(Gd:aJ O X.nox sc)(GR:∀f G,Ψ f=some G->wZ X f G)(GM:∀c m G,Ω c m=some G->wU X c m G)(hcn:W.nsIn X.K mainGlobals n=some (some (.ref C)))(hcp:W.nsIn X.K mainGlobals p=some (some (.ref S)))(hex:iq X.K C S)
  (hz:∀{ss:List Stmt} {U:ag},Rz O Ψ Ex sc ss U (n,p,fs)->fD X ss (A0 X H0 U)) (hx:∀dl Z H1 s1 e s',aj X dl Z H1 s1->dC X.prog X.w X.stack H1 s1 (ug H0 C fs) e s'->X.xe e s')
  (hst:X.stack=X.env::X.outer) (hxx:X.ex=[]) (hlv:GV X E1 X.xe) (hE:∀od H',ar H0 H'->oH H' od fs->E1 (.ref C) od H') :
  ∀{ss:List Stmt} {U:ag} {r:Xs},gX O Ψ Ω Ex sc ss U r->r=(n,p,fs)->fD X ss (A0 X H0 U):=by
 intro ss U r h;induction h with
 | rz h=>intro er;subst er;exact hz h
 | step hs h ih =>
  rename_i st ss U U' r;intro er;have sd:=((i6 O _).s st (H0:=H0) (Tx _) hs Gd TV);intro dl s Z H D I ⟨ow,E,hl',B⟩;exact ef (L2.PS.nox sd) (ih er) dl s Z H D I ⟨ow,E,hl',B,λow' Z' H' E' hl2 k=>⟨ow',E',hl2,B.keep k⟩⟩
 | iff hc h ih =>
  rename_i c a b ss t k pos U r;intro er;refine lg λdl s Z H D I ⟨ow,E,hl',B⟩=>?_
  have td:=((bO hc Gd).td rfl t rfl ow).nox;refine wpAny_If (aG (td dl s Z H (λb H'=>b=t/\ar H H') I ⟨E,λH' sm=>⟨rfl,sm⟩⟩) λd s1 ⟨H1,I1,e,sm⟩=>?_);subst e;cases d with
  | true=>exact ih er dl s1 Z H1 _ I1 ⟨ow,E.same sm,hl',B.same sm⟩
  | false=>exact ih er dl s1 Z H1 _ I1 ⟨ow,E.same sm,hl',B.same sm⟩
 | comp pre hc hi hd ht hll hlen hpre hq hb ho hnm ha hbo hfew hln hG h =>
  rename_i x o e tg iter es scope cn m G px spos p' ap q ss U U1 d x0 post fds ds ns qq k ko ka r;intro er;subst er;refine lg λdl s Z H D I ⟨ow,E,hl',B⟩=>?_
  obtain⟨l,hp1,hp2⟩:=hpre;have Gx:aJ O X sc:=⟨Gd.calm,Gd.nd,Gd.gl,Gd.kc,Gd.lc,Gd.cc,Gd.fn,Gd.con,Gd.blt,Gd.itr,Gd.mth,Gd.mtt,Gd.slf,Gd.fld,Gd.omt,Gd.bl,Gd.room,Gd.ns,Gd.ft⟩;obtain⟨f,_,t⟩:=xV (X:=X) (sc:=sc) (λa b c=>Gy _ a b c) (λa b c=>(gz O _).b .And [] (Tx _) a b c) hc Gx hp1 hp2 hq;have core:∀(use:Option (Value->Sem Unit)) (pos2:Pos) (Q':Value->Shared->Prop),wpAny (model X.prog X.w) X.A (comprehension (.ListComp (.Call (.Attribute o m ap) (e::es) [] q) [⟨tg,iter,[],0⟩] scope p') scope X.env pos2 (newList []) false (eval iter X.env) use) Q' X.xe s:=λuse pos2 Q'=>by
   obtain⟨li,hi1,hi2⟩:=hi;refine EC (N':=scope.names.map (·.1)) pre (k:=k) (Cc:=C) (fs:=fs) Gd.calm Gd.nd (.inl hll) (Tu hlen i5) (m9 Gx hc) (λx d o hx=>jr (iE hx).2) ((bO ⟨li,hi1,hi2⟩ Gd).ie rfl tg _ hd ht) t (λcl C' s' H' fp=>?_) (kA hi1) I E hst hxx hlv (λod H' sm fd=>hE od H' (B.sm.trans sm) fd);have G':=sg (cl:=cl) (C:=C') (s:=s') (H:=H') (fp:=fp) Gx hc;refine⟨U1,js G' hb,((gz O _).b .And [] (Tx _) (show fb O .And [] scope U1=.ok true []from rfl) trivial G').ts rfl,λF Q ow dl s Z H I E hF=>?_⟩;exact x9 (X:=(jp X scope cl C' (scope.names.map (·.1)) s' H' fp).wish F) (H0:=H) ⟨G'.calm,G'.nd,G'.gl,G'.kc,G'.lc,G'.cc,G'.fn,G'.con,G'.blt,G'.itr,G'.mth,G'.mtt,G'.slf,G'.fld,G'.omt,G'.bl,G'.room,G'.ns,G'.ft⟩ (GM _ _ _ hG) hcn hcp hex ho hnm ha hbo hfew hln h I ⟨E.get,E.own⟩ (ar.refl _) hF
  have hsw:∃b,swapsWith (.ListComp (.Call (.Attribute o m ap) (e::es) [] q) [⟨tg,iter,[],0⟩] scope p') (some (.Name x px)) spos.line X.env=pure b:=⟨_,rfl⟩;obtain⟨b,hsw⟩:=hsw;cases b with
  | false =>
   refine wpAny_Assign_Name ?_ hsw;rw[eval_ListComp];exact core none _ _
  | true =>
   rw[exec_Assign_Name_used _ _ _ _ hsw];refine SO (UG (SO ?_));show wpAny _ X.A (do let _ <- comprehension (.ListComp (.Call (.Attribute o m ap) (e::es) [] q) [⟨tg,iter,[],0⟩] scope p') scope X.env _ (newList []) false (eval iter X.env) (some (assign (.Name x px) X.env))) _ _ s;exact SO (core _ _ _)
 | argM hM ho hnm h1 hbo hln ha hg hG h =>
  intro er;subst er;exact lg λdl s Z H D I ⟨ow,E,hl',B⟩=>wpAny_Return_some (Ii Gd (GM _ _ _ hM) (GR _ _ hG) hcn hcp hex ho hnm h1 hbo hln ha hg h I E B.sm hx)
noncomputable def jq(P:Program)(w:World)(K:W.Frag)(mg:Str->Option Value)(base:Heap)(k:Nat)(n m:Str)(G:List D->Option Xs):Prop:=∃C f fd ps,W.nsIn K mainGlobals n=some (some (.ref C))/\eY K C/\iL K C m f/\bj P w K mg base (dC P w) k f fd ps (pX K G)/\bu K fd ps []
theorem jq.at(h:jq X.prog X.w X.K X.mg X.base k n m G)(hr:bJ k X.A):wU X n m G:=let ⟨C,f,fd,ps,a,b,c,d,e⟩:=h;⟨k,C,f,fd,ps,a,b,c,d,hr,e⟩
theorem yt{Ω:j7}(Fn:fY K g qual st f fd)
  (S:bG (aE (aa st)) ps (aa st)) (hΦ:kg P w K mg base k O) (hΨ:∀g G,Ψ g=some G->oP P w K mg base k g G) (hΩ:∀c m G,Ω c m=some G->jq P w K mg base k c m G) (hmg:∀n C,W.nsIn K mainGlobals n=some (some (.ref C))->mg n=some (.ref C)) (hEI:G4 P w K mg base k Ex)
  (hrun:∀ds r,G ds=some r->ds.length=ps.length/\gX O Ψ Ω Ex (aa st) (af st) (bB ps ds) r):bj P w K mg base (dC P w) (k+1) f fd ps (pX K G):=by
 obtain⟨oc,od,kV,doc,pm,an,cdv,ct,osl,rfl,lk,hcd⟩:=Fn.ex;refine zM lk hcd S (λvs H Q E h=>?_) λA outer s H vs Q E hr hsp=>?_
 ·obtain⟨ds,n,p,fs,C,S',h1,h2,_⟩:=h;rw[<- h1.length];exact(hrun ds _ h2).1
 ·obtain⟨ds,n,p,fs,C,S',h1,h2,h3,h4,h5,h6⟩:=hsp;obtain⟨hl,hz⟩:=hrun ds _ h2;have Gd:=ge (outer:=outer) (H:=H) (E:=E) S hΦ hr;obtain⟨E0,hsl⟩:=ig (P:=P) (w:=w) (mg:=mg) (base:=base) (qual:=qual) (f:=f) (cdv:=cdv) (A:=A) (outer:=outer) (s:=s) (E:=E) S h1 hl;have B0:bP H (λ_=>none) H:=λa o h=>⟨h,rfl⟩
  generalize hX:fV (dC P w) P w K mg base (aE (aa st)) qual (aa st) f cdv A outer s H E=X at *;have hcx:∀{pins' Z' H1 s1 e s'},aj X pins' Z' H1 s1->dC P w X.stack H1 s1 (ug H C fs) e s'->X.xe e s':=λ{pins' Z' H1 s1 e s'} I c=>by
   subst hX;refine qk I rfl rfl ?_;obtain⟨x,C',T,od,H',rfl,z1,z2,z3,z4,z5,z6,z7,z8,z9,⟨e1,e2,e3⟩⟩:=c;cases e1;exact⟨x,C,T,od,H',rfl,z1,z2,z3,z4,z5,z6,z7,z8,z9,h6 od H' e2 e3⟩
  subst hX;refine⟨_,Lw (X:=fV (dC P w) P w K mg base (aE (aa st)) qual (aa st) f cdv A outer s H E) (H0:=H) (E1:=E) Gd (λg' G' hG=>(hΨ g' G' hG).at hr) (λc m G hG=>(hΩ c m G hG).at hr) h3 h4 h5 (λ{ss U} hz=>?_) (λdl Z H1 s1 e s' I c=>hcx I c) rfl rfl (λe s2 k=>Tn k (λ_ _ z=>z) λ_ _ z=>z.elim) h6 hz rfl,λ_=>none,E0,hsl,B0⟩;refine F2 (X:=fV (dC P w) P w K mg base (aE (aa st)) qual (aa st) f cdv A outer s H E) (H0:=H) (C:=C) (S:=S') Gd (λg' G' hG=>(hΨ g' G' hG).at hr) h3 h4 h5 (hmg n C h3) (hEI n C h3).1 (λp' f' hp'=>?_) (λhfs dl Z H1 s1 h' a us I sm m=>?_) (λf' i' hfs dl Z H1 s1 z dx o vv a0 sm I w1 w2 w3 w4 w5 w6 w7 w8 w9 w10=>?_) (λdl Z H1 s1 e s' I c=>hcx I c) hz rfl
  ·obtain⟨j,fI,oI,fd',ps',q0,q1,q2,q3,q4,q5,q6⟩:=(hEI n C h3).2 p' f' hp';exact⟨j,fI,oI,fd',ps',q1,q2,q3,q4,q5,hr.mono q0,q6⟩
  ·subst hfs;exact oF I rfl rfl m (h6 none H1 sm oH.nil)
  ·subst hfs;exact jP I rfl rfl w2 w3 w4 w5 w6 w7 w8 w10 w9 (h6 _ _ (sm.trans (cf w1)) (λf i z=>by cases z;exact⟨dx,rfl,aw⟩))
variable{Ω:j7}
def yO(X:Cx)(a:Addr):Prop:=∀o u,X.H₀ a≠some (.frz o u)
noncomputable def OJ(X:Cx):wO:=λo i v H Q => ∃a ob kvs k,o=.ref a/\i=kV k/\H a=some (.frz ob (.dK kvs))/\yO X a/\kvs.length<sizeLine/\∀ob',Q (aA H a (.frz ob' (.dK (hJ kvs k v))))
theorem HV:Fj X (OJ X):=by
 intro dl s Z H o i v ov iv u Q I ro ri rv h;obtain⟨a,ob,kvs,k,rfl,rfl,ha,ht,hz,q⟩:=h;have I1:=jR I ha ht;refine Tn (Dz dl s Z _ _ _ _ ov iv u (λH'=>H'=aA (aA H a (.dK kvs)) a (.dK (hJ kvs k v))) I1 ro ri rv ⟨a,kvs,k,rfl,rfl,aw,hz,rfl⟩) (λ_ s' ⟨H',I',e⟩=>?_) λ_ _ z=>z
 subst e;obtain⟨ob',I2⟩:=gc I' aw;rw[iw,iw]at I2;exact⟨_,I2,q ob'⟩
theorem IW:nv X "dict.pop" (λx xs H Q => ∃a ob kvs w u,x=.ref a/\xs=[.str w]/\H a=some (.frz ob (.dK kvs))/\yO X a/\iu kvs (.inr w)=some u/\∀ob',Q u (aA H a (.frz ob' (.dK (ju kvs (.inr w)))))):=by
 intro dl s Z H x xs v us Q I rx rxs h;obtain⟨a,ob,kvs,w,u,rfl,rfl,ha,ht,hu,q⟩:=h;cases rx;obtain⟨u1,rfl,r1⟩:=bY rxs;have I1:=jR I ha ht;obtain⟨z,hd,vs,rel,dd⟩:=(show bz X.prog X.w (aA H a (.dK kvs)) s.heap a (.dK kvs)from I1.hok a _ aw);have hz':vs.length<=sizeLine:=by rw[<- rel.length];exact z
 have rv:=rel.val (.inr w);rw[hu]at rv;cases e:valueAt vs (.inr w)with
 | none=>rw[e]at rv;exact rv.elim
 | some uv =>
  rw[e]at rv;have hl:(ju kvs (.inr w)).length<=sizeLine:=SZ (List.length_filter_le _ _) z;refine call_meetsIn PySem.F.slot_dict_pop dd.typeIs PySem.F.entry_dict_pop (PySem.F.args_dict_pop_2 _ _) (meets_dict_pop_there _ a (uA (k:=.inr w) r1) [] (.inl rfl) (by obtain⟨t,rfl⟩:=r1;rfl)) ⟨vs,uv,dd,hz',e,λh' dd' hs=>?_⟩;have he:∃q,h'.get? a=some q:=let ⟨q,_,_,hq,_⟩:=dd';⟨q,hq⟩
  have I2:=I1.write (t':=s.toks+1) (x:=a) (e:=a) (by rw[aw];exact True.intro) (.inl rfl) (λb q hb z=>(hs.2 b hb).trans z) he (show bz X.prog X.w (aA (aA H a (.dK kvs)) a (.dK (ju kvs (.inr w)))) h' a (.dK (ju kvs (.inr w)))from⟨hl,hd,_,rel.drop _,dd'⟩);obtain⟨ob',I3⟩:=gc I2 aw;rw[iw,iw]at I3;exact⟨u,_,I3,rv,q ob'⟩
mutual
def D.nod:D->Bool
 | .dft _ _ _=>false
 | .dcf _ _=>false
 | .tup l=>jc l
 | .lst l=>jc l
 | .obj _ _ l=>jc l
 | .dct _ l=>jc l
 | _=>true
def jc:List D->Bool
 | []=>true
 | d::l=>d.nod&&jc l
end
structure jb(S:Addr->Prop)(H H':Hp):Prop where
 oth:∀b o,¬ S b->H b=some o->H' b=some o
 was:∀b,S b->∃o kvs,H b=some (.frz o (.dK kvs))
theorem zY(h:∀b o,b≠a->H b=some o->H' b=some o)(w:H a=some (.frz o (.dK kvs))):jb (· = a) H H':=⟨h,λb e=>by rw[show b=a from e];exact⟨_,_,w⟩⟩
theorem jb.ne{S:Addr->Prop}(c:jb S H H'){o:HO}(h:H b=some o)(hn:∀ob kvs,o ≠ .frz ob (.dK kvs)):H' b=some o:=c.oth b o (λz=>by obtain⟨ob,kvs,e⟩:=c.was b z;rw[e]at h;cases h;exact hn _ _ rfl) h
theorem jb.sq{S:Addr->Prop}(c:jb S H H')(h:bX K H b vs):bX K H' b vs:=by
 rcases h with(h|⟨o,h⟩)|h
 ·exact .inl (.inl (c.ne h (λ_ _ z=>nomatch z)))
 ·exact .inl (.inr ⟨o,c.ne h (λ_ _ z=>nomatch z)⟩)
 ·exact .inr h
theorem jb.ls{S:Addr->Prop}(c:jb S H H'):∀{t:Bool},oO K H b vs t->oO K H' b vs t
 | true,h=>c.ne h (λ_ _ z=>nomatch z)
 | false,.inl ⟨o,h⟩=>.inl ⟨o,c.ne h (λ_ _ z=>nomatch z)⟩
 | false,.inr h=>.inr h
theorem jb.frz{S:Addr->Prop}(c:jb S H H')(hs:∀b,S b->∀o u,H b=some (.frz o u)->∃o',H' b=some (.frz o' u)){u:HO}(h:H b=some (.frz o u)):∃o',H' b=some (.frz o' u):=by
 by_cases z:S b
 ·exact hs _ z _ _ h
 ·exact⟨o,c.oth b _ z h⟩
theorem nD.chg{K:W.Frag}{S:Addr->Prop}{H H':Hp}(c:jb S H H'):∀{ls:List (List (List Int))} {vs:List V},nD K H ls vs->nD K H' ls vs
 | [],[],_=>trivial
 | l::ls,v::vs,h=>let ⟨b,o,ts,e,h1,h2⟩:=h.1;⟨⟨b,o,ts,e,c.ne h1 (λ_ _ z=>nomatch z),h2.keep λ_ _ z=>c.sq z⟩,nD.chg c h.2⟩
 | [],_::_,h=>h.elim
 | _::_,[],h=>h.elim
mutual
theorem ae.chg{K:W.Frag}{P:bi}{S:Addr->Prop}{H H':Hp}(c:jb S H H'):∀{d:D} {v:V},(d.nod=true\/∀b,S b->∀o u,H b=some (.frz o u)->∃o',H' b=some (.frz o' u))->ae K H P d v->ae K H' P d v
 | .non,v,_,h=>by rw[ae]at h⊢;exact h
 | .bl b,v,_,h=>by rw[ae]at h⊢;exact h
 | .int i,v,_,h=>by rw[ae]at h⊢;exact h
 | .str x,v,_,h=>by rw[ae]at h⊢;exact h
 | .dct ks ds,v,n,h=>by
  rw[ae]at h⊢;obtain⟨f,e0,b,vs,e,h1,p,r⟩:=h;exact⟨f,e0,b,vs,e,c.ne h1 (λ_ _ z=>nomatch z),p,ah.chg c (n.imp (λz=>by rw[D.nod]at z;exact z) id) r⟩
 | .typ n,v,_,h=>by rw[ae]at h⊢;exact h
 | .dft a0 ks ts,v,n,h=>by
  rw[ae]at h⊢;obtain⟨e0,b,o,vs,e,h1,r⟩:=h;rcases n with n|n
  ·rw[D.nod]at n;cases n
  ·obtain⟨o',h2⟩:=c.frz n h1;exact⟨e0,b,o',vs,e,h2,r.keep λ_ _ z=>c.sq z⟩
 | .dcf ks ls,v,n,h=>by
  rw[ae]at h⊢;obtain⟨e0,b,o,vs,e,h1,r⟩:=h;rcases n with n|n
  ·rw[D.nod]at n;cases n
  ·obtain⟨o',h2⟩:=c.frz n h1;exact⟨e0,b,o',vs,e,h2,r.chg c⟩
 | .sn n,v,_,h=>by
  rw[ae]at h⊢;obtain⟨b,S,e,h⟩:=h;exact⟨b,S,e,c.ne h (λ_ _ z=>nomatch z)⟩
 | .cls n,v,_,h=>by rw[ae]at h⊢;exact h
 | .xc n p,v,_,h=>by rw[ae]at h⊢;exact h.mono (λa C od z=>c.ne z (λ_ _ z=>nomatch z)) (λa fs z=>c.ne z (λ_ _ z=>nomatch z))
 | .obj n ns ds,v,nn,h=>by
  rw[ae]at h⊢;obtain⟨f,e0,b,C,dx,vs,e,h1,h2,h3,r⟩:=h;exact⟨f,e0,b,C,dx,vs,e,h1,h2,c.ne h3 (λ_ _ z=>nomatch z),ah.chg c (nn.imp (λz=>by rw[D.nod]at z;exact z) id) r⟩
 | .tup l,v,n,h=>by
  rw[ae]at h⊢;obtain⟨b,vs,e,h,r⟩:=h;exact⟨b,vs,e,c.sq h,ah.chg c (n.imp (λz=>by rw[D.nod]at z;exact z) id) r⟩
 | .lst l,v,n,h=>by
  rw[ae]at h⊢;obtain⟨b,vs,t,e,h,p,r⟩:=h;exact⟨b,vs,t,e,c.ls h,p,ah.chg c (n.imp (λz=>by rw[D.nod]at z;exact z) id) r⟩
theorem ah.chg{K:W.Frag}{P:bi}{S:Addr->Prop}{H H':Hp}(c:jb S H H'):∀{l:List D} {vs:List V},(jc l=true\/∀b,S b->∀o u,H b=some (.frz o u)->∃o',H' b=some (.frz o' u))->ah K H P l vs->ah K H' P l vs
 | [],vs,_,h=>by rw[ah]at h⊢;exact h
 | d::l,vs,n,h=>by
  rw[ah]at h⊢;obtain⟨v,r,e,h1,h2⟩:=h;exact⟨v,r,e,ae.chg c (n.imp (λz=>by rw[jc,Tj]at z;exact z.1) id) h1,ah.chg c (n.imp (λz=>by rw[jc,Tj]at z;exact z.2) id) h2⟩
end
structure yR(K:W.Frag)(a:Addr)(ks:List av)(ts:List (List Int))(H H':Hp):Prop where
 chg:jb (· = a) H H'
 len:ks.length=ts.length
 now:∃o us,H' a=some (.frz o (.dK (ks.zip us)))/\cg K H' us ts
def mf(a:Addr)(ks:List av)(ts:List (List Int))(d d':D):Prop:=∀K H H' P v,yR K a ks ts H H'->ae K H P d v->ae K H' P d' v
def kR(a:Addr)(ks:List av)(ts:List (List Int))(l l':List D):Prop:=∀K H H' P v,yR K a ks ts H H'->ah K H P l v->ah K H' P l' v
theorem fS(h:d.nod=true):mf a ks ts d d:=λK H H' P v c r=>r.chg c.chg (.inl h)
theorem vp:mf a ks ts (.dft a k0 t0) (.dft a ks ts):=λK H H' P v c r=>by
 rw[ae]at r⊢;obtain⟨⟨_,rfl⟩,_⟩:=r;obtain⟨o,us,h1,h2⟩:=c.now;exact⟨⟨c.len,rfl⟩,a,o,us,rfl,h1,h2⟩
theorem jH(h:b≠a):mf a ks ts (.dft b k0 t0) (.dft b k0 t0):=λK H H' P v c r=>by
 rw[ae]at r⊢;obtain⟨⟨e,rfl⟩,b',o,vs,e2,h1,h2⟩:=r;cases e2;exact⟨⟨e,rfl⟩,b,o,vs,rfl,c.chg.oth b _ h h1,h2.keep λ_ _ z=>c.chg.sq z⟩
theorem rH:kR a ks ts [] []:=λK H H' P v c r=>by rw[ah]at r⊢;exact r
theorem lL(h:mf a ks ts d d')(g:kR a ks ts l l'):kR a ks ts (d::l) (d'::l'):=λK H H' P v c r=>by
 rw[ah]at r⊢;obtain⟨v,r,e,h1,h2⟩:=r;exact⟨v,r,e,h K H H' P v c h1,g K H H' P r c h2⟩
theorem Bn(h:kR a ks ts l l')(hl:aK l'=true)(he:l.length=l'.length):mf a ks ts (.obj n ns l) (.obj n ns l'):=λK H H' P v c r=>by
 rw[ae]at r⊢;obtain⟨f,e0,b,C,dx,vs,e,h1,h2,h3,r⟩:=r;exact⟨hl,e0.trans he,b,C,dx,vs,e,h1,h2,c.chg.ne h3 (λ_ _ z=>nomatch z),h K H H' P vs c r⟩
theorem pZ(h:kR a ks ts l l'):mf a ks ts (.lst l) (.lst l'):=λK H H' P v c r=>by
 rw[ae]at r⊢;obtain⟨b,vs,t,e,h1,p,r⟩:=r;exact⟨b,vs,t,e,c.chg.ls h1,p,h K H H' P vs c r⟩
def kT(a:Addr)(ks:List av)(ts:List (List Int))(U U':ag):Prop:=∀x d' o,U' x=some (d',o)->∃d,U x=some (d,o)/\mf a ks ts d d'
theorem dD:kT a ks ts U (bU []):=λx d' o h=>by cases h
theorem cA{o:Bool}{l:List (Str×D×Bool)}(h:U x=some (d,o))(hr:mf a ks ts d d')(g:kT a ks ts U (bU l)):kT a ks ts U (bU ((x,d',o)::l)):=λy e o' hy=>by
 unfold bU at hy;split at hy
 ·rename_i z;cases hy;rw[z];exact⟨d,h,hr⟩
 ·exact g y e o' hy
theorem JK(E:aD X ow H Z U)(c:yR X.K a ks ts H H')(hw:kT a ks ts U U'):aD X ow H' Z U' :=
 ⟨λx d' o h=>by
  obtain⟨d,h1,h2⟩:=hw x d' o h;obtain⟨i,v,e1,e2,e3,e4⟩:=E.get x d o h1;exact⟨i,v,e1,e2,e3,h2 _ _ _ _ _ c e4⟩,λb hb=>by
  by_cases z:b=a
  ·subst z;obtain⟨o,us,h,_⟩:=c.now;exact⟨_,h⟩
  ·obtain⟨o,e⟩:=E.own b hb;exact⟨o,c.chg.oth b o z e⟩⟩
variable{X:Cx}
abbrev cz:=List (Addr×List av×List (List Int))
abbrev bt(A:cz):List Addr:=A.map (·.1)
noncomputable def Fz(X:Cx)(H:Hp)(q:Addr×List av×List (List Int)):Prop:=yO X q.1/\q.2.1.length=q.2.2.length/\q.2.1.length<bx/\∃o us,H q.1=some (.frz o (.dK (q.2.1.zip us)))/\cg X.K H us q.2.2
structure d6(as:List Addr)(ow:Ow)(H:Hp)(ow':Ow)(H':Hp):Prop where
 keep:∀a o,a∉as->H a=some o->(nm o\/ow a=none)->H' a=some o
 low:∀a o,a∉as->H a=some o->ow a=none->ow' a=none
theorem aV.kw(k:aV ow H ow' H'):d6 as ow H ow' H':=⟨λa o _ h c=>k.keep a o h c,λa o _ h c=>k.low a o h c⟩
theorem d6.trans{ow1 ow2:Ow}{H1:Hp}(a:d6 as ow H ow1 H1)(b:d6 as ow1 H1 ow2 H2):d6 as ow H ow2 H2 :=
 ⟨λx o n h c=>b.keep x o n (a.keep x o n h c) (c.imp id λz=>a.low x o n h z),λx o n h z=>b.low x o n (a.keep x o n h (.inr z)) (a.low x o n h z)⟩
structure eD(X:Cx)(H0:Hp)(U:ag)(A:cz)(ow:Ow)(Z:L2.St)(H:Hp):Prop where
 env:aD X ow H Z U
 len:Z.length=X.N.length
 nd:(bt A).Nodup
 fz:∀q∈A,Fz X H q/\ow q.1=none
 base:∀b o,b∉bt A->H0 b=some o->H b=some o/\ow b=none
inductive rc where
 | nx (U:ag) (A:cz)|rt (r:D) (A:cz)
noncomputable def rn(X:Cx)(H0:Hp)(as:List Addr)(ow:Ow)(H:Hp)(fl:rc)(D:kl):Prop :=
 match fl with
 | .nx U A => ∀ow' Z' H',eD X H0 U A ow' Z' H'->d6 as ow H ow' H'->D.nx Z' H'
 | .rt r A => ∀v H',(∀b o,b∉as->H0 b=some o->H' b=some o)->(∀q∈A,Fz X H' q)->ae X.K H' (λ_ _=>True) r v->D.rt v H'
theorem rn.keep{fl:rc}{D:kl}(p:rn X H0 as ow H fl D)(k:d6 as ow H ow' H'):rn X H0 as ow' H' fl D:=by
 cases fl with
 | nx U A=>exact λow2 σ2 H2 a b=>p ow2 σ2 H2 a (k.trans b)
 | rt r A=>exact p
def Qk(X:Cx)(H0:Hp)(U:ag)(A:cz)(fl:rc):TS:=λD Z H => ∃ow,eD X H0 U A ow Z H/\rn X H0 (bt A) ow H fl D
def WD(X:Cx)(H0:Hp)(U:ag)(A:cz)(st:Stmt)(fl:rc):Prop:=PS X st (Qk X H0 U A fl)
def gC(X:Cx)(H0:Hp)(U:ag)(A:cz)(ss:List Stmt)(fl:rc):Prop:=fD X ss (Qk X H0 U A fl)
theorem Fz.keep{q:Addr×List av×List (List Int)}(h:Fz X H q)(k:∀a o,H a=some o->nm o->H' a=some o):Fz X H' q:=by
 obtain⟨h1,h2,h3,o,us,h4,h5⟩:=h;refine⟨h1,h2,h3,o,us,k _ _ h4 True.intro,h5.keep λa vs z=>?_⟩;rcases z with(z|⟨o,z⟩)|z
 ·exact .inl (.inl (k _ _ z True.intro))
 ·exact .inl (.inr ⟨o,k _ _ z True.intro⟩)
 ·exact .inr z
theorem eD.keep{A:cz}{Z':L2.St}(s:eD X H0 U A ow Z H)(E:aD X ow' H' Z' U1)(hl:Z'.length=X.N.length)(k:aV ow H ow' H'):eD X H0 U1 A ow' Z' H' :=
 ⟨E,hl,s.nd,λq hq=>by
  obtain⟨h1,h2⟩:=s.fz q hq;refine⟨h1.keep λa o h n=>k.keep a o h (.inl n),?_⟩;obtain⟨_,_,_,o,us,h4,_⟩:=h1;exact k.low _ _ h4 h2,λb o hb h=>let ⟨h1,h2⟩:=s.base b o hb h;⟨k.keep b o h1 (.inr h2),k.low b o h1 h2⟩⟩
theorem eD.same{A:cz}(s:eD X H0 U A ow Z H)(sm:ar H H'):eD X H0 U A ow Z H':=s.keep (s.env.same sm) s.len (aV.same sm)
theorem d7{A A1:cz}{fl:rc}(h1:WD X H0 U A st (.nx U1 A1))(h2:gC X H0 U1 A1 ss fl)(e:bt A1=bt A:=by rfl):gC X H0 U A (st::ss) fl:=λdl s Z H D I ⟨ow,w,q⟩ =>
 ef h1 h2 dl s Z H D I ⟨ow,w,λow' Z' H' w' k=>⟨ow',w',by rw[e];exact q.keep k⟩⟩
theorem bA{A A1:cz}(h1:WD X H0 U A st (.rt r A1)):gC X H0 U A (st::ss) (.rt r A1):=λdl s Z H D I ⟨ow,w,q⟩ =>
 ef h1 eZ dl s Z H D I ⟨ow,w,q⟩
theorem Oe{A:cz}(h:SD X (λ_=>none) U st (.nx U1)):WD X H0 U A st (.nx U1 A):=λdl s Z H D I ⟨ow,w,q⟩ =>
 h dl s Z H D I ⟨ow,w.env,w.len,λ_ _ z=>(by cases z),λow' Z' H' E' hl' k=>q ow' Z' H' (w.keep E' hl' k) k.kw⟩
theorem bL{O:Fx}{sc:Scope}{H0:Hp}{A:cz}{fl:rc}(G:aJ O X sc)(hp:PassesOwn (model X.prog X.w) X.A X.env X.xe):∀(n:Nat) {ss:List Stmt} {U U1:ag},ac (aL O (ss.take n) sc U) (.nx U1)->gC X H0 U1 A (ss.drop n) fl->gC X H0 U A ss fl
 | 0,ss,U,U1,h,k=>by cases aX h;exact k
 | n+1,[],U,U1,h,k=>by cases aX h;exact k
 | n+1,st::ss,U,U1,h,k=>by
  rcases mw h with⟨U2,h1,h2⟩|⟨h1,_⟩
  ·exact d7 (Oe ((i6 O _).s st (Tx _) h1 G hp)) (bL G hp n h2 k)
  ·exact absurd rfl (h1 _)
theorem iW{A:cz}(h:ED X U e d k):WD X H0 U A (.Return (some e) pos) (.rt d A):=λdl s Z H D I ⟨ow,w,q⟩ =>
 mF (h ow) dl s Z H D I ⟨w.env,λv H1 s1 r1=>q v H1 (λb o hb h=>s1 _ _ (w.base b o hb h).1) (λp hp=>(w.fz p hp).1.keep λa o h _=>s1 a o h) (r1.imp λ_ _ _=>trivial)⟩
theorem gZ{A A1:cz}{a b:List Stmt}{t:Bool}{fl:rc}(hc:TD X U c t)(h:gC X H0 U A (cond t a b) fl):WD X H0 U A (.If c a b pos) fl:=by
 cases t with
 | true =>
  intro dl s Z H D I ⟨ow,w,q⟩;exact qc (hc ow) h eZ dl s Z H D I ⟨w.env,λH1 s1=>by
   show if true=true then _ else _
   rw[if_pos rfl];exact⟨ow,w.same s1,q.keep (aV.same s1).kw⟩⟩
 | false =>
  intro dl s Z H D I ⟨ow,w,q⟩;exact qc (hc ow) eZ h dl s Z H D I ⟨w.env,λH1 s1=>by
   show if false=true then _ else _
   rw[if_neg Ta];exact⟨ow,w.same s1,q.keep (aV.same s1).kw⟩⟩
theorem eD.wr{A1 A2:cz}(s:eD X H0 U (A1++(a,ks,ts)::A2) ow Z H)(c:yR X.K a ks' ts' H H')(hm:ks'.length<bx)(hw:kT a ks' ts' U U') :
  eD X H0 U' (A1++(a,ks',ts')::A2) ow Z H'/\d6 (bt (A1++(a,ks,ts)::A2)) ow H ow H':=by
 have ea:bt (A1++(a,ks',ts')::A2)=bt (A1++(a,ks,ts)::A2):=by simp[bt]
 have hin:(a,ks,ts)∈A1++(a,ks,ts)::A2:=by simp
 have nea:∀b,b∉bt (A1++(a,ks,ts)::A2)->b≠a:=λb hb z=>hb (by rw[z];exact List.mem_map_of_mem (f:=(·.1)) hin)
 have nd:=s.nd;unfold bt at nd;rw[U3,S2]at nd;have neA:∀q∈A1++A2,q.1≠a:=λq hq z=>by
  rcases TZ.mp hq with hq|hq
  ·exact(List.nodup_append.mp nd).2.2 q.1 (List.mem_map_of_mem (f:=(·.1)) hq) a SV z
  ·exact(Vd.mp (List.nodup_append.mp nd).2.1).1 (by rw[<- z];exact List.mem_map_of_mem (f:=(·.1)) hq)
 refine⟨⟨JK s.env c hw,s.len,by rw[ea];exact s.nd,λq hq=>?_,λb o hb h=>?_⟩,λb o hb h _=>c.chg.oth b o (nea b hb) h,λb o hb h z=>z⟩
 ·obtain⟨h1,h2⟩:=s.fz _ hin;rcases TZ.mp hq with hq|hq
  ·obtain⟨g1,g2⟩:=s.fz q (List.mem_append_left _ hq);obtain⟨z1,z2,z3,o,us,z4,z5⟩:=g1;exact⟨⟨z1,z2,z3,o,us,c.chg.oth _ _ (neA q (List.mem_append_left _ hq)) z4,z5.keep λ_ _ z=>c.chg.sq z⟩,g2⟩
  ·rcases SS.mp hq with rfl|hq
   ·exact⟨⟨h1.1,c.len,hm,c.now⟩,h2⟩
   ·obtain⟨g1,g2⟩:=s.fz q (To _ (SR _ hq));obtain⟨z1,z2,z3,o,us,z4,z5⟩:=g1;exact⟨⟨z1,z2,z3,o,us,c.chg.oth _ _ (neA q (To _ hq)) z4,z5.keep λ_ _ z=>c.chg.sq z⟩,g2⟩
 ·rw[ea]at hb;obtain⟨h1,h2⟩:=s.base b o hb h;exact⟨c.chg.oth b o (nea b hb) h1,h2⟩
theorem Cr{P:bi}{v:V}(h:ae K H P (.dft a ks ts) v):v=.ref a:=by
 rw[ae]at h;exact h.1.2
theorem uS{A1 A2:cz}{k:Expr}{w:Str}{ns:List Int}{ke:Nat}{p4 p6:Pos}(he:ED X U e (jD ns) ke)(hc:ED X U c (.dft a ks ts) kc)(hk:ED X U k (.str w) kk)(hns:ns≠[])(hm:ks.length+1<bx)
  (hw:kT a (dv ks (.inr w)) (cQ ks ts (.inr w) ns) U U') (hsl:∀v,assign (.Subscript c k p4) X.env v=(do
   let ov <- holding [v] (eval c X.env)
   let iv <- holding [v,ov] (eval k X.env)
   standAt p4
   holding [v,ov,iv] (setItem ov iv v)
   release [v,ov,iv] []):=by intro _;rfl) (hsw:swappedStores [.Subscript c k p4] e X.env=pure none:=by rfl):WD X H0 U (A1++(a,ks,ts)::A2) (.Assign [.Subscript c k p4] e p6) (.nx U' (A1++(a,dv ks (.inr w),cQ ks ts (.inr w) ns)::A2)):=by
 intro dl s Z H D I ⟨ow,st,q⟩;have hin:(a,ks,ts)∈A1++(a,ks,ts)::A2:=by simp
 obtain⟨⟨t1,t2,t3,o,us,t4,t5⟩,t6⟩:=st.fz _ hin;refine mG (he ow) (LL (hc ow) (hk ow) HV hsl) A4 hsw rfl dl s Z H D I ⟨st.env,λv H1 s1 r1=>⟨st.env.same s1,λv2 H2 s2 r2=>⟨(st.env.same s1).same s2,λv3 H3 s3 r3=>?_⟩⟩⟩;obtain rfl:=Cr r2;rw[ae]at r3;subst r3;unfold jD at r1;rw[ae]at r1;obtain⟨t,tv,rfl,tq,rli⟩:=r1;obtain rfl:=tE rli;have sm:=(s1.trans s2).trans s3;have st3:=st.same sm;have lu:ks.length=us.length:=t2.trans t5.len.symm;have tq3:=vf (s2.trans s3) tq;have z:(ks.zip us).length<sizeLine:=Tu (by rw[Vt];exact Nat.min_le_left _ _) (S4 (Nat.lt_of_succ_lt hm) gJ);refine⟨a,o,ks.zip us,.inr w,rfl,rfl,sm _ _ t4,t1,z,λob'=>?_⟩;have ch:jb (· = a) H3 (aA H3 a (.frz ob' (.dK (hJ (ks.zip us) (.inr w) (.ref t))))):=zY (λb ob hb h=>by rw[aq hb];exact h) (sm _ _ t4);have ct:yR X.K a (dv ks (.inr w)) (cQ ks ts (.inr w) ns) H3 (aA H3 a (.frz ob' (.dK (hJ (ks.zip us) (.inr w) (.ref t))))):=⟨ch,Jg t2,ob',cQ ks us (.inr w) (.ref t),by rw[G6 lu];exact aw,Df ⟨t,rfl,ch.sq tq3,hns⟩ (t5.keep λ_ _ z=>ch.sq (vf sm z))⟩;have hml:(dv ks (.inr w)).length<bx:=by
  unfold dv;cases aO ks (.inr w)with
  | true=>exact t3
  | false=>show(ks++[_]).length<_;rw[S8];exact hm
 obtain⟨n1,n2⟩:=st3.wr ct hml hw;exact q ow Z _ n1 ((aV.same sm).kw.trans n2)
variable{A A' A2:cz}
variable{X:Cx}
def gf(ks:List av)(k:av):List av:=ks.filter λj=>decide (j≠k)
def dY{α:Type}(ks:List av)(ts:List α)(k:av):List α:=((ks.zip ts).filter λp=>decide (p.1≠k)).map (·.2)
theorem xQ{α:Type}{k:av}:∀{ks:List av} {us:List α},ks.length=us.length->(gf ks k).zip (dY ks us k)=(ks.zip us).filter λp=>decide (p.1≠k)
 | [],[],_=>rfl
 | j::ks,u::us,h=>by
  have ih:=xQ (k:=k) (ks:=ks) (us:=us) (by simpa using h);unfold gf dY at ih⊢;rw[T7,UI,UI];by_cases e:j=k
  ·rw[if_neg (by simp[e]),if_neg (by simp[e])];exact ih
  ·rw[if_pos (by simp[e]),if_pos (by simp[e]),S2,T7,ih]
 | [],_::_,h=>by cases h
 | _::_,[],h=>by cases h
theorem rW{α:Type}{k:av}:∀{ks:List av} {us:List α},ks.length=us.length->(gf ks k).length=(dY ks us k).length
 | [],[],_=>rfl
 | j::ks,u::us,h=>by
  have ih:=rW (k:=k) (ks:=ks) (us:=us) (by simpa using h);unfold gf dY at ih⊢;rw[T7,UI,UI];by_cases e:j=k
  ·rw[if_neg (by simp[e]),if_neg (by simp[e])];exact ih
  ·rw[if_pos (by simp[e]),if_pos (by simp[e]),S2,S7,S7,ih]
 | [],_::_,h=>by cases h
 | _::_,[],h=>by cases h
theorem u6{K:W.Frag}{H:Hp}{k:av}:∀{ks:List av} {us:List V} {ts:List (List Int)},ks.length=us.length->cg K H us ts->cg K H (dY ks us k) (dY ks ts k)
 | [],[],[],_,_=>trivial
 | j::ks,u::us,t::ts,hl,h=>by
  have ih:=u6 (k:=k) (ks:=ks) (by simpa using hl) h.2;unfold dY at ih⊢;rw[T7,T7,UI,UI];by_cases e:j=k
  ·rw[if_neg (by simp[e]),if_neg (by simp[e])];exact ih
  ·rw[if_pos (by simp[e]),if_pos (by simp[e])];exact⟨h.1,ih⟩
 | _,[],_::_,_,h=>h.elim
 | _,_::_,[],_,h=>h.elim
 | [],_::_,_::_,hl,_=>by cases hl
 | _::_,[],[],hl,_=>by cases hl
theorem yn{w:Str}:∀{ks:List av} {us:List V},ks.length=us.length->aO ks (.inr w)=true->∃u,iu (ks.zip us) (.inr w)=some u
 | [],_,_,h=>by cases h
 | j::ks,u::us,hl,h=>by
  rw[T7];by_cases e:j=.inr w
  ·exact⟨u,jB (p:=(j,u)) e⟩
  ·rw[jC (p:=(j,u)) e];refine yn (by simpa using hl) ?_;unfold aO at h⊢;rw[U9,Th e,Vp]at h;exact h
 | _::_,[],hl,_=>by cases hl
theorem IF{o:Expr}{to:TE}{t:TA}{apos cpos:Pos}(ho:PE X o to)(ha:PA X [e] t)(hbase:attributeBase o "pop" X.env (eval o X.env)=eval o X.env)(hst:∀y p,e ≠ .Starred y p)(hline:(apos.endLine==cpos.line)=true) :
  PE X (.Call (.Attribute o "pop" apos) [e] [] cpos) (λZ H Q=>to Z H λx H1=>(∃a ob kvs,x=.ref a/\H1 a=some (.frz ob (.dK kvs)))/\t Z H1 λxs H2 => ∃a ob kvs w u,x=.ref a/\xs=[.str w]/\H2 a=some (.frz ob (.dK kvs))/\yO X a/\iu kvs (.inr w)=some u/\∀ob',Q u (aA H2 a (.frz ob' (.dK (ju kvs (.inr w)))))):=by
 intro dl s Z H Q I h;have n1:=ax (env:=X.env) (es:=[]) hst;refine wpAny_Call_method_late hbase (eN (λz hz=>by rw[Tq.mp hz];exact hst) (show 1<29 by decide)) hline rfl (aG (ho dl s Z H _ I h) λv s1 ⟨x,H1,I1,r1,⟨a,ob,kvs,e1,e2⟩,q1⟩=>?_);subst e1;cases r1;obtain⟨_,z,hd,vs,rel,dd⟩:=(show bz X.prog X.w H1 s1.heap a (.frz ob (.dK kvs))from I1.hok a _ e2);refine⟨"dict", "dict.pop", PySem.F.plainAttrs_dict,PySem.F.slot_dict_pop,PySem.F.type_dict_pop,dd.typeIs,λb eb=>?_,?_⟩
 ·cases eb;obtain⟨o2,es,ep,g1,g2,_⟩:=dd;exact⟨o2,g1,g2.2.1⟩
 have hA:=ha cpos dl s1 Z H1 _ I1 q1;rw[n1]at hA⊢;refine Calls.callWith_builtin rfl (Calls.evalArgs_plain ?_);exact aG hA λus s2 ⟨vs,H2,I2,r2,q2⟩=>IW dl s2 Z H2 (.ref a) vs (.ref a) us Q I2 rfl r2 q2
theorem AJ{A1:cz}{k:Expr}{w:Str}(hc:ED X U c (.dft a ks ts) kc)(hk:ED X U k (.str w) kk)(hh:aO ks (.inr w)=true)(hst:∀y p,k ≠ .Starred y p)(hln:(ap.endLine==cp.line)=true)
  (hb:attributeBase c "pop" X.env (eval c X.env)=eval c X.env) (hw:kT a (gf ks (.inr w)) (dY ks ts (.inr w)) U U'):WD X H0 U (A1++(a,ks,ts)::A2) (.Expr (.Call (.Attribute c "pop" ap) [k] [] cp) pos) (.nx U' (A1++(a,gf ks (.inr w),dY ks ts (.inr w))::A2)):=by
 intro dl s Z H D I ⟨ow,st,q⟩;have hin:(a,ks,ts)∈A1++(a,ks,ts)::A2:=by simp
 obtain⟨⟨t1,t2,t3,o,us,t4,t5⟩,t6⟩:=st.fz _ hin;have lu:ks.length=us.length:=t2.trans t5.len.symm;obtain⟨u,hu⟩:=yn lu hh;have n1:=ax (env:=X.env) (es:=[]) hst;refine ll (IF (hc ow) (dR hk ij n1 ow) hb hst hln) rfl dl s Z H D I ⟨st.env,λv2 H2 s2 r2=>?_⟩;obtain rfl:=Cr r2;refine⟨⟨a,o,_,rfl,s2 _ _ t4⟩,st.env.same s2,λvs H3 s3 r3=>?_⟩;obtain⟨v3,rfl,r4⟩:=r3.only;rw[ae]at r4;subst r4;have sm:=s2.trans s3;have st3:=st.same sm;refine⟨a,o,ks.zip us,w,u,rfl,rfl,sm _ _ t4,t1,hu,λob'=>?_⟩;have ch:jb (· = a) H3 (aA H3 a (.frz ob' (.dK (ju (ks.zip us) (.inr w))))):=zY (λb ob hb h=>by rw[aq hb];exact h) (sm _ _ t4);have ct:yR X.K a (gf ks (.inr w)) (dY ks ts (.inr w)) H3 (aA H3 a (.frz ob' (.dK (ju (ks.zip us) (.inr w))))):=⟨ch,rW t2,ob',dY ks us (.inr w),by rw[xQ lu];exact aw,u6 lu (t5.keep λ_ _ z=>ch.sq (vf sm z))⟩;obtain⟨n1,n2⟩:=st3.wr ct (Tu (List.length_filter_le _ _) t3) hw;exact q ow Z _ n1 ((aV.same sm).kw.trans n2)
noncomputable def x5(K:W.Frag)(Wt:List D->Addr->List av->List (List Int)->D->List av->List (List Int)->Prop):L2.Sp:=λvs H Q _ => ∃ds a ks ts us r ks' ts',H a=some (.dK (ks.zip us))/\ks.length=ts.length/\cg K H us ts/\ks.length<bx/\(∀o,ah K (aA H a (.frz o (.dK (ks.zip us)))) (λ_ _=>True) ds vs)/\Wt ds a ks ts r ks' ts' /\
 ∀v H' o' us',(∀b o,b≠a->H b=some o->H' b=some o)->H' a=some (.frz o' (.dK (ks'.zip us')))->ks'.length=ts'.length->ks'.length<bx->cg K H' us' ts'->ae K H' (λ_ _=>True) r v->Q v H'
abbrev b9:=List D->Addr->List av->List (List Int)->D->List av->List (List Int)->Prop
noncomputable def sP(X:Cx)(g:Str)(Wt:b9):Prop:=∃k f fd ps,bj X.prog X.w X.K X.mg X.base cE k f fd ps (x5 X.K Wt)/\bJ k X.A/\X.mg g=some (.ref f)/\W.keepIn X.K (.ref f)=true/\bu X.K fd ps []/\(g==("__debug__" : Str))=false
noncomputable def Fk(X:Cx)(n m:Str)(Wt:b9):Prop:=∃k C f fd ps,W.nsIn X.K mainGlobals n=some (some (.ref C))/\eY X.K C/\iL X.K C m f/\bj X.prog X.w X.K X.mg X.base cE k f fd ps (x5 X.K Wt)/\bJ k X.A/\bu X.K fd ps []
noncomputable def kh(P:Program)(w:World)(K:W.Frag)(mg:Str->Option Value)(base:Heap)(k:Nat)(g:Str)(Wt:b9):Prop:=∃f fd ps,bj P w K mg base cE k f fd ps (x5 K Wt)/\mg g=some (.ref f)/\W.keepIn K (.ref f)=true/\bu K fd ps []/\(g==("__debug__" : Str))=false
noncomputable def kH(P:Program)(w:World)(K:W.Frag)(mg:Str->Option Value)(base:Heap)(k:Nat)(n m:Str)(Wt:b9):Prop:=∃C f fd ps,W.nsIn K mainGlobals n=some (some (.ref C))/\eY K C/\iL K C m f/\bj P w K mg base cE k f fd ps (x5 K Wt)/\bu K fd ps []
abbrev jh:=Str->Option b9
abbrev gH:=Str->Str->Option b9
noncomputable def ff(O:Fx)(Υ:jh)(Ω:gH)(sc:Scope)(ps:List Str)(ss:List Stmt)(ds:List D)(a:Addr)(ks:List av)(ts:List (List Int))(r:D)(ks':List av)(ts':List (List Int)):Prop:=ds.length=ps.length/\∀(Y:Cx) (H0:Hp),aJ O Y.nox sc->PassesOwn (model Y.nox.prog Y.nox.w) Y.nox.A Y.nox.env Y.nox.xe->(∀g W,Υ g=some W->sP Y.nox g W)->(∀n m W,Ω n m=some W->Fk Y.nox n m W)->gC Y.nox H0 (bB ps ds) [(a,ks,ts)] ss (.rt r [(a,ks',ts')])
theorem jS{Υ:jh}{Ω:gH}{Wt:b9}(Fn:fY K g qual st f fd)
  (S:bG (aE (aa st)) ps (aa st)) (hΦ:kg P w K mg base k O) (hΥ:∀g W,Υ g=some W->kh P w K mg base k g W) (hΩ:∀n m W,Ω n m=some W->kH P w K mg base k n m W)
  (hrun:∀ds a ks ts r ks' ts',Wt ds a ks ts r ks' ts'->ff O Υ Ω (aa st) ps (af st) ds a ks ts r ks' ts'):bj P w K mg base cE (k+1) f fd ps (x5 K Wt):=by
 refine Fn.ok S (λvs H Q E h=>?_) (λcdv A outer s H vs Q E hr h=>?_)
 ·obtain⟨ds,a,ks,ts,us,r,ks',ts',h1,h2,h3,h4,h5,h6,_⟩:=h;rw[<- (h5 ⟨.none,none,.fields #[],#[]⟩).length];exact(hrun ds a ks ts r ks' ts' h6).1
 ·obtain⟨ds,a,ks,ts,us,r,ks',ts',hd,h2,h3,h4,h5,h6,q⟩:=h;obtain⟨hl,hW⟩:=hrun ds a ks ts r ks' ts' h6;have G:=ge (outer:=outer) (H:=H) (E:=E) S hΦ hr;refine⟨λD Z' H'=>Z'=start (aE (aa st)) vs/\H'=H/\∀v H',Q v H'->D.rt v H',?_,rfl,rfl,λv H' h=>h⟩;intro dl s' Z' H' D I ⟨e1,e2,hD⟩;subst e1 e2;obtain⟨o,I1⟩:=gc I hd;obtain⟨E0,hsl⟩:=ig (P:=P) (w:=w) (mg:=mg) (base:=base) (qual:=qual) (f:=f) (cdv:=cdv) (A:=A) (outer:=outer) (s:=s) (E:=E) S (h5 o) hl;have E1:aD (fV cE P w K mg base (aE (aa st)) qual (aa st) f cdv A outer s H' E).nox (λ_=>none) (aA H' a (.frz o (.dK (ks.zip us)))) (start (aE (aa st)) vs) (bB ps ds):=⟨E0.get,E0.own⟩;have tq:∀b vs,bX K H' b vs->bX K (aA H' a (.frz o (.dK (ks.zip us)))) b vs:=λb vs h=>HQ hd (λz=>z) h
  refine hW _ H' G TV (λg W hg=>?_) (λn m W hm=>?_) dl s' _ _ D I1 ⟨λ_=>none,⟨E1,hsl,by simp[bt],λp hp=>?_,λb ob hb h=>?_⟩,λv H2 hk hf rp=>?_⟩
  ·obtain⟨f',fd',ps',z1,z2,z3,z4,z5⟩:=hΥ g W hg;exact⟨k,f',fd',ps',z1,hr,z2,z3,z4,z5⟩
  ·obtain⟨C,f',fd',ps',z1,z2,z3,z4,z5⟩:=hΩ n m W hm;exact⟨k,C,f',fd',ps',z1,z2,z3,z4,hr,z5⟩
  ·rw[Tq.mp hp];exact⟨⟨λo' u (z:H' a=some (.frz o' u))=>(by rw[hd]at z;cases z),h2,h4,o,us,aw,h3.keep tq⟩,rfl⟩
  ·exact⟨by rw[aq (λz=>hb (by simp[bt,z]))];exact h,rfl⟩
  ·obtain⟨z1,z2,z3,o',us',z4,z5⟩:=hf (a,ks',ts') (by simp);exact hD v H2 (q v H2 o' us' (λb ob hb h=>hk b ob (by simp[bt,hb]) h) z4 z2 z3 z5 rp)
noncomputable def CU(X:Cx)(H0:Hp)(U:ag)(A:cz)(e:Expr)(r:D)(U':ag)(A':cz):Prop:=∀ow,PE X e (λZ H Q=>eD X H0 U A ow Z H/\∀v H',eD X H0 U' A' ow Z H'->d6 (bt A) ow H ow H'->ae X.K H' (λ_ _=>True) r v->Q v H')
theorem A9{A1:cz}{Wt:b9}{Q:VK}{E:XK}{us:List V}(st:eD X H0 U (A1++(a,ks,ts)::A2) ow Z H)(t4:H a=some (.frz o (.dK (ks.zip us))))(t5:cg X.K H us ts)
  (rl:ah X.K H (λ_ _=>True) ds vs) (hW:Wt ds a ks ts r ks' ts') (hw:kT a ks' ts' U U') (q:∀v H',eD X H0 U' (A1++(a,ks',ts')::A2) ow Z H'->d6 (bt (A1++(a,ks,ts)::A2)) ow H ow H'->ae X.K H' (λ_ _=>True) r v->Q v H'):x5 X.K Wt vs (aA H a (.dK (ks.zip us))) Q E:=by
 have hin:(a,ks,ts)∈A1++(a,ks,ts)::A2:=by simp
 obtain⟨⟨_,t2,t3,_⟩,_⟩:=st.fz _ hin;have tq:∀b vs,bX X.K H b vs->bX X.K (aA H a (.dK (ks.zip us))) b vs:=λb vs h=>by
  rcases h with(h|⟨o2,h⟩)|h
  ·exact .inl (.inl (by rw[aq (λz=>by subst z;rw[t4]at h;cases h)];exact h))
  ·exact .inl (.inr ⟨o2,by rw[aq (λz=>by subst z;rw[t4]at h;cases h)];exact h⟩)
  ·exact .inr h
 refine⟨ds,a,ks,ts,us,r,ks',ts',aw,t2,t5.keep tq,t3,λo'=>?_,hW,λv H' o' us' kept hd hl hm hT rp=>?_⟩
 ·rw[iw];exact rl.chg (zY (λb ob hb h=>by rw[aq hb];exact h) t4) (.inr λb e o2 u h=>by rw[show b=a from e,t4]at h;cases h;rw[show b=a from e];exact⟨o',aw⟩)
 ·obtain⟨n1,n2⟩:=st.wr (H':=H') ⟨zY (λb ob hb h=>kept b ob hb (by rw[aq hb];exact h)) t4,hl,o',us',hd,hT⟩ hm hw;exact q v H' n1 n2 rp
theorem qI{A1:cz}{Wt:b9}{p:Pos}(G:aJ O X sc)(F:sP X g Wt)(hg:sc.names.lookup g=some .globalImplicit)(ha:ac (cB O (e::es) sc U) (ds,k))(hW:Wt ds a ks ts r ks' ts')(hw:kT a ks' ts' U U') :
  CU X H0 U (A1++(a,ks,ts)::A2) (.Call (.Name g p) (e::es) [] pos) r U' (A1++(a,ks',ts')::A2):=by
 obtain⟨kk,f,fd,ps,F,hr,hm,hk,hb,hdb⟩:=F;obtain⟨l,ha,hp⟩:=ha;obtain⟨hst,_⟩:=cU ha hp;have ad:=lv (e::es) ha hp G;intro ow dl s Z H Q I ⟨st,q⟩;refine Uh (dP I (G.gl g hg) hm ?_ hdb);refine UM (h₀:=X.base) I.ok.mod.kin hk (aG (ad ow pos dl s Z H (λvs H1=>ar H H1/\ah X.K H1 (Kp ow H k) ds vs) I ⟨st.env,λvs H1 a b=>⟨a,b⟩⟩) λus s1 ⟨vs,H1,I1,rr,sm,rl⟩=>⟨I1.kIn,?_⟩) (ax (hst e SV)) (bE λx hx=>hst x (SR _ hx));have st1:=st.same sm;obtain⟨⟨t1,t2,t3,o,us0,t4,t5⟩,t6⟩:=st1.fz (a,ks,ts) (by simp);exact lh (us:=us) (vs:=vs) (dvs:=[]) (ds:=[]) F hr hb .nil iO (jR I1 t4 t1) rr (by rw[Tw];exact A9 st1 t4 t5 (rl.imp λ_ _ _=>trivial) hW hw λv H' a b c=>q v H' a ((aV.same sm).kw.trans b) c)
theorem zU{A1:cz}{Wt:b9}{o:Expr}(G:aJ O X sc)(F:Fk X cn m Wt)(ho:ac (aB O o false sc U) (.obj cn ns fds,ko))(hnm:ns.contains m=false)(hbo:de o=true)(hfew:(e::es).length<29)(hln:(ap.endLine==pos.line)=true)(ha:ac (cB O (e::es) sc U) (ds,k))(hW:Wt (.obj cn ns fds::ds) a ks ts r ks' ts')(hw:kT a ks' ts' U U') :
  CU X H0 U (A1++(a,ks,ts)::A2) (.Call (.Attribute o m ap) (e::es) [] pos) r U' (A1++(a,ks',ts')::A2):=by
 obtain⟨kk,C,f,fd,ps,hns,hc,hm,F,hr,hb⟩:=F;have ed:=aZ ho G;obtain⟨l,ha,hp⟩:=ha;obtain⟨hst,_⟩:=cU ha hp;have ad:=lv (e::es) ha hp G;intro ow dl s Z H Q I ⟨st,q⟩;have ht:=qt (o:=o) (name:=m) (apos:=ap) (pos:=pos) (args:=e::es) (env:=X.env) (cj hbo) (eN hst hfew) hln;refine Vc (aG (ed ow dl s Z H (λv H1=>ar H H1/\ae X.K H1 (Kp ow H ko) (.obj cn ns fds) v) I ⟨st.env,λv H1 a b=>⟨a,b⟩⟩) λu s1 ⟨v,H1,I1,rx,sm,r1⟩=>?_) ht;have r0:=r1;rw[ae]at r1;obtain⟨f0,e0,x,C',dx,vs0,rfl,h1,h2,h3,r2⟩:=r1;rw[hns]at h1;cases h1;obtain rfl:u=Value.ref x:=rx;refine hZ I1 h3 hc hm (jA hnm) ?_;have st1:=st.same sm;refine UM (first:=[.ref x]) (h₀:=X.base) I.ok.mod.kin hm.kp (aG (ad ow pos dl s1 Z H1 (λvs H2=>ar H1 H2/\ah X.K H2 (Kp ow H1 k) ds vs) I1 ⟨st1.env,λvs H2 a b=>⟨a,b⟩⟩) λus s2 ⟨vs,H2,I2,rr,sm2,rl⟩=>⟨I2.kIn,?_⟩) (ax (hst e SV)) (bE λx hx=>hst x (SR _ hx));have st2:=st1.same sm2;obtain⟨⟨t1,t2,t3,o',us0,t4,t5⟩,t6⟩:=st2.fz (a,ks,ts) (by simp);have:=lh (us:=.ref x::us) (vs:=.ref x::vs) (dvs:=[]) (ds:=[]) F hr hb .nil iO (jR I2 t4 t1) (.cons rfl rr) (Q:=Q) (by rw[Tw];exact A9 st2 t4 t5 (ah.cons ((r0.same sm2).imp λ_ _ _=>trivial) (rl.imp λ_ _ _=>trivial)) hW hw λv H' a b c=>q v H' a ((aV.same (sm.trans sm2)).kw.trans b) c);exact this
theorem xU(h:CU X H0 U A e r U' A')(ea:bt A'=bt A:=by rfl):WD X H0 U A (.Return (some e) pos) (.rt r A'):=λdl s Z H D I ⟨ow,w,q⟩ =>
 mF (h ow) dl s Z H D I ⟨w,λv H1 w1 k1 r1=>q v H1 (λb o hb h=>(w1.base b o (by rw[ea];exact hb) h).1) (λp hp=>(w1.fz p hp).1) r1⟩
theorem Hb{p:Pos}(G:aJ O X sc)(hx:dO sc x=true)(h:CU X H0 U A e r U' A')(hl:r.lless=true)(hs:swapsWith e (some (.Name x p)) pos.line X.env=pure false):WD X H0 U A (.Assign [.Name x p] e pos) (.nx (bK U' x (r,false)) A'):=by
 obtain⟨g1,g2,g3,i,g4⟩:=fT G hx;intro dl s Z H D I ⟨ow,w,q⟩;refine qb (i:=i) G.nd g4 g1 (h ow) hs g3 dl s Z H D I ⟨w,λv H1 w1 k1 r1=>?_⟩;show D.nx (Z.set i (some v)) H1;exact q ow _ H1 ⟨eQ G.nd w1.len w1.env g4 g2 (r1.flat _ hl),by rw[TU];exact w1.len,w1.nd,w1.fz,w1.base⟩ k1
theorem G8{d2:D}{py:Pos}{n1:Nat}(G:aJ O X sc)(hx:dO sc x=true)(hy:dO sc y=true)(h:CU X H0 U A e (.tup [d1,d2]) U' A')(hl1:d1.lless=true)(hl2:d2.lless=true)(hs:swapsWithSole [.Tuple [.Name x px,.Name y py] n1 tp] e pos.line X.env=pure false)(hw:swappedStores [.Tuple [.Name x px,.Name y py] n1 tp] e X.env=pure none) :
  WD X H0 U A (.Assign [.Tuple [.Name x px,.Name y py] n1 tp] e pos) (.nx (bK (bK U' x (d1,false)) y (d2,false)) A'):=by
 obtain⟨g1,g2,g3,ix,g4⟩:=fT G hx;obtain⟨y1,y2,y3,iy,y4⟩:=fT G hy;intro dl s Z H D I ⟨ow,w,q⟩;refine mG (h ow) (qd (n:=2) G.calm (jL (gR (i:=ix) G.nd g4 g1 g3) (jL (gR (i:=iy) G.nd y4 y1 y3) rN rfl) rfl) rfl rfl) hs hw rfl dl s Z H D I ⟨w,λv H1 w1 k1 r1=>?_⟩;rw[ae]at r1;obtain⟨a,vs,rfl,hq,rl⟩:=r1;rw[ah]at rl;obtain⟨v1,vr,rfl,r1,rl⟩:=rl;obtain⟨v2,rfl,r2⟩:=rl.only;have hl2':(Z.set ix (some v1)).length=X.N.length:=by rw[TU];exact w1.len
 refine⟨a,[v1,v2],rfl,hq,rfl,v1,[v2],rfl,v2,[],rfl,rfl,?_⟩;exact q ow _ H1 ⟨eQ G.nd hl2' (eQ G.nd w1.len w1.env g4 g2 (r1.flat _ hl1)) y4 y2 (r2.flat _ hl2),by rw[TU];exact hl2',w1.nd,w1.fz,w1.base⟩ k1
theorem Dd{b:Expr}(G:aJ O X sc)(h:CU X H0 U A e d U' A')(hb:ED X U' b d k)(ho:fL d d=true)(he:gT d d=true):WD X H0 U A (.If (.Compare e [.NotEq] [b] p2) body [] pos) (.nx U' A'):=by
 intro dl s Z H D I ⟨ow,w,q⟩;have c:=jW (X:=X) (op:=.NotEq) (x:=d) (y:=d) (r:=false) (o:=[fL d d=true]) G.room (by show Rs.ok (!gT d d) _=_;rw[he];rfl) ⟨ho,trivial⟩;refine qc (Iq (c (λ_ _=>True) (λ_ _=>True)) (h ow) (hb ow) (BD b)) eZ rK dl s Z H D I ⟨w,λv H1 w1 k1 r1=>⟨w1.env,λu H2 s2 r2=>⟨r1.same s2,r2.imp λ_ _ _=>trivial,false,rfl,?_⟩⟩⟩;show if false=true then _ else _
 rw[if_neg Ta];exact q ow Z H2 (w1.same s2) (k1.trans (aV.same s2).kw)
theorem oS{O:Fx}{sc:Scope}{n:Nat}(h1:ED X U e1 d1 k)(hl:d1.lless=true)(hnd:d1.nod=true)(h:CU X H0 U A e r U' A')(n1:∀y p,e1 ≠ .Starred y p)(n2:∀y p,e ≠ .Starred y p)(ea:bt A'=bt A:=by rfl)
  (hfr:∀(ow:Ow) (H H':Hp) (Z:L2.St) (v:V) (P:bi),eD X H0 U A ow Z H->d6 (bt A) ow H ow H'->eD X H0 U' A' ow Z H'->ae X.K H P d1 v->ae X.K H' P d1 v):WD X H0 U A (.Return (some (.Tuple [e1,e] n tp)) pos) (.rt (.tup [d1,r]) A'):=by
 intro dl s Z H D I ⟨ow,w,q⟩;refine mF (Bv (fZ (h1 ow) (fZ (h ow) mK (ax n2)) (ax n1))) dl s Z H D I ⟨w.env,λv1 H1 s1 r1=>⟨w.same s1,λv2 H2 w2 k2 r2=>⟨?_,λt ht=>?_⟩⟩⟩
 ·exact SZ (show 2<=bx by decide) gJ
 ·have sm:=cf (o:=HO.tup [v1,v2]) ht;have w3:=w2.same sm;refine q _ _ (λb o hb h=>(w3.base b o (by rw[ea];exact hb) h).1) (λp hp=>(w3.fz p hp).1) ?_;rw[ae];exact⟨t,_,rfl,.inl (.inl aw),ah.cons ((hfr ow H1 H2 Z v1 _ (w.same s1) k2 w2 (r1.imp λ_ _ _=>trivial)).same sm) (ah.one (r2.same sm))⟩
theorem G9{hd:ExceptHandler}(h:WD X.nox H0 U A st (.nx U' A')):WD X.nox H0 U A (.Try [st] [hd] [] [] tpos) (.nx U' A'):=by
 intro dl s Z H D I hq;refine wpAny_Try_except ?_;refine Tn (sW (h dl s Z H D I hq)) (λf s1 q=>?_) (λ_ _ z=>z.elim);cases f with
 | next=>exact Va q
 | ret v=>exact q
 | brk=>exact q
 | cont=>exact q
variable{Wt:b9}
variable{X:Cx}
structure nq(as:List Addr)(Hf H:Hp):Prop where
 oth:∀b,b∉as->H b=Hf b
 at_:∀a∈as,∃o kvs,Hf a=some (.frz o (.dK kvs))/\H a=some (.dK kvs)
theorem rY{dl:List (Addr×Obj)}{Z:L2.St}{s:Shared}{H:Hp}(I:aj X dl Z H s):∀(as:List Addr),(∀a∈as,yO X a/\∃o kvs,H a=some (.frz o (.dK kvs)))->∃H',aj X dl Z H' s/\nq as H H'
 | [],_=>⟨H,I,λ_ _=>rfl,λa h=>by cases h⟩
 | a::as,h=>by
  obtain⟨H1,I1,t⟩:=rY I as λb hb=>h b (SR _ hb)
  by_cases z:a∈as
  ·exact⟨H1,I1,λb hb=>t.oth b λy=>hb (SR _ y),λb hb=>by
    rcases SS.mp hb with rfl|hb
    ·exact t.at_ _ z
    ·exact t.at_ _ hb⟩
  ·obtain⟨h1,o,kvs,h2⟩:=h a SV;refine⟨_,jR I1 ((t.oth a z).trans h2) h1,λb hb=>?_,λb hb=>?_⟩
   ·rw[aq (λy=>hb (by rw[y];exact SV))];exact t.oth b λy=>hb (SR _ y)
   ·by_cases y:b=a
    ·subst y;exact⟨o,kvs,h2,aw⟩
    ·rw[aq y];rcases SS.mp hb with q|hb
     ·exact absurd q y
     ·exact t.at_ b hb
theorem r6{dl:List (Addr×Obj)}{Z:L2.St}{s:Shared}{H:Hp}(I:aj X dl Z H s):∀(as:List Addr),(∀a∈as,∃kvs,H a=some (.dK kvs))->∃Hf,aj X dl Z Hf s/\nq as Hf H
 | [],_=>⟨H,I,λ_ _=>rfl,λa h=>by cases h⟩
 | a::as,h=>by
  obtain⟨H1,I1,t⟩:=r6 I as λb hb=>h b (SR _ hb)
  by_cases z:a∈as
  ·exact⟨H1,I1,λb hb=>t.oth b λy=>hb (SR _ y),λb hb=>by
    rcases SS.mp hb with rfl|hb
    ·exact t.at_ _ z
    ·exact t.at_ _ hb⟩
  ·obtain⟨kvs,h2⟩:=h a SV;obtain⟨o,I2⟩:=gc I1 ((t.oth a z).symm.trans h2);refine⟨_,I2,λb hb=>?_,λb hb=>?_⟩
   ·rw[aq (λy=>hb (by rw[y];exact SV))];exact t.oth b λy=>hb (SR _ y)
   ·by_cases y:b=a
    ·subst y;exact⟨o,kvs,aw,h2⟩
    ·rw[aq y];rcases SS.mp hb with q|hb
     ·exact absurd q y
     ·exact t.at_ b hb
theorem eD.reo{Ht:Hp}(w:eD X H0 U A ow Z H)(t:nq (bt A) H Ht){Ht':Hp}(sm:ar Ht Ht')(t':nq (bt A) H' Ht'):eD X H0 U A ow Z H'/\d6 (bt A) ow H ow H':=by
 have oth:∀b o,b∉bt A->H b=some o->H' b=some o:=λb o hb h=>by rw[<- t'.oth b hb];exact sm _ _ (by rw[t.oth b hb];exact h)
 have hs:∀b,b∈bt A->∀o u,H b=some (.frz o u)->∃o',H' b=some (.frz o' u):=λb hb o u h=>by
  obtain⟨o1,k1,e1,e2⟩:=t.at_ b hb;obtain⟨o2,k2,e3,e4⟩:=t'.at_ b hb;rw[sm _ _ e2]at e4;cases e4;rw[e1]at h;cases h;exact⟨o2,e3⟩
 have ch:jb (· ∈ bt A) H H':=⟨oth,λb hb=>by obtain⟨o1,k1,e1,e2⟩:=t.at_ b hb;exact⟨o1,k1,e1⟩⟩;refine⟨⟨⟨λx d o h=>?_,λb hb=>?_⟩,w.len,w.nd,λq hq=>?_,λb o hb h=>?_⟩,λb o hb h _=>oth b o hb h,λb o hb h z=>z⟩
 ·obtain⟨i,v,e1,e2,e3,e4⟩:=w.env.get x d o h;exact⟨i,v,e1,e2,e3,e4.chg ch (.inr hs)⟩
 ·obtain⟨o,e⟩:=w.env.own b hb;by_cases z:b∈bt A
  ·obtain⟨o2,k2,e3,e4⟩:=t'.at_ b z;exact⟨_,e3⟩
  ·exact⟨o,oth b o z e⟩
 ·obtain⟨⟨z1,z2,z3,o,us,z4,z5⟩,g2⟩:=w.fz q hq;obtain⟨o',e⟩:=hs q.1 (List.mem_map_of_mem (f:=(·.1)) hq) _ _ z4;exact⟨⟨z1,z2,z3,o',us,e,z5.keep λ_ _ z=>ch.sq z⟩,g2⟩
 ·obtain⟨h1,h2⟩:=w.base b o hb h;exact⟨oth b o hb h1,h2⟩
theorem eD.dKs(w:eD X H0 U A ow Z H):∀a∈bt A,yO X a/\∃o kvs,H a=some (.frz o (.dK kvs)):=λa ha=>by
 obtain⟨q,hq,rfl⟩:=T0.mp ha;obtain⟨⟨z1,z2,z3,o,us,z4,z5⟩,g2⟩:=w.fz q hq;exact⟨z1,o,_,z4⟩
theorem KH{Us:Nat->ag}{As:Nat->cz}{Ui:ag}{ns:List Int}(G:aJ O X sc)(hp:PassesOwn (model X.prog X.w) X.A X.env X.xe)(hx:dO sc x=true)
  (hi:IE X Ui (.Name x px) iter (ns.map D.int) 0) (hρ:∀y d o,Ui y=some (d,o)->Us 0 y=some (d,o)/\d.nod=true) (hads:∀i,i<=ns.length->bt (As i)=bt (As 0))
  (hstep:∀i n,ns[i]?=some n->gC X H0 (bK (Us i) x (.int n,false)) (As i) body (.nx (Us (i+1)) (As (i+1)))) (hs:∀x,foldedSetIterable iter X.env x=pure x):WD X H0 (Us 0) (As 0) (.For (.Name x px) iter body [] pos) (.nx (Us ns.length) (As ns.length)):=by
 intro dl s Z H D I ⟨ow,w,q⟩;obtain⟨g1,g2,g3,ix,g4⟩:=fT G hx;obtain⟨Ht,It,th⟩:=rY I (bt (As 0)) w.dKs;have chT:jb (· ∈ bt (As 0)) H Ht:=⟨λb o hb h=>by rw[th.oth b hb];exact h,λb hb=>(w.dKs b hb).2⟩;have Et:aD X ow Ht Z Ui:=⟨λy d o h=>by
  obtain⟨h1,h2⟩:=hρ y d o h;obtain⟨i,v,e1,e2,e3,e4⟩:=w.env.get y d o h1;exact⟨i,v,e1,e2,e3,e4.chg chT (.inl h2)⟩,λb hb=>by
  obtain⟨o,e⟩:=w.env.own b hb;by_cases z:b∈bt (As 0)
  ·obtain⟨o2,k2,e3,e4⟩:=th.at_ b z;exact⟨_,e4⟩
  ·exact⟨o,by rw[th.oth b z];exact e⟩⟩
 have pb:fD X body (λD Z H => ∃i n ow Hf,ns[i]?=some n/\nq (bt (As 0)) Hf H/\eD X H0 (bK (Us i) x (.int n,false)) (As i) ow Z Hf/\∀ow' Z' Hf' Ht',eD X H0 (Us (i+1)) (As (i+1)) ow' Z' Hf'->d6 (bt (As 0)) ow Hf ow' Hf'->nq (bt (As 0)) Hf' Ht'->D.nx Z' Ht'):=by
  intro dl s Z H D I ⟨i,n,ow,Hf,hd,t,w,q⟩;have hile:i<ns.length:=(Tl.mp hd).1;have ei:=hads i (Ud hile);obtain⟨Hf2,I2,t2⟩:=r6 I (bt (As 0)) λa ha=>by obtain⟨o,kvs,_,e⟩:=t.at_ a ha;exact⟨kvs,e⟩
  obtain⟨w2,k2⟩:=w.reo (by rw[ei];exact t) (ar.refl _) (by rw[ei];exact t2);rw[ei]at k2;refine Tn (hstep i n hd dl s Z Hf2 { D with nx:=λZ' Hf' => ∃ow',eD X H0 (Us (i+1)) (As (i+1)) ow' Z' Hf'/\d6 (bt (As 0)) ow Hf2 ow' Hf' } I2 ⟨ow,w2,λow' Z' H' a b=>⟨ow',a,by rw[<- ei];exact b⟩⟩) (λf s1 q1=>?_) λ_ _ z=>z
  cases f with
  | next =>
   obtain⟨Z',Hf',I',ow',a,b⟩:=q1;have ei1:=hads (i+1) hile;obtain⟨Ht',I'',t'⟩:=rY I' (bt (As 0)) (by rw[<- ei1];exact a.dKs);exact⟨Z',Ht',I'',q ow' Z' Hf' Ht' a (k2.trans b) t'⟩
  | ret v=>exact q1
  | brk=>exact q1
  | cont=>exact q1
 refine Tn (vF (pos:=pos) hp G.calm (hi ow) (gR (i:=ix) G.nd g4 g1 g3) pb hs dl s Z Ht { D with nx:=λZ' H' => ∃ow' Hf,nq (bt (As 0)) Hf H'/\eD X H0 (Us ns.length) (As ns.length) ow' Z' Hf/\d6 (bt (As 0)) ow H ow' Hf } It ⟨Et,λJ H1 s1 itd=>?loop⟩) (λf s1 q1=>?post) λ_ _ z=>z
 case post =>
  cases f with
  | next =>
   obtain⟨Z',H',I',ow',Hf,t,a,b⟩:=q1;have el:=hads ns.length (SX _);obtain⟨Hf2,I2,t2⟩:=r6 I' (bt (As 0)) λc hc=>by obtain⟨o,kvs,_,e⟩:=t.at_ c hc;exact⟨kvs,e⟩
   obtain⟨w2,k2⟩:=a.reo (by rw[el];exact t) (ar.refl _) (by rw[el];exact t2);rw[el]at k2;exact⟨Z',Hf2,I2,q ow' Z' Hf2 w2 (b.trans k2)⟩
  | ret v=>exact q1
  | brk=>exact q1
  | cont=>exact q1
 case loop =>
  let H1f:Hp:=λb => @ite _ (b∈bt (As 0)) (Classical.propDecidable _) (H b) (H1 b)
  have f1:∀b,b∉bt (As 0)->H1f b=H1 b:=λb hb=>if_neg hb
  have f2:∀b,b∈bt (As 0)->H1f b=H b:=λb hb=>if_pos hb
  have t1:nq (bt (As 0)) H1f H1:=⟨λb hb=>(f1 b hb).symm,λa ha=>by
   obtain⟨o,kvs,e1,e2⟩:=th.at_ a ha;exact⟨o,kvs,by rw[f2 a ha];exact e1,s1 _ _ e2⟩⟩
  obtain⟨w1,k1⟩:=w.reo th s1 t1;refine⟨λi m Z' H'=>m=ns.length-i/\i<=ns.length/\∃ow' Hf,nq (bt (As 0)) Hf H'/\eD X H0 (Us i) (As i) ow' Z' Hf/\d6 (bt (As 0)) ow H1f ow' Hf,
   ⟨ns.length,by simp,Tc _,ow,H1f,t1,w1,λb o _ h _=>h,λb o _ h z=>z⟩,?_⟩
  rintro i m Z' H' ⟨rfl,hile,ow',Hf,t,w',k'⟩;have oo:∀b o,b∉bt (As 0)->H1 b=some o->(nm o\/ow b=none)->H' b=some o:=λb o hb h c=>by rw[t.oth b hb];exact k'.keep b o hb (by rw[f1 b hb];exact h) c
  have own0:∀a∈bt (As 0),∀o,H1 a=some o -> ¬ nm o:=λa ha o h n=>by
   obtain⟨_,kvs,_,e2⟩:=t1.at_ a ha;rw[e2]at h;cases h;exact n
  have st:fh (Kd ow Ht 0 H1) (Kd ow Ht 0 H1) H1 H':=⟨λa o ha hn=>oo a o (λz=>own0 a z o ha hn) ha (.inl hn),λa o ha p=>?_,λ_ _ _ p=>p,λ_ p=>p⟩
  ·have it:=itd i H' st;by_cases hlt:i<ns.length
   ·obtain⟨go,yl⟩:=it.1 (.int ns[i]) (by rw[TQ,Tk hlt];rfl);refine .inr ⟨go,λσ2 H2=>i+1<=ns.length/\∃ow2 Hf2,nq (bt (As 0)) Hf2 H2/\eD X H0 (Us (i+1)) (As (i+1)) ow2 σ2 Hf2/\d6 (bt (As 0)) ow H1f ow2 Hf2,λσ2 H2 n=>⟨ns.length-(i+1),by omega,rfl,n.1,n.2⟩,λy H3 y3=>?_⟩;obtain⟨sm3,rx⟩:=yl y H3 y3;rw[ae]at rx;subst rx;have ei:=hads i (Ud hlt);let H3f:Hp:=λb => @ite _ (b∈bt (As 0)) (Classical.propDecidable _) (Hf b) (H3 b)
    have f3:∀b,b∉bt (As 0)->H3f b=H3 b:=λb hb=>if_neg hb
    have f4:∀b,b∈bt (As 0)->H3f b=Hf b:=λb hb=>if_pos hb
    have t3:nq (bt (As 0)) H3f H3:=⟨λb hb=>(f3 b hb).symm,λa ha=>by
     obtain⟨o,kvs,e1,e2⟩:=t.at_ a ha;exact⟨o,kvs,by rw[f4 a ha];exact e1,sm3 _ _ e2⟩⟩
    obtain⟨w3,k3⟩:=w'.reo (by rw[ei];exact t) sm3 (by rw[ei];exact t3);rw[ei]at k3;exact⟨i,ns[i],ow',H3f,Tk hlt,t3,⟨eQ G.nd w3.len w3.env g4 g2 (by rw[ae]),by rw[TU];exact w3.len,w3.nd,w3.fz,w3.base⟩,λow2 Z3 Hf4 Ht4 a b c=>⟨hlt,ow2,Hf4,c,a,k'.trans (k3.trans b)⟩⟩
   ·have ei:i=ns.length:=by omega
    subst ei;exact .inl ⟨it.2 (by rw[SY];exact SX _),ow',Hf,t,w',k1.trans k'⟩
  ·have p1:Ht a=none:=p.1.2;have nas:a∉bt (As 0):=λz=>by obtain⟨_,_,_,e⟩:=th.at_ a z;rw[p1]at e;cases e
   exact oo a o nas ha (.inr (Et.own.free p1))
variable{X:Cx}
noncomputable def C3(X:Cx)(e:Expr)(g:Addr->D):Prop:=PE X e (λ_ H Q => ∀v H' d,ar H H'->H d=none->H' d=some (.dK [])->(∀H2 o,(∀b u,H b=none->b≠d->H' b=some u->H2 b=some u)->H2 d=some (.frz o (.dK []))->ae X.K H2 (λ_ _=>True) (g d) v)->Q v H')
theorem yd:C3 X (.Dict [] [] pos) (λd=>.dft d [] []):=bh vI λZ H Q h d hd=>h _ _ d (cf hd) hd aw λH2 o s1 e=>by
 rw[ae];exact⟨⟨rfl,rfl⟩,d,o,[],rfl,e,trivial⟩
theorem Mq(M:Mk X.K C f)(Fi:bj X.prog X.w X.K X.mg X.base cE kk f fd ps (FY X.K f1))(hr:bJ (kk+1) X.A)(hb:bu X.K fd ps [])(hg:Gl X n)(hm:X.mg n=some (.ref C))(hdb:(n==("__debug__" : Str))=false)
  (hC:W.nsIn X.K mainGlobals n=some (some (.ref C))) (hc:eY X.K C) (hn:dZ X.K C f1):C3 X (.Call (.Name n q) [] [] cp) (λd=>.obj n [f1] [.dft d [] []]):=by
 refine bh (vH M Fi hr hg hm hb .nil iO hdb) λZ H Q h x dx hx0 hdx0 hne=>⟨x,C,dx,rfl,aw,hc,hn,λd hd=>⟨rfl,?_⟩⟩
 have hdx:d≠x:=λz=>by rw[z,aw]at hd;cases hd
 rw[aq hdx]at hd;have hddx:d≠dx:=λz=>by rw[z,aw]at hd;cases hd
 rw[aq hddx]at hd;generalize hH1:aA (aA (aA (aA H dx (.own x)) x (.ins C dx [])) d (.dK [])) x (.ins C dx [(f1,.ref d)])=H1;have e1:H1 x=some (.ins C dx [(f1,.ref d)]):=by rw[<- hH1];exact aw
 have e2:H1 d=some (.dK []):=by rw[<- hH1,aq hdx];exact aw
 have e3:∀b u,H b=some u->H1 b=some u:=λb u hb=>by
  rw[<- hH1,aq (λz=>by subst z;rw[hx0]at hb;cases hb),aq (λz=>by subst z;rw[hd]at hb;cases hb),aq (λz=>by subst z;rw[hx0]at hb;cases hb),aq (λz=>by subst z;rw[hdx0]at hb;cases hb)];exact hb
 refine h _ _ d e3 hd e2 λH2 o s1 e=>?_
 have e4:=s1 _ _ hx0 (Ub hdx) e1;rw[ae];refine⟨rfl,rfl,x,C,dx,[.ref d],rfl,hC,hc,e4,ah.cons ?_ ah.nil⟩;rw[ae];exact⟨⟨rfl,rfl⟩,d,o,[],rfl,e,trivial⟩
theorem Cg{Hf:Hp}{d:Addr}(I:aj X dl Z H s)(hd:H d=none)(e:Hf d=some (.frz o (.dK []))):Fz X Hf (d,[],[]):=⟨λo' u z=>by
 have:=I.base.frzs d o' u z;rw[hd]at this;exact absurd this (by simp),rfl,by show 0<40000;decide,o,[],e,trivial⟩
theorem xS{e2:Expr}{g:Addr->D}{p lp:Pos}{rest:List Stmt}{B:Addr->Addr->cz}(G:aJ O X sc)(hx:dO sc x=true)(h1:C3 X e1 g)(h2:C3 X e2 g)(hg:∀d,(g d).lless=true)(n1:∀y p,e1 ≠ .Starred y p)(n2:∀y p,e2 ≠ .Starred y p)
  (hr:∀d1 d2,d1≠d2->d1∉bt A->d2∉bt A->gC X H0 (bK U x (.lst [g d1,g d2],false)) (A++[(d1,[],[]),(d2,[],[])]) rest (.rt r (B d1 d2))):gC X H0 U A (.Assign [.Name x p] (.List [e1,e2] lp) pos::rest) (.rt r []):=by
 obtain⟨g1,g2,g3,i,g4⟩:=fT G hx;intro dl s Z H D I ⟨ow,w,q⟩;have tail:fD X rest (λD Z' H' => ∃v1 v2 L d1 d2,Z'=Z.set i (some (.ref L))/\ar H H'/\H' L=some (.lst [v1,v2])/\H L=none/\d1≠d2/\H d1=none/\H d2=none/\H' d1=some (.dK [])/\H' d2=some (.dK [])/\(∀H2 o,(∀b u,b≠d1->b≠d2->H' b=some u->H2 b=some u)->H2 d1=some (.frz o (.dK []))->ae X.K H2 (λ_ _=>True) (g d1) v1)/\(∀H2 o,(∀b u,b≠d1->b≠d2->H' b=some u->H2 b=some u)->H2 d2=some (.frz o (.dK []))->ae X.K H2 (λ_ _=>True) (g d2) v2)/\rn X H0 (bt A) ow H (.rt r []) D):=by
  intro pins2 s2 σ2 H2 D2 I2 ⟨v1,v2,L,d1,d2,e1,sm,hL,hL0,ne,hd1,hd2,hd1',hd2',rp1,rp2,q2⟩;subst e1;obtain⟨o1,I3⟩:=gc I2 hd1';obtain⟨o2,I4⟩:=gc I3 (show aA H2 d1 (.frz o1 (.dK [])) d2=some (.dK []) by rw[aq (Ub ne)];exact hd2');generalize hF:aA (aA H2 d1 (.frz o1 (.dK []))) d2 (.frz o2 (.dK []))=Hf at I4;have f2:Hf d2=some (.frz o2 (.dK [])):=by rw[<- hF];exact aw
  have f1:Hf d1=some (.frz o1 (.dK [])):=by rw[<- hF,aq ne];exact aw
  have fo:∀b u,b≠d1->b≠d2->H2 b=some u->Hf b=some u:=λb u z1 z2 h=>by rw[<- hF,aq z2,aq z1];exact h
  have nA:∀d,H d=none->d∉bt A:=λd hd z=>by
   obtain⟨z1,o2,kvs,z2⟩:=w.dKs d z;rw[hd]at z2;cases z2
  have smf:ar H Hf:=λb u h=>fo b u (λz=>by subst z;rw[hd1]at h;cases h) (λz=>by subst z;rw[hd2]at h;cases h) (sm _ _ h)
  have w3:=w.same smf;have rL:Hf L=some (.lst [v1,v2]):=fo L _ (λz=>by subst z;rw[hd1']at hL;cases hL) (λz=>by subst z;rw[hd2']at hL;cases hL) hL;refine hr d1 d2 ne (nA _ hd1) (nA _ hd2) pins2 s2 _ _ D2 I4 ⟨ow,⟨eQ G.nd w3.len w3.env g4 g2 ?_,by rw[TU];exact w3.len,?_,λp hp=>?_,λb ob hb h=>w3.base b ob (λz=>hb (by simp[bt]at z⊢;exact .inl z)) h⟩,λv' H' hk hf rp'=>q2 v' H' (λb ob hb h=>hk b ob (λz=>?_) h) (λp hp=>by cases hp) rp'⟩
  ·rw[ae];exact⟨L,[v1,v2],true,rfl,rL,λ_=>w.env.own.free hL0,ah.cons ((rp1 Hf o1 fo f1).flat _ (hg d1)) (ah.one ((rp2 Hf o2 fo f2).flat _ (hg d2)))⟩
  ·simp only[bt,U3,S2,UW];exact List.nodup_append.mpr ⟨w.nd,by simp[ne],λa ha b hb z=>by
    subst z;rcases SS.mp hb with y|y
    ·exact nA _ hd1 (by rw[<- y];exact ha)
    ·exact nA _ hd2 (by rw[<- Tq.mp y];exact ha)⟩
  ·rcases TZ.mp hp with hp|hp
   ·exact w3.fz p hp
   ·rcases SS.mp hp with y|y
    ·rw[y];exact⟨Cg I hd1 f1,w.env.own.free hd1⟩
    ·rw[Tq.mp y];exact⟨Cg I hd2 f2,w.env.own.free hd2⟩
  ·simp only[bt,U3,S2,UW,TZ,SS,Tg,TC]at z;rcases z with z|z|z
   ·exact hb z
   ·rw[z]at h hb;have:=(w.base d1 ob hb h).1;rw[hd1]at this;cases this
   ·rw[z]at h hb;have:=(w.base d2 ob hb h).1;rw[hd2]at this;cases this
 refine ef (qb (i:=i) G.nd g4 g1 (Bw (fZ h1 (fZ h2 mK (ax n2)) (ax n1))) (d8 rfl) g3) tail dl s Z H D I (λv1 H1 d1 sm1 hd1 hd1' rp1 v2 H2 d2 sm2 hd2 hd2' rp2=>⟨SZ (show 2<=bx by decide) gJ,λL hL=>?_⟩);have sL:ar H2 (aA H2 L (.lst [v1,v2])):=cf hL;have ne:d1≠d2:=λz=>by subst z;rw[hd1']at hd2;cases hd2
 refine⟨v1,v2,L,d1,d2,rfl,(sm1.trans sm2).trans sL,aw,(sm1.trans sm2).free hL,ne,hd1,sm1.free hd2,sL _ _ (sm2 _ _ hd1'),sL _ _ hd2',λH3 o k e=>rp1 H3 o (λb u _ z h=>k b u z (λy=>by subst y;rw[hd2]at h;cases h) (sL _ _ (sm2 _ _ h))) e,λH3 o k e=>rp2 H3 o (λb u z0 z h=>k b u (λy=>by subst y;rw[hd1']at z0;cases z0) z (sL _ _ h)) e,q⟩
theorem HM(hl:r.lless=true)(h:gC X H0 U [] ss (.rt r [])):eU X H0 U ss (.rt r):=λdl s Z H D I ⟨ow,E,hlen,B,q⟩ =>
 h dl s Z H D I ⟨ow,⟨E,hlen,List.nodup_nil,λp hp=>absurd hp (by simp),λb o _ h=>B b o h⟩,λv H' hk _ rp=>q v H' (λb o h=>hk b o (by simp[bt]) h) (rp.flat _ hl)⟩
noncomputable def Qy(O:Fx)(Ω:j7)(sc:Scope)(tb:List Stmt)(U:ag)(r:Xs):Prop:=∃(x cn m:Str) (o e:Expr) (es:List Expr) (px ap q pos:Pos) (G:List D->Option Xs) (ns:List Str) (fds ds:List D) (k ko:Nat),tb=[.Assign [.Name x px] (.Call (.Attribute o m ap) (e::es) [] q) pos]/\ac (aB O o false sc U) (.obj cn ns fds,ko)/\ns.contains m=false/\ac (cB O (e::es) sc U) (ds,k)/\de o=true/\(e::es).length<29/\(ap.endLine==q.line)=true/\Ω cn m=some G/\G (.obj cn ns fds::ds)=some r
theorem HW{Y:Cx}{c:Str}(Gd:aJ O Y.nox sc)(GM:∀c m G,Ω c m=some G->wU Y.nox c m G)(hst:Y.stack=Y.env::Y.outer)
  (hcn:W.nsIn Y.K mainGlobals c=some (some (.ref C))) (hcp:W.nsIn Y.K mainGlobals B=some (some (.ref S))) (hex:iq Y.K C S) (hexm:W.exmOne Y.K (.ref C) (.ref S)=some true) (hmB:Y.mg B=some (.ref S))
  (hB:sc.names.lookup B=some .globalImplicit) (hdb:(B==("__debug__" : Str))=false) (hn:sc.names.lookup n=some .local) (hy:sc.names.lookup y=some .local) (hny:n≠y) (hd1:(n==("__debug__" : Str))=false) (hd2:(n==("__classdict__" : Str))=false)
  (hfo:∀f i,fs=[(f,i)]->xa Y.K C f) (h:Qy O Ω sc tb U (c,B,fs)):SD Y.nox H0 U (.Try tb [.ExceptHandler (some (.Name B bp)) (some n) [.Assign [.Name y p1] (.Name n p2) p3] hpos] [] [] tpos) (.nx (zN U n y c B fs)):=by
 intro dl s Z H D I ⟨ow,E,hl,B0,q⟩;have lk:∀z,sc.names.lookup z=some .local->∃i,Y.N[i]?=some z:=λz hz=>by
  have:=Gd.ns z (by unfold dO;rw[hz];rfl);obtain⟨i,hi,e⟩:=List.getElem_of_mem this;exact⟨i,by rw[Tk hi];exact Ue some e⟩
 obtain⟨ie,hie⟩:=lk n hn;obtain⟨iy,hiy⟩:=lk y hy;have hne:iy≠ie:=λz=>hny (by rw[z,hie]at hiy;exact TN hiy)
 obtain⟨x,cn,m,o,e,es,px,ap,qq,pos,G,ns,fds,ds,k,ko,rfl,t1,t2,t3,t4,t5,t6,t7,t8⟩:=h;refine wpAny_Try_except (sW (wpAny_Assign_Name ?_ (d8 rfl)));refine x9 (X:=Y.nox.wish λe s₁=>wpAny (model Y.prog Y.w) Y.A (noteFrame e Y.env) (λ_ s₂=>wpAny (model Y.prog Y.w) Y.A (setFlight e none) (λ_ s₃=>wpAny (model Y.prog Y.w) Y.A (handleBy e Y.env [.ExceptHandler (some (.Name B bp)) (some n) [.Assign [.Name y p1] (.Name n p2) p3] hpos]) (SP Y.nox dl D) Y.nox.xe s₃) Y.nox.xe s₂) Y.nox.xe s₁) (H0:=H) (n:=c) (p:=B) Gd (GM _ _ _ t7) hcn hcp hex t1 t2 t3 t4 t5 t6 t8 (I.wish _) E (ar.refl _) (λH1 s1 e s' I1 c1=>?_);refine NK (X:=Y.nox) (ie:=ie) (iy:=iy) (C0:=S) I1.unwish hst Gd.nd c1 (Gd.gl B hB) hmB hdb hie (Gd.lc n hn) hiy (Gd.lc y hy) hne hd1 hd2 λC' od H' ⟨e1,sm,hfd⟩=>?_
 cases e1;refine⟨hexm,λx nx=>?_⟩;have hl2:iy<Z.length:=by rw[hl];exact(Tl.mp hiy).1
 refine q ow _ _ (JJ (X:=Y.nox) E sm nx hie hiy (.inl (Gd.lc y hy)) hne hl2 hcn hcp hex hfd hfo) (by simpa using hl) (aV.same (sm.trans λa o h=>by rw[aq (aR h nx)];exact h))
noncomputable def yN(O:Fx)(Ω:j7)(Ex:Str->Option (Str×Option Str))(sc:Scope)(ps:List Str)(pre tb post:List Stmt)(B n y:Str)(ds:List D)(r:D):Prop :=
 ds.length=ps.length/\∃U1,ac (aL O pre sc (bB ps ds)) (.nx U1)/\((∃U2,ac (aL O tb sc U1) (.nx U2)/\ac (aL O post sc U2) (.rt r))\/∃c o fs,Ex c=some (B,o)/\(∀f i,fs=[(f,i)]->o=some f)/\Qy O Ω sc tb U1 (c,B,fs)/\ac (aL O post sc (zN U1 n y c B fs)) (.rt r))
theorem JB{pre post:List Stmt}(Fn:fY K g qual st f fd)
  (S:bG (aE (aa st)) ps (aa st)) (hΦ:kg P w K mg base k O) (hΩ:∀c m G,Ω c m=some G->jq P w K mg base k c m G) (hmg:∀n C,W.nsIn K mainGlobals n=some (some (.ref C))->mg n=some (.ref C)) (hEx:Fp K Ex)
  (hb:af st=pre ++ .Try tb [.ExceptHandler (some (.Name B bp)) (some n) [.Assign [.Name y p1] (.Name n p2) p3] hpos] [] [] tpos::post)
  (hB:(aa st).names.lookup B=some .globalImplicit) (hdb:(B==("__debug__" : Str))=false) (hn:(aa st).names.lookup n=some .local) (hy:(aa st).names.lookup y=some .local) (hny:n≠y) (hd1:(n==("__debug__" : Str))=false) (hd2:(n==("__classdict__" : Str))=false)
  (hrun:∀ds r,ac (F ds) r->yN O Ω Ex (aa st) ps pre tb post B n y ds r):bj P w K mg base cE (k+1) f fd ps (jG K F):=by
 refine Fn.ok S (λvs H Q E h=>?_) (λcdv A outer s H vs Q E hr h=>?_)
 ·obtain⟨ds,r,l,h1,h2,hp,_⟩:=h;rw[<- h1.length];exact(hrun ds r ⟨l,h2,hp⟩).1
 ·obtain⟨ds,r,l,h1,h2,hp,qq⟩:=h;obtain⟨hl,U1,h3,h4⟩:=hrun ds r ⟨l,h2,hp⟩;have G:=ge (outer:=outer) (H:=H) (E:=E) S hΦ hr;obtain⟨E0,hsl⟩:=ig (P:=P) (w:=w) (mg:=mg) (base:=base) (qual:=qual) (f:=f) (cdv:=cdv) (A:=A) (outer:=outer) (s:=s) (E:=E) S h1 hl;have B0:bP H (λ_=>none) H:=λa o h=>⟨h,rfl⟩
  have key:eU (fV cE P w K mg base (aE (aa st)) qual (aa st) f cdv A outer s H E).nox H U1 (.Try tb [.ExceptHandler (some (.Name B bp)) (some n) [.Assign [.Name y p1] (.Name n p2) p3] hpos] [] [] tpos::post) (.rt r):=by
   rcases h4 with⟨U2,h5,h6⟩|⟨c,o,fs,hc,hco,h5,h6⟩
   ·exact d9 (HX G h5) (dH post (H0:=H) h6 G TV)
   ·obtain⟨C,S',c1,c2,c3,c4,c5⟩:=hEx c B o hc;refine d9 (HW (Y:=fV cE P w K mg base (aE (aa st)) qual (aa st) f cdv A outer s H E) (Ω:=Ω) G (λc' m' G' hG=>?_) rfl c1 c2 c3 c4 (hmg B S' c2) hB hdb hn hy hny hd1 hd2 (λf i z=>c5 f (hco f i z)) h5) (dH post (H0:=H) h6 G TV);exact(hΩ c' m' G' hG).at hr
  rw[hb];exact⟨_,rM (H0:=H) G TV key h3,λ_=>none,E0,hsl,B0,λow' Z' H' E' hl' B'=>⟨ow',E',hl',B',λv H2 s2 r2=>qq v H2 s2 r2⟩⟩
section
variable{P:Program}{w:World}{K:W.Frag}{mg:Str->Option Value}{base:Heap}{j k:Nat}{g n m:Str}
theorem kh.mono(h:kh P w K mg base j g Wt)(hk:j<=k):kh P w K mg base k g Wt:=let ⟨f,fd,ps,h1,h2⟩:=h;⟨f,fd,ps,h1.mono hk,h2⟩
theorem kH.mono(h:kH P w K mg base j n m Wt)(hk:j<=k):kH P w K mg base k n m Wt:=let ⟨C,f,fd,ps,a,b,c,d,e⟩:=h;⟨C,f,fd,ps,a,b,c,d.mono hk,e⟩
theorem jq.mono(h:jq P w K mg base j n m G)(hk:j<=k):jq P w K mg base k n m G:=let ⟨C,f,fd,ps,a,b,c,d,e⟩:=h;⟨C,f,fd,ps,a,b,c,d.mono hk,e⟩
theorem iX{l:List (Str×b9)}(h:∀q∈l,kh P w K mg base k q.1 q.2):∀g W,(λg:Str=>l.lookup g) g=some W->kh P w K mg base k g W:=λg W e=>h (g,W) (S5 e)
def jO{α:Type}(c:Str)(l:List (Str×α)):Str->Str->Option α:=λc' m=>if c'=c then l.lookup m else none
theorem iY{c:Str}{l:List (Str×b9)}(h:∀q∈l,kH P w K mg base k c q.1 q.2):∀n m W,jO c l n m=some W->kH P w K mg base k n m W:=λn m W e=>by
 unfold jO at e;split at e
 ·rename_i z;subst z;exact h (m,W) (S5 e)
 ·cases e
theorem vC{c:Str}{l:List (Str×(List D->Option Xs))}(h:∀q∈l,jq P w K mg base k c q.1 q.2):∀n m G,jO c l n m=some G->jq P w K mg base k n m G:=λn m W e=>by
 unfold jO at e;split at e
 ·rename_i z;subst z;exact h (m,W) (S5 e)
 ·cases e
theorem BG(a:W.nsIn K mainGlobals n=some (some (.ref C)))(b:eY K C)(c:iL K C m f)(e:bu K fd ps []):jq P w K mg base k n m (λ_=>none):=⟨C,f,fd,ps,a,b,c,⟨λvs H Q E h=>(by obtain⟨_,_,_,_,_,_,_,h2,_⟩:=h;cases h2),λA outer s H args us vs Q E _ _ _ _ h=>(by obtain⟨_,_,_,_,_,_,_,h2,_⟩:=h;cases h2)⟩,e⟩
end
noncomputable def uQ(O:Fx)(Υ:jh)(Ω:gH)(n f1:Str)(sc:Scope)(ps:List Str)(ss:List Stmt)(ds:List D)(r:D):Prop:=ds.length=ps.length/\∀(X:Cx) (H0:Hp),aJ O X sc->PassesOwn (model X.prog X.w) X.A X.env X.xe->(∀g W,Υ g=some W->sP X g W)->(∀n m W,Ω n m=some W->Fk X n m W)->(∀q cp,Gl X n->C3 X (.Call (.Name n q) [] [] cp) (λd=>.obj n [f1] [.dft d [] []]))->eU X H0 (bB ps ds) ss (.rt r)
theorem JC{Υ:jh}{Ω:gH}{fi:Addr}{fdi:FuncData}{psi:List Str}{ki:Nat}(Fn:fY K g qual st f fd)
  (S:bG (aE (aa st)) ps (aa st)) (hΦ:kg P w K mg base k O) (hΥ:∀g W,Υ g=some W->kh P w K mg base k g W) (hΩ:∀n m W,Ω n m=some W->kH P w K mg base k n m W) (c1:Mk K C fi) (c2:bj P w K mg base cE ki fi fdi psi (FY K f1)) (c3:ki+1<=k) (c4:bu K fdi psi []) (c5:mg n=some (.ref C)) (c6:W.nsIn K mainGlobals n=some (some (.ref C))) (c7:eY K C) (c8:dZ K C f1) (hdb:(n==("__debug__" : Str))=false)
  (hrun:∀ds r,ac (F ds) r->uQ O Υ Ω n f1 (aa st) ps (af st) ds r):bj P w K mg base cE (k+1) f fd ps (jG K F):=by
 refine Fn.ok S (λvs H Q E h=>?_) (λcdv A outer s H vs Q E hr h=>?_)
 ·obtain⟨ds,r,l,h1,h2,hp,_⟩:=h;rw[<- h1.length];exact(hrun ds r ⟨l,h2,hp⟩).1
 ·obtain⟨ds,r,l,h1,h2,hp,qq⟩:=h;obtain⟨hl,hr'⟩:=hrun ds r ⟨l,h2,hp⟩;have G:=ge (outer:=outer) (H:=H) (E:=E) S hΦ hr;obtain⟨E0,hsl⟩:=ig (P:=P) (w:=w) (mg:=mg) (base:=base) (qual:=qual) (f:=f) (cdv:=cdv) (A:=A) (outer:=outer) (s:=s) (E:=E) S h1 hl;have B0:bP H (λ_=>none) H:=λa o h=>⟨h,rfl⟩
  refine⟨_,hr' _ H G TV (λg W hg=>?_) (λn m W hm=>?_) (λq cp hg=>Mq c1 c2 (hr.mono c3) c4 hg c5 hdb c6 c7 c8),λ_=>none,E0,hsl,B0,λv H' sm rp=>qq v H' sm rp⟩
  ·obtain⟨f',fd',ps',z1,z2,z3,z4,z5⟩:=hΥ g W hg;exact⟨k,f',fd',ps',z1,hr,z2,z3,z4,z5⟩
  ·obtain⟨C,f',fd',ps',z1,z2,z3,z4,z5⟩:=hΩ n m W hm;exact⟨k,C,f',fd',ps',z1,z2,z3,z4,hr,z5⟩
variable{X:Cx}
theorem uT:∀{ys:List V} {us:List Value},aP ys us->∀{j:Nat} {y:V},ys[j]?=some y->∃u,us[j]?=some u/\aW y u
 | _,_,.nil,j,y,h=>by cases h
 | _,_,.cons r t,0,y,h=>by cases h;exact⟨_,rfl,r⟩
 | _,_,.cons r t,j+1,y,h=>uT t h
theorem sZ:∀{ys:List V} {us:List Value},aP ys us->∀{j:Nat} {u:Value},us[j]?=some u->∃y,ys[j]?=some y/\aW y u
 | _,_,.nil,j,y,h=>by cases h
 | _,_,.cons r t,0,y,h=>by cases h;exact⟨_,rfl,r⟩
 | _,_,.cons r t,j+1,y,h=>sZ t h
variable{X:Cx}
variable{X:Cx}
theorem zA:∀{a b c:List Nat},ltCps b a=false->ltCps c b=false->ltCps c a=false
 | [],_,[],_,_=>rfl
 | [],b,_::_,_,h2=>by cases b<;>simp[ltCps]at *
 | _::_,[],_,h1,_=>by simp[ltCps]at h1
 | _::_,_::_,[],_,h2=>by simp[ltCps]at h2
 | x::a,y::b,z::c,h1,h2=>by
  have ih:=@zA a b c;simp only[ltCps,Bool.or_eq_false_iff,Bool.and_eq_false_iff,decide_eq_false_iff_not,TF]at *;refine⟨by omega,?_⟩;by_cases e:z=x
  ·right;have e1:y=x:=by omega
   have e2:z=y:=by omega
   exact ih (h1.2.resolve_left (λq=>q e1)) (h2.2.resolve_left (λq=>q e2))
  ·exact .inl e
theorem Ge:∀(a b:List Nat),(ltCps b a=false\/ltCps a b=false)
 | [],[]=>.inl rfl
 | [],_::_=>.inl (by simp[ltCps])
 | _::_,[]=>.inr (by simp[ltCps])
 | x::a,y::b=>by
  have ih:=Ge a b;simp only[ltCps,Bool.or_eq_false_iff,Bool.and_eq_false_iff,decide_eq_false_iff_not,TF];by_cases e:x=y
  ·subst e;rcases ih with h|h
   ·exact .inl ⟨by omega,.inr h⟩
   ·exact .inr ⟨by omega,.inr h⟩
  ·rcases Nat.lt_or_gt_of_ne e with h|h
   ·exact .inl ⟨by omega,.inl (Ub e)⟩
   ·exact .inr ⟨by omega,.inl e⟩
theorem Gf:∀{a b:List Nat},ltCps b a=false->ltCps a b=false->a=b
 | [],[],_,_=>rfl
 | [],_::_,_,h=>by simp[ltCps]at h
 | _::_,[],h,_=>by simp[ltCps]at h
 | x::a,y::b,h1,h2=>by
  have ih:=@Gf a b;simp only[ltCps,Bool.or_eq_false_iff,Bool.and_eq_false_iff,decide_eq_false_iff_not,TF]at *;have e:x=y:=by omega
  subst e;rw[ih (h1.2.resolve_left (λq=>q rfl)) (h2.2.resolve_left (λq=>q rfl))]
def kr(a b:Str):Bool:=!ltCps b.cps.toList a.cps.toList
def cZ(l:List Str):List Str:=l.mergeSort kr
theorem Bo:∀(l:List Str) (p:Str),risingS p l=true->(p::l).Pairwise λa b=>kr a b=true
 | [],p,_=>by simp
 | x::r,p,h=>by
  rw[risingS,Tj]at h;have ih:=Bo r x h.2;refine List.pairwise_cons.mpr ⟨λy hy=>?_,ih⟩;rcases SS.mp hy with rfl|hy
  ·exact h.1
  ·have h3:=(List.pairwise_cons.mp ih).1 y hy;unfold kr at h3⊢;have h1:=h.1;rw[U6]at h1 h3⊢;exact zA h1 h3
theorem x4{a b:List Str}(p:a.Perm b)(s:sortedS a=true):a=cZ b:=by
 refine List.Perm.eq_of_pairwise (le:=λa b=>kr a b=true) (λx y _ _ h1 h2=>?_) ?_ (List.pairwise_mergeSort (λx y z h1 h2=>?_) (λx y=>?_) b) (p.trans (UR b kr).symm)
 ·unfold kr at h1 h2;rw[U6]at h1 h2;obtain⟨⟨x⟩⟩:=x;obtain⟨⟨y⟩⟩:=y;have:=Gf h1 h2;simp at this;rw[this]
 ·cases a with
  | nil=>exact List.Pairwise.nil
  | cons x l=>exact Bo l x s
 ·unfold kr at *;rw[U6]at *;exact zA h1 h2
 ·unfold kr;rw[Vs,U6,U6];exact Ge _ _
theorem iA(l:List Str):(cZ l).length=l.length:=(UR l kr).length_eq
def vX:List av->Option (List Str)
 | []=>some []
 | .inr x::l=>(vX l).map (x :: ·)
 | _::_=>none
def yH:List D->Option (List Str)
 | []=>some []
 | .str x::l=>(yH l).map (x :: ·)
 | _::_=>none
theorem Cq:∀{l:List D} {ss:List Str},yH l=some ss->l=ss.map D.str
 | [],ss,h=>by cases h;rfl
 | d::l,ss,h=>by
  cases d<;>first|cases h|skip
  rename_i x;rw[yH]at h;obtain⟨r,hr,rfl⟩:=Option.map_eq_some_iff.mp h;rw[Cq hr];rfl
theorem vW:∀{l:List av} {ss:List Str},vX l=some ss->l=ss.map Sum.inr
 | [],ss,h=>by cases h;rfl
 | .inr x::l,ss,h=>by
  rw[vX]at h;obtain⟨r,hr,rfl⟩:=Option.map_eq_some_iff.mp h;rw[vW hr];rfl
 | .inl _::_,ss,h=>by cases h
theorem uV:∀{ss:List Str} {us:List Value},aP (ss.map V.str) us->StrsAre us ss
 | [],us,h=>by cases h;exact .nil
 | x::ss,us,h=>by
  cases h with
  | cons r t=>obtain⟨tk,rfl⟩:=r;exact .cons x tk (uV t)
theorem lW:∀{ss:List Str} {us:List Value},StrsAre us ss->aP (ss.map V.str) us
 | _,_,.nil=>.nil
 | _,_,.cons x t h=>.cons ⟨t,rfl⟩ (lW h)
theorem tz{K:W.Frag}{P:bi}{H:Hp}:∀{ss:List Str} {vs:List V},ah K H P (ss.map D.str) vs->vs=ss.map V.str
 | [],vs,h=>by rw[UW,ah]at h;exact h
 | n::ns,vs,h=>by
  rw[S2,ah]at h;obtain⟨v,r,rfl,h1,h2⟩:=h;rw[ae]at h1;rw[h1,tz h2];rfl
theorem rZ{h3:Heap}{tk:Nat}{n m:Nat}{us:Array Value}{ws:List V}(I:aj X dl Z H s)(kk:∀b o,s.heap.get? b=some o->h3.get? b=some o)(hn:s.heap.objs.size<=n)(hg:h3.get? n=some { cls:=.type "list", dict:=none,data:=.seq us m,slots:=#[] })(hv:aP ws us.toList)(hz:ws.length<=sizeLine):aj X dl Z (aA H n (.lst ws)) { s with heap:=h3,toks:=tk }/\H n=none:=by
 have fr:H n=none:=I.hok.fresh hn;exact⟨I.laid (t':=tk) kk hn ⟨hz,us.toList,m,hv,by rw[Array.toArray_toList];exact hg⟩,fr⟩
theorem wA:dm X (.builtin "sorted") (λxs H Q => ∃(p:Addr) (ss:List Str),xs=[.ref p]/\cF X.K H p (ss.map V.str)/\ss.length<64/\∀D,H D=none->Q (.ref D) (aA H D (.lst ((cZ ss).map V.str)))):=by
 intro dl s Z H xs us Q I r h;obtain⟨p,ss,rfl,hq,h64,q⟩:=h;obtain⟨u,rfl,rx⟩:=bY r;cases rx;obtain⟨its,rv,pl,hz⟩:=I.list hq;have el:its.length=ss.length:=by rw[<- rv.length,SY]
 refine sorted_strs pl.isList (uV rv) (by omega) λout ss' a1 a2 a3=>?_
 obtain rfl:=x4 a2 a3;obtain⟨m,S3⟩:=sortedAll_at s.heap its out;obtain⟨I2,n2⟩:=rZ (tk:=s.toks) I (λb o e=>sortedAll_old e) (TM _) S3 (lW a1) (by rw[SY,iA];exact SZ (Ud h64) (by rw[TW];decide));exact⟨.ref _,_,I2,rfl,q _ n2⟩
theorem qo{ss:List Str}{vs:List Value}{acc:List Value}(hl:acc.length=ss.length)(h:∀(j:Nat) v,acc[j]?=some v->∃k x,((ss.map (Sum.inr:Str->av)).zip vs)[j]?=some (k,x)/\(dE P w).is k v=true):StrsAre acc ss:=by
 induction ss generalizing acc vs with
 | nil=>cases UA.mp hl;exact .nil
 | cons x ss ih =>
  cases acc with
  | nil=>cases hl
  | cons v acc =>
   obtain⟨k,y,e,hk⟩:=h 0 v rfl;cases vs with
   | nil=>simp at e
   | cons u vs =>
    simp at e;obtain⟨rfl,rfl⟩:=e;have hv:∃t,v=.str x t:=Jo (k:=.inr x) hk;obtain⟨t,rfl⟩:=hv;exact .cons x t (ih (vs:=vs) (by simpa using hl) λj v hv=>by have:=h (j+1) v (by simpa using hv);simpa using this)
theorem pw(I:aj X dl Z H s)(ha:H a=some (.frz o (.dK kvs))):(a==sysModules)=false/\∃vs:List (av×Value),KV kvs vs/\Heap.DictOf (dE X.prog X.w) s.heap a vs/\kvs.length<=sizeLine:=by
 obtain⟨_,z,hd,vs,rel,dd⟩:=(show bz X.prog X.w H s.heap a (.frz o (.dK kvs))from I.hok a _ ha);exact⟨hd,vs,rel,dd,z⟩
theorem rX:∀{ss:List Str} {us:List V} {vs:List (av×Value)},ss.length=us.length->KV ((ss.map (Sum.inr:Str->av)).zip us) vs->vs=(ss.map (Sum.inr:Str->av)).zip (vs.map (·.2))/\vs.length=ss.length
 | [],[],vs,_,h=>by cases h;exact⟨rfl,rfl⟩
 | x::ss,u::us,vs,hl,h=>by
  rw[S2,T7]at h;unfold KV at h;cases h with
  | @cons _ q _ qs h1 h2 =>
   obtain⟨e1,e2⟩:=rX (ss:=ss) (us:=us) (by simpa using hl) h2;refine⟨?_,by rw[S7,S7,e2]⟩;rw[S2,S2,T7,<- e1];obtain⟨q1,q2⟩:=q;rw[show q1=Sum.inr x from h1.1.symm]
 | [],_::_,_,hl,_=>by cases hl
 | _::_,[],_,hl,_=>by cases hl
theorem Ad:dm X (.type "list") (λxs H Q => ∃(p:Addr) (o:Obj) (ss:List Str) (us:List V),xs=[.ref p]/\ss.length=us.length/\H p=some (.frz o (.dK ((ss.map Sum.inr).zip us)))/\X.calm=true/\∀D,H D=none->Q (.ref D) (aA H D (.lst (ss.map V.str)))):=by
 intro dl s Z H xs us Q I r h;obtain⟨p,o,ss,us',rfl,hl,ha,hc,q⟩:=h;obtain⟨u,rfl,rx⟩:=bY r;cases rx;obtain⟨hd,vs,rel,dd,z⟩:=pw I ha;obtain⟨e1,e2⟩:=rX hl rel;obtain⟨ep,hat⟩:=dd.dictAt;have lz:((ss.map (Sum.inr:Str->av)).zip us').length=ss.length:=by rw[Vt,SY,<- hl,Nat.min_self]
 refine W.kdl_call (W.kdl_dict (knd:=dE X.prog X.w) (kvs:=vs) (ep:=ep) hd) (I.ok.hd hc) hat (by rw[e2,<- lz];exact z) λh' tk acc c hk hg hi=>?_
 have st:StrsAre acc.toList ss:=qo (P:=X.prog) (w:=X.w) (vs:=vs.map (·.2)) (by rw[UE,hi.1,e2]) λj v hv=>by
  have:=hi.2 j v (by rw[<- Array.getElem?_toList];exact hv);rw[e1]at this;exact this
 obtain⟨I2,n2⟩:=rZ (tk:=tk) I hk (SX _) hg (lW st) (by rw[SY,<- lz];exact z);exact⟨.ref _,_,I2,rfl,q _ n2⟩
theorem CH:dm X (.builtin "len") (λxs H Q => ∃(p:Addr) (o:Obj) (kvs:List (av×V)),xs=[.ref p]/\H p=some (.frz o (.dK kvs))/\Q (.int (kvs.length:Nat)) H):=by
 intro dl s Z H xs us Q I r h;obtain⟨p,o,kvs,rfl,ha,q⟩:=h;obtain⟨u,rfl,rx⟩:=bY r;cases rx;obtain⟨hd,vs,rel,dd,z⟩:=pw I ha;have el:=rel.length;refine call_len_dict hd dd (by rw[TW]at z;omega) ⟨.int _,H,(I.tok _),⟨_,rfl⟩,by rw[<- el];exact q⟩
theorem wB:dm X (.builtin "sorted") (λxs H Q => ∃(p:Addr) (o:Obj) (ss:List Str) (us:List V),xs=[.ref p]/\ss.length=us.length/\H p=some (.frz o (.dK ((ss.map Sum.inr).zip us)))/\ss.length<64/\X.calm=true/\∀D,H D=none->Q (.ref D) (aA H D (.lst ((cZ ss).map V.str)))):=by
 intro dl s Z H xs us Q I r h;obtain⟨p,o,ss,us',rfl,hl,ha,h64,hc,q⟩:=h;obtain⟨u,rfl,rx⟩:=bY r;cases rx;obtain⟨hd,vs,rel,dd,z⟩:=pw I ha;obtain⟨e1,e2⟩:=rX hl rel;obtain⟨ep,hat⟩:=dd.dictAt;have lz:((ss.map (Sum.inr:Str->av)).zip us').length=ss.length:=by rw[Vt,SY,<- hl,Nat.min_self]
 refine Calls.call_function_entry kind_sorted plain_sorted entry_sorted (args_sorted1 _) ?_;unfold Builtin.«sorted»;refine SO (m:=checkCount "sorted" 1 1 _) (SU ?_);refine SO (W.kdu_collect (A:=X.A.in1) (W.kdl_dict (knd:=dE X.prog X.w) (kvs:=vs) (ep:=ep) hd) (I.ok.hd hc) hat (by rw[e2,<- lz];exact z) λh' tk acc hk hi=>?_);have st:StrsAre acc.toList ss:=qo (P:=X.prog) (w:=X.w) (vs:=vs.map (·.2)) (by rw[UE,hi.1,e2]) λj v hv=>by
  have:=hi.2 j v (by rw[<- Array.getElem?_toList];exact hv);rw[e1]at this;exact this
 have l64:acc.toList.length<64:=by rw[UE,hi.1,e2];exact h64
 refine SO (wpAny_newList ?_ (SZ (Ud l64) (by rw[TW];decide)));have hoL:(h'.push (seqObj "list" acc.toList.toArray 0)).get? h'.objs.size=some (seqObj "list" acc.toList.toArray 0):=S6 _ rfl;show wpAny _ _ _ _ _ { s with heap:=h'.push (seqObj "list" acc.toList.toArray 0),toks:=tk };refine SO (TB (UH slot_list_sort ⟨_,hoL,rfl⟩ entry_list_sort (list_sort_treeK strKind_oneLt hoL st.keysOf (λv₁ v₂ rest e=>keyKind_strs (by rw[<- e];exact st)) l64 λst' hp hs=>⟨_,rfl,?_⟩) (args_list_sort _)));obtain⟨ss',h1,h2,h3⟩:=sorted_out_str st hp hs;obtain rfl:=x4 h2 h3;obtain⟨m,hm⟩:=sortedHeap_at (out:=(arrOf st').map (·.2)) hoL;have kk:∀b o,h'.get? b=some o->(sortedHeap (h'.push (seqObj "list" acc.toList.toArray 0)) h'.objs.size acc.toList ((arrOf st').map (·.2))).get? b=some o:=λb o e=>by
  have hb:=S1 e;have hne:b≠h'.objs.size:=λz=>TH _ (z ▸ hb)
  rw[sortedHeap_old hne (by rw[size_push'];exact Vj hb)];exact SQ _ e
 have I1:aj X dl Z H { s with heap:=h',toks:=tk }:=I.kept (t':=tk) hk;obtain⟨I2,n2⟩:=rZ (tk:=tk) I1 kk (SX _) hm (lW h1) (by rw[SY,iA,<- lz];exact z);exact SU ⟨_,rfl,.ref _,_,I2,rfl,q _ n2⟩
noncomputable def gF(ds:List D):R1 :=
 match ds with
 | [.lst l]=>(match yH l with|some ss=>.ok (.lst ((cZ ss).map D.str),0) [ss.length<64]|none=>.st)
 | [.dft _ ks _]=>(match vX ks with|some ss=>.ok (.lst ((cZ ss).map D.str),0) [ss.length<64]|none=>.st)
 | _=>.st
theorem zd{K:W.Frag}{P:bi}{H:Hp}:∀ss:List Str,ah K H P (ss.map D.str) (ss.map V.str)
 | []=>ah.nil
 | _::ss=>ah.cons (by rw[ae]) (zd ss)
theorem EM:dy "sorted" gF:=by
 refine⟨by decide +kernel,by decide +kernel,by decide +kernel,rfl,λX ds z l o hc h hp=>.inl ⟨"sorted", by decide +kernel,?_⟩⟩;unfold gF at h;split at h
 ·split at h
  ·rename_i m _ ss e;cases h;obtain⟨p1,_⟩:=hp;obtain rfl:=Cq e;refine⟨_,wA,λow H0 H2 vs P Q o s rx q=>?_⟩;obtain⟨v,rfl,ry⟩:=rx.only;obtain⟨a,ws,rfl,hs,rl⟩:=iN ry;obtain rfl:=tz rl;refine⟨a,ss,rfl,hs,p1,λD hD=>q _ _ (cf hD) ?_⟩;rw[ae];exact⟨D,_,true,rfl,aw,⟨rfl,s.free hD⟩,zd _⟩
  ·cases h
 ·split at h
  ·rename_i m ks ts _ ss e;cases h;obtain⟨p1,_⟩:=hp;obtain rfl:=vW e;refine⟨_,wB,λow H0 H2 vs P Q o s rx q=>?_⟩;obtain⟨v,rfl,ry⟩:=rx.only;rw[ae]at ry;obtain⟨⟨hl,rfl⟩,a,o',us,e2,ha,hT⟩:=ry;cases e2;refine⟨m,o',ss,us,rfl,by rw[hT.len,<- hl,SY],ha,p1,hc,λD hD=>q _ _ (cf hD) ?_⟩;rw[ae];exact⟨D,_,true,rfl,aw,⟨rfl,s.free hD⟩,zd _⟩
  ·cases h
 ·cases h
def Al(ds:List D):R1 :=
 match ds with
 | [.dft _ ks _]=>.ok (.int (ks.length:Nat),0) []
 | ds=>Ak ds
theorem EQ:dy "len" Al:=by
 refine⟨by decide +kernel,by decide +kernel,by decide +kernel,rfl,λX ds z l o hc h hp=>?_⟩;unfold Al at h;split at h
 ·rename_i m ks ts;cases h;refine .inl ⟨"len", by decide +kernel,_,CH,λow H0 H2 vs P Q o s rx q=>?_⟩;obtain⟨v,rfl,ry⟩:=rx.only;rw[ae]at ry;obtain⟨⟨hl,rfl⟩,a,o',us,e2,ha,hT⟩:=ry;cases e2;refine⟨m,o',_,rfl,ha,q _ _ (ar.refl _) ?_⟩;rw[ae,Vt,hT.len,<- hl,Nat.min_self]
 ·exact EO.2.2.2.2 X _ z l o hc h hp
theorem I0:nv X "str.find" (λx xs H Q => ∃a b,x=.str a/\xs=[.str b]/\Q (.int (Txt.find a b)) H):=by
 intro dl s Z H x xs v us Q I rx rxs h;obtain⟨a,b,rfl,rfl,q⟩:=h;obtain⟨t,rfl⟩:=rx;obtain⟨u,rfl,t',rfl⟩:=bY rxs;exact SC.find ⟨.int _,H,I.tok _,⟨_,rfl⟩,q⟩
def zv(x:D)(ds:List D):R1 :=
 match x,ds with
 | .str a,[.str b]=>.ok (.int (Txt.find a b),0) []
 | _,_=>.st
theorem DZ:iV "find" zv:=by
 intro X U a args ap cp x k ds j z l o hc hroom hea hes hst hlen hline hb h hp;unfold zv at h;split at h
 ·rename_i y b;cases h;obtain⟨e,rfl⟩:∃e,args=[e]:=by
   match args,hlen with
   | [e],_=>exact⟨e,rfl⟩
  intro ow;refine bh (kq UU PySem.F.slot_str_find PySem.F.type_str_find I0 (hea ow) (hes ow) (cj hb) (eN hst (show 1<29 by decide)) hline (ax (hst e SV)) rfl) λZ H Q ⟨E,q⟩=>⟨E,λv H1 s1 r1=>?_⟩
  rw[ae]at r1;subst r1;refine⟨rfl,E.same s1,λvs H2 s2 r2=>?_⟩;obtain⟨v,rfl,r3⟩:=r2.only;rw[ae]at r3;subst r3;exact⟨y,b,rfl,rfl,q _ _ (s1.trans s2) (by rw[ae])⟩
 ·cases h
theorem CS:∀bs:List Bool,(bs.map V.bl).all nQ=true:=λbs=>by rw[List.all_map];exact TJ.mpr λ_ _=>rfl
theorem Ct:∀{bs:List Bool} {its:List Value},aP (bs.map V.bl) its->its.countP (Ck (.bl true))=bs.countP id
 | [],_,.nil=>rfl
 | b::bs,_,.cons r t=>by
  rw[List.countP_cons,List.countP_cons,Ct t,qB r rfl];cases b<;>rfl
theorem Ja:nv X "list.count" (λx xs H Q => ∃(p:Addr) (bs:List Bool),x=.ref p/\xs=[.bl true]/\cF X.K H p (bs.map V.bl)/\Q (.int (bs.countP id:Nat)) H):=by
 intro dl s Z H x xs v us Q I rx rxs h;obtain⟨p,bs,rfl,rfl,sq,q⟩:=h;cases rx;obtain⟨u,rfl,hu⟩:=bY rxs;cases hu;obtain⟨its,r,pl,hz⟩:=I.list sq;obtain⟨o,n,e,c1,c2,c3⟩:=pl;have e':s.heap.get? p=some { cls:=.type "list", dict:=none,data:=.seq its.toArray n,slots:=o.slots }:=by
  rw[e];obtain⟨a,b,c,d⟩:=o;simp only at c1 c2 c3;subst c1;subst c2;subst c3;rfl
 refine call_meets F.slot_list_count ⟨_,e',rfl⟩ F.entry_list_count (F.args_list_count_2 _ _) (SeqAt.list_countAt p its.toArray n none o.slots (.bool true) (Ck (.bl true))) ⟨e',λy hy=>pc (x:=.bl true) rfl rfl r (CS bs) y (by simpa using hy),⟨.int (bs.countP id:Nat),H,I.tok _,⟨s.toks,?_⟩,q⟩⟩;rw[show its.toArray.toList=its from rfl,Ct r]
theorem IZ:nv X "list.index" (λx xs H Q => ∃(p:Addr) (bs:List Bool) (j:Nat),x=.ref p/\xs=[.bl true]/\cF X.K H p (bs.map V.bl)/\bs[j]?=some true/\(∀m,m<j->bs[m]?=some false)/\Q (.int (j:Nat)) H):=by
 intro dl s Z H x xs v us Q I rx rxs h;obtain⟨p,bs,j,rfl,rfl,sq,hj,hm,q⟩:=h;cases rx;obtain⟨u,rfl,hu⟩:=bY rxs;cases hu;obtain⟨its,r,pl,hz⟩:=I.list sq;obtain⟨o,n,e,c1,c2,c3⟩:=pl;have e':s.heap.get? p=some { cls:=.type "list", dict:=none,data:=.seq its.toArray n,slots:=o.slots }:=by
  rw[e];obtain⟨a,b,c,d⟩:=o;simp only at c1 c2 c3;subst c1;subst c2;subst c3;rfl
 obtain⟨u,hu,ru⟩:=uT r (j:=j) (y:=.bl true) (by rw[TQ,hj];rfl);have hl:j<its.toArray.size:=by rw[Tp];exact(Tl.mp hu).1
 have hlen:its.length=(bs.map V.bl).length:=r.length.symm;refine call_meets F.slot_list_index ⟨_,e',rfl⟩ F.entry_list_index (F.args_list_index_2 _ _) (SeqAt.list_indexAt p its.toArray n none o.slots (.bool true) (Ck (.bl true)) j hl ?_ ?_ λm hm' hlt=>?_) ⟨e',λy hy=>pc (x:=.bl true) rfl rfl r (CS bs) y (by simpa using hy),⟨.int (j:Nat),H,I.tok _,⟨_,rfl⟩,q⟩⟩
 ·rw[Tp,hlen]at hl;rw[TW]at hz;omega
 ·have:its.toArray[j]=u:=by
   rw[List.getElem_toArray];exact(Tl.mp hu).2
  rw[this,qB ru rfl];rfl
 ·rw[Tp]at hm';have g:its[m]?=some its[m]:=Tk hm';obtain⟨y,hy,ry⟩:=sZ r g;rw[TQ,hm m hlt]at hy;cases hy;rw[List.getElem_toArray,qB ry rfl];rfl
def zx(x:D)(ds:List D):R1 :=
 match x,ds with
 | .lst l,[.bl true]=>(match bF l with|some bs=>.ok (.int (bs.countP id:Nat),0) []|none=>.st)
 | _,_=>.st
def zI:List Bool->Option Nat
 | []=>none
 | true::_=>some 0
 | false::l=>(zI l).map (· + 1)
theorem ym:∀{bs:List Bool} {j:Nat},zI bs=some j->bs[j]?=some true/\∀m,m<j->bs[m]?=some false
 | [],_,h=>by cases h
 | true::_,_,h=>by cases h;exact⟨rfl,λm hm=>absurd hm (U0 _)⟩
 | false::l,j,h=>by
  rw[zI]at h;obtain⟨i,hi,rfl⟩:=Option.map_eq_some_iff.mp h;obtain⟨h1,h2⟩:=ym hi;refine⟨by simpa using h1,λm hm=>?_⟩;cases m with
  | zero=>rfl
  | succ m=>simpa using h2 m (by omega)
noncomputable def zu(x:D)(ds:List D):R1 :=
 match x,ds with
 | .lst l,[.bl true]=>(match bF l with|some bs=>(match zI bs with|some j=>.ok (.int (j:Nat),0) []|none=>.st)|none=>.st)
 | _,_=>.st
theorem pA:∀{l:List D} {bs:List Bool},bF l=some bs->l=bs.map D.bl
 | [],bs,h=>by cases h;rfl
 | d::l,bs,h=>by
  cases d<;>first|cases h|skip
  rename_i x;rw[bF]at h;obtain⟨r,hr,rfl⟩:=Option.map_eq_some_iff.mp h;rw[pA hr];rfl
theorem oY{K:W.Frag}{P:bi}{H:Hp}:∀{ss:List Bool} {vs:List V},ah K H P (ss.map D.bl) vs->vs=ss.map V.bl
 | [],vs,h=>by rw[UW,ah]at h;exact h
 | n::ns,vs,h=>by
  rw[S2,ah]at h;obtain⟨v,r,rfl,h1,h2⟩:=h;rw[ae]at h1;rw[h1,oY h2];rfl
theorem BR{p:Addr}{b:Bool}(s2:ar H H2)(hL:oO K H p vs b):cF K H2 p vs:=by
 cases b with
 | true=>exact cF.of (s2 _ _ hL)
 | false =>
  rcases hL with⟨o,h⟩|h
  ·exact .inl (.inr ⟨o,s2 _ _ h⟩)
  ·exact .inr h
theorem D1:iV "count" zx:=by
 intro X U a args ap cp x k ds j z l o hc hroom hea hes hst hlen hline hb h hp;unfold zx at h;split at h
 ·rename_i l';split at h
  ·rename_i bs hn;cases h;obtain rfl:=pA hn;obtain⟨e,rfl⟩:∃e,args=[e]:=by
    match args,hlen with
    | [e],_=>exact⟨e,rfl⟩
   intro ow;refine bh (kq PySem.F.plainAttrs_list PySem.F.slot_list_count PySem.F.type_list_count Ja (hea ow) (hes ow) (cj hb) (eN hst (show 1<29 by decide)) hline (ax (hst e SV)) rfl) λZ H Q ⟨E,q⟩=>⟨E,λv H1 s1 r1=>?_⟩
   rw[ae]at r1;obtain⟨p,vs,b,rfl,hL,hP,rl⟩:=r1;obtain rfl:=oY rl;refine⟨.inl ⟨rfl,_,hL.sq⟩,E.same s1,λws H2 s2 r2=>?_⟩;obtain⟨w,rfl,r3⟩:=r2.only;rw[ae]at r3;subst r3;exact⟨p,bs,rfl,rfl,BR s2 hL,q _ _ (s1.trans s2) (by rw[ae])⟩
  ·cases h
 ·cases h
theorem DY:iV "index" zu:=by
 intro X U a args ap cp x k ds j z l o hc hroom hea hes hst hlen hline hb h hp;unfold zu at h;split at h
 ·rename_i l';split at h
  ·rename_i bs hn;split at h
   ·rename_i jj hj;cases h;obtain rfl:=pA hn;obtain⟨e,rfl⟩:∃e,args=[e]:=by
     match args,hlen with
     | [e],_=>exact⟨e,rfl⟩
    intro ow;refine bh (kq PySem.F.plainAttrs_list PySem.F.slot_list_index PySem.F.type_list_index IZ (hea ow) (hes ow) (cj hb) (eN hst (show 1<29 by decide)) hline (ax (hst e SV)) rfl) λZ H Q ⟨E,q⟩=>⟨E,λv H1 s1 r1=>?_⟩
    rw[ae]at r1;obtain⟨p,vs,b,rfl,hL,hP,rl⟩:=r1;obtain rfl:=oY rl;refine⟨.inl ⟨rfl,_,hL.sq⟩,E.same s1,λws H2 s2 r2=>?_⟩;obtain⟨w,rfl,r3⟩:=r2.only;rw[ae]at r3;subst r3;obtain⟨g1,g2⟩:=ym hj;exact⟨p,bs,jj,rfl,rfl,BR s2 hL,g1,g2,q _ _ (s1.trans s2) (by rw[ae])⟩
   ·cases h
  ·cases h
 ·cases h
theorem Co{a b:Expr}(hx:x.length<=1048576)(ha:ED X U a (.str x) k)(hb:ED X U b (.str y) j):ED X U (.BoolOp .Or [a,b] pos) (.str (if x.length=0 then y else x)) 0:=by
 intro ow dl s Z H Q I ⟨E,q⟩;refine BoolOp_or (aG (ha ow dl s Z H (λv H1=>v=.str x/\ar H H1) I ⟨E,λv H1 s1 r1=>⟨by rw[ae]at r1;exact r1,s1⟩⟩) λv s1 ⟨z,H1,I1,r1,e1,sm⟩=>?_);subst e1;obtain⟨t,rfl⟩:=r1;refine PySem.P.truthy_str (by omega) ?_;by_cases h0:x.length=0
 ·rw[show((x.length:Int) != 0)=false by simp[h0],if_neg Ta];refine BoolOp_one (hb ow dl _ Z H1 Q ((I1.tok _).tok _) ⟨E.same sm,λv H2 s2 r2=>q v H2 (sm.trans s2) ?_⟩);rw[if_pos h0];exact r2.flat _ rfl
 ·rw[show((x.length:Int) != 0)=true by simp[h0],if_pos rfl];exact⟨.str x,H1,(I1.tok _).tok _,⟨t,rfl⟩,q _ _ sm (by rw[if_neg h0,ae])⟩
theorem qD{a b:Expr}{z:Str}{i:Int}{c:Nat}(ha:ED X U a (.str z) k)(hb:ED X U b (.int i) j)(hs:lF b)(h0:0<=i)(h6:i<2 ^ 63)(h1:i<z.length)(hc:z.cps[i.toNat]?=some c):ED X U (.Subscript a b pos) (.str ⟨#[c]⟩) 0:=by
 intro ow;refine bh (xq (ha ow) (hb ow) hs) λZ H Q ⟨E,q⟩=>⟨E,λv H1 s1 r1=>⟨E.same s1,λu H2 s2 r2=>?_⟩⟩
 rw[ae]at r1;rw[ae]at r2;subst r1 r2;exact⟨z,i,c,rfl,rfl,h0,h6,h1,hc,q _ H2 (s1.trans s2) (by rw[ae])⟩
end Sp
namespace K
open PySem L2 Sp
theorem P3{m k:Nat}(h:10 ^ k<=m):k<(dn m).length:=by unfold dn;rw[SY];exact PyProof.Rows.digits10_ge h
theorem ND(m:Nat):(40<(dn m).length)↔10 ^ 40<=m:=by
 constructor
 ·intro h;rcases UX m (10 ^ 40)with z|z
  ·have:=mX (k:=40) (by decide) z;omega
  ·exact z
 ·exact P3
theorem MA{n:Nat}(h:n<10 ^ 90):n<2 ^ 1900:=UN h (S4 (show 10 ^ 90<2 ^ 300 by decide) (Nat.pow_le_pow_right (by decide) (by decide)))
def ku(n:Int):Bool:=decide (10 ^ 40<=n.natAbs)
def qL(q:Qd):List Int:=[q.1,q.2.1,q.2.2.1,q.2.2.2]
theorem Bm{O:Fx}{Ψ:Str->Option (List D->Option Xs)}{Ex:Str->Option (Str×Option Str)}{sc:Scope}{r:Xs}:∀(n:Nat) {ss:List Stmt} {U U':ag},ac (aL O (ss.take n) sc U) (.nx U')->Rz O Ψ Ex sc (ss.drop n) U' r->Rz O Ψ Ex sc ss U r
 | 0,ss,U,U',h,k=>by cases aX h;exact k
 | n+1,[],U,U',h,k=>by cases aX h;exact k
 | n+1,s::ss,U,U',h,k=>by
  rcases mw h with⟨U1,h1,h2⟩|⟨h1,_⟩
  ·exact Rz.step h1 (Bm n h2 k)
  ·exact absurd rfl (h1 _)
end K
namespace Sp
open PySem PySem.Spec PyProof.Rows L2
variable{O:Fx}{sc:Scope}{U:ag}{p:Pos}{k n:Nat}{a:Expr}{ds:List D}{H0:Hp}{A:cz}{ss:List Stmt}{es:List Expr}
variable{X:Cx}
theorem Ez{elt tg iter:Expr}{scope:Scope}{d:D}{f:Int->D}{l:List Int}(G:aJ O X sc)(hi:ac (aB O iter true sc U) (d,k))(hd:items d=some (l.map D.int))(hl:l.length<=bx)
  (h:∀x∈l,∃U',dk scope tg (.int x) (flt scope U)=some U'/\∀Y,aJ O Y scope->ED Y U' elt (f x) 0) (hc:ni sc scope=true:=by rfl) (ht:gI iter tg=true:=by rfl):ED X U (.ListComp elt [⟨tg,iter,[],0⟩] scope p) (.lst (l.map f)) 0:=by
 have hll:aK (l.map D.int)=true:=by
  clear h hd hl;induction l with
  | nil=>rfl
  | cons a l ih=>rw[S2,aK,ih];rfl
 obtain⟨li,hi1,hi2⟩:=hi;have e:(l.map D.int).filterMap (λd=>match d with | .int n=>some (f n)|_=>none)=l.map f:=by
  rw[List.filterMap_map];clear h hll hl hd;induction l with
  | nil=>rfl
  | cons a l ih=>rw[Ut,S2,<- ih];rfl
 rw[<- e];refine yE (N':=scope.names.map (·.1)) (k:=k) G.calm G.nd (.inl hll) (Tc _) (Tu (by rw[SY];exact hl) i5) (m9 G hc) (λx d o hx=>jr (iE hx).2) ((bO ⟨li,hi1,hi2⟩ G).ie rfl tg _ hd ht) (λcl C s H fp d hm=>?_) (kA hi1);obtain⟨n,hn,rfl⟩:=T0.mp hm;obtain⟨U',hb,he⟩:=h n hn;have G':=sg (cl:=cl) (C:=C) (s:=s) (H:=H) (fp:=fp) G hc;exact⟨U',true,js G' hb,λx y hxy=>tZ hb x y (iE hxy).2 hxy,((gz O _).b .And [] (Tx _) (show fb O .And [] scope U'=.ok true []from rfl) trivial G').ts rfl,rfl,he _ G'⟩
theorem Cp{args:List Expr}{m:Str}{ap cp:Pos}{x:D}{j:Nat}{z:D}{l:Nat}{M:D->List D->R1}(G:aJ O X sc)(hM:O.mth m=some M)(ha:ED X U a x k)(hs:AD X U args ds j)(hst:∀e∈args,∀x p,e ≠ .Starred x p)(hl:args.length=ds.length)(hln:(ap.endLine==cp.line)=true)(hb:de a=true)(h:ac (M x ds) (z,l)):ED X U (.Call (.Attribute a m ap) args [] cp) z l:=by
 obtain⟨o,h1,h2⟩:=h;exact G.mth m M hM X U a args ap cp x k ds j z l o G.calm G.room ha hs hst hl hln hb h1 h2
theorem Mp:∀(l:List Int) (n:Int),(l.foldl max n∈n::l)/\∀a∈n::l,a<=l.foldl max n
 | [],n=>⟨SV,λa ha=>by rw[Tq.mp ha];exact Int.le_refl _⟩
 | b::l,n=>by
  obtain⟨h1,h2⟩:=Mp l (max n b);rw[List.foldl_cons];constructor
  ·rcases SS.mp h1 with e|e
   ·rw[e];rcases Int.le_total n b with z|z
    ·rw[Int.max_eq_right z];simp
    ·rw[Int.max_eq_left z];simp
   ·simp[e]
  ·have h3:=h2 (max n b) SV;intro a ha;rcases SS.mp ha with rfl|ha
   ·exact Int.le_trans (Int.le_max_left _ _) h3
   ·rcases SS.mp ha with rfl|ha
    ·exact Int.le_trans (Int.le_max_right _ _) h3
    ·exact h2 a (SR _ ha)
theorem CF(hc:X.calm=true):dm X (.builtin "max") (λxs H Q => ∃(p:Addr) (n:Int) (ns:List Int),xs=[.ref p]/\cF X.K H p ((n::ns).map V.int)/\Q (.int (ns.foldl max n)) H):=by
 intro dl s Z H xs us Q I r h;obtain⟨p,n,ns,rfl,hq,q⟩:=h;obtain⟨u,rfl,rx⟩:=bY r;cases rx;obtain⟨its,rv,pl,hz⟩:=I.list hq;obtain⟨hall,hnum⟩:=oV rv;obtain⟨xs,e⟩:=AllInts.items (vs:=its.toArray) (λv hv=>hall v (by simpa using hv));have hl:=pl.isList;rw[e]at hl;have hn:xs.toList.map (·.1)=n::ns:=by rw[<- nums_intItems,<- e];simpa using hnum
 have hsz:xs.size=ns.length+1:=by have:=Ue List.length hn;simpa using this
 refine max_intList (I.ok.hd hc) hl (by omega) λv h' tk hv kk=>?_
 obtain⟨t,rfl⟩:=intItems_at hv;obtain⟨h1,h2⟩:=argBest_gt (numAt xs) (xs.size-1);refine⟨.int (ns.foldl max n),H,I.kept kk,⟨t,?_⟩,q⟩;congr 1;obtain⟨m1,m2⟩:=Mp ns n;have hat:∀j,numAt xs j=(n::ns).getD j 0:=λj=>by rw[numAt_eq,hn]
 generalize argBest (λi j=>decide (numAt xs i>numAt xs j)) (xs.size-1)=b at *;have c1:numAt xs b∈n::ns:=by rw[hat];exact PySem.getD_mem (by rw[S7];omega)
 obtain⟨j,hj,ej⟩:=PySem.mem_getD m1;have:=h2 j (by rw[S7]at hj;omega);rw[hat j,ej]at this;exact Int.le_antisymm (m2 _ c1) this
def Aj(ds:List D):R1 :=
 match ds with
 | [.lst l]=>(match eI l with|some (n::ns)=>.ok (.int (ns.foldl max n),0) []|_=>.st)
 | _=>.st
theorem Kh:dy "max" Aj:=by
 refine⟨by decide +kernel,by decide +kernel,by decide +kernel,rfl,λX ds z l o hc h _=>.inl ⟨"max", by decide +kernel,?_⟩⟩;unfold Aj at h;split at h
 ·split at h
  ·rename_i n ns e;cases h;cases mT e;refine⟨_,CF hc,λow H0 H2 vs P Q o s rx q=>?_⟩;obtain⟨v,rfl,ry⟩:=rx.only;obtain⟨a,ws,rfl,hs,rl⟩:=iN ry;exact⟨a,n,ns,rfl,by rw[<- rl.mapInt];exact hs,q _ _ (ar.refl _) (by rw[ae])⟩
  ·cases h
 ·cases h
theorem mv{r:D}(G:aJ O X sc)(hp:PassesOwn (model X.prog X.w) X.A X.env X.xe)(h:ac (aL O ss sc (qH U)) (.rt r)):gC X H0 U A ss (.rt r A):=λdl s Z H D I ⟨ow,w,q⟩ =>
 (dH (H0:=H) _ h G hp) dl s Z H D I ⟨λ_=>none,wk w.env,w.len,λa o h=>⟨h,rfl⟩,λv H' sm rp=>q v H' (λb o hb h=>sm _ _ (w.base b o hb h).1) (λp hp=>(w.fz p hp).1.keep λa o h _=>sm a o h) (rp.imp λ_ _ _=>trivial)⟩
theorem fE{C:ag}{fl:rc}(hs:∀x y,C x=some y->U x=some y)(h:gC X H0 C A ss fl):gC X H0 U A ss fl:=λdl s Z H D I ⟨ow,w,q⟩ =>
 h dl s Z H D I ⟨ow,⟨⟨λx d o e=>w.env.get x d o (hs x _ e),w.env.own⟩,w.len,w.nd,w.fz,w.base⟩,q⟩
theorem yC{pos:Pos}(h:AD X U es ds 0)(hl:ds.length<=bx):ED X U (.Tuple es n pos) (.tup ds) 0:=by
 have e:kn (.tup ds) 0=0:=by unfold kn;split<;>rfl
 have:=wl (n:=n) (pos:=pos) h hl;rw[e]at this;exact this
theorem GI{e1 e2:Expr}{d1 d2:D}(h1:ED X U e1 d1 0)(h2:ED X U e2 d2 0)(n1:∀y p,e1 ≠ .Starred y p)(n2:∀y p,e2 ≠ .Starred y p):AD X U [e1,e2] [d1,d2] 0:=dR (k:=0) (j:=0) h1 (dR (k:=0) (j:=0) h2 ij (ax n2)) (ax n1)
theorem Su:∀y q,Expr.Tuple es n p ≠ .Starred y q:=λ_ _ z=>nomatch z
theorem Sv{o:BoolOp}:∀y q,Expr.BoolOp o es p ≠ .Starred y q:=λ_ _ z=>nomatch z
theorem Qq{c:Const}:∀y q,Expr.Constant c n p ≠ .Starred y q:=λ_ _ z=>nomatch z
theorem Ny{b:Expr}{s1 s2 x y t:Str}{n1 n2 m1 m2:Nat}{p1 p2 p3 q1 q2:Pos}(hx:x.length<=1048576)(ht:(if x.length=0 then y else x)=t)(ha:ED X U a (.str x) 0)(hb:ED X U b (.str y) 0):ED X U (.Tuple [.Constant (.str s1) n1 p1,.Tuple [.Constant (.str s2) n2 p2,.BoolOp .Or [a,b] p3] m1 q1] m2 q2) (.tup [.str s1,.tup [.str s2,.str t]]) 0:=by
 have e3:=Co (pos:=p3) hx ha hb;rw[ht]at e3;exact yC (GI (wm rfl) (yC (GI (wm rfl) e3 Qq Sv) (show 2<=40000 by decide)) Qq Su) (show 2<=40000 by decide)
end Sp
namespace K
open PySem L2 Sp
variable{l:List Nat}{i:Int}{U:ag}{bind:D->ag->Option ag}{body:ag->Rs Fl}{ss:List Str}
abbrev LT:Str:=Str.ofString "abcdefghijklmnopqrstuvwxyz"
theorem Mz:((List.range 26).all λi=>decide (LT.cps[i]?=some (97+i))&&decide (Txt.find LT (sN [97+i])=(i:Int)))=true:=by decide +kernel
theorem zB{i:Nat}(h:i<26):LT.cps[i]?=some (97+i)/\Txt.find LT (sN [97+i])=(i:Int):=by
 have:=TJ.mp Mz i (US.mpr h);simp only[Tj,decide_eq_true_eq]at this;exact this
theorem vT:LT.length=26:=by decide +kernel
theorem Lk(h0:0<=i)(h1:i<=l.length):Txt.slice (sN l) none (some i)=sN (l.take i.toNat):=by
 have:=PyProof.Rows.slice_to_min_closes (x:=sN l) (n:=i) (m:=if (((sN l).length:Nat):Int)<i then(((sN l).length:Nat):Int)else i) h0 rfl;have:=eq_of_beq this;rw[this,fu];show sN _=sN _;congr 1;rw[aQ,if_neg (by omega),Int.sub_zero];rfl
theorem QT(h0:0<=i)(h1:i<=l.length):Txt.slice (sN l) (some i) none=sN (l.drop i.toNat):=by
 have:=PyProof.Rows.slice_from_eq (x:=sN l) (i:=i) (b:=l.length) h0 (by rw[aQ];omega) (by rw[aQ]);rw[fu]at this;rw[this];show sN _=sN _;congr 1;exact List.take_of_length_le (by rw[Vm];omega)
def db(l:List Nat):Prop:=1<=l.length/\l.length<=8/\∀c∈l,97<=c/\c<=122
def nB(c:Int):List Nat:=(List.range (1+c.fmod 8).toNat).map λk:Nat=>97+((c.fdiv (3+5*(k:Int))).fmod 26).toNat
def nA(c:Int):Int:=(c.fdiv 8).fmod (nB c).length
def nS(c:Int):Int:=1+(c.fdiv 64).fmod 25
def nL(c:Int):Nat:=97+(((((nB c).getD (nA c).toNat 97-97:Nat):Int)+nS c).fmod 26).toNat
def nC(c:Int):List Nat:=(nB c).take (nA c).toNat++[nL c]++(nB c).drop ((nA c)+1).toNat
def nT(c:Int):List Nat:=if (nB c).length=8 then(nB c).take 7 else nB c++[97+((c.fdiv 512).fmod 26).toNat]
theorem yv(x:Int):0<=x.fmod 26/\x.fmod 26<26:=⟨Tt _ (by decide),Tz _ (by decide)⟩
theorem BE(c:Int):(nB c).length=(1+c.fmod 8).toNat:=by unfold nB;rw[SY,UP]
theorem qe(c:Int):db (nB c):=by
 have h0:=Tt c (show(0:Int)<8 by decide);have h1:=Tz c (show(0:Int)<8 by decide);have hl:=BE c;refine⟨by omega,by omega,λd hd=>?_⟩;unfold nB at hd;obtain⟨k,_,rfl⟩:=T0.mp hd;have:=yv (c.fdiv (3+5*(k:Int)));omega
theorem Mo(c:Int):0<=nA c/\nA c<(nB c).length:=by
 have:=(qe c).1;exact⟨Tt _ (by omega),Tz _ (by omega)⟩
theorem Q3(c:Int):97<=nL c/\nL c<=122:=by
 unfold nL;generalize (((nB c).getD (nA c).toNat 97-97:Nat):Int)+nS c=x;have:=yv x;omega
theorem Pg(c:Int):db (nC c):=by
 have h:=qe c;have a:=Mo c;have b:=Q3 c;refine⟨?_,?_,λd hd=>?_⟩
 ·unfold nC;simp;omega
 ·unfold nC;simp only[S8,Um,Vm,S7,Vg];have:=h.2.1;omega
 ·unfold nC at hd;rcases TZ.mp hd with hd|hd
  ·rcases TZ.mp hd with hd|hd
   ·exact h.2.2 d (List.mem_of_mem_take hd)
   ·rw[Tq.mp hd];exact b
  ·exact h.2.2 d (List.mem_of_mem_drop hd)
theorem Pf(c:Int):db (nT c):=by
 have h:=qe c;unfold nT;split
 ·rename_i e;exact⟨by rw[Um];omega,by rw[Um];omega,λd hd=>h.2.2 d (List.mem_of_mem_take hd)⟩
 ·have:=yv (c.fdiv 512);have:=h.2.1;refine⟨by simp,by simp;omega,λd hd=>?_⟩;rcases TZ.mp hd with hd|hd
  ·exact h.2.2 d hd
  ·rw[Tq.mp hd];omega
theorem M5(ws:List Nat):Txt.join (Str.ofString "") (ws.map λc=>sN [c])=sN ws:=by
 have e0:Str.ofString "" = sN []:=by rw[fv];rfl
 rw[e0];have key:∀(ws:List Nat) (acc:Array Nat),List.foldl (λ(acc:Array Nat) (p:Str)=>acc++(sN []).cps++p.cps) acc (ws.map λc=>sN [c])=(acc.toList++ws).toArray:=by
  intro ws;induction ws with
  | nil=>intro acc;simp
  | cons w ws ih =>
   intro acc;rw[S2,List.foldl_cons,ih];simp
 show(⟨List.foldl _ ((ws.map λc=>sN [c]).headD Str.empty).cps ((ws.map λc=>sN [c]).drop 1)⟩:Str)=_;cases ws with
 | nil=>rfl
 | cons w ws =>
  show(⟨List.foldl (λ(acc:Array Nat) (p:Str)=>acc++(sN []).cps++p.cps) (sN [w]).cps (ws.map λc=>sN [c])⟩:Str)=_;rw[key];rfl
theorem MU{ws:List Nat}(h:ws.length<=100):ac (iP (.str (Str.ofString "")) [.lst (ws.map λc=>D.str (sN [c]))]) (.str (sN ws),0):=by
 have e:=rF (ws.map λc=>[c]);rw[Ug,Ug]at e;have e:fq (ws.map λc=>D.str (sN [c]))=some (ws.map λc=>sN [c]):=e;have s:∀ws:List Nat,((ws.map λc=>sN [c]).map λy=>y.length).sum=ws.length:=λws=>by
  induction ws with
  | nil=>rfl
  | cons a l ih=>rw[S2,S2,List.sum_cons,ih,aQ,S7];simp;omega
 unfold iP;dsimp only;rw[e];refine ac.eq ⟨_,rfl,by decide +kernel,by rw[s,SY];omega,True.intro⟩ ?_;rw[M5]
def Sw(c:Int):D:=.lst [.str (sN (nB c)),.str (sN (nC c)),.str (sN (nT c))]
abbrev cD(s:String):D:=.str (Str.ofString s)
def aI(i:Int):Int:=if i<0 then -i else i
theorem NW(i:Int):aI i=(i.natAbs:Int):=by unfold aI;split<;>omega
def vN(q:Qd):Int:=[aI q.2.1,aI q.2.2.1,aI q.2.2.2].foldl max (aI q.1)
theorem Ph(q:Qd):decide (vN q >= 10 ^ 40)=(qL q).any ku:=by
 obtain⟨h1,h2⟩:=Mp [aI q.2.1,aI q.2.2.1,aI q.2.2.2] (aI q.1);have h2:=λa ha=>h2 a ha
 change vN q∈_ at h1;change ∀a∈_,a<=vN q at h2;by_cases hg:vN q >= 10 ^ 40
 ·rw[Tv hg];symm;rw[List.any_eq_true];simp only[SS,Tg,TC]at h1;have key:∀i:Int,vN q=aI i->ku i=true:=λi e=>Tv (by rw[e,NW]at hg;omega)
  rcases h1 with e|e|e|e
  ·exact⟨q.1,by simp[qL],key _ e⟩
  ·exact⟨q.2.1,by simp[qL],key _ e⟩
  ·exact⟨q.2.2.1,by simp[qL],key _ e⟩
  ·exact⟨q.2.2.2,by simp[qL],key _ e⟩
 ·rw[Th hg];symm;rw[List.any_eq_false];have key:∀i:Int,aI i∈aI q.1::[aI q.2.1,aI q.2.2.1,aI q.2.2.2] -> ¬ ku i=true:=λi hi e=>by
   have:=h2 _ hi;have e:10 ^ 40<=i.natAbs:=UO e;rw[NW]at this;omega
  intro i hi;simp only[qL,SS,Tg,TC]at hi;rcases hi with rfl|rfl|rfl|rfl<;>exact key _ (by simp)
theorem jd(w:Str)(d:Addr)(ks:List av)(ts:List (List Int)){b:Bool}(h:aO ks (.inr w)=b):ac (gL .NotIn (.str w) (.dft d ks ts)) (!b):=⟨[],by show Rs.ok (!aO ks (.inr w)) []=_;rw[h],True.intro⟩
theorem mQ{O:Fx}{sc:Scope}{a b:Expr}{p:Pos}{it:Bool}{d:Addr}{ks:List av}{ts:List (List Int)}{w:Str}{ns:List Int}{k j:Nat}(ha:ac (aB O a false sc U) (.dft d ks ts,k))(hb:ac (aB O b false sc U) (.str w,j))(h:eG ks ts (.inr w)=some ns):ac (aB O (.Subscript a b p) it sc U) (jD ns,0):=by
 have key:ac ((aB O a false sc U).bnd λp=>(aB O b false sc U).bnd λq=>rE p q) (jD ns,0):=by
  refine ha.bnd (hb.bnd ⟨[],?_,True.intro⟩);show(match eG ks ts (.inr w)with|some ns=>(Rs.ok (D.tup (ns.map D.int),0) []:R1)|none=>.st)=_;rw[h]
 cases b with
 | Slice lo hi st p2=>exact(bo hb).elim
 | _=>exact key
theorem jT:ac (eL bind body [] U) (.nx U):=jM
theorem bM{d:D}{l:List D}{U1 U2:ag}{fl:Fl}(h:bind d U=some U1)(h1:ac (body U1) (.nx U2))(h2:ac (eL bind body l U2) fl):ac (eL bind body (d::l) U) fl:=by
 rw[eL,h];exact ac.bnd h1 h2
def jo(ss:List Str):Str:=if ss.length=0 then Str.ofString "none" else Txt.join (Str.ofString " ") (cZ ss)
theorem vc:∀{ss:List Str},(∀s∈ss,s.length<=8)->(ss.map λy=>y.length).sum+ss.length<=9*ss.length
 | [],_=>SX _
 | s::ss,h=>by
  have h1:=h s SV;have h2:=vc (ss:=ss) λv hv=>h v (SR _ hv)
  rw[S2,List.sum_cons,S7];omega
theorem xW:∀ss:List Str,fq (ss.map D.str)=some ss
 | []=>rfl
 | s::ss=>by rw[S2,fq,xW ss];rfl
theorem ql:∀ss:List Str,vX (ss.map Sum.inr)=some ss
 | []=>rfl
 | s::ss=>by rw[S2,vX,ql ss];rfl
theorem wo:∀ss:List Str,yH (ss.map D.str)=some ss
 | []=>rfl
 | s::ss=>by rw[S2,yH,wo ss];rfl
theorem vY(h:ss.length<64)(hl:∀s∈ss,s.length<=8):ac (iP (cD " ") [.lst ((cZ ss).map D.str)]) (.str (Txt.join (Str.ofString " ") (cZ ss)),0):=by
 unfold iP cD;dsimp only;rw[xW];have h1:=vc (ss:=cZ ss) λs hs=>hl s ((UR ss kr).mem_iff.mp hs)
 have h2:=iA ss;exact⟨_,rfl,by decide +kernel,by omega,True.intro⟩
theorem yj(ss:List Str):Txt.join (Str.ofString " ") ss=sN (jn (ss.map λs=>s.cps.toList)):=by
 rw[Dy,<- sh,Ug];congr 1;exact(List.map_id'' (λs=>(pU s).symm) ss).symm
theorem Gb(h:∀s∈ss,1<=s.length):(if (Txt.join (Str.ofString " ") (cZ ss)).length=0 then Str.ofString "none" else Txt.join (Str.ofString " ") (cZ ss))=jo ss:=by
 unfold jo;have hl:=iA ss;rcases UJ ss.length with e|e
 ·have:cZ ss=[]:=UA.mp (by omega);rw[this,if_pos e,if_pos (by decide +kernel)]
 ·rw[if_neg (show ¬ ss.length=0 by omega),if_neg];rw[yj,aQ];cases hs:cZ ss with
  | nil=>rw[hs]at hl;rw[Vg]at hl;omega
  | cons a l =>
   have ha:a∈ss:=(UR ss kr).mem_iff.mp (by rw[show ss.mergeSort kr=cZ ss from rfl,hs];exact SV);have:=h a ha;rw[S2,jn,S8];have e2:a.cps.toList.length=a.length:=by show a.cps.toList.length=a.cps.size;simp
   omega
theorem tJ(a b:List Nat)(l:List (List Nat)):jn (a::b::l)=a++32::jn (b::l):=by simp[jn]
abbrev cW(s:String):List Nat:=s.toList.map Char.toNat
theorem tH(h:ss.length<64)(hl:∀s∈ss,s.length<=8):(Txt.join (Str.ofString " ") (cZ ss)).length<=1048576:=by
 have h2:=iA ss;have h3:∀w∈(cZ ss).map λs=>s.cps.toList,w.length<=43:=λw hw=>by
  obtain⟨s,hs,rfl⟩:=T0.mp hw;have:=hl s ((UR ss kr).mem_iff.mp hs);have e2:s.cps.toList.length=s.length:=by show s.cps.toList.length=s.cps.size;simp
  omega
 rw[yj,aQ];cases hs:(cZ ss).map λs=>s.cps.toList with
 | nil=>exact Tc _
 | cons a l =>
  rw[hs]at h3;have h4:=h3 a SV;have h5:=wa (ws:=l) λw hw=>h3 w (SR _ hw)
  have h6:l.length+1=ss.length:=by
   have:=Ue List.length hs;rw[SY,S7]at this;omega
  rw[jn,S8];omega
end K
namespace Sp
open PySem PySem.Spec PyProof.Rows L2
variable{mg:Str->Option Value}{K:W.Frag}{C:Addr}{l:List (Str×Str×Option Str)}{P:Program}{w:World}{base:Heap}{k:Nat}
variable{X:Cx}
def rA(n p:Str):List D->Option Bool
 | []=>some false
 | .xc m none::l=>(rA n p l).map λb=>(decide (m=n) || decide (m=p)) || b
 | _=>none
def Qj(n p:Str):D->Option Bool
 | .xc m none=>some (decide (m=n) || decide (m=p))
 | .typ T=>if T = "ValueError" then some true else none
 | .tup cs=>rA n p cs
 | _=>none
def ES(ds:List D):R1 :=
 match ds with
 | [.xc n (some (p,_)),c]=>(match Qj n p c with|some b=>.ok (.bl b,0) []|none=>.st)
 | _=>.st
theorem Gn{K:W.Frag}{H:Hp}{P:bi}{n p:Str}{C S:Addr}(hn:W.nsIn K mainGlobals n=some (some (.ref C)))(hp:W.nsIn K mainGlobals p=some (some (.ref S)))(e:iq K C S):∀{cs:List D} {vs:List V} {us:List Value} {b:Bool},rA n p cs=some b->ah K H P cs vs->aP vs us->W.kitAny K (.ref C) us=some b
 | [],vs,us,b,h,r,q=>by
  rw[rA]at h;cases h;rw[ah]at r;subst r;cases q;rfl
 | .xc m none::l,vs,us,b,h,r,q=>by
  rw[rA]at h;cases hl:rA n p l with
  | none=>rw[hl]at h;cases h
  | some b' =>
   rw[hl]at h;cases h;rw[ah]at r;obtain⟨v,vr,rfl,r1,r2⟩:=r;rw[ae]at r1;obtain⟨Cm,rfl,hm,hx⟩:=r1;cases q with
   | cons q1 q2 =>
    cases q1;have k1:=BX e hn hp hm hx;have k2:=Gn hn hp e hl r2 q2;show(match W.kitOne K (.ref C) (.ref Cm)with|some true=>some true|some false=>W.kitAny K (.ref C) _|none=>none)=_;rw[k1];cases hd:(decide (m=n) || decide (m=p))with
    | true=>rfl
    | false=>exact k2
theorem Kj:dy "isinstance" ES:=by
 refine⟨by decide +kernel,by decide +kernel,by decide +kernel,rfl,λX ds z l o hc h hp=>?_⟩;unfold ES at h;split at h
 ·rename_i n p fs c;split at h
  ·rename_i b hb;cases h;refine .inl ⟨"isinstance", by decide +kernel,?_⟩;have cr:dm X (.builtin "isinstance") (λxs H Q => ∃v w P,xs=[v,w]/\ae X.K H P (.xc n (some (p,fs))) v/\ae X.K H P c w/\Q (.bl b) H):=by
    intro dl s Z H xs us Q I r hh;obtain⟨v,w,P,rfl,r1,r2,q⟩:=hh;obtain⟨u,u2,rfl,ru,ru2⟩:=FA r;rw[ae]at r1;obtain⟨x,C,S,od,rfl,h1,h2,h3,h4,_,_⟩:=r1;cases ru;have xo:NY x C s.heap:=let ⟨o,_,a,b,_⟩:=(show bz X.prog X.w H s.heap x (lr x C od)from I.hok x _ h4).1;⟨o,a,b⟩
    unfold Qj at hb;split at hb
    ·rename_i m;cases hb;rw[ae]at r2;obtain⟨Cm,rfl,hm,hx⟩:=r2;cases ru2;exact W.kia_one (pe h3) I.kIn xo (BX h3 h1 h2 hm hx) (λz=>nomatch z) λtk=>⟨.bl _,H,I.tok tk,rfl,q⟩
    ·rename_i T;split at hb
     ·rename_i hT;subst hT;cases hb;rw[ae]at r2;subst r2;cases ru2;exact W.kia_one (pe h3) I.kIn xo (MM h3) (λz=>nomatch z) λtk=>⟨.bl _,H,I.tok tk,rfl,q⟩
     ·cases hb
    ·rename_i cs;rw[ae]at r2;obtain⟨a,vs,rfl,sq,rl⟩:=r2;cases ru2;obtain⟨its,rv,⟨⟨c0,dd,data,sl⟩,e1,e2,n0,e3⟩,_⟩:=I.tuple sq;simp only at e2 e3;subst e2 e3;exact W.kia_tup (pe h3) I.kIn xo e1 (Gn h1 h2 h3 hb rl rv) (λz=>nomatch z) λtk=>⟨.bl _,H,I.tok tk,rfl,q⟩
    ·cases hb
   refine⟨_,cr,λow H0 H2 vs P Q o s rx q=>?_⟩;rw[ah]at rx;obtain⟨v,r,rfl,r1,r2⟩:=rx;obtain⟨w,rfl,r3⟩:=r2.only;exact⟨v,w,P,rfl,r1,r3,q _ _ (ar.refl _) (by rw[ae])⟩
  ·cases h
 ·cases h
theorem gB{x:Str}(hm:mg x=some (.ref C))(hn:W.nsIn K mainGlobals x=some (some (.ref C)))(hx:GJ K x C):eu mg K (x,.xc x none) :=
 ⟨.ref C,.ref C,hm,rfl,λH P=>by rw[ae];exact⟨C,rfl,hn,hx⟩⟩
noncomputable def gD(K:W.Frag)(n:Str)(C:Addr):Bool :=
 match K.lookup mainGlobals with
 | some ⟨_,_,.dict es _,_⟩=>es.toList.all λe => !(e.val == .ref C) || (match e.key with | .str m _=>decide (m=n)|_=>false)
 | _=>false
def jf(K:W.Frag)(C:Addr):Bool :=
 match K.lookup C with
 | some ⟨.type t,_,.cls _,_⟩=>t == "type"
 | _=>false
theorem gw{n:Str}(h1:gD K n C=true)(h2:jf K C=true):GJ K n C:=by
 unfold jf at h2;split at h2
 ·rename_i t d cd sl e;have et:t = "type" := by simpa using h2
  subst et;refine⟨?_,λm hm=>?_,⟨_,e,rfl⟩⟩
  ·have c1:W.clsIn K C=some cd:=by unfold W.clsIn;rw[e]
   have c2:W.typeIn K (.ref C)=some (.type "type"):=by
    show Option.map (λx=>x.cls) (List.lookup C K)=_;rw[e];rfl
   rw[c1,c2];rfl
  ·unfold gD at h1;unfold W.nsIn at hm;split at h1
   ·rename_i a1 a2 es a3 a4 e1;rw[e1]at hm;dsimp only at hm;split at hm
    ·rename_i x hf;have hv:x.val=.ref C:=TN (TN hm);have hx:=List.mem_of_find?_eq_some hf;have hk:x.key.isStr m=true:=List.find?_some (p:=λx:DictEntry=>x.key.isStr m) hf;have:=TJ.mp h1 x hx;rw[hv,show((Value.ref C==Value.ref C):Bool)=true by simp,Bool.not_true,Vp]at this;cases hkk:x.key with
     | str k t =>
      rw[hkk]at this hk;have a1:k=n:=UO this;have a2:k=m:=by simpa [Value.isStr]using hk
      rw[<- a2,a1]
     | _=>rw[hkk]at this;cases this
    ·split at hm<;>cases hm
   ·cases h1
 ·cases h2
noncomputable abbrev N0(K:W.Frag):Str×Str×Option Str->Prop:=λq => ∃C S,W.nsIn K mainGlobals q.1=some (some (.ref C))/\W.nsIn K mainGlobals q.2.1=some (some (.ref S))/\iq K C S/\W.exmOne K (.ref C) (.ref S)=some true/\∀f,q.2.2=some f->xa K C f
theorem JG(h:∀q∈l,N0 K q):Fp K (λc=>l.lookup c):=λc p o e=>h (c,p,o) (S5 e)
noncomputable abbrev NZ(P:Program)(w:World)(K:W.Frag)(mg:Str->Option Value)(base:Heap)(k:Nat):Str×Str×Option Str->Prop:=λq => ∃C,W.nsIn K mainGlobals q.1=some (some (.ref C))/\(q.2.2=none->gE K C=none) /\
 ∀f,q.2.2=some f->∃j fI oI fd ps,j+1<=k/\gE K C=some (.ref fI)/\K.lookup fI=some oI/\oI.cls=.type "function" /\ W.keepIn K (.ref C)=true/\bj P w K mg base cE j fI fd ps (vh C f)/\bu K fd ps []
theorem No(h:∀q∈l,NZ P w K mg base k q):G4 P w K mg base k (λc=>l.lookup c):=λc C hc =>
 ⟨λp e=>by
  obtain⟨C',h1,h2,_⟩:=h (c,p,none) (S5 e);rw[hc]at h1;cases h1;exact h2 rfl,λp f e=>by
  obtain⟨C',h1,_,h3⟩:=h (c,p,some f) (S5 e);rw[hc]at h1;cases h1;exact h3 f rfl⟩
abbrev QE(P:Program)(w:World)(K:W.Frag)(mg:Str->Option Value)(base:Heap)(k:Nat):Str×(List D->Option Xs)->Prop:=λq=>oP P w K mg base k q.1 q.2
theorem vE{l:List (Str×(List D->Option Xs))}(h:∀q∈l,QE P w K mg base k q):∀g G,(λg:Str=>l.lookup g) g=some G->oP P w K mg base k g G:=λg G e=>h (g,G) (S5 e)
def KQ:Stmt->List Stmt
 | .Try b _ _ _ _=>b
 | _=>[]
end Sp
namespace K
open PySem L2 Sp Qm
section
variable{O:Fx}{sc:Scope}{U U1:ag}{ss:List Stmt}
end
end K
namespace Sp
open PySem PySem.Spec PyProof.Rows L2
variable{H0:Hp}{A:cz}{C U:ag}{ss:List Stmt}{r:D}{K:W.Frag}{f:Addr}
variable{X:Cx}
theorem xT(hs:∀x y,C x=some y->U x=some y):gC X H0 U A [] (.nx C A):=fE hs λdl s Z H D I ⟨ow,w,q⟩ =>
 rK dl s Z H D I (q ow Z H w ⟨λb o _ h _=>h,λb o _ h z=>z⟩)
theorem Ky(h:∀H0,eU X H0 (qH U) ss (.rt r)):gC X H0 U A ss (.rt r A):=λdl s Z H D I ⟨ow,w,q⟩ =>
 (h H) dl s Z H D I ⟨λ_=>none,wk w.env,w.len,λa o h=>⟨h,rfl⟩,λv H' sm rp=>q v H' (λb o hb h=>sm _ _ (w.base b o hb h).1) (λp hp=>(w.fz p hp).1.keep λa o h _=>sm a o h) (rp.imp λ_ _ _=>trivial)⟩
theorem iz{fl:Fl}(hs:∀x y,C x=some y->U x=some y)(h:eU X H0 C ss fl):eU X H0 U ss fl:=λdl s Z H D I ⟨ow,E,hl,B,q⟩ =>
 h dl s Z H D I ⟨ow,⟨λx d o e=>E.get x d o (hs x _ e),E.own⟩,hl,B,q⟩
theorem Lo{α:Type}{I:Nat->α->Prop}{S:Nat->α->α->Prop}{n:Nat}{s0:α}(h0:I 0 s0)(hs:∀i s,i<n->I i s->∃s',I (i+1) s'/\S i s s'):∃f:Nat->α,f 0=s0/\(∀i,i<=n->I i (f i))/\∀i,i<n->S i (f i) (f (i+1)):=by
 have hs':∀i s,∃s',i<n->I i s->I (i+1) s'/\S i s s':=λi s=>by
  by_cases c:i<n/\I i s
  ·obtain⟨s',h⟩:=hs i s c.1 c.2;exact⟨s',λ_ _=>h⟩
  ·exact⟨s,λa b=>absurd ⟨a,b⟩ c⟩
 let g:Nat->α->α:=λi s=>Classical.choose (hs' i s)
 have hg:∀i s,i<n->I i s->I (i+1) (g i s)/\S i s (g i s):=λi s=>Classical.choose_spec (hs' i s)
 let f:Nat->α:=λi=>Nat.rec s0 (λi s=>g i s) i
 have hI:∀i,i<=n->I i (f i):=λi=>by
  induction i with
  | zero=>exact λ_=>h0
  | succ i ih=>exact λh=>(hg i (f i) h (ih (Ud h))).1
 exact⟨f,rfl,hI,λi h=>(hg i (f i) h (hI i (Ud h))).2⟩
theorem Kz{B:cz}(h:gC X H0 U A ss (.rt r B)):gC X H0 U A ss (.rt r []):=λdl s Z H D I ⟨ow,w,q⟩ =>
 h dl s Z H D I ⟨ow,w,λv H' a _ c=>q v H' a (λ_ z=>nomatch z) c⟩
theorem vL{α:Type}(f:α->Str):∀ns:List α,jc (ns.map λz=>.str (f z))=true
 | []=>rfl
 | n::ns=>by rw[S2,jc,vL f ns];rfl
theorem vM:∀ns:List Int,jc (ns.map D.int)=true
 | []=>rfl
 | n::ns=>by rw[S2,jc,vM ns];rfl
theorem Nd{o:Obj}(h:W.isFn K (.ref f)=true)(l:K.lookup f=some o):o.cls=.type "function" := by
 have:Option.map (λx:Obj=>x.cls) (List.lookup f K)=some (.type "function"):=Vw.mp h;rw[show List.lookup f K=some o from l]at this;exact TN this
theorem C8{P:Program}{w:World}{mg:Str->Option Value}{base:Heap}{g qual:Str}{st:Stmt}{C S0:Addr}{fd:FuncData}{mc:Value}(Fn:fY K g qual st f fd){s0 a1 fl b a:Str}{kd:Nat}{cv:Int}{p1 p2 p3 p5 p6 p7 p8 p9 p10 q1 q2 q3 q4:Pos}
  (hN:aE (aa st)=[s0,a1]) (S:bG (aE (aa st)) [s0,a1] (aa st)) (hv:(aa st).names.lookup s0=some .local/\(aa st).names.lookup a1=some .local) (hok:l9 s0=true/\l9 a1=true)
  (hgb:(aa st).names.lookup b=some .globalImplicit) (hm:mg b=some (.ref S0)) (hga:W.specialIn K (.ref S0) "__getattribute__" = some (some (.builtin "type.__getattribute__"))) (hrd:W.readsIn K S0 mc=true) (hfc:W.findCls K (.ref S0) mc "__init__" = some (.val (.builtin "ValueError.__init__"))) (hex:kM K C S0=true)
  (hdi:W.hasDictIn K C=true) (hsa:W.findIn K (.ref C) "__setattr__" = some (some (.builtin "object.__setattr__"))) (hff:W.findIn K (.ref C) fl=some none)
  (hb:af st=[.Expr (.Call (.Attribute (.Name b p1) "__init__" p2) [.Name s0 p3,.JoinedStr [.Constant (.str a) kd p5,.FormattedValue (.Name a1 p6) cv none p7] p8] [] p9) p10,.Assign [.Attribute (.Name s0 q1) fl q2] (.Name a1 q3) q4]) (ha:a.length<=200) (hln:(p2.endLine==p9.line)=true) (hdb:(b==("__debug__" : Str))=false) (hcv:cv = -1/\fl ≠ "name" \/ cv=114/\fl = "name" := by decide) :
  bj P w K mg base cE 1 f fd [s0,a1] (vh C fl):=by
 obtain⟨cd,h1,h2⟩:=vO hex;have h3:cd.hasDict=true:=by
  unfold W.hasDictIn at hdi;rw[h1]at hdi;exact hdi
 refine C7 Fn hN S (λx hx=>?_) (λx hx=>?_) hgb hm hga hrd hfc hex h1 h2 h3 hsa hff hb ha hln hdb hcv
 ·simp only[SS,Tg,TC]at hx;rcases hx with rfl|rfl
  ·exact .inl hv.1
  ·exact .inl hv.2
 ·simp only[SS,Tg,TC]at hx;rcases hx with rfl|rfl
  ·exact hok.1
  ·exact hok.2
end Sp
namespace K
open PySem L2 Sp Qm
theorem wg{O:Fx}{sc:Scope}{U:ag}{f:Str}{p q:Pos}{args:List Expr}{ds:List D}{k:Nat}{B:List D->Nat->R1}{v:D×Nat}(ha:ac (cB O args sc U) (ds,k))(hv:ac (B ds k) v)(hF:O.fn f=none:=by rfl)(hI:O.itr f=some B:=by rfl)(hg:sc.names.lookup f=some .globalImplicit:=by rfl):ac (aB O (.Call (.Name f p) args [] q) true sc U) v:=by
 rw[lS,if_pos hg];refine ha.bnd ?_;unfold lU;simp only[hF,if_pos,hI];exact hv
section
variable{O:Fx}{sc:Scope}{U:ag}{ss:List Stmt}{P Q:ag->Prop}
end
end K
namespace K
open PySem L2 Sp
variable{ns:List (List Nat)}{i:Nat}{ss:List Str}{ts:List (List Int)}{s:Str}{k:av}{l:List Nat}{p q:Qd}

structure cu(ns:List (List Nat))(i:Nat)(ss:List Str)(ts:List (List Int)):Prop where
 lt:ss.length<=i
 len:ss.length=ts.length
 nam:∀s∈ss,∃l∈ns,s=sN l
 fou:∀t∈ts,∃q:Qd,t=qL q/\dU q
abbrev kS(ss:List Str):List av:=ss.map Sum.inr
theorem Cf{s:Str}:∀{ss:List Str} {ts:List (List Int)},ss.length=ts.length->aO (kS ss) (.inr s)=true->∃t∈ts,eG (kS ss) ts (.inr s)=some t
 | [],_,_,h=>by cases h
 | a::ss,[],e,_=>by cases e
 | a::ss,t::ts,e,h=>by
  rw[kS,S2]at h⊢;rw[eG];by_cases c:(Sum.inr a:av)=.inr s
  ·exact⟨t,SV,by rw[if_pos c]⟩
  ·rw[if_neg c];have h':aO (kS ss) (.inr s)=true:=by
    rw[aO,U9,Th c,Vp]at h;exact h
   obtain⟨u,hu,hl⟩:=Cf (Nat.succ.inj e) h';exact⟨u,SR _ hu,hl⟩
theorem cu.at(h:cu ns i ss ts)(hs:aO (kS ss) (.inr s)=true):∃q,eG (kS ss) ts (.inr s)=some (qL q)/\dU q:=by
 obtain⟨t,ht,e⟩:=Cf h.len hs;obtain⟨q,rfl,hq⟩:=h.fou t ht;exact⟨q,e,hq⟩
theorem cu.up{j:Nat}(h:cu ns i ss ts)(hj:i<=j):cu ns j ss ts:=⟨SZ h.lt hj,h.len,h.nam,h.fou⟩
theorem Kw{ks:List av}{t:List Int}:∀{ks:List av} {ts:List (List Int)},ks.length=ts.length->(List.zipWith (λj e=>if j=k then t else e) ks ts).length=ts.length:=λ{ks ts} e=>by rw[List.length_zipWith];omega
theorem Ax{k:av}{t u:List Int}:∀{ks:List av} {ts:List (List Int)},u∈List.zipWith (λj e=>if j=k then t else e) ks ts->u=t\/u∈ts
 | [],_,h=>by cases h
 | _::_,[],h=>by cases h
 | a::ks,b::ts,h=>by
  rw[List.zipWith_cons_cons]at h;rcases SS.mp h with h|h
  ·split at h
   ·exact .inl h
   ·exact .inr (by rw[h];exact SV)
  ·exact(Ax h).imp id (SR _)
theorem cu.put(h:cu ns i ss ts)(hl:l∈ns)(hq:dU q):∃ss',dv (kS ss) (.inr (sN l))=kS ss'/\cu ns (i+1) ss' (cQ (kS ss) ts (.inr (sN l)) (qL q)):=by
 unfold dv cQ;cases hs:aO (kS ss) (.inr (sN l))with
 | true =>
  refine⟨ss,rfl,Nat.le_succ_of_le h.lt,?_,h.nam,λt ht=>?_⟩
  ·show ss.length=(List.zipWith _ (kS ss) ts).length;rw[Kw (ks:=[]) (by rw[kS,SY];exact h.len)];exact h.len
  ·rcases Ax ht with rfl|ht
   ·exact⟨q,rfl,hq⟩
   ·exact h.fou t ht
 | false =>
  refine⟨ss++[sN l],by rw[kS,kS,U3];rfl,?_,?_,λs hs=>?_,λt ht=>?_⟩
  ·rw[S8];exact Nat.succ_le_succ h.lt
  ·show(ss++[sN l]).length=(ts++[qL q]).length;rw[S8,S8,h.len];rfl
  ·rcases TZ.mp hs with hs|hs
   ·exact h.nam s hs
   ·exact⟨l,hl,Tq.mp hs⟩
  ·rcases TZ.mp ht with ht|ht
   ·exact h.fou t ht
   ·exact⟨q,Tq.mp ht,hq⟩
theorem JU{u:List Int}{ks:List av}(h:u∈dY ks ts k):u∈ts:=by
 unfold dY at h;obtain⟨p,hp,rfl⟩:=T0.mp h;exact(List.of_mem_zip (UY.mp hp).1).2
theorem cu.drp(h:cu ns i ss ts):∃ss',gf (kS ss) (.inr s)=kS ss'/\cu ns (i+1) ss' (dY (kS ss) ts (.inr s)):=by
 have e:gf (kS ss) (.inr s)=kS (ss.filter λz=>decide ((Sum.inr z:av) ≠ .inr s)):=by
  unfold gf kS;rw[List.filter_map];rfl
 refine⟨_,e,?_,?_,λz hz=>h.nam z (UY.mp hz).1,λt ht=>h.fou t (JU ht)⟩
 ·exact SZ (List.length_filter_le _ _) (Nat.le_succ_of_le h.lt)
 ·have:=rW (k:=.inr s) (ks:=kS ss) (us:=ts) (by rw[kS,SY];exact h.len);rw[e,kS,SY]at this;exact this
theorem i0(h:dU q):ii q:=by
 have k:∀{n:Int},n.natAbs<10 ^ 40->n.natAbs<lB:=λ{n} h=>wE (m:=133) (Ud (S4 h (by decide))) (by decide)
 exact⟨k h.1,k h.2.1,k h.2.2.1,k h.2.2.2⟩
theorem gS{a b:Int}(h:a.natAbs<10 ^ 40)(g:b.natAbs<10 ^ 40):(a*b).natAbs<=10 ^ 80:=by
 rw[Int.natAbs_mul];exact SZ (Nat.mul_le_mul (Ud h) (Ud g)) (by decide)
theorem Qv{x:Int}{n:Int}(hn:0<n):(x.fdiv n).natAbs<=x.natAbs+1:=by
 have h1:=Int.mul_fdiv_add_fmod x n;have h2:=Tt x hn;have h3:=Tz x hn;generalize x.fdiv n=y at *;generalize x.fmod n=z at *;rcases Int.lt_or_le y 0 with c|c
 ·have:n*y<=1*y:=Int.mul_le_mul_of_nonpos_right (by omega) (by omega);by_cases c2:y = -1
  ·omega
  ·have:n*(y+1)<=1*(y+1):=Int.mul_le_mul_of_nonpos_right (by omega) (by omega);rw[Int.mul_add]at this;omega
 ·have:1*y<=n*y:=Int.mul_le_mul_of_nonneg_right (by omega) c;omega
theorem Op(hp:dU p)(hq:dU q):∀n∈qL (kI p q),n.natAbs<10 ^ 90:=by
 have k:∀{u v:Int},u.natAbs<10 ^ 40->v.natAbs<10 ^ 40->(u+v).natAbs<10 ^ 90:=λh g=>Tu (U7 _ _) (S4 (Nat.add_lt_add h g) (by decide))
 intro n hn;unfold qL kI at hn;rcases SS.mp hn with rfl|hn
 ·exact k hp.1 hq.1
 rcases SS.mp hn with rfl|hn
 ·exact k hp.2.1 hq.2.1
 rcases SS.mp hn with rfl|hn
 ·exact k hp.2.2.1 hq.2.2.1
 rw[Tq.mp hn];exact k hp.2.2.2 hq.2.2.2
theorem Pj(hp:dU p)(hq:dU q):∀n∈qL (jN p q),n.natAbs<10 ^ 90:=by
 have k:∀{u v w x:Int},u.natAbs<=10 ^ 80->v.natAbs<=10 ^ 80->w.natAbs<=10 ^ 80->x.natAbs<=10 ^ 80->((u-v-w-x).fdiv 2).natAbs<10 ^ 90/\((u+v+w-x).fdiv 2).natAbs<10 ^ 90/\((u-v+w+x).fdiv 2).natAbs<10 ^ 90/\((u+v-w+x).fdiv 2).natAbs<10 ^ 90:=λ{u v w x} h1 h2 h3 h4=>by
  have t:∀{y:Int},y.natAbs<=u.natAbs+v.natAbs+w.natAbs+x.natAbs->(y.fdiv 2).natAbs<10 ^ 90:=λ{y} hy=>by
   have z:=Qv (x:=y) (n:=2) (by decide);have z2:y.natAbs<=10 ^ 80+10 ^ 80+10 ^ 80+10 ^ 80:=SZ hy (Uz (Uz (Uz h1 h2) h3) h4);exact Tu (SZ z (TX z2 1)) (by decide)
  have sa:=λa b:Int=>U7 a b
  have sb:=λa b:Int=>Int.natAbs_sub_le a b
  refine⟨t ?_,t ?_,t ?_,t ?_⟩
  ·exact SZ (sb _ _) (TX (SZ (sb _ _) (TX (sb _ _) _)) _)
  ·exact SZ (sb _ _) (TX (SZ (sa _ _) (TX (sa _ _) _)) _)
  ·exact SZ (sa _ _) (TX (SZ (sa _ _) (TX (sb _ _) _)) _)
  ·exact SZ (sa _ _) (TX (SZ (sb _ _) (TX (sa _ _) _)) _)
 intro n hn;unfold qL jN at hn;rcases SS.mp hn with rfl|hn
 ·exact(k (gS hp.1 hq.1) (gS hp.2.1 hq.2.1) (gS hp.2.2.1 hq.2.2.1) (gS hp.2.2.2 hq.2.2.2)).1
 rcases SS.mp hn with rfl|hn
 ·exact(k (gS hp.1 hq.2.1) (gS hp.2.1 hq.1) (gS hp.2.2.1 hq.2.2.2) (gS hp.2.2.2 hq.2.2.1)).2.1
 rcases SS.mp hn with rfl|hn
 ·exact(k (gS hp.1 hq.2.2.1) (gS hp.2.1 hq.2.2.2) (gS hp.2.2.1 hq.1) (gS hp.2.2.2 hq.2.1)).2.2.1
 rw[Tq.mp hn];exact(k (gS hp.1 hq.2.2.2) (gS hp.2.1 hq.2.2.1) (gS hp.2.2.1 hq.2.1) (gS hp.2.2.2 hq.1)).2.2.2
theorem K3(hp:dU p):(tf p).natAbs<2 ^ 1900:=by
 refine MA ?_;have z:=Qv (x:=p.1*p.1+(p.2.1*p.2.1+(p.2.2.1*p.2.2.1+(p.2.2.2*p.2.2.2+0)))) (n:=4) (by decide);have y:(p.1*p.1+(p.2.1*p.2.1+(p.2.2.1*p.2.2.1+(p.2.2.2*p.2.2.2+0)))).natAbs<=10 ^ 80+(10 ^ 80+(10 ^ 80+(10 ^ 80+0))) :=
  SZ (U7 _ _) (Uz (gS hp.1 hp.1) (SZ (U7 _ _) (Uz (gS hp.2.1 hp.2.1) (SZ (U7 _ _) (Uz (gS hp.2.2.1 hp.2.2.1) (SZ (U7 _ _) (Uz (gS hp.2.2.2 hp.2.2.2) (SX _))))))))
 exact Tu (SZ z (TX y 1)) (by decide)
theorem NP(h:dU p):dU (jg p):=⟨h.1,by simp only[jg,Int.natAbs_neg];exact h.2.1,by simp only[jg,Int.natAbs_neg];exact h.2.2.1,by simp only[jg,Int.natAbs_neg];exact h.2.2.2⟩
theorem Bz{f:Qd}(h:(qL f).any ku=false):dU f:=by
 have k:∀n∈qL f,n.natAbs<10 ^ 40:=λn hn=>by
  have:=List.any_eq_false.mp h n hn;have e:¬ 10 ^ 40<=n.natAbs:=λz=>this (Tv z)
  omega
 exact⟨k _ (by simp[qL]),k _ (by simp[qL]),k _ (by simp[qL]),k _ (by simp[qL])⟩
theorem lj(h:db l):(reprText (sN l)).length<=1000:=by
 have:=PySem.StrLaws.reprText_len (sN l) (by rw[fu];intro c hc;have:=h.2.2 c hc;exact Tu this.2 (by decide));rw[aQ l]at this;have:=h.2.1;omega
theorem fF(h:db l):cm l:=λz=>by have:=h.2.2 32 z;omega
theorem pW{ws:List (List Nat)}(h0:ws≠[])(h:∀w∈ws,cm w):Txt.split (sN (jn ws)) (Str.ofString " ")=ws.map sN:=by rw[Dy];exact vg h0 h
end K
namespace Sp
open PySem PySem.Spec PyProof.Rows L2
variable{g m q:Str}{st:Stmt}{C f:Addr}{cdv ct doc oc pm:Value}{an od:Option Addr}{osl:Array (Option Value)}{ps:List Str}{h:Heap}
section
variable{P:Program}{w:World}{K:W.Frag}{mg:Str->Option Value}{base:Heap}
def FH(K:W.Frag)(g:Str)(st:Stmt):Prop:=∃f fd,W.nsIn K mainGlobals g=some (some (.ref f))/\fY K g g st f fd
theorem FH.mk{kV:Value}(a:W.nsIn K mainGlobals g=some (some (.ref f)))(l:K.lookup f=some ⟨oc,od,.func (W.fnOf g g (dF st) (af st) (aa st) .none kV doc pm an cdv ct),osl⟩)
  (c:W.codeIn K cdv g=true) (k:W.keepIn K (.ref f)=true):FH K g st:=⟨f,_,a,mV l c k⟩
def MH(K:W.Frag)(C:Addr)(m q:Str)(st:Stmt):Prop:=∃f fd,iL K C m f/\fY K m q st f fd
theorem MH.mk{kV:Value}(t:W.findIn K (.ref C) m=some (some (.ref f)))(i:W.isFn K (.ref f)=true)(l:K.lookup f=some ⟨oc,od,.func (W.fnOf m q (dF st) (af st) (aa st) .none kV doc pm an cdv ct),osl⟩)
  (c:W.codeIn K cdv q=true) (k:W.keepIn K (.ref f)=true):MH K C m q st:=⟨f,_,⟨t,i,k⟩,mV l c k⟩
theorem fg(X:K.In h)(G:h.Ns mainGlobals mg)(a:FH K g st)(hb:∀(kV doc pm:Value) (an:Option Addr) (cdv ct:Value) (us:List Value),us.length=ps.length->bindArgs (W.fnOf g g (dF st) (af st) (aa st) .none kV doc pm an cdv ct) ⟨us,[]⟩=pure (ps.zip us):=by walk_at "bn"):∃f fd,fY K g g st f fd/\bu K fd ps []/\mg g=some (.ref f):=by
 obtain⟨f,fd,h1,h2⟩:=a;exact⟨f,fd,h2,h2.binds hb,Uq X G h1⟩
theorem mh(a:MH K C m q st)(hb:∀(kV doc pm:Value) (an:Option Addr) (cdv ct:Value) (us:List Value),us.length=ps.length->bindArgs (W.fnOf m q (dF st) (af st) (aa st) .none kV doc pm an cdv ct) ⟨us,[]⟩=pure (ps.zip us):=by walk_at "bn"):∃f fd,fY K m q st f fd/\bu K fd ps []/\iL K C m f:=by
 obtain⟨f,fd,h1,h2⟩:=a;exact⟨f,fd,h2,h2.binds hb,h1⟩
theorem eM{k:Nat}{F:List D->Rs D}{O:Fx}(X:K.In h)(G:h.Ns mainGlobals mg)(a:FH K g st)(hΦ:kg P w K mg base k O)(hrun:cT O (aa st) ps (af st) F)(hb:∀(kV doc pm:Value) (an:Option Addr) (cdv ct:Value) (us:List Value),us.length=ps.length->bindArgs (W.fnOf g g (dF st) (af st) (aa st) .none kV doc pm an cdv ct) ⟨us,[]⟩=pure (ps.zip us):=by walk_at "bn")(S:bG (aE (aa st)) ps (aa st):=by walk_at "sc")(hd:(g==("__debug__" : Str))=false:=by decide +kernel):cI P w K mg base (k+1) g F:=by
 obtain⟨f,fd,F1,b1,m1⟩:=fg X G a hb;exact Nh F1 S m1 b1 hd hΦ hrun
end
def nY(ds:List D):R1 :=
 match ds with
 | [.lst l]=>(match bF l with|some bs=>.ok (.bl (bs.any id),0) []|none=>.st)
 | _=>.st
theorem EV:dy "any" nY:=by
 refine⟨by decide +kernel,by decide +kernel,by decide +kernel,rfl,λX ds z l o hc h _=>.inl ⟨"any", by decide +kernel,?_⟩⟩;unfold nY at h;split at h
 ·split at h
  ·rename_i bs e;cases h;cases lV e;refine⟨_,CJ hc,λow H0 H2 vs P Q o s rx q=>?_⟩;obtain⟨v,rfl,ry⟩:=rx.only;obtain⟨a,ws,rfl,hs,rl⟩:=iN ry;exact⟨a,bs,rfl,by rw[<- rl.mapBl];exact hs,q _ _ (ar.refl _) (by rw[ae])⟩
  ·cases h
 ·cases h
def jv(ds:List D):R1 :=
 match ds with
 | [.dft _ ks _]=>(match vX ks with|some ss=>.ok (.lst (ss.map D.str),0) []|none=>.st)
 | _=>.st
theorem EN:dy "list" jv:=by
 refine⟨by decide +kernel,by decide +kernel,by decide +kernel,rfl,λX ds z l o hc h hp=>?_⟩;unfold jv at h;split at h
 ·split at h
  ·rename_i m ks ts _ ss e;cases h;obtain rfl:=vW e;refine .inr ⟨"list", by decide +kernel,_,Ad,λow H0 H2 vs P Q o s rx q=>?_⟩;obtain⟨v,rfl,ry⟩:=rx.only;rw[ae]at ry;obtain⟨⟨hl,rfl⟩,a,o',us,e2,ha,hT⟩:=ry;cases e2;refine⟨m,o',ss,us,rfl,by rw[hT.len,<- hl,SY],ha,hc,λD hD=>q _ _ (cf hD) ?_⟩;rw[ae];exact⟨D,_,true,rfl,aw,⟨rfl,s.free hD⟩,zd _⟩
  ·cases h
 ·cases h
end Sp
namespace K
open PySem L2 Sp
variable{α:Type}{L as fs ws:List D}{f p q:Qd}{d d1 d2 e1 e2:Addr}{ks ks':List av}{ts ts':List (List Int)}{line n1 n2 s t w:Str}{k m n:Int}{ns:List (List Nat)}{a b c l l1 l2:List Nat}{i j:Nat}{fm loose ss us:List Str}{r w0:D}{X:Cx}{H0:Hp}{P:Program}{mg:Str->Option Value}{base:Heap}{XP:(Str->Option Value)->Heap->Prop}
theorem NR(g:α->Bool)(l:List α):ac (nY [.lst (l.map λc=>D.bl (g c))]) (.bl (l.any g),0):=by
 have e:∀l:List α,bF (l.map λc=>D.bl (g c))=some (l.map g):=λl=>by
  induction l with
  | nil=>rfl
  | cons b bs ih=>rw[S2,bF,ih];rfl
 unfold nY;dsimp only;rw[e];dsimp only;rw[show(l.map g).any id=l.any g by rw[List.any_map];rfl];exact⟨_,rfl,True.intro⟩
def al(i:Nat):Stmt:=PySem.Challenge.pw_spaceturns_k51_fours_at_the_desk.main.body.getD i (.Pass ⟨0,0,0,0⟩)
local macro_rules | `(tactic| walk_at "leaf") => `(tactic| first | ((with_reducible apply IU);decide) | ((with_reducible apply IV);decide) | ((with_reducible apply JW) <;> decide) | ((with_reducible apply cC) <;> (with_reducible assumption)) | ((with_reducible apply Ix) <;> decide) | ((with_reducible refine Eq.trans ?_ rfl);exact rfl) | ((with_reducible apply cel_bits);(with_reducible assumption)) | ((with_reducible apply okT_id);assumption) | exact SW rfl|exact Or.inl rfl|exact Or.inr rfl|exact Or.inr (SX 1) | exact Or.inr (Tc 1) | decide|decide +kernel)
local macro_rules | `(tactic| walk_at "ob") => `(tactic| (repeat' (first|with_reducible exact True.intro|with_reducible exact E9|with_reducible apply An|with_reducible apply EZ|with_reducible apply xA|with_reducible assumption | ((with_reducible apply gh);intro hgd) | walk_at "leaf")))
local macro_rules | `(∅) => `(ck rfl (by walk_at "ob"))
noncomputable def BL:List (Str×(List D->R1)):=[("len", Al),("tuple", wF),("list", jv),("abs", EW),("all", kO),("any", nY),("sum", EL),("isinstance", ES),("sorted", gF),("int", nX),("str", sy),("max", Aj)]
def IL:List (Str×(List D->Nat->R1)):=[("range", mU),("zip", zJ),("enumerate", zK)]
def ML:List (Str×(D->List D->R1)):=[("join", iP),("split", eF),("startswith", Mt),("endswith", Mv),("index", zu),("count", zx),("find", zv)]
def TL:List (Str×(List D->List D->Nat->Rs (List D))):=[("append", rV),("extend", rT)]
def EX:Str->Option (Str×Option Str):=λc=>([("NoName", "SpaceError", some "name"),("TooGreat", "SpaceError", none)]:List (Str×Str×Option Str)).lookup c
def CY:Fx:=Tb [] [] BL IL ML TL aT
def kG:List D->Rs D:=tj dI λc=>.ok (Sw c) []
theorem wQ(ds:List D)(r:D)(h:ac (kG ds) r):GO CY (aa (al 111)) ["_law_cell_here"] (af (al 111)) ds r:=by
 obtain⟨c,rfl,h'⟩:=jy h;obtain⟨rfl,_⟩:=dj h';have b:=qe c;have hl:=BE c;have a:=Mo c;have m0:=Tt c (show(0:Int)<8 by decide);have m1:=Tz c (show(0:Int)<8 by decide);refine⟨rfl,λX H0 G po=>?_⟩;refine k8 1 G po ∅ ?_;refine d9 (U1:=bK _ "_law_base" (.str (sN (nB c)),true)) (mB (k:=0) (o:=true) G rfl (Cp G rfl (x:=.str (Str.ofString "")) (k:=0) (aZ ∅ G) (dR (k:=0) (j:=0) (Ez (l:=(List.range (1+c.fmod 8).toNat).map λk:Nat=>(k:Int)) (f:=λx=>.str (sN [97+((c.fdiv (3+5*x)).fmod 26).toNat])) (k:=0) (d:=.lst ((List.range (1+c.fmod 8).toNat).map λk:Nat=>.int (k:Nat))) G (wg (B:=mU) ∅ ?_) ?_ ?_ λx hx=>?_) ij (ax λ_ _ z=>nomatch z)) ?_ rfl rfl rfl ?_) (.inl ⟨rfl,rfl⟩) (d8 rfl)) ?_
 ·refine⟨_,rfl,?_,?_,True.intro⟩
  ·show(-4611686018427387904:Int)<=1+c.fmod 8;omega
  ·show(1+c.fmod 8:Int)<=((40000:Nat):Int);omega
 ·show some _=some _;rw[Ug];rfl
 ·rw[SY,UP];show _<=40000;omega
 ·obtain⟨k,hk,rfl⟩:=T0.mp hx;have hk:=US.mp hk;have hz:uE (3+5*(k:Int)):=⟨by omega,wE (m:=10) (by omega) (by decide)⟩;have f:=yv (c.fdiv (3+5*(k:Int)));refine⟨_,rfl,λY GY=>?_⟩;refine qD (z:=LT) (i:=(c.fdiv (3+5*(k:Int))).fmod 26) (k:=0) (j:=0) (aZ ∅ GY) (aZ ∅ GY) ?_ f.1 (by omega) (by rw[vT];exact f.2) (zB (by omega)).1;exact λ_ _=>rfl
 ·intro e he;rw[Tq.mp he];exact λ_ _ z=>nomatch z
 ·have:=MU (ws:=nB c) (by have:=b.2.1;omega);unfold nB at this;rw[Ug]at this;rw[Ug];exact this
 have hdv:uE (((sN (nB c)).length:Nat):Int):=by
  rw[aQ];exact⟨by omega,wE (m:=10) (by have:=b.2.1;omega) (by decide)⟩
 have hd0:=hdv.1;have hz:(sN (nB c)).length<=1048576:=by rw[aQ];have:=b.2.1;omega
 refine k8 2 G po (aU (bq (d:=.int (nA c)) ((∅).eq ?_)) (aU (bq (d:=.int (nS c)) ∅) aY)) ?_
 ·show(D.int ((c.fdiv 8).fmod ((sN (nB c)).length:Nat)),0)=_;rw[aQ];rfl
 have hat:(nB c)[(nA c).toNat]?=some ((nB c).getD (nA c).toNat 97):=by
  rw[T6,Tk (by omega)];rfl
 generalize hch:(nB c).getD (nA c).toNat 97=ch at *;have hcb:=b.2.2 ch (Ux hat);have hat2:(sN (nB c)).cps[(nA c).toNat]?=some ch:=by show(nB c).toArray[(nA c).toNat]?=_;rw[List.getElem?_toArray];exact hat
 have hfd:Txt.find LT (sN [ch])=((ch-97:Nat):Int):=by
  have:=(zB (i:=ch-97) (by omega)).2;rw[show 97+(ch-97)=ch by omega]at this;exact this
 have f:=yv (((ch-97:Nat):Int)+nS c);have hnL:nL c=97+((((ch-97:Nat):Int)+nS c).fmod 26).toNat:=by unfold nL;rw[hch]
 refine d9 (U1:=bK _ "_law_letter" (.str (sN [nL c]),true)) (mB (k:=0) (o:=true) G rfl ?_ (.inl ⟨rfl,rfl⟩) (d8 rfl)) ?_
 ·rw[hnL];refine qD (z:=LT) (i:=(((ch-97:Nat):Int)+nS c).fmod 26) (k:=0) (j:=0) (aZ ∅ G) (qE (k:=0) (j:=0) (qE (x:=.int ((ch-97:Nat):Int)) (y:=.int (nS c)) (k:=0) (j:=0) (Cp G rfl (ds:=[.str (sN [ch])]) (k:=0) (j:=0) (aZ ∅ G) (dR (k:=0) (j:=0) (qD (z:=sN (nB c)) (i:=nA c) (c:=ch) (k:=0) (j:=0) (aZ ∅ G) (aZ ∅ G) (λ_ _=>rfl) a.1 (by have:=b.2.1;omega) (by rw[aQ];exact a.2) hat2) ij (ax λ_ _ z=>nomatch z)) ?_ rfl rfl rfl ?_) (aZ ∅ G) rfl trivial) (aZ ∅ G) rfl ?_) (λ_ _=>rfl) f.1 (by omega) (by rw[vT];exact f.2) (zB (by omega)).1
  ·intro e he;rw[Tq.mp he];exact λ_ _ z=>nomatch z
  ·refine ac.eq ⟨[],rfl,True.intro⟩ ?_;show(D.int (Txt.find LT (sN [ch])),0)=_;rw[hfd]
  ·walk_at "ob"
 have z1:(Txt.slice (sN (nB c)) none (some (nA c)))=sN ((nB c).take (nA c).toNat):=Lk a.1 (by omega);have z2:(Txt.slice (sN (nB c)) (some (nA c+1)) none)=sN ((nB c).drop (nA c+1).toNat):=QT (by omega) (by omega);have b8:=b.2.1;have y1:(Txt.slice (sN (nB c)) none (some (nA c))).length+(sN [nL c]).length<=bx:=by rw[z1,aQ,aQ,Um];show _<=40000;simp;omega
 have y2:(Txt.slice (sN (nB c)) none (some (nA c))++sN [nL c]).length+(Txt.slice (sN (nB c)) (some (nA c+1)) none).length<=bx:=by rw[z1,z2,fR,aQ,aQ,S8,Um,Vm];show _<=40000;simp;omega
 refine k8 1 G po (aU (bq (d:=.str (sN (nC c))) (ac.eq (a:=(.str (Txt.slice (sN (nB c)) none (some (nA c))++sN [nL c]++Txt.slice (sN (nB c)) (some (nA c+1)) none),0)) ∅ ?_)) aY) ?_
 ·rw[z1,z2,fR,fR];rfl
 by_cases h8:(nB c).length=8
 ·have e8:nT c=(nB c).take 7:=by unfold nT;rw[if_pos h8]
  have z3:Txt.slice (sN (nB c)) none (some 7)=sN (nT c):=by rw[e8];exact Lk (by decide) (by omega)
  refine dH _ ?_ G po;refine(bZ (t:=true) (k:=0) ((∅).bl ?_) rfl (bD (bw (ac.eq (a:=(.lst [.str (sN (nB c)),.str (sN (nC c)),.str (Txt.slice (sN (nB c)) none (some 7))],0)) ∅ ?_))))
  ·rw[aQ,h8];rfl
  ·rw[z3];rfl
 ·have e8:nT c=nB c++[97+((c.fdiv 512).fmod 26).toNat]:=by unfold nT;rw[if_neg h8]
  have f5:=yv (c.fdiv 512);refine k8 1 G po (ay (t:=false) (k:=0) ((∅).bl ?_) rfl aY) (lJ (Bj (k:=0) ?_ (.inl rfl)) (λ_ z=>by cases z))
  ·rw[aQ];simp;omega
  ·refine yD (k:=0) (dR (k:=0) (j:=0) (aZ ∅ G) (dR (k:=0) (j:=0) (aZ ∅ G) (dR (k:=0) (j:=0) (qE (x:=.str (sN (nB c))) (y:=.str (sN [97+((c.fdiv 512).fmod 26).toNat])) (z:=.str (sN (nT c))) (l:=0) (k:=0) (j:=0) (o:=[(sN (nB c)).length+(sN [97+((c.fdiv 512).fmod 26).toNat]).length<=bx]) (aZ ∅ G) (qD (z:=LT) (i:=(c.fdiv 512).fmod 26) (k:=0) (j:=0) (aZ ∅ G) (aZ ∅ G) (λ_ _=>rfl) f5.1 (by omega) (by rw[vT];exact f5.2) (zB (by omega)).1) ?_ ?_) ij (ax λ_ _ z=>nomatch z)) (ax λ_ _ z=>nomatch z)) (ax λ_ _ z=>nomatch z)) (Tc _) (SW rfl)
   ·rw[e8,<- fR];rfl
   ·exact⟨by rw[aQ,aQ];show _<=40000;simp;omega,trivial⟩
def Fd:Fx:=Tb [] [] BL IL ML TL aT
def Fg:List D->Rs D:=bQ Fd (aa (al 106)) ["_law_script", "_law_k"] (af (al 106))
def fj:List D->Rs D:=vi dL dI λl k=>.ok (.int (bC l k)) [oA l]
theorem xM:∀ds r,ac (fj ds) r->ac (Fg ds) r:=by
 intro ds r h;obtain⟨l,k,rfl,h⟩:=k9 h;obtain⟨rfl,⟨ns,rfl⟩,_⟩:=dj h;refine bR (dS 1 (ck rfl True.intro) (y0 (ck rfl True.intro) (λht=>?_) (λhf=>?_)))
 ·have hl:(ns.map D.int).length=ns.length:=by simp
  have hp:(0:Int)<((ns.map D.int).length:Nat):=by simpa using ht
  have hi:L2.atI (ns.map D.int) (k.fmod (((ns.map D.int).length:Nat):Int))=some (.int (ng ns k)):=by
   rw[hl]at hp⊢;have hne:ns≠[]:=by intro z;subst z;simp at hp
   unfold ng;rw[if_neg hne];exact Kq (Tt _ hp) (Tz _ hp)
  refine aU (bq (d:=.int (ng ns k)) (bS (ck rfl True.intro) (ck rfl ⟨Int.ne_of_gt hp,True.intro⟩) rfl hi)) ?_;refine ∅.eq ?_;unfold bC GE;rw[yX]
 ·have hp:ns=[]:=by
   cases ns with
   | nil=>rfl
   | cons n ns=>simp at hf
  subst hp;refine ∅.eq ?_;rfl
def Fc:Fx:=Tb [("_law_cell", fj)] [] BL IL ML TL aT
def lZ:List D->Rs D:=bQ Fc (aa (al 108)) ["_law_script", "_law_k"] (af (al 108))
noncomputable def kz(L:List D)(k j:Int):Int:=if ((bC L k).fdiv 2).fmod 4=1 then 2*((bC L (k+1+j)*48271).fmod (2*10 ^ 20+1)-10 ^ 20)+(bC L k).fmod 2 else 2*(((bC L (k+1+j)).fdiv 5).fmod 13-6)+(bC L k).fmod 2
theorem uC(L:List D)(k j:Int):(kz L k j).natAbs<=2 ^ 70:=by
 have h0:=Tt (bC L (k+1+j)*48271) (show(0:Int)<2*10 ^ 20+1 by decide);have h1:=Tz (bC L (k+1+j)*48271) (show(0:Int)<2*10 ^ 20+1 by decide);have g0:=Tt ((bC L (k+1+j)).fdiv 5) (show(0:Int)<13 by decide);have g1:=Tz ((bC L (k+1+j)).fdiv 5) (show(0:Int)<13 by decide);have f0:=Tt (bC L k) (show(0:Int)<2 by decide);have f1:=Tz (bC L k) (show(0:Int)<2 by decide);unfold kz;generalize (bC L (k+1+j)*48271).fmod (2*10 ^ 20+1)=x at *;split<;>omega
theorem M8(hl:oA L)(k:Int):ac (lZ [.lst L,.int k]) (.tup [.int (kz L k 0),.int (kz L k 1),.int (kz L k 2),.int (kz L k 3)]):=by
 by_cases h:((bC L k).fdiv 2).fmod 4=1
 ·unfold kz;simp only[if_pos h];exact bR (dS 2 ∅ (aU (ia (ds:=[.int 0,.int 1,.int 2,.int 3]) (k:=0) ∅ rfl (Tc 1) rfl (bM rfl (dS 2 ∅ (bZ ∅ (zR h) ∅)) (bM rfl (dS 2 ∅ (bZ ∅ (zR h) ∅)) (bM rfl (dS 2 ∅ (bZ ∅ (zR h) ∅)) (bM rfl (dS 2 ∅ (bZ ∅ (zR h) ∅)) jT))))) (bD (bw ∅))))
 ·unfold kz;simp only[if_neg h];exact bR (dS 2 ∅ (aU (ia (ds:=[.int 0,.int 1,.int 2,.int 3]) (k:=0) ∅ rfl (Tc 1) rfl (bM rfl (dS 2 ∅ (ay ∅ ((jt _ _).trans (Th h)) ∅)) (bM rfl (dS 2 ∅ (ay ∅ ((jt _ _).trans (Th h)) ∅)) (bM rfl (dS 2 ∅ (ay ∅ ((jt _ _).trans (Th h)) ∅)) (bM rfl (dS 2 ∅ (ay ∅ ((jt _ _).trans (Th h)) ∅)) jT))))) (bD (bw ∅))))
def uq:Fx:=Tb [] [] BL IL ML TL aT
def jk:List D->Rs D:=bQ uq (aa (al 109)) ["_law_part"] (af (al 109))
theorem Pu{p:Int}(h:p.natAbs<10 ^ 40):ac (jk [.int p]) (.str (fN p)):=by
 have h1:=BQ h;have h2:(p.fdiv 2).natAbs<2 ^ 1900:=se h1;have hl:(Str.ofString (toString p)).length+(Str.ofString "/2").length<=bx:=by
  rw[pQ,aQ,show Str.ofString "/2" = sN [47,50] by rw[fv];rfl,aQ];have:=pS h;show _+2<=40000;omega
 have f0:=Tt p (show(0:Int)<2 by decide);have f1:=Tz p (show(0:Int)<2 by decide);by_cases hp:p.fmod 2=0
 ·have e:fN p=Str.ofString (toString (p.fdiv 2)):=if_pos hp;rw[e];exact bR (ay ∅ ((jt _ _).trans (Th (by omega))) ∅)
 ·have e:fN p=Str.ofString (toString p)++Str.ofString "/2" := if_neg hp;rw[e];exact bR (bZ ∅ ((jt _ _).trans (Tv (by omega))) ∅)
def Fa:Fx:=Tb [("_law_part_text", jk)] [] BL IL ML TL aT
def iJ:List D->Rs D:=bQ Fa (aa (al 110)) ["_law_four_here"] (af (al 110))
theorem qg(h:dU p):ac (iJ [dq p]) (.str (fA p)):=by
 have hs:=Gu (zn h);have h16:(Str.ofString " ").length<=16:=by decide
 obtain⟨h1,h2,h3,h4⟩:=h;refine bR (bD (bw (ib ∅ (au ((dJ (l:=[p.1,p.2.1,p.2.2.1,p.2.2.2]) (g:=D.int) (f:=λx=>D.str (fN x)) ∅ rfl (SW rfl) (.inl rfl) λx hx=>⟨_,rfl,aF ∅ (Pu ?_)⟩)) aN) (M:=iP) ⟨_,rfl,h16,hs,True.intro⟩)));simp only[SS,Tg,TC]at hx;rcases hx with rfl|rfl|rfl|rfl<;>assumption
def Fb:Fx:=Tb [] [] BL IL ML TL aT
def Ff:List D->Rs D:=bQ Fb (aa (al 115)) ["_law_four_here"] (af (al 115))
def lY:List D->Rs D:=tj dQ λp=>.ok (.int (tf p)) [ii p]
theorem xK:∀ds r,ac (lY ds) r->ac (Ff ds) r:=by
 intro ds r h;obtain⟨p,rfl,h'⟩:=jy h;obtain⟨rfl,hp,_⟩:=dj h';obtain⟨⟨a1,a2,a3,a4⟩,_⟩:=qZ hp hp;exact ck rfl (by walk_at "ob")
def uc:Fx:=Tb [("_law_text", iJ),("_law_size", lY)] [] BL IL ML TL aT
def ud:jh:=λg=>([]:List (Str×b9)).lookup g
def uf:gH:=jO "Desk" ([]:List (Str×b9))
def dA:b9:=λds a ks ts r ks' ts'=>ff uc ud uf (aa (al 118)) ["_law_kept", "_law_word", "_law_name"] (af (al 118)) ds a ks ts r ks' ts'
theorem wJ:∀ds a ks ts r ks' ts',dA ds a ks ts r ks' ts'->ff uc ud uf (aa (al 118)) ["_law_kept", "_law_word", "_law_name"] (af (al 118)) ds a ks ts r ks' ts':=λds a ks ts r ks' ts' h=>h
theorem Ee(k1:aO ks (.inr n1)=false):dA [.dft d ks ts,.str w,.str n1] d ks ts (.tup [cD "name", .str n1]) ks ts :=
 ⟨rfl,λX H0 G po _ _=>mv G po (bZ (t:=true) (k:=0) (bg ∅ ∅ (jd _ _ _ _ k1)) rfl (bD (bw ∅)))⟩
theorem Jl(k1:aO ks (.inr n1)=true):dA [.dft d ks ts,cD "drop", .str n1] d ks ts (.tup [cD "told", cD "dropped"]) (gf ks (.inr n1)) (dY ks ts (.inr n1)) :=
 ⟨rfl,λX H0 G po _ _=>bL G po 1 (ay (t:=false) (k:=0) (bg ∅ ∅ (jd _ _ _ _ k1)) rfl aY) (bA (gZ (A1:=[]) (t:=true) ((bO ∅ G).td rfl true rfl) (d7 (U1:=bU []) (AJ (A1:=[]) (A2:=[]) (kc:=0) (kk:=0) (aZ ∅ G) (aZ ∅ G) k1 (λ_ _ z=>nomatch z) rfl rfl dD) (bA (iW (k:=0) (aZ ∅ G))))))⟩
theorem Jk(k1:aO ks (.inr n1)=true)(k2:eG ks ts (.inr n1)=some (qL p))(ho:dU p):dA [.dft d ks ts,cD "show", .str n1] d ks ts (.tup [cD "told", .str (fA p)]) ks ts :=
 ⟨rfl,λX H0 G po _ _=>mv G po (ay (t:=false) (k:=0) (bg ∅ ∅ (jd _ _ _ _ k1)) rfl (ay (t:=false) (k:=0) ∅ rfl (bZ (t:=true) (k:=0) ∅ rfl (bD (bw (ly (k:=0) (au (k:=0) (j:=0) ∅ (au (k:=0) (j:=0) (aF (au (k:=0) (j:=0) (mQ ∅ ∅ k2) aN) (qg ho)) aN)) (SW rfl)))))))⟩
theorem FW(h:n.natAbs<2 ^ 1900):ac (sy [.int n]) (uZ n,0):=by
 refine ac.eq ∅ ?_;show(D.str (Str.ofString (toString n)),0)=(uZ n,0);rw[pQ];rfl
theorem Jj(k1:aO ks (.inr n1)=true)(k2:eG ks ts (.inr n1)=some (qL p))(hb:ii p)(h:(tf p).natAbs<2 ^ 1900):dA [.dft d ks ts,cD "size", .str n1] d ks ts (.tup [cD "told", uZ (tf p)]) ks ts :=
 ⟨rfl,λX H0 G po _ _=>mv G po (ay (t:=false) (k:=0) (bg ∅ ∅ (jd _ _ _ _ k1)) rfl (ay (t:=false) (k:=0) ∅ rfl (ay (t:=false) (k:=0) ∅ rfl (bD (bw (ly (k:=0) (au (k:=0) (j:=0) ∅ (au (k:=0) (j:=0) (eO (B:=sy) (au (k:=0) (j:=0) (aF (F:=lY) (au (k:=0) (j:=0) (mQ ∅ ∅ k2) aN) ⟨_,rfl,hb,True.intro⟩) aN) (FW h)) aN)) (SW rfl)))))))⟩
def xE:Fx:=Tb [] [] BL IL ML TL aT
def xO:List D->Rs D:=bQ xE (aa (al 112)) ["_law_one", "_law_other"] (af (al 112))
def iT:List D->Rs D:=vi dQ dQ λp q=>.ok (dq (jN p q)) [ii p,ii q]
theorem sH:∀ds r,ac (iT ds) r->ac (xO ds) r:=by
 intro ds r h;obtain⟨p,q,rfl,h'⟩:=k9 h;obtain⟨rfl,hp,hq,_⟩:=dj h';obtain⟨⟨a1,a2,a3,a4⟩,⟨b1,b2,b3,b4⟩,⟨c1,c2,c3,c4⟩,⟨d1,d2,d3,d4⟩⟩:=qZ hp hq;exact ∅
def Ku:Fx:=Tb [("_law_product", iT)] [] BL IL ML TL aT
def lE:List D->Rs D:=bQ Ku (aa (al 116)) ["_law_word", "_law_fours"] (af (al 116))
theorem MC:ac (lE [.str (Str.ofString "bar"),.lst [dq p]]) (dq (jg p)):=∅
theorem MB:ac (lE [.str (Str.ofString "sum"),.lst [dq p,dq q]]) (dq (kI p q)):=∅
theorem D5(hp:ii p)(hq:ii q):ac (lE [.str (Str.ofString "times"),.lst [dq p,dq q]]) (dq (jN p q)):=bR (ay (t:=false) (k:=0) ∅ rfl (ay (t:=false) (k:=0) ∅ rfl (bD (bw (aF ∅ (F:=iT) ⟨_,rfl,hp,hq,True.intro⟩)))))
def gM:Fx:=Tb [("_law_new", lE),("_law_text", iJ)] [] BL IL ML TL aT
def wM:jh:=λg=>([]:List (Str×b9)).lookup g
def wW:gH:=jO "Desk" ([]:List (Str×b9))
noncomputable def dr:b9:=λds a ks ts r ks' ts'=>ff gM wM wW (aa (al 117)) ["_law_kept", "_law_word", "_law_new_here", "_law_asked_here"] (af (al 117)) ds a ks ts r ks' ts'
theorem xI:∀ds a ks ts r ks' ts',dr ds a ks ts r ks' ts'->ff gM wM wW (aa (al 117)) ["_law_kept", "_law_word", "_law_new_here", "_law_asked_here"] (af (al 117)) ds a ks ts r ks' ts':=λds a ks ts r ks' ts' h=>h
noncomputable def BS(d:Addr)(ks:List av)(ts:List (List Int))(w:Str)(nm:Str)(f:Qd):ag:=bU [("_law_kept", .dft d ks ts,false),("_law_word", .str w,false),("_law_new_here", .str nm,false),("_law_four_here", dq f,true)]
noncomputable def C4(d:Addr)(ks:List av)(ts:List (List Int))(w nm:Str)(as:List D)(f:Qd):Prop:=∃U1,ac (aL gM ((af (al 117)).take 2) (aa (al 117)) (bB ["_law_kept", "_law_word", "_law_new_here", "_law_asked_here"] [.dft d ks ts,.str w,.str nm,.lst as])) (.nx U1)/\Sub (BS d ks ts w nm f) U1
theorem zE{nm:Str}{as:List Str}(k1:aO ks (.inr n1)=false):dr [.dft d ks ts,.str w,.str nm,.lst (.str n1::as.map D.str)] d ks ts (.tup [cD "name", .str n1]) ks ts :=
 ⟨rfl,λX H0 G po _ _=>mv G po (xZ (.str n1::as.map D.str) (k:=1) ∅ ⟨_,rfl,.inr (bZ (t:=true) (k:=0) (bg ∅ ∅ (jd _ _ _ _ k1)) rfl (bD (bw ∅)))⟩)⟩
theorem Gg{nm:Str}(k1:aO ks (.inr n1)=true)(k3:aO ks (.inr n2)=false):dr [.dft d ks ts,.str w,.str nm,.lst [.str n1,.str n2]] d ks ts (.tup [cD "name", .str n2]) ks ts :=
 ⟨rfl,λX H0 G po _ _=>mv G po (xZ [.str n1,.str n2] (k:=1) ∅ ⟨_,rfl,.inl ⟨_,ay (t:=false) (k:=0) (bg ∅ ∅ (jd _ _ _ _ k1)) rfl aY,_,rfl,.inr (bZ (t:=true) (k:=0) (bg ∅ ∅ (jd _ _ _ _ k3)) rfl (bD (bw ∅)))⟩⟩)⟩
theorem D7{nm:Str}(k1:aO ks (.inr n1)=true)(k2:eG ks ts (.inr n1)=some (qL p)):C4 d ks ts (Str.ofString "bar") nm [.str n1] (jg p) :=
 ⟨_,(aU (ia (ds:=[.str n1]) (k:=1) ∅ rfl (SX _) rfl (bM rfl (ay (t:=false) (k:=0) (bg ∅ ∅ (jd _ _ _ _ k1)) rfl aY) jT)) (aU (bq (aF (au (k:=0) (j:=0) ∅ (au (k:=0) (j:=0) (dJ (l:=[(n1,qL p)]) (g:=λz=>.str z.1) (f:=λz=>jD z.2) ∅ rfl (SW rfl) (.inl rfl) λz hz=>by rw[Tq.mp hz];exact⟨_,rfl,mQ ∅ ∅ k2⟩) aN)) MC)) aY)),(az rfl (az rfl (az rfl (az rfl dh))))⟩
theorem D6{nm:Str}(k1:aO ks (.inr n1)=true)(k2:eG ks ts (.inr n1)=some (qL p))(k3:aO ks (.inr n2)=true)(k4:eG ks ts (.inr n2)=some (qL q)):C4 d ks ts (Str.ofString "sum") nm [.str n1,.str n2] (kI p q) :=
 ⟨_,(aU (ia (ds:=[.str n1,.str n2]) (k:=1) ∅ rfl (SX _) rfl (bM rfl (ay (t:=false) (k:=0) (bg ∅ ∅ (jd _ _ _ _ k1)) rfl aY) (bM rfl (ay (t:=false) (k:=0) (bg ∅ ∅ (jd _ _ _ _ k3)) rfl aY) jT))) (aU (bq (aF (au (k:=0) (j:=0) ∅ (au (k:=0) (j:=0) (dJ (l:=[(n1,qL p),(n2,qL q)]) (g:=λz=>.str z.1) (f:=λz=>jD z.2) ∅ rfl (SW rfl) (.inl rfl) λz hz=>by
  simp only[SS,Tg,TC]at hz;rcases hz with rfl|rfl
  ·exact⟨_,rfl,mQ ∅ ∅ k2⟩
  ·exact⟨_,rfl,mQ ∅ ∅ k4⟩) aN)) MB)) aY)),(az rfl (az rfl (az rfl (az rfl dh))))⟩
theorem zD{nm:Str}(k1:aO ks (.inr n1)=true)(k2:eG ks ts (.inr n1)=some (qL p))(k3:aO ks (.inr n2)=true)(k4:eG ks ts (.inr n2)=some (qL q))(hp:ii p)(hq:ii q):C4 d ks ts (Str.ofString "times") nm [.str n1,.str n2] (jN p q) :=
 ⟨_,(aU (ia (ds:=[.str n1,.str n2]) (k:=1) ∅ rfl (SX _) rfl (bM rfl (ay (t:=false) (k:=0) (bg ∅ ∅ (jd _ _ _ _ k1)) rfl aY) (bM rfl (ay (t:=false) (k:=0) (bg ∅ ∅ (jd _ _ _ _ k3)) rfl aY) jT))) (aU (bq (aF (au (k:=0) (j:=0) ∅ (au (k:=0) (j:=0) (dJ (l:=[(n1,qL p),(n2,qL q)]) (g:=λz=>.str z.1) (f:=λz=>jD z.2) ∅ rfl (SW rfl) (.inl rfl) λz hz=>by
  simp only[SS,Tg,TC]at hz;rcases hz with rfl|rfl
  ·exact⟨_,rfl,mQ ∅ ∅ k2⟩
  ·exact⟨_,rfl,mQ ∅ ∅ k4⟩) aN)) (D5 hp hq))) aY)),(az rfl (az rfl (az rfl (az rfl dh))))⟩
theorem MD{nm:Str}(hw:ac (gL .NotEq (.str w) (cD "bar")) true):ac (aB gM (v8 ((af (al 117)).getD 2 (.Pass ⟨0,0,0,0⟩))) false (aa (al 117)) (BS d ks ts w nm f)) (.bl ((qL f).any ku),0) :=
 gA (zQ (k:=0) (bg ∅ ∅ hw) (lw (b:=(qL f).any ku) (k:=0) ((bg (op:=.GtE) (x:=.int (vN f)) (k:=0) (y:=.int (10 ^ 40)) (j:=0) (r:=decide (vN f >= 10 ^ 40)) (eO (B:=Aj) (au (k:=0) (j:=0) (dJ (l:=qL f) (g:=D.int) (f:=λn=>D.int (aI n)) ∅ rfl (SW rfl) (.inl rfl) λn hn=>⟨_,rfl,∅⟩) aN) ⟨[],rfl,True.intro⟩) ∅ ∅).bl (Ph f)) (λz=>by rw[z];exact Cj) (λz=>z)))
theorem Rf{nm:Str}:ac (aB gM (v8 ((af (al 117)).getD 2 (.Pass ⟨0,0,0,0⟩))) false (aa (al 117)) (BS d ks ts (Str.ofString "bar") nm f)) (.bl false,0) :=
 gA (lw (b:=false) (k:=0) ∅ (λz=>nomatch z) (λ_=>rfl))
theorem zC{nm:Str}(hp:C4 d ks ts w nm as f)(hc:ac (aB gM (v8 ((af (al 117)).getD 2 (.Pass ⟨0,0,0,0⟩))) false (aa (al 117)) (BS d ks ts w nm f)) (.bl false,0))(ho:dU f)(hm:ks.length+1<bx):dr [.dft d ks ts,.str w,.str nm,.lst as] d ks ts (.tup [cD "told", .str (fA f)]) (dv ks (.inr nm)) (cQ ks ts (.inr nm) (qL f)):=by
 obtain⟨U1,hp,hs⟩:=hp;refine⟨rfl,λX H0 G po _ _=>bL G po 2 hp (fE hs (bL G po 1 (ay hc rfl aY) ?_))⟩;refine d7 (U1:=bU [("_law_four_here", dq f,true)]) (uS (A1:=[]) (A2:=[]) (ns:=qL f) (ke:=0) (kc:=0) (kk:=0) (aZ ∅ G) (aZ ∅ G) (aZ ∅ G) (λz=>nomatch z) hm (cA rfl (fS rfl) dD)) (bA (iW (k:=0) (aZ ?_ G)));exact(ly (k:=0) (au (k:=0) (j:=0) ∅ (au (k:=0) (j:=0) (aF ∅ (qg ho)) aN)) (SW rfl))
theorem Gh{nm:Str}(hp:C4 d ks ts w nm as f)(hc:ac (aB gM (v8 ((af (al 117)).getD 2 (.Pass ⟨0,0,0,0⟩))) false (aa (al 117)) (BS d ks ts w nm f)) (.bl true,0)):dr [.dft d ks ts,.str w,.str nm,.lst as] d ks ts (.tup [cD "great", .non]) ks ts:=by
 obtain⟨U1,hp,hs⟩:=hp;refine⟨rfl,λX H0 G po _ _=>bL G po 2 hp (fE hs (bA (gZ (A1:=[]) (t:=true) ((bO hc G).td rfl true rfl) (bA (iW (k:=0) (aZ ∅ G))))))⟩
def iG:Fx:=Tb [("_law_cell", fj),("_law_four", lZ),("_law_text", iJ)] [] BL IL ML TL aT
def wN:jh:=λg=>([("_law_asked", dA),("_law_made", dr)]:List (Str×b9)).lookup g
def wX:gH:=jO "Desk" ([]:List (Str×b9))
noncomputable def cS:b9:=λds a ks ts r ks' ts'=>ff iG wN wX (aa (al 119)) ["_law_script", "_law_k", "_law_kept", "_law_names_here"] (af (al 119)) ds a ks ts r ks' ts'
theorem xJ:∀ds a ks ts r ks' ts',cS ds a ks ts r ks' ts'->ff iG wN wX (aa (al 119)) ["_law_script", "_law_k", "_law_kept", "_law_names_here"] (af (al 119)) ds a ks ts r ks' ts':=λds a ks ts r ks' ts' h=>h
noncomputable def wL:List Str:=[Str.ofString "keep", Str.ofString "keep", Str.ofString "keep", Str.ofString "sum", Str.ofString "times", Str.ofString "times", Str.ofString "bar", Str.ofString "drop", Str.ofString "show", Str.ofString "size", Str.ofString "names", Str.ofString "sum"]
noncomputable def MG(L:List D)(k:Int)(d:Addr)(ks:List av)(ts:List (List Int))(l l1 l2:List Nat)(w:Str):ag:=bU [("_law_script", .lst L,false),("_law_k", .int k,false),("_law_kept", .dft d ks ts,false),("_law_new_here", .str (sN l),true),("_law_asked_here", .lst [.str (sN l1),.str (sN l2)],true),("_law_word", .str w,true)]
noncomputable def rq(L:List D)(k:Int)(d:Addr)(ks:List av)(ts:List (List Int))(ns:List (List Nat))(l l1 l2:List Nat)(w:Str):Prop:=∃U1,ac (aL iG ((af (al 119)).take 4) (aa (al 119)) (bB ["_law_script", "_law_k", "_law_kept", "_law_names_here"] [.lst L,.int k,.dft d ks ts,.lst (ns.map λz=>.str (sN z))])) (.nx U1)/\Sub (MG L k d ks ts l l1 l2 w) U1
theorem ME(hl:oA L)(k:Int)(d:Addr)(ks:List av)(ts:List (List Int))(h3:ns.length=3):∃l l1 l2 w,l∈ns/\l1∈ns/\l2∈ns/\w∈wL/\rq L k d ks ts ns l l1 l2 w:=by
 have f3:∀x:Int,0<=x.fmod 3/\x.fmod 3<ns.length:=λx=>⟨Tt _ (by decide),by rw[h3];exact Tz _ (by decide)⟩
 obtain⟨l,hm,ha⟩:=uP (f:=λz=>D.str (sN z)) (l:=ns) (f3 ((bC L k).fdiv 16)).1 (f3 ((bC L k).fdiv 16)).2;obtain⟨l1,hm1,ha1⟩:=uP (f:=λz=>D.str (sN z)) (l:=ns) (f3 ((bC L k).fdiv 48)).1 (f3 ((bC L k).fdiv 48)).2;obtain⟨l2,hm2,ha2⟩:=uP (f:=λz=>D.str (sN z)) (l:=ns) (f3 ((bC L k).fdiv 144)).1 (f3 ((bC L k).fdiv 144)).2;obtain⟨w,hmw,haw⟩:=uP (f:=D.str) (l:=wL) (i:=(bC L k).fmod 12) (Tt _ (by decide)) (Tz _ (by decide));refine⟨l,l1,l2,w,hm,hm1,hm2,hmw,_,aU (bq (d:=.int (bC L k)) (aF ∅ (F:=fj) ⟨_,rfl,hl,True.intro⟩)) (aU (bq (bS ∅ ∅ rfl ha)) (aU (bq (Nu (k:=0) (au (k:=0) (j:=0) (bS ∅ ∅ rfl ha1) (au (k:=0) (j:=0) (bS ∅ ∅ rfl ha2) aN)) ⟨SW rfl,Tc _⟩)) (aU (bq (bS (x:=.lst (wL.map D.str)) (k:=0) ∅ ∅ rfl haw)) aY))),?_⟩;exact az rfl (az rfl (az rfl (az rfl (az rfl (az rfl dh)))))
theorem fO{k:Nat}(h:a.length+b.length<=1000):ac (sx .Add (.str (sN a)) (.str (sN b)) k j) (.str (sN (a++b)),0):=by
 refine ac.eq (a:=(.str (sN a++sN b),0)) ⟨[(sN a).length+(sN b).length<=bx],rfl,?_,True.intro⟩ (by rw[fR]);rw[aQ,aQ];show _<=40000;omega
def fQ(L:List D)(k:Int):Qd:=(kz L k 0,kz L k 1,kz L k 2,kz L k 3)
theorem Gv(L:List D)(k:Int):dU (fQ L k):=⟨Tu (uC L k 0) (by decide),Tu (uC L k 1) (by decide),Tu (uC L k 2) (by decide),Tu (uC L k 3) (by decide)⟩
theorem MT(h:dU q):(jn (eB q)).length<=175:=by
 have h1:=cX h.1;have h2:=cX h.2.1;have h3:=cX h.2.2.1;have h4:=cX h.2.2.2;simp only[eB,jn,UC,List.flatMap_nil,S8,S7,Vg];omega
theorem Je(hp:rq L k d ks ts ns l l1 l2 (Str.ofString "keep"))(hl:oA L)(hn:db l)(hm:ks.length+1<bx):cS [.lst L,.int k,.dft d ks ts,.lst (ns.map λz=>.str (sN z))] d ks ts (.tup [.str (sN (jn (cW "keep" :: l::eB (fQ L (k+1))))),.tup [cD "told", .str (fA (fQ L (k+1)))]]) (dv ks (.inr (sN l))) (cQ ks ts (.inr (sN l)) (qL (fQ L (k+1)))):=by
 obtain⟨U1,hp,hs⟩:=hp;have ho:=Gv L (k+1);have hf:ac (lZ [.lst L,.int (k+1)]) (dq (fQ L (k+1))):=M8 hl _;generalize fQ L (k+1)=f at *;have hj:=MT ho;have n8:=hn.2.1;refine⟨rfl,λX H0 G po _ _=>bL G po 4 hp (fE hs (bA (gZ (A1:=[]) (t:=true) ((bO ∅ G).td rfl true rfl) (bL G po 1 (aU (bq (aF ∅ hf)) aY) (d7 (U1:=bU [("_law_new_here", .str (sN l),true),("_law_four_here", dq f,true)]) (uS (A1:=[]) (A2:=[]) (ns:=qL f) (ke:=0) (kc:=0) (kk:=0) (aZ ∅ G) (aZ ∅ G) (aZ ∅ G) (λz=>nomatch z) hm (cA rfl (fS rfl) (cA rfl (fS rfl) dD))) (bA (iW (k:=0) (aZ ?_ G))))))))⟩;refine ly (k:=0) (au (k:=0) (j:=0) ?_ (au (k:=0) (j:=0) (ly (k:=0) (au (k:=0) (j:=0) ∅ (au (k:=0) (j:=0) (aF ∅ (qg ho)) aN)) (SW rfl)) aN)) (SW rfl);refine ac.eq (a:=(.str (sN (((cW "keep " ++ l)++cW " ")++jn (eB f))),0)) (cH (x:=.str (sN ((cW "keep " ++ l)++cW " "))) (y:=.str (sN (jn (eB f)))) (k:=0) (j:=0) (cH (x:=.str (sN (cW "keep " ++ l))) (y:=.str (sN (cW " "))) (k:=0) (j:=0) (cH (x:=.str (sN (cW "keep "))) (y:=.str (sN l)) (k:=0) (j:=0) ((∅).eq (by rw[fv])) ∅ (fO ?_)) ((∅).eq (by rw[fv])) (fO ?_)) ((aF ∅ (qg ho)).eq (by rw[uD])) (fO ?_)) ?_
 ·show 5+l.length<=1000;omega
 ·rw[S8];show 5+l.length+1<=1000;omega
 ·rw[S8,S8];show 5+l.length+1+(jn (eB f)).length<=1000;omega
 ·congr 3;rw[tJ,show jn (l::eB f)=l++32::jn (eB f)from tJ _ _ _,show cW "keep " = cW "keep" ++ [32]from rfl,show cW " " = [32]from rfl];simp only[Vk,U4,Vo,Vu]
theorem D8(hp:rq L k d (ss.map Sum.inr) ts ns l l1 l2 (Str.ofString "names"))(h:ss.length<64)(h8:∀s∈ss,s.length<=8)(h1:∀s∈ss,1<=s.length):cS [.lst L,.int k,.dft d (ss.map Sum.inr) ts,.lst (ns.map λz=>.str (sN z))] d (ss.map Sum.inr) ts (.tup [cD "names", .tup [cD "told", .str (jo ss)]]) (ss.map Sum.inr) ts:=by
 obtain⟨U1,hp,hs⟩:=hp;have e1:ac (jv [.dft d (ss.map Sum.inr) ts]) (.lst (ss.map D.str),0):=by
  unfold jv;dsimp only;rw[ql];exact⟨_,rfl,True.intro⟩
 have e2:ac (gF [.lst (ss.map D.str)]) (.lst ((cZ ss).map D.str),0):=by
  unfold gF;dsimp only;rw[wo];exact⟨_,rfl,h,True.intro⟩
 have hx:=tH h h8;have hj:=vY h h8;have hor:=Gb h1;generalize Txt.join (Str.ofString " ") (cZ ss)=x at *;generalize jo ss=t at *;generalize cZ ss=zz at *;generalize ss.map Sum.inr=ks at *;refine⟨rfl,λX H0 G po _ _=>bL G po 4 hp (fE hs ?_)⟩;refine bL G po 1 (ay (t:=false) (k:=0) ∅ rfl aY) ?_;refine bA (gZ (A1:=[]) (t:=true) ((bO ∅ G).td rfl true rfl) ?_);refine bA ?_;have key:∀{e:Expr} {pos:Pos},ED X.nox (MG L k d ks ts l l1 l2 (Str.ofString "names")) e (.tup [cD "names", .tup [cD "told", .str t]]) 0->WD X.nox H0 (MG L k d ks ts l l1 l2 (Str.ofString "names")) [(d,ks,ts)] (.Return (some e) pos) (.rt (.tup [cD "names", .tup [cD "told", .str t]]) [(d,ks,ts)]):=λh=>iW h
 refine key ?_;exact Ny hx hor (aZ (ib ∅ (au (k:=0) (j:=0) (eO (B:=gF) (au (k:=0) (j:=0) (eO (B:=jv) ∅ e1) aN) e2) aN) hj) G) (aZ ∅ G)
theorem vt{K:W.Frag}{H H':Hp}{P:bi}{v:V}(h:ae K H P (.str s) v):ae K H' P (.str s) v:=by rw[ae]at h⊢;exact h
theorem BU{w:String}(hw:w = "sum" \/ w = "times")(hp:rq L k d ks ts ns l l1 l2 (Str.ofString w))(h0:l.length<=8)(h1:l1.length<=8)(h2:l2.length<=8)(hW:dr [.dft d ks ts,cD w,.str (sN l),.lst [.str (sN l1),.str (sN l2)]] d ks ts r ks' ts'):cS [.lst L,.int k,.dft d ks ts,.lst (ns.map λz=>.str (sN z))] d ks ts (.tup [.str (sN (jn [cW w,l,l1,l2])),r]) ks' ts':=by
 obtain⟨U1,hp,hs⟩:=hp;have hj:=B4 (ws:=[l1,l2]) (SW rfl) (λv hv=>by
  simp only[SS,Tg,TC]at hv;rcases hv with rfl|rfl<;>omega)
 have hjl:(jn [l1,l2]).length=l1.length+l2.length+1:=by simp[jn];omega
 have hz:(cW w++cW " ").length<=6:=by rcases hw with rfl|rfl<;>decide
 have h1':(cW " ").length=1:=rfl;rcases hw with rfl|rfl;all_goals
  refine⟨rfl,λX H0 G po hU _=>bL G po 4 hp (fE hs (bL G po 2 (ay (t:=false) (k:=0) ∅ rfl (ay (t:=false) (k:=0) ∅ rfl aY)) (bA (gZ (A1:=[]) (t:=true) ((bO ∅ G).td rfl true rfl) (bA (oS (O:=iG) (sc:=aa (al 119)) (k:=0) (U':=bU []) (aZ ?_ G) rfl rfl (qI (A1:=[]) (A2:=[]) (k:=2) G (hU "_law_made" _ rfl) rfl ∅ hW dD) (λ_ _ z=>nomatch z) (λ_ _ z=>nomatch z) (hfr:=λ_ _ _ _ _ _ _ _ _ h=>vt h))))))) ⟩;refine ac.eq (a:=(.str (sN ((((cW _++cW " ")++l)++cW " ")++jn [l1,l2])),0)) (cH (x:=.str (sN (((cW _++cW " ")++l)++cW " "))) (y:=.str (sN (jn [l1,l2]))) (k:=0) (j:=0) (cH (x:=.str (sN ((cW _++cW " ")++l))) (y:=.str (sN (cW " "))) (k:=0) (j:=0) (cH (x:=.str (sN (cW _++cW " "))) (y:=.str (sN l)) (k:=0) (j:=0) (cH (x:=.str (sN (cW _))) (y:=.str (sN (cW " "))) (k:=0) (j:=0) ((∅).eq (Ue (λz=>(D.str z,0)) (fv _))) ((∅).eq (Ue (λz=>(D.str z,0)) (fv _))) (fO (by decide))) ∅ (fO ?_)) ((∅).eq (Ue (λz=>(D.str z,0)) (fv _))) (fO ?_)) (ib ∅ ∅ hj) (fO ?_)) ?_
  ·omega
  ·rw[S8];omega
  ·rw[S8,S8];omega
  ·congr 3;rw[tJ _ l [l1,l2],tJ l l1 [l2],show cW " " = [32]from rfl];simp only[Vk,U4,Vo,Vu]
theorem vU{w:String}(hw:w = "drop" \/ w = "show" \/ w = "size")(hp:rq L k d ks ts ns l l1 l2 (Str.ofString w))(h1:l1.length<=8)(hW:dA [.dft d ks ts,cD w,.str (sN l1)] d ks ts r ks' ts'):cS [.lst L,.int k,.dft d ks ts,.lst (ns.map λz=>.str (sN z))] d ks ts (.tup [.str (sN (jn [cW w,l1])),r]) ks' ts':=by
 obtain⟨U1,hp,hs⟩:=hp;have hz:(cW w++cW " ").length<=6:=by rcases hw with rfl|rfl|rfl<;>decide
 rcases hw with rfl|rfl|rfl;all_goals
  refine⟨rfl,λX H0 G po hU _=>bL G po 4 hp (fE hs (bL G po 4 (ay (t:=false) (k:=0) ∅ rfl (ay (t:=false) (k:=0) ∅ rfl (ay (t:=false) (k:=0) ∅ rfl (ay (t:=false) (k:=0) ∅ rfl aY)))) (bA (oS (O:=iG) (sc:=aa (al 119)) (k:=0) (U':=bU []) (aZ ?_ G) rfl rfl (qI (A1:=[]) (A2:=[]) (k:=0) G (hU "_law_asked" _ rfl) rfl (au (k:=0) (j:=0) ∅ (au (k:=0) (j:=0) ∅ (au (k:=0) (j:=0) (bS ∅ ∅ rfl (eT (j:=0) rfl)) aN))) hW dD) (λ_ _ z=>nomatch z) (λ_ _ z=>nomatch z) (hfr:=λ_ _ _ _ _ _ _ _ _ h=>vt h))))) ⟩;refine ac.eq (a:=(.str (sN ((cW _++cW " ")++l1)),0)) (cH (x:=.str (sN (cW _++cW " "))) (y:=.str (sN l1)) (k:=0) (j:=0) (cH (x:=.str (sN (cW _))) (y:=.str (sN (cW " "))) (k:=0) (j:=0) ((∅).eq (Ue (λz=>(D.str z,0)) (fv _))) ((∅).eq (Ue (λz=>(D.str z,0)) (fv _))) (fO (by decide))) (bS ∅ ∅ rfl (eT (j:=0) rfl)) (fO ?_)) ?_
  ·omega
  ·congr 3;rw[tJ,show cW " " = [32]from rfl,show jn [l1]=l1++[]from rfl];simp only[Vk,U4,Vo,Vu,Tw]
theorem MF(hp:rq L k d ks ts ns l l1 l2 (Str.ofString "bar"))(h0:l.length<=8)(h1:l1.length<=8)(hW:dr [.dft d ks ts,cD "bar", .str (sN l),.lst [.str (sN l1)]] d ks ts r ks' ts'):cS [.lst L,.int k,.dft d ks ts,.lst (ns.map λz=>.str (sN z))] d ks ts (.tup [.str (sN (jn [cW "bar", l,l1])),r]) ks' ts':=by
 obtain⟨U1,hp,hs⟩:=hp;refine⟨rfl,λX H0 G po hU _=>bL G po 4 hp (fE hs (bL G po 3 (ay (t:=false) (k:=0) ∅ rfl (ay (t:=false) (k:=0) ∅ rfl (ay (t:=false) (k:=0) ∅ rfl aY))) (bA (gZ (A1:=[]) (t:=true) ((bO ∅ G).td rfl true rfl) (bA (oS (O:=iG) (sc:=aa (al 119)) (k:=0) (U':=bU []) (d1:=.str (sN (jn [cW "bar", l,l1]))) (aZ ?_ G) rfl rfl (qI (A1:=[]) (A2:=[]) (k:=0) (ds:=[.dft d ks ts,cD "bar", .str (sN l),.lst [.str (sN l1)]]) G (hU "_law_made" _ rfl) rfl ∅ hW dD) (λ_ _ z=>nomatch z) (λ_ _ z=>nomatch z) (hfr:=λ_ _ _ _ _ _ _ _ _ h=>vt h))))))) ⟩;refine ac.eq (a:=(.str (sN (((cW "bar " ++ l)++cW " ")++l1)),0)) (cH (x:=.str (sN ((cW "bar " ++ l)++cW " "))) (y:=.str (sN l1)) (k:=0) (j:=0) (cH (x:=.str (sN (cW "bar " ++ l))) (y:=.str (sN (cW " "))) (k:=0) (j:=0) (cH (x:=.str (sN (cW "bar "))) (y:=.str (sN l)) (k:=0) (j:=0) ((∅).eq (by rw[fv])) ∅ (fO ?_)) ((∅).eq (by rw[fv])) (fO ?_)) (bS ∅ ∅ rfl (eT (j:=0) rfl)) (fO ?_)) ?_
 ·show 4+l.length<=1000;omega
 ·rw[S8];show 4+l.length+1<=1000;omega
 ·rw[S8,S8];show 4+l.length+1+l1.length<=1000;omega
 ·congr 3;rw[tJ,show jn [l,l1]=l++32::jn [l1]from tJ _ _ _,show cW "bar " = cW "bar" ++ [32]from rfl,show cW " " = [32]from rfl,show jn [l1]=l1++[]from rfl];simp only[Vk,U4,Vo,Vu,Tw]
noncomputable def xD:Fx:=Tb [] [("NoLine", .xc "NoLine" none),("NoName", .xc "NoName" none),("NoText", .xc "NoText" none),("NoTurn", .xc "NoTurn" none),("NoOrder", .xc "NoOrder" none),("Divided", .xc "Divided" none),("Nought", .xc "Nought" none),("TooGreat", .xc "TooGreat" none),("NoSide", .xc "NoSide" none),("NoPrime", .xc "NoPrime" none)] BL IL ML TL aT
def iU:List D->Rs D:=bQ xD (aa (al 113)) ["_law_error"] (af (al 113))
theorem Ij:ac (iU [.xc "NoName" (some ("SpaceError", [("name", .inr w)]))]) (.str (Str.ofString "name")):=∅
theorem DC:ac (iU [.xc "TooGreat" (some ("SpaceError", []))]) (.str (Str.ofString "great")):=∅
def CZ:Fx:=Tb [] [("MOST_LETTERS", .int 8),("LETTERS", .str (Str.ofString "abcdefghijklmnopqrstuvwxyz"))] BL IL ML TL aT
def cK:List D->Rs D:=bQ CZ (aa (al 98)) ["word"] (af (al 98))
theorem Jf:((List.range 26).all λi=>Txt.contains (Str.ofString "abcdefghijklmnopqrstuvwxyz") (sN [97+i]))=true:=by decide +kernel
theorem MI{c:Nat}(h1:97<=c)(h2:c<=122):Txt.contains (Str.ofString "abcdefghijklmnopqrstuvwxyz") (sN [c])=true:=by
 have:=TJ.mp Jf (c-97) (US.mpr (by omega));rw[show 97+(c-97)=c by omega]at this;exact this
theorem Pd(hd:∀c∈l,97<=c/\c<=122)(h1:1<=l.length)(h8:l.length<=8):ac (cK [.str (sN l)]) (.bl true):=by
 have hz:(sN l).length<=1048576:=by rw[aQ];omega
 have hl:(sN l).length=l.length:=aQ l;have hit:items (.str (sN l))=some (l.map λc=>D.str (sN [c])):=by
  show(if ((sN l).cps.all λc=>decide (c<128))=true then some (Sp.sgs (sN l))else none)=_;rw[if_pos (CP λc hc=>by have:=hd c hc;omega),Bi]
 refine bR (bD (bw (gA (zQ (k:=0) (∅.bl ?_) (zQ (k:=0) (eO (B:=kO) (au (dJ (l:=l) (g:=λc=>D.str (sN [c])) (f:=λ_=>D.bl true) ∅ hit (by show _<=40000;omega) (.inr (Qt _)) λc hc=>?_) aN) (GH l)) Cj)))))
 ·rw[hl];simp;omega
 ·have hc:=hd c hc;exact⟨_,rfl,∅.bl (MI hc.1 hc.2)⟩
def md:Fx:=Tb [] [("MOST_FIGURES", .int 40),("FIGURES", .str (Str.ofString "0123456789"))] BL IL ML TL aT
def jm:List D->Rs D:=bQ md (aa (al 69)) ["text"] (af (al 69))
theorem RT(hd:∀c∈l,48<=c/\c<=57)(h0:l≠[])(h40:l.length<=40)(hh:l=[48]\/∃c r,l=c::r/\c≠48):ac (jm [.str (sN l)]) (.bl true):=by
 have hz:(sN l).length<=1048576:=by rw[aQ];omega
 have hl:(sN l).length=l.length:=aQ l;have h1:1<=l.length:=by
  cases l with
  | nil=>exact absurd rfl h0
  | cons a l=>simp
 have hit:items (.str (sN l))=some (l.map λc=>D.str (sN [c])):=by
  show(if ((sN l).cps.all λc=>decide (c<128))=true then some (Sp.sgs (sN l))else none)=_;rw[if_pos (CP λc hc=>by have:=hd c hc;omega),Bi]
 have hs:ac (aB md (SK ((af (al 69)).getD 1 (.Pass ⟨0,0,0,0⟩))) false (aa (al 69)) (bB ["text"] [.str (sN l)])) (.bl (decide (l.head?=some 48)),0):=by
  refine ∅.bl ?_;rw[show Str.ofString "0" = sN [48] by rw[fv];rfl];exact Qn l 48
 refine bR (ay (gA (kB (∅.bl (Th (by rw[hl];omega))) (kB (∅.bl (Th (by rw[hl];omega))) qz))) rfl (ay (t:=false) (k:=0) (gA (lw hs ?_ λ_=>rfl)) rfl ?_))
 ·intro ht;have ht:=UO ht;have e:l=[48]:=by
   rcases hh with e|⟨c,r,rfl,hc⟩
   ·exact e
   ·exfalso;apply hc;simpa using ht
  subst e;exact lw (∅.bl (Th (by rw[hl];decide))) (λz=>by cases z) λ_=>rfl
 ·refine bD (bw (eO (B:=kO) (au (dJ (l:=l) (g:=λc=>D.str (sN [c])) (f:=λ_=>D.bl true) ∅ hit (by show _<=40000;omega) (.inr (Qt _)) λc hc=>?_) aN) (GH l)));have hc:=hd c hc;exact⟨_,rfl,∅.bl (Nk hc.1 hc.2)⟩
def nl:Fx:=Tb [("are_figures", jm)] [] BL IL ML TL aT
def fW:List D->Rs D:=bQ nl (aa (al 68)) ["word"] (af (al 68))
theorem C9{i:Int}(h:i.natAbs<10 ^ 40):ac (fW [.str (sN (dg i))]) (.int i):=by
 have hl:=pS h;have h2:(sN (dg i)).length<=1048576:=by rw[aQ];omega
 have h3:(sN (dg i)).length<=640:=by rw[aQ];omega
 have ei:=MY (i:=i) (by omega);have hd:=mX (m:=i.natAbs) (k:=40) (by decide) h;have hf:=RT (i8 i.natAbs) (zT _) hd (JY _);have sk:PyData.strOk (sN (dg i))=true:=F8 (KM i);have ek:fL (.str (sN (dg i))) (.str (Str.ofString "-0"))=true:=wj sk (by decide +kernel);have st:Txt.startswith (sN (dg i)) (Str.ofString "-")=decide (i<0):=by
  rw[show Str.ofString "-" = sN [45] by rw[fv];rfl,Qn];exact decide_eq_decide.mpr (uY i)
 have hfig:ac (aB nl (SL ((af (al 68)).getD 0 (.Pass ⟨0,0,0,0⟩))) false (aa (al 68)) (bB ["word"] [.str (sN (dg i))])) (.str (sN (dn i.natAbs)),0):=by
  refine qA (∅.bl st) (λz=>?_) (λz=>?_)
  ·have hi:=UO z;refine ∅.eq ?_;show(D.str (Txt.slice (sN (dg i)) (some 1) none),0)=_;rw[show dg i=45::dn i.natAbs from if_pos hi,P5]
  ·have hi:=of_decide_eq_false z;refine ∅.eq ?_;show(D.str (sN (dg i)),0)=_;rw[show dg i=dn i.natAbs from if_neg hi]
 have hint:ac (nX [.str (sN (dg i))]) (.int i,0):=by
  unfold nX;dsimp only;rw[ei];exact⟨_,rfl,h3,True.intro⟩
 exact bR (aU (bq hfig) (ay (gA (kB (∅.bl (by rw[jV];exact Th (Hd i))) (kB (Gw (aF ∅ hf) rfl) qz))) rfl (bD (bw (eO (B:=nX) ∅ hint)))))
def Ap:Fx:=Tb [("is_name", cK),("whole_read", fW)] [] BL IL ML TL aT
def dw:List D->Rs D:=bQ Ap (aa (al 97)) ["kind", "word"] (af (al 97))
theorem lM(h:ac (cK [.str w]) (.bl true)):ac (dw [.str (Str.ofString "new"),.str w]) (.bl true):=bR (bZ ∅ rfl (bD (bw (aF ∅ h))))
theorem ut(w:Str):ac (dw [.str (Str.ofString "part"),.str w]) (.bl true):=bR (ay ∅ rfl (ay ∅ rfl (bD (bw (gA (wf ∅ (λz=>nomatch z) λ_=>rfl))))))
theorem g9(w:Str):ac (dw [.str (Str.ofString "name"),.str w]) (.bl true):=bR (ay ∅ rfl (ay ∅ rfl (bD (bw (gA (wf ∅ (λz=>nomatch z) λ_=>rfl))))))
def gW:Fx:=Tb [("is_right", dw)] [("MOST_NUMBERS", .int 40)] BL IL ML TL aT
noncomputable def fk:Fm:=λg=>([("FORMS", [("keep", ["new", "part", "part", "part", "part"]),("sum", ["new", "name", "name"]),("times", ["new", "name", "name"]),("bar", ["new", "name"]),("drop", ["name"]),("names", []),("show", ["name"]),("size", ["name"]),("divide", ["side", "name", "name"]),("shared", ["side", "name", "name"]),("apart", ["name"]),("turn", ["name"]),("place", ["name", "number", "number", "number"]),("corner", ["name"]),("base", ["name"]),("ways", ["number"]),("squares", ["number"])])]:List (Str×List (Str×List Str))).lookup g
abbrev dW(s:String):D:=.str (Str.ofString s)
def SE:Stmt->Pos
 | .Assign _ (.Call (.Attribute (.Name _ p) _ _) _ _ _) _=>p
 | _=>⟨0,0,0,0⟩
def Qu:Stmt->Pos×Pos
 | .Assign _ (.Call (.Attribute _ _ p) _ _ q) _=>(p,q)
 | _=>(⟨0,0,0,0⟩,⟨0,0,0,0⟩)
def SG:Stmt->Expr
 | .Assign _ (.Call _ [e] _ _) _=>e
 | _=>.Constant .none 0 ⟨0,0,0,0⟩
noncomputable def gq:List (Str×List Str):=[("keep", ["new", "part", "part", "part", "part"]),("sum", ["new", "name", "name"]),("times", ["new", "name", "name"]),("drop", ["name"]),("names", []),("show", ["name"]),("bar", ["new", "name"]),("size", ["name"]),("turn", ["name"]),("place", ["name", "number", "number", "number"]),("corner", ["name"]),("base", ["name"])]
noncomputable def cJ:List D->Rs D:=λds=>match ds with
 | [.lst (.str w::ws)]=>(match gq.lookup w with
  | some fm=>.ok (.tup (fm.map D.str)) [∃us:List Str,ws=us.map D.str,ws.length=fm.length,∀p∈fm.zip ws,ac (dw [.str p.1,p.2]) (.bl true)]
  | none=>.st)
 | _=>.st
theorem M6:(fk (Str.ofString "FORMS")).isSome=true:=by decide +kernel
theorem Jz:∀p∈gq,((fk (Str.ofString "FORMS")).getD []).lookup p.1=some p.2/\p.2.length<=5/\gT (.str p.1) (dW "apart")=false/\fL (.str p.1) (dW "apart")=true:=by decide +kernel
theorem gG(w:Str)(ws:List D):L2.atI (D.str w::ws) 0=some (.str w):=by
 exact eT (xs:=D.str w::ws) (j:=0) (v:=.str w) rfl
theorem P4(x:D)(ws:List D):mZ (x::ws) (some 1) none=ws:=by
 unfold mZ;have e1:HT.sIx (x::ws).length 0 (some 1)=1:=by
  unfold HT.sIx;rw[S7];simp
 have e2:HT.sIx (x::ws).length (x::ws).length none=(x::ws).length:=rfl;rw[e1,e2,List.drop_succ_cons,List.drop_zero,S7];exact List.take_of_length_le (by omega)
theorem qi:∀us:List Str,aK (us.map D.str)=true
 | []=>rfl
 | _::us=>by rw[S2,aK,qi us];rfl
theorem Qb(l:List α):ac (kO [.lst (l.map λ_=>D.bl true)]) (.bl true,0):=by
 have e:∀l:List α,bF (l.map λ_=>D.bl true)=some (l.map λ_=>true):=λl=>by
  induction l with
  | nil=>rfl
  | cons b bs ih=>rw[S2,bF,ih];rfl
 have z:(l.map λ_=>true).all id=true:=TJ.mpr λx hx=>by
  obtain⟨_,_,rfl⟩:=T0.mp hx;rfl
 unfold kO;dsimp only;rw[e];dsimp only;rw[z];exact⟨_,rfl,True.intro⟩
theorem L7{a b:Int}(h:a=b):ac (gL .NotEq (.int a) (.int b)) false:=by
 subst h;exact ∅.eq (rQ rfl)
theorem Na(hf:((fk (Str.ofString "FORMS")).getD []).lookup w=some fm)
  (hr:ac (aL gW ((af (al 96)).drop 1) (aa (al 96)) (bK (bB ["words"] [.lst (.str w::ws)]) "form" (.tup (fm.map D.str),true))) (.rt r)) :
  rf gW fk (aa (al 96)) ["words"] (af (al 96)) [.lst (.str w::ws)] r:=by
 refine⟨rfl,λX H0 G po hD=>?_⟩;obtain⟨kvs,hk⟩:=Option.isSome_iff_exists.mp M6;have hl:kvs.lookup w=some fm:=by rw[hk]at hf;exact hf
 have D0:=hD _ _ hk;have e0:ac (aB gW (SG ((af (al 96)).getD 0 (.Pass ⟨0,0,0,0⟩))) false (aa (al 96)) (bB ["words"] [.lst (.str w::ws)])) (.str w,0):=by
  exact bS (x:=.lst (.str w::ws)) (l:=.str w::ws) (j:=0) ∅ ∅ rfl (gG w ws)
 have eg:=JS (p:=SE ((af (al 96)).getD 0 (.Pass ⟨0,0,0,0⟩))) (ap:=(Qu ((af (al 96)).getD 0 (.Pass ⟨0,0,0,0⟩))).1) (cp:=(Qu ((af (al 96)).getD 0 (.Pass ⟨0,0,0,0⟩))).2) D0 (G.gl _ rfl) ((bO e0 G).1 rfl) (λ_ _ z=>nomatch z) rfl (cj rfl);rw[hl]at eg;exact d9 (mB (o:=true) G rfl eg (.inl ⟨rfl,rfl⟩) (d8 rfl)) (dH _ hr G po)
theorem Nc(hf:((fk (Str.ofString "FORMS")).getD []).lookup w=some fm)(ha:gT (.str w) (dW "apart")=false)(ho:fL (.str w) (dW "apart")=true)(hl:fm.length<=5)(hn:us.length=fm.length)(hr:∀p∈fm.zip us,ac (dw [.str p.1,.str p.2]) (.bl true)):rf gW fk (aa (al 96)) ["words"] (af (al 96)) [.lst (.str w::us.map D.str)] (.tup (fm.map D.str)):=by
 refine Na hf ?_;have c1:ac (gL .Eq (.str w) (dW "apart")) false:=ac.eq (ck rfl ⟨ho,True.intro⟩) ha;have z:List.zipWith (λx y:D=>D.tup [x,y]) (fm.map D.str) (us.map D.str)=(fm.zip us).map λp=>D.tup [.str p.1,.str p.2]:=by
  rw[List.zipWith_map,List.zip,List.map_zipWith]
 have l1:=qi fm;have l2:=qi us;have l3:aK (D.str w::us.map D.str)=true:=by rw[aK,l2];rfl
 have kn0:Sp.kn (D.tup (fm.map D.str)) 2=0:=if_pos (by rw[D.lless];exact l1);have nf:∀ps:Pos,ac (aB gW (.Name "form" ps) false (aa (al 96)) (bK (bB ["words"] [.lst (.str w::us.map D.str)]) "form" (.tup (fm.map D.str),true))) (.tup (fm.map D.str),0):=λps=>ac.eq ∅ (by show(D.tup (fm.map D.str),Sp.kn (D.tup (fm.map D.str)) 2)=_;rw[kn0])
 refine ay (t:=false) (k:=0) ∅ rfl (ay (t:=false) (k:=0) (bg (bS ∅ ∅ rfl (gG _ _)) ∅ c1) rfl (ay (t:=false) (k:=0) (bg (x:=.int (((.str w::us.map D.str:List D).length:Int)-1)) (y:=.int ((fm.map D.str).length:Nat)) (k:=0) (j:=0) ∅ ∅ (L7 ?_)) rfl (ay (Gw (eO (B:=kO) (au (dJ (l:=fm.zip us) (g:=λp=>D.tup [.str p.1,.str p.2]) (f:=λ_=>D.bl true) (d:=.lst ((fm.zip us).map λp=>D.tup [.str p.1,.str p.2])) (k:=0) ?_ rfl ?_ (.inr (Tc 1)) ?_) aN) (Qb _)) rfl) rfl (bD (bw (k:=0) (ac.eq ∅ (by show(D.tup (fm.map D.str),Sp.kn (D.tup (fm.map D.str)) 2)=_;rw[kn0])))))))
 ·rw[S7,SY,SY,hn];omega
 ·refine wg (B:=zJ) (au (k:=0) (j:=0) (d:=.tup (fm.map D.str)) (nf _) (au (d:=.lst (us.map D.str)) (k:=0) (j:=0) (pi (x:=.lst (.str w::us.map D.str)) (l:=some 1) (h:=none) ∅ ∅ ∅ ?_) aN)) ?_
  ·exact ac.eq ⟨_,rfl,l3,True.intro⟩ (by rw[P4])
  ·exact ac.eq ⟨_,rfl,l1,l2,True.intro⟩ (by rw[z];rfl)
 ·exact SZ (by rw[Vt];exact SZ (Nat.min_le_left _ _) hl) (by decide)
 ·exact λp hp=>⟨_,rfl,aF ∅ (hr p hp)⟩
theorem lm{α:Type}{w:Str}{v:α}:∀{l:List (Str×α)},l.lookup w=some v->(w,v)∈l
 | [],h=>nomatch h
 | (k,x)::l,h=>by
  rw[S9]at h;split at h
  ·rename_i e;cases h;have:w=k:=eq_of_beq e;rw[this];exact SV
  ·exact SR _ (lm h)
theorem wR(ds:List D)(r:D)(h:ac (cJ ds) r):rf gW fk (aa (al 96)) ["words"] (af (al 96)) ds r:=by
 obtain⟨l,h,hp⟩:=h;unfold cJ at h;split at h
 ·rename_i w ws;split at h
  ·rename_i fm hl;cases h;obtain⟨⟨us,rfl⟩,hn,hr,_⟩:=hp;obtain⟨h1,h2,h3,h4⟩:=Jz _ (lm hl);rw[SY]at hn;exact Nc h1 h3 h4 h2 hn λp hp=>hr (p.1,.str p.2) (by rw[List.zip_map_right];exact T0.mpr ⟨p,hp,rfl⟩)
  ·cases h
 ·cases h
def xB:Fx:=Tb [] [] BL IL ML TL aT
noncomputable def xN:List D->Rs D:=mC xB (aa (al 61)) ["part"] ((af (al 61)).take 1) (SA ((af (al 61)).getD 1 (.Pass ⟨0,0,0,0⟩))) (Sz ((af (al 61)).getD 1 (.Pass ⟨0,0,0,0⟩)))
def kQ:List D->Rs D:=tj dI λp=>.ok (.str (fN p)) [p.natAbs<2 ^ 1900]
theorem sG:∀ds r,ac (kQ ds) r->ac (xN ds) r:=by
 intro ds r h;obtain⟨p,rfl,h'⟩:=jy h;obtain⟨rfl,hp,_⟩:=dj h';clear h h';have hh:=se hp;unfold fN;by_cases h0:p.fmod 2=0
 ·rw[if_pos h0];exact Lx (bZ ∅ ((jt _ _).trans (Tv h0)) ∅)
 ·rw[if_neg h0];exact Ly (ay ∅ ((jt _ _).trans (Th h0)) aY) ∅ hp (by decide)
def xF:Fx:=Tb [("part_text", kQ)] [] BL IL ML TL aT
def xP:List D->Rs D:=bQ xF (aa (al 60)) ["four"] (af (al 60))
def fH:List D->Rs D:=tj dQ λp=>.ok (.str (fA p)) [L9 p]
theorem sI:∀ds r,ac (fH ds) r->ac (xP ds) r:=by
 intro ds r h;obtain⟨p,rfl,h'⟩:=jy h;obtain⟨rfl,hp,_⟩:=dj h';clear h h';have hs:=Gu hp;have h16:(Str.ofString " ").length<=16:=by decide
 obtain⟨h1,h2,h3,h4⟩:=hp;exact ∅
def NX:Fx:=Tb [] [] BL IL ML TL aT
def N2:List D->Rs D:=bQ NX (aa (al 25)) ["four"] (af (al 25))
def rh:List D->Rs D:=tj dQ λp=>.ok (.int (tf p)) [ii p]
theorem C1:∀ds r,ac (rh ds) r->ac (N2 ds) r:=by
 intro ds r h;obtain⟨p,rfl,h'⟩:=jy h;obtain⟨rfl,hp,_⟩:=dj h';obtain⟨⟨a1,a2,a3,a4⟩,_⟩:=qZ hp hp;exact ck rfl (by walk_at "ob")
def um:Fx:=Tb [("four_text", fH),("size", rh)] [] BL IL ML TL aT
def fB:List D->Rs D:=bQ um (aa (al 102)) ["word", "four", "numbers"] (af (al 102))
theorem HG(hb:ii q)(h:(tf q).natAbs<2 ^ 1900)(ns:D):ac (fB [dW "size", dq q,ns]) (uZ (tf q)) :=
 bR (ay ∅ rfl (bZ ∅ rfl (bD (bw (eO (B:=sy) (au (aF ∅ (F:=rh) ⟨_,rfl,hb,True.intro⟩) aN) (FW h))))))
theorem HH(h:dU q)(ns:D):ac (fB [dW "show", dq q,ns]) (.str (fA q)) :=
 bR (bZ ∅ rfl (bD (bw (aF ∅ (F:=fH) ⟨_,rfl,zn h,True.intro⟩))))
def wH:Fx:=Tb [] [] BL IL ML TL aT
def bv:List D->Rs D:=bQ wH (aa (al 99)) ["wanted", "form", "words"] (af (al 99))
theorem G7(w a b c d:Str):ac (bv [dW "name", .tup [dW "new", dW "part", dW "part", dW "part", dW "part"],.lst [dW "keep", .str w,.str a,.str b,.str c,.str d]]) (.lst []):=ck rfl (by walk_at "ob")
theorem oR(w a b:Str):ac (bv [dW "name", .tup [dW "new", dW "name", dW "name"],.lst [dW "times", .str w,.str a,.str b]]) (.lst [.str a,.str b]):=ck rfl (by walk_at "ob")
def kP:Fx:=Tb [] [("MOST_FIGURES", .int 40)] BL IL ML TL aT
def cq:List D->Rs D:=bQ kP (aa (al 67)) ["number"] (af (al 67))
theorem PJ(h:n.natAbs<10 ^ 40):ac (cq [.int n]) (.bl false):=by
 have hl:=mX (m:=n.natAbs) (k:=40) (by decide) h;have e:Str.ofString (toString (if n<0 then -n else n))=sN (dn n.natAbs):=by rw[nZ];exact pR _
 have h1:(if n<0 then -n else n).natAbs<2 ^ 1900:=by rw[nZ,Int.natAbs_natCast];exact BQ h
 have h2:(Str.ofString (toString (if n<0 then -n else n))).length<=1048576:=by rw[e,aQ];omega
 refine ∅.eq ?_;show D.bl (decide ((40:Int)<((Str.ofString (toString (if n<0 then -n else n))).length:Nat)))=_;rw[e,aQ,Th (by omega)]
def ol:Fx:=Tb [("has_too_many_figures", cq)] [] BL IL ML TL aT
def gr:List D->Rs D:=bQ ol (aa (al 66)) ["number"] (af (al 66))
theorem RN(h:(m*2).natAbs<10 ^ 40):ac (gr [.int m]) (.int (m*2)) :=
 bR (ay (gA (kB ∅ (kB (aF ∅ (PJ h)) qz))) rfl ∅)
def uo:Fx:=Tb [] [] BL IL ML TL aT
def ji:List D->Rs D:=bQ uo (aa (al 65)) ["number"] (af (al 65))
theorem Q2(h:m.fmod 2≠0):ac (ji [.int m]) (.int m) :=
 bR (ay (gA (kB ∅ (kB (∅.bl ((jt _ _).trans (Th h))) qz))) rfl ∅)
def xC:Fx:=Tb [("doubled_or_none", gr),("odd_or_none", ji),("whole_read", fW)] [] BL IL ML TL aT
def kU:List D->Rs D:=bQ xC (aa (al 64)) ["word"] (af (al 64))
theorem zf{p:Int}(h:p.natAbs<10 ^ 40):ac (kU [.str (sN (fM p))]) (.int p):=by
 have hl:(sN (fM p)).length<=1048576:=by rw[aQ];have:=cX h;omega
 have e2:Str.ofString "/2" = sN [47,50]:=by rw[fv];rfl
 by_cases hp:p.fmod 2=0
 ·have ew:fM p=dg (p.fdiv 2):=if_pos hp;have hh:(p.fdiv 2).natAbs<10 ^ 40:=Tu (si p (by decide)) h;have e:p.fdiv 2*2=p:=by have:=Int.mul_fdiv_add_fmod p 2;omega
  have hd:=RN (m:=p.fdiv 2) (by rw[e];exact h);rw[e]at hd;have hw:=C9 hh;rw[<- ew]at hw;exact bR (ay ∅ (by rw[e2,ew];exact RM λz=>by rcases nI _ 47 z with q|q<;>omega) (bD (bw (aF (au (aF ∅ hw) aN) hd))))
 ·have ew:fM p=dg p++[47,50]:=if_neg hp;have hw:=C9 h;exact bR (bZ ∅ (by rw[e2,ew];exact RL _) (bD (bw (aF (au (aF (au (∅.eq (by show(D.str (Txt.slice (sN (fM p)) none (some (-2))),0)=(D.str (sN (dg p)),0);rw[ew,RP])) aN) hw) aN) (Q2 hp)))))
def wI:Fx:=Tb [("part_read", kU)] [] BL IL ML TL aT
def im:List D->Rs D:=bQ wI (aa (al 63)) ["words"] (af (al 63))
theorem QZ(h:dU q):ac (im [.lst ((eB q).map λw=>D.str (sN w))]) (.lst [.int q.1,.int q.2.1,.int q.2.2.1,.int q.2.2.2]):=by
 obtain⟨h1,h2,h3,h4⟩:=h;have p1:=zf h1;have p2:=zf h2;have p3:=zf h3;have p4:=zf h4;show ac (im [.lst [.str (sN (fM q.1)),.str (sN (fM q.2.1)),.str (sN (fM q.2.2.1)),.str (sN (fM q.2.2.2))]]) _;exact bR (dS 1 ∅ (aU (ia (ds:=[.tup [.int 0,.str (sN (fM q.1))],.tup [.int 1,.str (sN (fM q.2.1))],.tup [.int 2,.str (sN (fM q.2.2.1))],.tup [.int 3,.str (sN (fM q.2.2.2))]]) ∅ rfl (SX 1) rfl (bM rfl (aU (bq (aF ∅ p1)) (ay ∅ rfl ∅)) (bM rfl (aU (bq (aF ∅ p2)) (ay ∅ rfl ∅)) (bM rfl (aU (bq (aF ∅ p3)) (ay ∅ rfl ∅)) (bM rfl (aU (bq (aF ∅ p4)) (ay ∅ rfl ∅)) jT))))) ∅))
def xG:Fx:=Tb [("parts_read", im)] [] BL IL ML TL aT
def kW:List D->Rs D:=bQ xG (aa (al 62)) ["text"] (af (al 62))
def rO(q:Qd):Prop:=q.2.1.fmod 2=q.1.fmod 2/\q.2.2.1.fmod 2=q.1.fmod 2/\q.2.2.2.fmod 2=q.1.fmod 2
theorem RJ(h:dU q)(hp:rO q):ac (kW [.str (fA q)]) (dq q):=by
 have hs:=QZ h;have hj:=MV (cX h.1) (cX h.2.1) (cX h.2.2.1) (cX h.2.2.2);have hz:(fA q).length<=1048576:=by rw[uD,aQ];exact SZ hj (by decide)
 have hb:((Str.ofString " ").length==0)=false:=by decide +kernel
 have hw:ac (eF (.str (fA q)) [.str (Str.ofString " ")]) (.lst ((eB q).map λw=>D.str (sN w)),0):=by
  have e:((eB q).map λw=>D.str (sN w))=(Txt.split (fA q) (Str.ofString " ")).map D.str:=by rw[Eo,Ug];rfl
  rw[e];exact⟨_,rfl,hb,hz,True.intro⟩
 obtain⟨e2,e3,e4⟩:=hp;have n1:(!gT (.int (q.1.fmod 2)) (.int (q.1.fmod 2)))=false:=rQ rfl;exact bR (aU (bq (ib ∅ ∅ hw)) (aU (bq (aF (au (pi ∅ ∅ ∅ (r:=(.lst ((eB q).map λw=>D.str (sN w)),0)) ∅) aN) hs)) (ay ∅ rfl (aU (ia (ds:=[.tup [.int 0,.int q.1],.tup [.int 1,.int q.2.1],.tup [.int 2,.int q.2.2.1],.tup [.int 3,.int q.2.2.2]]) ∅ rfl (SX 1) rfl (bM rfl (ay ∅ (rQ rfl) aY) (bM rfl (ay ∅ (rQ e2) aY) (bM rfl (ay ∅ (rQ e3) aY) (bM rfl (ay ∅ (rQ e4) aY) jT))))) ∅))))
def sE:Fx:=Tb [] [] BL IL ML TL aT
def sJ:List D->Rs D:=bQ sE (aa (al 24)) ["four"] (af (al 24))
def gj:List D->Rs D:=tj dQ λp=>.ok (dq (jg p)) []
theorem ou:∀ds r,ac (gj ds) r->ac (sJ ds) r:=by
 intro ds r h;obtain⟨p,rfl,h'⟩:=jy h;obtain⟨rfl,_⟩:=dj h';exact ck rfl (by walk_at "ob")
def Kt:Fx:=Tb [] [] BL IL ML TL aT
def Kv:List D->Rs D:=bQ Kt (aa (al 17)) ["one", "other"] (af (al 17))
def n5:List D->Rs D:=vi dQ dQ λp q=>.ok (dq (kI p q)) []
theorem Aq:∀ds r,ac (n5 ds) r->ac (Kv ds) r:=by
 intro ds r h;obtain⟨p,q,rfl,h'⟩:=k9 h;obtain⟨rfl,_⟩:=dj h';exact ck rfl (by walk_at "ob")
def q9:Fx:=Tb [] [] BL IL ML TL aT
def rj:List D->Rs D:=bQ q9 (aa (al 22)) ["one", "other"] (af (al 22))
def il:List D->Rs D:=vi dQ dQ λp q=>.ok (dq (Q0 p q)) [ii p,ii q]
theorem nu:∀ds r,ac (il ds) r->ac (rj ds) r:=by
 intro ds r h;obtain⟨p,q,rfl,h⟩:=k9 h;obtain⟨rfl,hp,hq,_⟩:=dj h;obtain⟨⟨a1,a2,a3,a4⟩,⟨b1,b2,b3,b4⟩,⟨c1,c2,c3,c4⟩,d1,d2,d3,d4⟩:=qZ hp hq;exact ck rfl (by walk_at "ob")
def CW:Fx:=Tb [("plain_product", il)] [] BL IL ML TL aT
def C2:List D->Rs D:=bQ CW (aa (al 23)) ["one", "other"] (af (al 23))
def kF:List D->Rs D:=vi dQ dQ λp q=>.ok (dq (jN p q)) [ii p,ii q]
theorem wP:∀ds r,ac (kF ds) r->ac (C2 ds) r:=by
 intro ds r h;obtain⟨p,q,rfl,h'⟩:=k9 h;obtain⟨rfl,hp,hq,_⟩:=dj h';exact ck rfl (by walk_at "ob")
noncomputable def ja:Fx:=Tb [("four_read", kW),("other_signed", gj),("total", n5),("product", kF),("has_too_many_figures", cq)] [] BL IL ML TL aT
noncomputable def CV:Str->Option (List D->Option Xs):=λg=>([]:List (Str×(List D->Option Xs))).lookup g
def lD:List D->Rs D:=bQ ja (aa (al 100)) ["words", "fours"] (af (al 100))
theorem Mr(hw:L2.atI ws 0=some (dW "bar")):ac (lD [.lst ws,.lst [dq q]]) (dq (jg q)) :=
 bR (ay (t:=false) (k:=0) (bg (bS ∅ ∅ rfl hw) ∅ ∅) rfl (bZ (t:=true) (k:=0) (bg (bS ∅ ∅ rfl hw) ∅ ∅) rfl (bD (bw (aF ∅ (F:=gj) ⟨_,rfl,True.intro⟩)))))
theorem Jc{nm:Str}(h:dU q)(hp:rO q):ac (lD [.lst (dW "keep" :: .str nm::(eB q).map λw=>D.str (sN w)),.lst []]) (dq q):=by
 have hj:=B4 (ws:=eB q) (SW rfl) (by
  intro v hv;simp only[eB,SS,Tg,TC]at hv;rcases hv with rfl|rfl|rfl|rfl
  ·exact cX h.1
  ·exact cX h.2.1
  ·exact cX h.2.2.1
  ·exact cX h.2.2.2)
 rw[<- uD]at hj;exact bR (bZ (t:=true) (k:=0) (bg (bS ∅ ∅ rfl (gG _ _)) ∅ ∅) rfl (bD (bw (aF (au (ib ∅ (au (pi ∅ ∅ ∅ (r:=(.lst ((eB q).map λw=>D.str (sN w)),0)) ∅) aN) hj) aN) (RJ h hp)))))
theorem PK(hb:n.natAbs<10 ^ 90):ac (cq [.int n]) (.bl (ku n)):=by
 have e:Str.ofString (toString (if n<0 then -n else n))=sN (dn n.natAbs):=by rw[nZ];exact pR _
 have h1:(if n<0 then -n else n).natAbs<2 ^ 1900:=by rw[nZ,Int.natAbs_natCast];exact MA hb
 have hu:=mX (m:=n.natAbs) (k:=90) (by decide) hb;have h2:(Str.ofString (toString (if n<0 then -n else n))).length<=1048576:=by rw[e,aQ];omega
 refine ∅.eq ?_;show D.bl (decide ((40:Int)<((Str.ofString (toString (if n<0 then -n else n))).length:Nat)))=D.bl (decide (10 ^ 40<=n.natAbs));rw[e,aQ];congr 1;have:=ND n.natAbs;rw[decide_eq_decide];omega
def BO(ws:List D)(p q f:Qd):ag:=bK (bK (bK (bB ["words", "fours"] [.lst ws,.lst [dq p,dq q]]) "one" (dq p,false)) "other" (dq q,false)) "four" (dq f,true)
theorem BM(hw:L2.atI ws 0=some (dW "sum")):ac (aL ja ((af (al 100)).take 4) (aa (al 100)) (bB ["words", "fours"] [.lst ws,.lst [dq p,dq q]])) (.nx (BO ws p q (kI p q))) :=
 ay (t:=false) (k:=0) (bg (bS ∅ ∅ rfl hw) ∅ ∅) rfl (ay (t:=false) (k:=0) (bg (bS ∅ ∅ rfl hw) ∅ ∅) rfl (aU ∅ (aU (bq (d:=dq (kI p q)) (qA (t:=true) (k:=0) (bg (bS ∅ ∅ rfl hw) ∅ ∅) (λ_=>aF ∅ (F:=n5) ⟨_,rfl,True.intro⟩) (λz=>nomatch z))) aY)))
theorem vR(hw:L2.atI ws 0=some (dW "times"))(ho:ii p/\ii q):ac (aL ja ((af (al 100)).take 4) (aa (al 100)) (bB ["words", "fours"] [.lst ws,.lst [dq p,dq q]])) (.nx (BO ws p q (jN p q))) :=
 ay (t:=false) (k:=0) (bg (bS ∅ ∅ rfl hw) ∅ ∅) rfl (ay (t:=false) (k:=0) (bg (bS ∅ ∅ rfl hw) ∅ ∅) rfl (aU ∅ (aU (bq (d:=dq (jN p q)) (qA (t:=false) (k:=0) (bg (bS ∅ ∅ rfl hw) ∅ ∅) (λz=>nomatch z) (λ_=>aF ∅ (F:=kF) ⟨_,rfl,ho.1,ho.2,True.intro⟩))) aY)))
theorem BN(hb:∀n∈qL f,n.natAbs<10 ^ 90):ac (aB ja (v8 ((af (al 100)).getD 4 (.Pass ⟨0,0,0,0⟩))) false (aa (al 100)) (BO ws p q f)) (.bl ((qL f).any ku),0) :=
 eO (B:=nY) (au (dJ (l:=qL f) (g:=D.int) (f:=λn=>D.bl (ku n)) ∅ rfl (SW rfl) (.inl rfl) λn hn=>⟨_,rfl,aF ∅ (PK (hb n hn))⟩) aN) (NR ku _)
theorem BK(h:ac (aL ja ((af (al 100)).take 4) (aa (al 100)) (bB ["words", "fours"] [.lst ws,.lst [dq p,dq q]])) (.nx (BO ws p q f)))(hb:∀n∈qL f,n.natAbs<10 ^ 90)(hg:(qL f).any ku=false):ac (lD [.lst ws,.lst [dq p,dq q]]) (dq f) :=
 bR (dS 4 h (ay (BN hb) hg (bD (bw ∅))))
abbrev pN:Xs:=("TooGreat", "SpaceError", [])
abbrev sS(w:Str):Xs:=("NoName", "SpaceError", [("name", .inr w)])
noncomputable def nk:List D->Option Xs:=qP (λ_=>some pN) λds r=>ds.length=2/\Rz ja CV EX (aa (al 100)) (af (al 100)) (bB ["words", "fours"] ds) r
theorem CT:∀ds r,nk ds=some r->ds.length=2/\Rz ja CV EX (aa (al 100)) (af (al 100)) (bB ["words", "fours"] ds) r:=λds r h=>sv h
theorem BF(h:ac (aL ja ((af (al 100)).take 4) (aa (al 100)) (bB ["words", "fours"] [.lst ws,.lst [dq p,dq q]])) (.nx (BO ws p q f)))(hb:∀n∈qL f,n.natAbs<10 ^ 90)(hg:(qL f).any ku=true):nk [.lst ws,.lst [dq p,dq q]]=some pN :=
 qO rfl ⟨rfl,Bm 4 h (Rz.iff (t:=true) ((BN hb).bl hg) (Rz.raise ∅ rfl rfl rfl))⟩
def iH:Fx:=ue [] [] BL IL ML TL aT [("Desk", ["kept"])] []
noncomputable def lC:Str->Option (List D->Option Xs):=λg=>([]:List (Str×(List D->Option Xs))).lookup g
noncomputable def iK:j7:=jO "Desk" ([]:List (Str×(List D->Option Xs)))
def gk:List D->Rs D:=bQ iH (aa (aM (al 95) 2)) ["self", "word"] (af (aM (al 95) 2))
abbrev bH(d:Addr)(ks:List av)(ts:List (List Int)):D:=.obj "Desk" ["kept"] [.dft d ks ts]
theorem mW{ns:List Int}(h1:aO ks (.inr w)=true)(h2:eG ks ts (.inr w)=some ns):ac (gk [bH d ks ts,.str w]) (jD ns):=by
 refine bR (ay (t:=false) (k:=0) (bg (x:=.str w) (y:=.dft d ks ts) ∅ ∅ ?_) rfl (bD (bw (k:=0) ?_)))
 ·exact⟨[],by show Rs.ok (!aO ks (.inr w)) []=_;rw[h1];rfl,True.intro⟩
 ·refine ac.bnd (a:=(.dft d ks ts,0)) ∅ (ac.bnd (a:=(.str w,0)) ∅ ⟨[],?_,True.intro⟩);show(match eG ks ts (.inr w)with|some ns=>(Rs.ok (D.tup (ns.map D.int),0) []:R1)|none=>.st)=_;rw[h2]
def SI:List D->Option Xs
 | [_,.str w]=>some (sS w)
 | _=>none
noncomputable def gi:List D->Option Xs:=qP SI λds r=>ds.length=2/\gX iH lC iK EX (aa (aM (al 95) 2)) (af (aM (al 95) 2)) (bB ["self", "word"] ds) r
theorem oj:∀ds r,gi ds=some r->ds.length=2/\gX iH lC iK EX (aa (aM (al 95) 2)) (af (aM (al 95) 2)) (bB ["self", "word"] ds) r:=λds r h=>sv h
theorem RG(h1:aO ks (.inr w)=false)(h2:(reprText w).length<=1000):gi [bH d ks ts,.str w]=some (sS w):=by
 refine qO rfl ⟨rfl,gX.rz (Rz.iff (t:=true) (k:=0) (bg (x:=.str w) (y:=.dft d ks ts) ∅ ∅ ?_) (Rz.raiseF (i:=.inr w) ∅ ⟨rfl,h2⟩ rfl rfl rfl))⟩;exact⟨[],by show Rs.ok (!aO ks (.inr w)) []=_;rw[h1];rfl,True.intro⟩
def jY:Fx:=ue [("four_text", fH)] [] BL IL ML TL aT [("Desk", ["kept"])] []
def j5:jh:=λg=>([]:List (Str×b9)).lookup g
def j8:gH:=jO "Desk" ([]:List (Str×b9))
noncomputable def fc:b9:=λds a ks ts r ks' ts'=>ff jY j5 j8 (aa (aM (al 95) 3)) ["self", "word", "four"] (af (aM (al 95) 3)) ds a ks ts r ks' ts'
theorem ml:∀ds a ks ts r ks' ts',fc ds a ks ts r ks' ts'->ff jY j5 j8 (aa (aM (al 95) 3)) ["self", "word", "four"] (af (aM (al 95) 3)) ds a ks ts r ks' ts':=λds a ks ts r ks' ts' h=>h
theorem Ri(h:dU q)(hm:ks.length+1<bx):fc [bH d ks ts,.str w,dq q] d ks ts (.str (fA q)) (dv ks (.inr w)) (cQ ks ts (.inr w) (qL q)):=by
 refine⟨rfl,λX H0 G po _ _=>?_⟩;refine d7 (U1:=bU [("four", dq q,false)]) (uS (A1:=[]) (A2:=[]) (ns:=qL q) (ke:=0) (kc:=0) (kk:=0) (aZ ∅ G) (aZ ∅ G) (aZ ∅ G) (λz=>nomatch z) hm (cA rfl (fS rfl) dD)) (bA (iW (k:=0) (aZ ?_ G)));exact aF ∅ (F:=fH) ⟨_,rfl,zn h,True.intro⟩
def jZ:Fx:=ue [] [] BL IL ML TL aT [("Desk", ["kept"])] []
def j6:jh:=λg=>([]:List (Str×b9)).lookup g
def j9:gH:=jO "Desk" ([]:List (Str×b9))
noncomputable def fe:b9:=λds a ks ts r ks' ts'=>ff jZ j6 j9 (aa (aM (al 95) 4)) ["self", "word"] (af (aM (al 95) 4)) ds a ks ts r ks' ts'
theorem mm:∀ds a ks ts r ks' ts',fe ds a ks ts r ks' ts'->ff jZ j6 j9 (aa (aM (al 95) 4)) ["self", "word"] (af (aM (al 95) 4)) ds a ks ts r ks' ts':=λds a ks ts r ks' ts' h=>h
theorem RO(h:aO ks (.inr w)=true):fe [bH d ks ts,.str w] d ks ts (dW "dropped") (gf ks (.inr w)) (dY ks ts (.inr w)):=by
 refine⟨rfl,λX H0 G po _ _=>?_⟩;exact d7 (U1:=bU []) (AJ (A1:=[]) (A2:=[]) (kc:=0) (kk:=0) (aZ ∅ G) (aZ ∅ G) h (λ_ _ z=>nomatch z) rfl rfl dD) (bA (iW (k:=0) (aZ ∅ G)))
def oq:Fx:=ue [] [] BL IL ML TL aT [("Desk", ["kept"])] []
def gu:List D->Rs D:=bQ oq (aa (aM (al 95) 5)) ["self"] (af (aM (al 95) 5))
theorem QF(h:ss.length<64)(hl:∀s∈ss,s.length<=8):ac (gu [bH d (ss.map Sum.inr) ts]) (.str (jo ss)):=by
 have hs:ac (gF [.dft d (ss.map Sum.inr) ts]) (.lst ((cZ ss).map D.str),0):=by
  unfold gF;dsimp only;rw[ql];exact⟨_,rfl,h,True.intro⟩
 unfold jo;cases ss with
 | nil=>exact bR (bD (bw (qA (t:=false) (k:=0) ∅ (λz=>nomatch z) λ_=>∅)))
 | cons s ss =>
  rw[if_neg (λz=>nomatch z)];refine bR (bD (bw (qA (t:=true) (k:=0) ((∅).bl ?_) (λ_=>ib ∅ (au (k:=0) (j:=0) (eO (B:=gF) ∅ hs) aN) (vY h hl)) (λz=>nomatch z))));rw[SY,S7];simp
noncomputable def bI:Fx:=ue [("form_of", cJ),("whole_read", fW),("told_of_one", fB),("words_like", bv),("made", lD)] [] BL IL ML TL aT [] [("Desk", [("four_by", gk),("told_names", gu)])]
noncomputable def oM:Str->Option (List D->Option Xs):=λg=>([("made", nk)]:List (Str×(List D->Option Xs))).lookup g
noncomputable def kX:j7:=jO "Desk" ([("four_by", gi),("keep_four", λ_=>none),("drop_four", λ_=>none)]:List (Str×(List D->Option Xs)))
def oN:jh:=λg=>([]:List (Str×b9)).lookup g
def fJ:gH:=jO "Desk" ([("keep_four", fc),("drop_four", fe)]:List (Str×b9))
def dB:List D->Rs D:=bQ bI (aa (aM (al 95) 1)) ["self", "line"] (af (aM (al 95) 1))
noncomputable def pT(d:Addr)(ks:List av)(ts:List (List Int))(line:Str)(ws:List D)(fm:D)(fs ns:List D):ag:=bK (bK (bK (bK (bB ["self", "line"] [bH d ks ts,.str line]) "words" (.lst ws,true)) "form" (fm,true)) "fours" (.lst fs,true)) "numbers" (.lst ns,true)
theorem jE{fm:D}{l:List (Str×List Int)}{m:List Int}(hs:ac (eF (.str line) [.str (Str.ofString " ")]) (.lst ws,0))(hf:ac (cJ [.lst ws]) fm)(hn:ac (bv [dW "name", fm,.lst ws]) (.lst (l.map λp=>D.str p.1)))(h4:∀p∈l,ac (gk [bH d ks ts,.str p.1]) (jD p.2))(hm:ac (bv [dW "number", fm,.lst ws]) (.lst (m.map uZ)))(h5:∀n∈m,n.natAbs<10 ^ 40)(z1:l.length<=100)(z2:m.length<=100) :
  ac (aL bI ((af (aM (al 95) 1)).take 4) (aa (aM (al 95) 1)) (bB ["self", "line"] [bH d ks ts,.str line])) (.nx (pT d ks ts line ws fm (l.map λp=>jD p.2) (m.map D.int))):=by
 refine aU (bq (ib ∅ ∅ hs)) (aU (bq (aF ∅ hf)) (aU (bq (dJ (l:=l) (g:=λp=>D.str p.1) (f:=λp=>jD p.2) (aF ∅ hn) rfl (SZ z1 (by decide)) (.inr (by decide)) λp hp=>?_)) (aU (bq (dJ (l:=m) (g:=uZ) (f:=D.int) (aF ∅ hm) rfl (SZ z2 (by decide)) (.inr (by decide)) λn hn=>?_)) aY)))
 ·exact⟨_,rfl,lA ∅ ∅ rfl (h4 p hp)⟩
 ·exact⟨_,rfl,aF ∅ (C9 (h5 n hn))⟩
theorem FD{fm:D}{ns:List D}(hp:ac (aL bI ((af (aM (al 95) 1)).take 4) (aa (aM (al 95) 1)) (bB ["self", "line"] [bH d ks ts,.str line])) (.nx (pT d ks ts line ws fm fs ns)))(h:ac (aL bI ((af (aM (al 95) 1)).drop 4) (aa (aM (al 95) 1)) (pT d ks ts line ws fm fs ns)) (.rt r)):ac (dB [bH d ks ts,.str line]) r:=bR (dS 4 hp h)
theorem h9(hl:gq.lookup w=some fm)(hn:us.length=fm.length)(h:∀p∈fm.zip (us.map D.str),ac (dw [.str p.1,p.2]) (.bl true)):ac (cJ [.lst (.str w::us.map D.str)]) (.tup (fm.map D.str)):=by
 refine⟨[∃us':List Str,us.map D.str=us'.map D.str,(us.map D.str).length=fm.length,∀p∈fm.zip (us.map D.str),ac (dw [.str p.1,p.2]) (.bl true)],?_,⟨us,rfl⟩,by rw[SY];exact hn,h,True.intro⟩;unfold cJ;dsimp only;rw[hl]
theorem Er(hl:gq.lookup w=some [Str.ofString "name"])(nm:Str):ac (cJ [.lst [.str w,.str nm]]) (.tup [dW "name"]):=by
 refine h9 (us:=[nm]) hl rfl λp hp=>?_
 cases hp with
 | head=>exact g9 nm
 | tail _ z=>cases z
theorem Db(w nm:Str):ac (bv [dW "name", .tup [dW "name"],.lst [.str w,.str nm]]) (.lst [.str nm]):=ck rfl (by walk_at "ob")
theorem KD(w nm:Str):ac (bv [dW "number", .tup [dW "name"],.lst [.str w,.str nm]]) (.lst []):=ck rfl (by walk_at "ob")
theorem AR{nm:Str}{a:List Int}(hs:ac (eF (.str line) [.str (Str.ofString " ")]) (.lst [.str w,.str nm],0))(hl:gq.lookup w=some [Str.ofString "name"])(c0:ac (gL .Eq (.str w) (dW "drop")) false)(c1:ac (gL .Eq (.str w) (dW "names")) false)(k1:aO ks (.inr nm)=true)(k2:eG ks ts (.inr nm)=some a)(hr:ac (fB [.str w,jD a,.lst []]) r):ac (dB [bH d ks ts,.str line]) r:=by
 refine FD (jE (l:=[(nm,a)]) (m:=[]) hs (Er hl nm) (Db w nm) (λp hp=>by cases hp with|head=>exact mW k1 k2|tail _ z=>cases z) (KD w nm) (λn z=>by cases z) (SW rfl) (SW rfl)) ?_;exact ay (t:=false) (k:=0) ∅ rfl (ay (t:=false) (k:=0) (bg (bS ∅ ∅ rfl (gG _ _)) ∅ c0) rfl (ay (t:=false) (k:=0) (bg (bS ∅ ∅ rfl (gG _ _)) ∅ c1) rfl (ay (t:=false) (k:=0) ∅ rfl (bZ (t:=true) (k:=0) ∅ rfl (bD (bw (aF (au (bS ∅ ∅ rfl (gG _ _)) (au ∅ (au ∅ aN))) hr)))))))
theorem g7{ws:List Str}(h:Txt.split s (Str.ofString " ")=ws)(hz:s.length<=1048576):ac (eF (.str s) [.str (Str.ofString " ")]) (.lst (ws.map D.str),0):=by
 subst h;exact⟨_,rfl,by decide +kernel,hz,True.intro⟩
theorem Oc(w a b c d:Str):ac (bv [dW "number", .tup [dW "new", dW "part", dW "part", dW "part", dW "part"],.lst [dW "keep", .str w,.str a,.str b,.str c,.str d]]) (.lst []):=ck rfl (by walk_at "ob")
theorem Oa(w a b:Str):ac (bv [dW "number", .tup [dW "new", dW "name", dW "name"],.lst [dW "times", .str w,.str a,.str b]]) (.lst []):=ck rfl (by walk_at "ob")
theorem KC(w a:Str):ac (bv [dW "name", .tup [dW "new", dW "name"],.lst [dW "bar", .str w,.str a]]) (.lst [.str a]):=ck rfl (by walk_at "ob")
theorem Od(w a:Str):ac (bv [dW "number", .tup [dW "new", dW "name"],.lst [dW "bar", .str w,.str a]]) (.lst []):=ck rfl (by walk_at "ob")
theorem Da(w a b:Str):ac (bv [dW "name", .tup [dW "new", dW "name", dW "name"],.lst [dW "sum", .str w,.str a,.str b]]) (.lst [.str a,.str b]):=∅
theorem Ob(w a b:Str):ac (bv [dW "number", .tup [dW "new", dW "name", dW "name"],.lst [dW "sum", .str w,.str a,.str b]]) (.lst []):=∅
theorem va(h:ss.length<64)(hl:∀s∈ss,s.length<=8):ac (dB [bH d (ss.map Sum.inr) ts,dW "names"]) (.str (jo ss)):=by
 have e0:gq.lookup (Str.ofString "names")=some []:=by decide +kernel
 refine FD (ws:=[dW "names"]) (jE (l:=[]) (m:=[]) (g7 (ws:=[Str.ofString "names"]) (by decide +kernel) (by decide +kernel)) (h9 (us:=[]) e0 rfl (λp hp=>by cases hp)) ∅ (λp z=>by cases z) ∅ (λn z=>by cases z) (Tc _) (Tc _)) ?_;exact ay (t:=false) (k:=0) ∅ rfl (ay (t:=false) (k:=0) ∅ rfl (bZ (t:=true) (k:=0) ∅ rfl (bD (bw (lA ∅ ∅ rfl (QF h hl))))))
def eh:List Str->List Str
 | []=>[]
 | w::ws=>if w=Str.ofString "sum" \/ w=Str.ofString "times" \/ w=Str.ofString "bar" then ws.drop 1 else ws
noncomputable def SH:List D->Option Xs
 | [.obj _ _ [.dft _ ks _],.str line]=>some (match (eh (Txt.split line (Str.ofString " "))).find? (λn => !aO ks (.inr n))with|some n=>sS n|none=>pN)
 | _=>none
noncomputable def dz:List D->Option Xs:=qP SH λds r=>ds.length=2/\gX bI oM kX EX (aa (aM (al 95) 1)) (af (aM (al 95) 1)) (bB ["self", "line"] ds) r
theorem sD:∀ds r,dz ds=some r->ds.length=2/\gX bI oM kX EX (aa (aM (al 95) 1)) (af (aM (al 95) 1)) (bB ["self", "line"] ds) r:=λds r h=>sv h
theorem jx{ws:List Str}{fm:D}{l:List (Str×List Int)}{post:List Str}(hs:Txt.split line (Str.ofString " ")=ws)(hz:line.length<=1048576)(ha:eh ws=l.map (·.1)++w::post)(hf:ac (cJ [.lst (ws.map D.str)]) fm)(hn:ac (bv [dW "name", fm,.lst (ws.map D.str)]) (.lst ((eh ws).map D.str)))(h4:∀p∈l,aO ks (.inr p.1)=true/\eG ks ts (.inr p.1)=some p.2)(z1:l.length<=100)(hw:aO ks (.inr w)=false)(hr:(reprText w).length<=1000):dz [bH d ks ts,.str line]=some (sS w):=by
 have hn':ac (bv [dW "name", fm,.lst (ws.map D.str)]) (.lst ((l.map λp=>D.str p.1) ++ .str w::post.map D.str)):=by
  rw[ha,U3,Ug,S2]at hn;exact hn
 refine qO ?_ ⟨rfl,vo 2 (aU (bq (ib ∅ ∅ (g7 hs hz))) (aU (bq (aF ∅ hf)) aY)) (gX.comp (l.map λp=>D.str p.1) (x0:=.str w) (post:=post.map D.str) (qq:=(l.map λp=>jD p.2,0)) (fds:=[.dft d ks ts]) (ns:=["kept"]) (ds:=[.str w]) (ko:=0) (ka:=0) rfl (aF ∅ hn') rfl rfl ?_ (by rw[SY];exact SZ z1 (by decide)) (na λp hp=>?_) (Tc _) rfl ∅ rfl ∅ rfl (SW rfl) rfl rfl (RG hw hr))⟩
 ·show some (match (eh (Txt.split line (Str.ofString " "))).find? (λn => !aO ks (.inr n))with|some n=>sS n|none=>pN)=_;have:(eh ws).find? (λn => !aO ks (.inr n))=some w:=by
   rw[ha,List.find?_append,List.find?_eq_none.mpr (λn hn=>by
    obtain⟨p,hp,rfl⟩:=T0.mp hn;rw[(h4 p hp).1];decide),Vf]
   rw[hw];rfl
  rw[hs,this]
 ·have:=qi (l.map (·.1)++w::post);rw[U3,Ug,S2]at this;exact this
 ·show ac (zV _ _ _ _ _ _ _) _;unfold zV;rw[show dk _ _ _ _=some _ from rfl];refine ac.bnd (a:=true) jM ?_;rw[cond_true];exact ac.bnd (a:=(jD p.2,0)) (lA ∅ ∅ rfl (mW (h4 p hp).1 (h4 p hp).2)) jM
theorem uX{nm:Str}{wt:List Str}{fm:List D}{ns:List D}(hs:Txt.split line (Str.ofString " ")=wt)(ha:∀n∈eh wt,aO ks (.inr n)=true)(hp:ac (aL bI ((af (aM (al 95) 1)).take 4) (aa (aM (al 95) 1)) (bB ["self", "line"] [bH d ks ts,.str line])) (.nx (pT d ks ts line (w0 :: .str nm::ws) (.tup (dW "new" :: fm)) fs ns)))(hm:ac (rS (dW "new") (dW "new" :: fm)) true)(h:nk [.lst (w0 :: .str nm::ws),.lst fs]=some pN):dz [bH d ks ts,.str line]=some pN:=by
 refine qO ?_ ⟨rfl,vo 4 hp (gX.iff (t:=true) (k:=0) (bg ∅ ∅ hm) (gX.argM (M:=λ_=>none) (fds:=[.dft d ks ts]) (ns:=["kept"]) (d1:=.str nm) (ds:=[.lst (w0 :: .str nm::ws),.lst fs]) (ko:=0) (k1:=0) rfl ∅ rfl (bS ∅ ∅ rfl (eT (j:=1) rfl)) rfl rfl ∅ rfl rfl h))⟩;show some (match (eh (Txt.split line (Str.ofString " "))).find? (λn => !aO ks (.inr n))with|some n=>sS n|none=>pN)=_;rw[hs,List.find?_eq_none.mpr (λn hn=>by rw[ha n hn];decide)]
def cV:b9:=λds a ks ts r ks' ts'=>ff bI oN fJ (aa (aM (al 95) 1)) ["self", "line"] (af (aM (al 95) 1)) ds a ks ts r ks' ts'
theorem sF:∀ds a ks ts r ks' ts',cV ds a ks ts r ks' ts'->ff bI oN fJ (aa (aM (al 95) 1)) ["self", "line"] (af (aM (al 95) 1)) ds a ks ts r ks' ts':=λds a ks ts r ks' ts' h=>h
theorem ur{nm:Str}{fm:List D}{ns:List D}(hp:ac (aL bI ((af (aM (al 95) 1)).take 4) (aa (aM (al 95) 1)) (bB ["self", "line"] [bH d ks ts,.str line])) (.nx (pT d ks ts line (w0 :: .str nm::ws) (.tup (dW "new" :: fm)) fs ns)))(hm:ac (rS (dW "new") (dW "new" :: fm)) true)(h:ac (lD [.lst (w0 :: .str nm::ws),.lst fs]) (dq q))(ho:dU q)(hk:ks.length+1<bx):cV [bH d ks ts,.str line] d ks ts (.str (fA q)) (dv ks (.inr nm)) (cQ ks ts (.inr nm) (qL q)):=by
 have hc:ac (aB bI (v8 ((af (aM (al 95) 1)).getD 4 (.Pass ⟨0,0,0,0⟩))) false (aa (aM (al 95) 1)) (pT d ks ts line (w0 :: .str nm::ws) (.tup (dW "new" :: fm)) fs ns)) (.bl true,0):=bg ∅ ∅ hm;refine⟨rfl,λX H0 G po _ hM=>bL G po 4 hp (bA (gZ (A1:=[]) (t:=true) ((bO hc G).td rfl true rfl) (bA (xU (U':=bU []) (zU (A1:=[]) (A2:=[]) (k:=0) (ko:=0) (ns:=["kept"]) (fds:=[.dft d ks ts]) (ds:=[.str nm,dq q]) G (hM "Desk" "keep_four" _ rfl) ∅ rfl rfl (SW rfl) rfl ?_ (Ri ho hk) dD)))))⟩;exact au (k:=0) (j:=0) (bS ∅ ∅ rfl (eT (j:=1) rfl)) (au (aF ∅ h) aN)
theorem He{nm:Str}(hs:ac (eF (.str line) [.str (Str.ofString " ")]) (.lst (dW "keep" :: .str nm::(eB q).map λw=>D.str (sN w)),0))(hn:ac (cK [.str nm]) (.bl true))(ho:dU q)(hp:rO q)(hk:ks.length+1<bx):cV [bH d ks ts,.str line] d ks ts (.str (fA q)) (dv ks (.inr nm)) (cQ ks ts (.inr nm) (qL q)):=by
 have hl:gq.lookup (Str.ofString "keep")=some [Str.ofString "new", Str.ofString "part", Str.ofString "part", Str.ofString "part", Str.ofString "part"]:=by decide +kernel
 refine ur (jE (l:=[]) (m:=[]) hs (h9 (us:=nm::(eB q).map sN) hl rfl λp hp=>?_) (G7 _ _ _ _ _) (λp z=>by cases z) (Oc _ _ _ _ _) (λn z=>by cases z) (Tc _) (Tc _)) ∅ (Jc ho hp) ho hk;cases hp with
 | head=>exact lM hn
 | tail _ hp=>cases hp with
  | head=>exact ut _
  | tail _ hp=>cases hp with
   | head=>exact ut _
   | tail _ hp=>cases hp with
    | head=>exact ut _
    | tail _ hp=>cases hp with
     | head=>exact ut _
     | tail _ hp=>cases hp
theorem Ds{nm:Str}(hs:ac (eF (.str line) [.str (Str.ofString " ")]) (.lst [dW "times", .str nm,.str n1,.str n2],0))(hn:ac (cK [.str nm]) (.bl true))(k1:aO ks (.inr n1)=true)(k2:eG ks ts (.inr n1)=some (qL p))(k3:aO ks (.inr n2)=true)(k4:eG ks ts (.inr n2)=some (qL q)) :
  ac (aL bI ((af (aM (al 95) 1)).take 4) (aa (aM (al 95) 1)) (bB ["self", "line"] [bH d ks ts,.str line])) (.nx (pT d ks ts line [dW "times", .str nm,.str n1,.str n2] (.tup [dW "new", dW "name", dW "name"]) [dq p,dq q] [])):=by
 have hl:gq.lookup (Str.ofString "times")=some [Str.ofString "new", Str.ofString "name", Str.ofString "name"]:=by decide +kernel
 refine jE (l:=[(n1,qL p),(n2,qL q)]) (m:=[]) hs (h9 (us:=[nm,n1,n2]) hl rfl λp hp=>?_) (oR _ _ _) (λp hp=>?_) (Oa _ _ _) (λn z=>by cases z) (SW rfl) (Tc _)
 ·cases hp with
  | head=>exact lM hn
  | tail _ hp=>cases hp with
   | head=>exact g9 _
   | tail _ hp=>cases hp with
    | head=>exact g9 _
    | tail _ hp=>cases hp
 ·cases hp with
  | head=>exact mW k1 k2
  | tail _ hp=>cases hp with
   | head=>exact mW k3 k4
   | tail _ hp=>cases hp
theorem KR{nm:Str}(hs:ac (eF (.str line) [.str (Str.ofString " ")]) (.lst [dW "sum", .str nm,.str n1,.str n2],0))(hn:ac (cK [.str nm]) (.bl true))(k1:aO ks (.inr n1)=true)(k2:eG ks ts (.inr n1)=some (qL p))(k3:aO ks (.inr n2)=true)(k4:eG ks ts (.inr n2)=some (qL q)) :
  ac (aL bI ((af (aM (al 95) 1)).take 4) (aa (aM (al 95) 1)) (bB ["self", "line"] [bH d ks ts,.str line])) (.nx (pT d ks ts line [dW "sum", .str nm,.str n1,.str n2] (.tup [dW "new", dW "name", dW "name"]) [dq p,dq q] [])):=by
 have hl:gq.lookup (Str.ofString "sum")=some [Str.ofString "new", Str.ofString "name", Str.ofString "name"]:=by decide +kernel
 refine jE (l:=[(n1,qL p),(n2,qL q)]) (m:=[]) hs (h9 (us:=[nm,n1,n2]) hl rfl λp hp=>?_) (Da _ _ _) (λp hp=>?_) (Ob _ _ _) (λn z=>by cases z) (SW rfl) (Tc _)
 ·cases hp with
  | head=>exact lM hn
  | tail _ hp=>cases hp with
   | head=>exact g9 _
   | tail _ hp=>cases hp with
    | head=>exact g9 _
    | tail _ hp=>cases hp
 ·cases hp with
  | head=>exact mW k1 k2
  | tail _ hp=>cases hp with
   | head=>exact mW k3 k4
   | tail _ hp=>cases hp
theorem KO{nm:Str}(hs:ac (eF (.str line) [.str (Str.ofString " ")]) (.lst [dW "bar", .str nm,.str n1],0))(hn:ac (cK [.str nm]) (.bl true))(k1:aO ks (.inr n1)=true)(k2:eG ks ts (.inr n1)=some (qL p))(ho:dU (jg p))(hk:ks.length+1<bx):cV [bH d ks ts,.str line] d ks ts (.str (fA (jg p))) (dv ks (.inr nm)) (cQ ks ts (.inr nm) (qL (jg p))):=by
 have hl:gq.lookup (Str.ofString "bar")=some [Str.ofString "new", Str.ofString "name"]:=by decide +kernel
 refine ur (jE (l:=[(n1,qL p)]) (m:=[]) hs (h9 (us:=[nm,n1]) hl rfl λp hp=>?_) (KC _ _) (λp hp=>?_) (Od _ _) (λn z=>by cases z) (SW rfl) (Tc _)) ∅ (Mr (q:=p) (gG _ _)) ho hk
 ·cases hp with
  | head=>exact lM hn
  | tail _ hp=>cases hp with
   | head=>exact g9 _
   | tail _ hp=>cases hp
 ·cases hp with
  | head=>exact mW k1 k2
  | tail _ hp=>cases hp
theorem Hg{nm:Str}{a:List Int}(hs:ac (eF (.str line) [.str (Str.ofString " ")]) (.lst [dW "drop", .str nm],0))(k1:aO ks (.inr nm)=true)(k2:eG ks ts (.inr nm)=some a)(hk:ks.length+1<bx):cV [bH d ks ts,.str line] d ks ts (dW "dropped") (gf ks (.inr nm)) (dY ks ts (.inr nm)):=by
 have hl:gq.lookup (Str.ofString "drop")=some [Str.ofString "name"]:=by decide +kernel
 have hc:ac (aB bI (v8 ((af (aM (al 95) 1)).getD 5 (.Pass ⟨0,0,0,0⟩))) false (aa (aM (al 95) 1)) (pT d ks ts line [dW "drop", .str nm] (.tup [dW "name"]) [jD a] [])) (.bl true,0):=bg (bS ∅ ∅ rfl (gG _ _)) ∅ ∅;refine⟨rfl,λX H0 G po _ hM=>bL G po 4 (jE (l:=[(nm,a)]) (m:=[]) hs (Er hl nm) (Db _ nm) (λp hp=>by cases hp with|head=>exact mW k1 k2|tail _ z=>cases z) (KD _ nm) (λn z=>by cases z) (SW rfl) (SW rfl)) (bL G po 1 (ay (t:=false) (k:=0) ∅ rfl aY) (bA (gZ (A1:=[]) (t:=true) ((bO hc G).td rfl true rfl) (bA (xU (U':=bU []) (zU (A1:=[]) (A2:=[]) (k:=0) (ko:=0) (ns:=["kept"]) (fds:=[.dft d ks ts]) (ds:=[.str nm]) G (hM "Desk" "drop_four" _ rfl) ∅ rfl rfl (SW rfl) rfl ∅ (RO k1) dD))))))⟩
def pB:Fx:=ue [("_law_refusal", iU)] [] BL IL ML TL aT [] [("Desk", [("tell", dB)])]
noncomputable def wS:j7:=jO "Desk" ([("tell", dz)]:List (Str×(List D->Option Xs)))
def wK:jh:=λg=>([]:List (Str×b9)).lookup g
def wV:gH:=jO "Desk" ([("tell", cV)]:List (Str×b9))
def Qx(ds:List D):Prop:=∃d ks ts line,ds=[bH d ks ts,.str line]
def Qp:Xs->D
 | (_,_,[(_,.inr w)])=>.tup [dW "name", .str w]
 | _=>.tup [dW "great", .non]
def jI:List Str->Bool
 | []=>false
 | w::_=>[Str.ofString "show", Str.ofString "size", Str.ofString "names"].contains w
def LB:List D->Bool
 | [.obj _ _ [.dft _ ks _],.str line]=>jI (Txt.split line (Str.ofString " "))&&(eh (Txt.split line (Str.ofString " "))).all λn=>aO ks (.inr n)
 | _=>false
noncomputable def du:List D->Rs D:=λds=>if LB ds=true then(dB ds).bnd λd=>.ok (.tup [dW "told", d]) [Qx ds,∃t,d=.str t]else(match dz ds with
 | some r=>.ok (Qp r) [Qx ds]
 | none=>.st)
theorem P6{f:List D->Option Xs}{P:List D->Xs->Prop}{ds:List D}{r:Xs}(h:qP f P ds=some r):f ds=some r:=by
 unfold qP at h;split at h
 ·exact h
 ·cases h
theorem QG{r:Xs}(h:dz [bH d ks ts,.str line]=some r):(∃w,r=sS w)\/r=pN:=by
 have h:=P6 h;have h:some (match (eh (Txt.split line (Str.ofString " "))).find? (λn => !aO ks (.inr n))with|some n=>sS n|none=>pN)=some r:=h;split at h
 ·cases h;exact .inl ⟨_,rfl⟩
 ·cases h;exact .inr rfl
theorem xL:∀ds r,ac (du ds) r->yN pB wS EX (aa (al 114)) ["_law_desk", "_law_line_here"] ((af (al 114)).take 2) (KQ ((af (al 114)).getD 2 (.Pass ⟨0,0,0,0⟩))) ((af (al 114)).drop 3) "SpaceError" "_law_e" "_law_error" ds r:=by
 intro ds r h;unfold du at h;split at h
 ·obtain⟨a,h1,h2⟩:=ci h;obtain⟨rfl,⟨d,ks,ts,line,rfl⟩,⟨t,rfl⟩,_⟩:=dj h2;exact⟨rfl,_,∅,.inl ⟨_,aU (bq (lA ∅ ∅ rfl h1)) aY,bZ (t:=true) (k:=0) ∅ rfl (bD (bw ∅))⟩⟩
 ·split at h
  ·rename_i x hz;obtain⟨rfl,⟨d,ks,ts,line,rfl⟩,_⟩:=dj h;rcases QG hz with⟨w,rfl⟩|rfl
   ·exact⟨rfl,_,∅,.inr ⟨"NoName", some "name", [("name", .inr w)],rfl,λf i e=>by cases e;rfl,⟨_,_,_,_,_,_,_,_,_,_,_,_,_,_,_,_,rfl,∅,rfl,∅,rfl,SW rfl,rfl,rfl,hz⟩,ay (t:=false) (k:=0) ∅ rfl (aU (bq (aF ∅ Ij)) (bZ (t:=true) (k:=0) ∅ rfl (bD (bw ∅))))⟩⟩
   ·exact⟨rfl,_,∅,.inr ⟨"TooGreat", none,[],rfl,λf i e=>by(cases e),⟨_,_,_,_,_,_,_,_,_,_,_,_,_,_,_,_,rfl,∅,rfl,∅,rfl,SW rfl,rfl,rfl,hz⟩,ay (t:=false) (k:=0) ∅ rfl (aU (bq (aF ∅ DC)) ∅)⟩⟩
  ·exact(bo h).elim
theorem mz{ws:List Str}{r:Xs}(hs:Txt.split line (Str.ofString " ")=ws)(hr:(jI ws&&(eh ws).all λn=>aO ks (.inr n))=false)(h:dz [bH d ks ts,.str line]=some r):ac (du [bH d ks ts,.str line]) (Qp r):=by
 unfold du;have e:LB [bH d ks ts,.str line]=false:=by
  show(jI (Txt.split line (Str.ofString " "))&&(eh (Txt.split line (Str.ofString " "))).all λn=>aO ks (.inr n))=false;rw[hs];exact hr
 rw[e,if_neg (λz=>nomatch z),h];exact⟨_,rfl,⟨_,_,_,_,rfl⟩,True.intro⟩
theorem DA{ws:List Str}(hs:Txt.split line (Str.ofString " ")=ws)(hr:(jI ws&&(eh ws).all λn=>aO ks (.inr n))=true)(h:ac (dB [bH d ks ts,.str line]) (.str t)):ac (du [bH d ks ts,.str line]) (.tup [dW "told", .str t]):=by
 unfold du;have e:LB [bH d ks ts,.str line]=true:=by
  show(jI (Txt.split line (Str.ofString " "))&&(eh (Txt.split line (Str.ofString " "))).all λn=>aO ks (.inr n))=true;rw[hs];exact hr
 rw[if_pos e];exact ac.bnd h ⟨_,rfl,⟨_,_,_,_,rfl⟩,⟨_,rfl⟩,True.intro⟩
def iI:b9:=λds a ks ts r ks' ts'=>ff pB wK wV (aa (al 114)) ["_law_desk", "_law_line_here"] (af (al 114)) ds a ks ts r ks' ts'
theorem xH:∀ds a ks ts r ks' ts',iI ds a ks ts r ks' ts'->ff pB wK wV (aa (al 114)) ["_law_desk", "_law_line_here"] (af (al 114)) ds a ks ts r ks' ts':=λds a ks ts r ks' ts' h=>h
theorem qh(h:cV [bH d ks ts,.str line] d ks ts (.str t) ks' ts'):iI [bH d ks ts,.str line] d ks ts (.tup [dW "told", .str t]) ks' ts':=by
 refine⟨rfl,λY H0 G po _ hM=>bL G po 2 ∅ (d7 (U1:=bK (bU [("_law_error", .non,true)]) "_law_answer" (.str t,false)) (G9 (Hb G rfl (zU (A1:=[]) (A2:=[]) (k:=0) (ko:=0) (ns:=["kept"]) (fds:=[.dft d ks ts]) (ds:=[.str line]) G (hM "Desk" "tell" _ rfl) ∅ rfl rfl (SW rfl) rfl ∅ h (cA rfl (fS rfl) dD)) rfl (d8 rfl))) (bA (gZ (A1:=[]) (t:=true) ((bO ∅ G).td rfl true rfl) (bA (iW (k:=0) (aZ ∅ G))))))⟩
noncomputable def ik:Fx:=ue [("_law_names", kG),("_law_cell", fj),("_law_said", du),("_law_text", iJ)] [] BL IL ML TL aT [] [("Desk", [("tell", dB)])]
def n4:jh:=λg=>([("_law_line", cS),("_law_said", iI)]:List (Str×b9)).lookup g
def Av:gH:=jO "Desk" ([("tell", cV)]:List (Str×b9))
noncomputable def mj(ks:List av)(ts:List (List Int))(line:Str)(due:D)(ks':List av)(ts':List (List Int)):Prop:=∀d,iI [bH d ks ts,.str line] d ks ts due ks' ts'\/(ks'=ks/\ts'=ts/\ac (du [bH d ks ts,.str line]) due)
theorem lP(h:db l):ac (cK [.str (sN l)]) (.bl true):=Pd h.2.2 h.1 h.2.1
theorem mP{ws:List (List Nat)}(hn:ws.length<=100)(h:∀w∈ws,w.length<=43):(sN (jn ws)).length<=1048576:=by
 rw[aQ];cases ws with
 | nil=>exact Tc _
 | cons a l =>
  have h4:=h a SV;have h5:=wa (ws:=l) λw hw=>h w (SR _ hw)
  rw[jn,S8];rw[S7]at hn;omega
theorem Ot{ws:List (List Nat)}(h0:ws≠[])(h:∀w∈ws,cm w)(hn:ws.length<=100)(h4:∀w∈ws,w.length<=43):ac (eF (.str (sN (jn ws))) [.str (Str.ofString " ")]) (.lst ((ws.map sN).map D.str),0):=g7 (pW h0 h) (mP hn h4)
theorem M7{d:List Nat}(ha:cm a)(hb:cm b)(hc:cm c)(hd:cm d):∀w∈[a,b,c,d],cm w:=λw hw=>by
 simp only[SS,Tg,TC]at hw;rcases hw with rfl|rfl|rfl|rfl<;>assumption
theorem RH(ha:cm a)(hb:cm b)(hc:cm c):∀w∈[a,b,c],cm w:=λw hw=>by
 simp only[SS,Tg,TC]at hw;rcases hw with rfl|rfl|rfl<;>assumption
theorem RI(ha:cm a)(hb:cm b):∀w∈[a,b],cm w:=λw hw=>by
 simp only[SS,Tg,TC]at hw;rcases hw with rfl|rfl<;>assumption
theorem Qs{d:List Nat}(ha:a.length<=8)(hb:b.length<=8)(hc:c.length<=8)(hd:d.length<=8):∀w∈[a,b,c,d],w.length<=43:=λw hw=>by
 simp only[SS,Tg,TC]at hw;rcases hw with rfl|rfl|rfl|rfl<;>omega
theorem Sx(ha:a.length<=8)(hb:b.length<=8)(hc:c.length<=8):∀w∈[a,b,c],w.length<=43:=λw hw=>by
 simp only[SS,Tg,TC]at hw;rcases hw with rfl|rfl|rfl<;>omega
theorem Sy(ha:a.length<=8)(hb:b.length<=8):∀w∈[a,b],w.length<=43:=λw hw=>by
 simp only[SS,Tg,TC]at hw;rcases hw with rfl|rfl<;>omega
theorem Ks(hn:db l)(ho:dU q)(hp:rO q)(hk:ks.length+1<bx):mj ks ts (sN (jn (cW "keep" :: l::eB q))) (.tup [dW "told", .str (fA q)]) (dv ks (.inr (sN l))) (cQ ks ts (.inr (sN l)) (qL q)):=λd=>.inl (qh (He (by
  have:=Ot (ws:=cW "keep" :: l::eB q) (λz=>nomatch z) (λw hw=>by
   simp only[eB,SS,Tg,TC]at hw;rcases hw with rfl|rfl|rfl|rfl|rfl|rfl
   ·exact(by decide:32∉cW "keep")
   ·exact fF hn
   ·exact k7 _
   ·exact k7 _
   ·exact k7 _
   ·exact k7 _) (SW rfl) (λw hw=>by
   simp only[eB,SS,Tg,TC]at hw;rcases hw with rfl|rfl|rfl|rfl|rfl|rfl
   ·exact SW rfl
   ·have:=hn.2.1;omega
   ·exact cX ho.1
   ·exact cX ho.2.1
   ·exact cX ho.2.2.1
   ·exact cX ho.2.2.2)
  have e:sN (cW "keep")=Str.ofString "keep" := (fv _).symm;rw[S2,S2,S2,S2,Ug,e]at this;exact this) (lP hn) ho hp hk))
def gm(d:D):Prop:=(∃s t,d=.tup [.str s,.str t]/\PyData.strOk s=true/\PyData.strOk t=true)\/∃s,d=.tup [.str s,.non]/\PyData.strOk s=true
theorem gx(h:db l):PyData.strOk (sN l)=true:=F8 λc hc=>by have:=h.2.2 c hc;omega
theorem Lg(n:Int):PyData.strOk (sN (dg n))=true:=by have:=rG n;rw[pQ]at this;exact this
theorem eS(s:String):sN (cW s)=Str.ofString s:=(fv _).symm
theorem M9{nm a b:Str}(hn:ac (cK [.str nm]) (.bl true)):ac (cJ [.lst ([Str.ofString "sum", nm,a,b].map D.str)]) (.tup [dW "new", dW "name", dW "name"]):=by
 have hl:gq.lookup (Str.ofString "sum")=some [Str.ofString "new", Str.ofString "name", Str.ofString "name"]:=by decide +kernel
 refine h9 (us:=[nm,a,b]) hl rfl λp hp=>?_
 cases hp with
 | head=>exact lM hn
 | tail _ hp=>cases hp with
  | head=>exact g9 _
  | tail _ hp=>cases hp with
   | head=>exact g9 _
   | tail _ hp=>cases hp
theorem Kr(nm a b:Str):eh [Str.ofString "sum", nm,a,b]=[a,b]:=by
 show(if Str.ofString "sum" = Str.ofString "sum" \/ Str.ofString "sum" = Str.ofString "times" \/ Str.ofString "sum" = Str.ofString "bar" then List.drop 1 [nm,a,b]else[nm,a,b])=_;rw[if_pos (by first|exact .inl rfl|exact .inr (.inl rfl))];rfl
theorem vA(ws:List Str)(b:Bool):(jI (Str.ofString "sum" :: ws)&&b)=false:=by
 have e:jI (Str.ofString "sum" :: ws)=false:=by
  show[Str.ofString "show", Str.ofString "size", Str.ofString "names"].contains (Str.ofString "sum")=false;decide +kernel
 rw[e];rfl
theorem NL(K0:cu ns i ss ts)(hi:i<1000)(hl:l∈ns)(h1:l1∈ns)(h2:l2∈ns)(hn:∀l∈ns,db l):∃due ss' ts',(∀e,dr [.dft e (kS ss) ts,cD "sum", .str (sN l),.lst [.str (sN l1),.str (sN l2)]] e (kS ss) ts due (kS ss') ts')/\mj (kS ss) ts (sN (jn [cW "sum", l,l1,l2])) due (kS ss') ts'/\cu ns (i+1) ss' ts'/\gm due:=by
 have n0:=hn l hl;have n1:=hn l1 h1;have n2:=hn l2 h2;have fr:=M7 (a:=cW "sum") (by decide:32∉cW "sum") (fF n0) (fF n1) (fF n2);have le:=Qs (a:=cW "sum") (SW rfl) n0.2.1 n1.2.1 n2.2.1;have sp:Txt.split (sN (jn [cW "sum", l,l1,l2])) (Str.ofString " ")=[Str.ofString "sum", sN l,sN l1,sN l2]:=by
  rw[pW (ws:=[cW "sum", l,l1,l2]) (λz=>nomatch z) fr,S2,eS];rfl
 have hz:=mP (ws:=[cW "sum", l,l1,l2]) (SW rfl) le;have hm:(kS ss).length+1<bx:=by
  have:=K0.lt;rw[kS,SY];show _<40000;omega
 have ak:=Kr (sN l) (sN l1) (sN l2);have fo:=M9 (a:=sN l1) (b:=sN l2) (lP n0);cases k1:aO (kS ss) (.inr (sN l1))with
 | false =>
  exact⟨_,ss,ts,λe=>zE (as:=[sN l2]) k1,λd=>.inr ⟨rfl,rfl,mz sp (vA _ _) (jx (l:=[]) (w:=sN l1) (post:=[sN l2]) sp hz ak fo (by rw[ak];exact Da _ _ _) (λp z=>by cases z) (Tc _) k1 (lj n1))⟩,K0.up (TM _),.inl ⟨_,_,rfl,by decide +kernel,gx n1⟩⟩
 | true =>
  obtain⟨p,k2,hp⟩:=K0.at k1;cases k3:aO (kS ss) (.inr (sN l2))with
  | false =>
   exact⟨_,ss,ts,λe=>Gg k1 k3,λd=>.inr ⟨rfl,rfl,mz sp (vA _ _) (jx (l:=[(sN l1,qL p)]) (w:=sN l2) (post:=[]) sp hz ak fo (by rw[ak];exact Da _ _ _) (λz hz=>by rw[Tq.mp hz];exact⟨k1,k2⟩) (SW rfl) k3 (lj n2))⟩,K0.up (TM _),.inl ⟨_,_,rfl,by decide +kernel,gx n2⟩⟩
  | true =>
   obtain⟨q,k4,hq⟩:=K0.at k3;have hb:=Op hp hq;have pre:=λd:Addr=>KR (d:=d) (g7 sp hz) (lP n0) k1 k2 k3 k4
   have pl:=λe:Addr=>D6 (d:=e) (nm:=sN l) k1 k2 k3 k4
   have hc:=λe:Addr=>MD (d:=e) (ks:=kS ss) (ts:=ts) (w:=Str.ofString "sum") (nm:=sN l) (f:=kI p q) ∅
   have ha:∀n∈eh [Str.ofString "sum", sN l,sN l1,sN l2],aO (kS ss) (.inr n)=true:=by
    rw[ak];intro n hn;simp only[SS,Tg,TC]at hn;rcases hn with rfl|rfl
    ·exact k1
    ·exact k3
   cases hg:(qL (kI p q)).any ku with
   | true =>
    exact⟨_,ss,ts,λe=>Gh (pl e) (by have:=hc e;rw[hg]at this;exact this),λd=>.inr ⟨rfl,rfl,mz sp (vA _ _) (uX (wt:=[Str.ofString "sum", sN l,sN l1,sN l2]) sp ha (pre d) ∅ (BF (BM (gG _ _)) hb hg))⟩,K0.up (TM _),.inr ⟨_,rfl,by decide +kernel⟩⟩
   | false =>
    have ho:=Bz hg;obtain⟨ss',e1,K1⟩:=K0.put (l:=l) hl ho;refine⟨.tup [cD "told", .str (fA (kI p q))],ss',_,λe=>?_,λd=>.inl ?_,K1,.inl ⟨_,_,rfl,by decide +kernel,mx _⟩⟩
    ·rw[<- e1];exact zC (pl e) (by have:=hc e;rw[hg]at this;exact this) ho hm
    ·rw[<- e1];exact qh (ur (pre d) ∅ (BK (BM (gG _ _)) hb hg) ho hm)
theorem Ep{nm a b:Str}(hn:ac (cK [.str nm]) (.bl true)):ac (cJ [.lst ([Str.ofString "times", nm,a,b].map D.str)]) (.tup [dW "new", dW "name", dW "name"]):=by
 have hl:gq.lookup (Str.ofString "times")=some [Str.ofString "new", Str.ofString "name", Str.ofString "name"]:=by decide +kernel
 refine h9 (us:=[nm,a,b]) hl rfl λp hp=>?_
 cases hp with
 | head=>exact lM hn
 | tail _ hp=>cases hp with
  | head=>exact g9 _
  | tail _ hp=>cases hp with
   | head=>exact g9 _
   | tail _ hp=>cases hp
theorem CO(nm a b:Str):eh [Str.ofString "times", nm,a,b]=[a,b]:=by
 show(if Str.ofString "times" = Str.ofString "sum" \/ Str.ofString "times" = Str.ofString "times" \/ Str.ofString "times" = Str.ofString "bar" then List.drop 1 [nm,a,b]else[nm,a,b])=_;rw[if_pos (by first|exact .inl rfl|exact .inr (.inl rfl))];rfl
theorem oZ(ws:List Str)(b:Bool):(jI (Str.ofString "times" :: ws)&&b)=false:=by
 have e:jI (Str.ofString "times" :: ws)=false:=by
  show[Str.ofString "show", Str.ofString "size", Str.ofString "names"].contains (Str.ofString "times")=false;decide +kernel
 rw[e];rfl
theorem EG(K0:cu ns i ss ts)(hi:i<1000)(hl:l∈ns)(h1:l1∈ns)(h2:l2∈ns)(hn:∀l∈ns,db l):∃due ss' ts',(∀e,dr [.dft e (kS ss) ts,cD "times", .str (sN l),.lst [.str (sN l1),.str (sN l2)]] e (kS ss) ts due (kS ss') ts')/\mj (kS ss) ts (sN (jn [cW "times", l,l1,l2])) due (kS ss') ts'/\cu ns (i+1) ss' ts'/\gm due:=by
 have n0:=hn l hl;have n1:=hn l1 h1;have n2:=hn l2 h2;have fr:=M7 (a:=cW "times") (by decide:32∉cW "times") (fF n0) (fF n1) (fF n2);have le:=Qs (a:=cW "times") (SW rfl) n0.2.1 n1.2.1 n2.2.1;have sp:Txt.split (sN (jn [cW "times", l,l1,l2])) (Str.ofString " ")=[Str.ofString "times", sN l,sN l1,sN l2]:=by
  rw[pW (ws:=[cW "times", l,l1,l2]) (λz=>nomatch z) fr,S2,eS];rfl
 have hz:=mP (ws:=[cW "times", l,l1,l2]) (SW rfl) le;have hm:(kS ss).length+1<bx:=by
  have:=K0.lt;rw[kS,SY];show _<40000;omega
 have ak:=CO (sN l) (sN l1) (sN l2);have fo:=Ep (a:=sN l1) (b:=sN l2) (lP n0);cases k1:aO (kS ss) (.inr (sN l1))with
 | false =>
  exact⟨_,ss,ts,λe=>zE (as:=[sN l2]) k1,λd=>.inr ⟨rfl,rfl,mz sp (oZ _ _) (jx (l:=[]) (w:=sN l1) (post:=[sN l2]) sp hz ak fo (by rw[ak];exact oR _ _ _) (λp z=>by cases z) (Tc _) k1 (lj n1))⟩,K0.up (TM _),.inl ⟨_,_,rfl,by decide +kernel,gx n1⟩⟩
 | true =>
  obtain⟨p,k2,hp⟩:=K0.at k1;cases k3:aO (kS ss) (.inr (sN l2))with
  | false =>
   exact⟨_,ss,ts,λe=>Gg k1 k3,λd=>.inr ⟨rfl,rfl,mz sp (oZ _ _) (jx (l:=[(sN l1,qL p)]) (w:=sN l2) (post:=[]) sp hz ak fo (by rw[ak];exact oR _ _ _) (λz hz=>by rw[Tq.mp hz];exact⟨k1,k2⟩) (SW rfl) k3 (lj n2))⟩,K0.up (TM _),.inl ⟨_,_,rfl,by decide +kernel,gx n2⟩⟩
  | true =>
   obtain⟨q,k4,hq⟩:=K0.at k3;have hb:=Pj hp hq;have pre:=λd:Addr=>Ds (d:=d) (g7 sp hz) (lP n0) k1 k2 k3 k4
   have pl:=λe:Addr=>zD (d:=e) (nm:=sN l) k1 k2 k3 k4 (i0 hp) (i0 hq)
   have hc:=λe:Addr=>MD (d:=e) (ks:=kS ss) (ts:=ts) (w:=Str.ofString "times") (nm:=sN l) (f:=jN p q) ∅
   have ha:∀n∈eh [Str.ofString "times", sN l,sN l1,sN l2],aO (kS ss) (.inr n)=true:=by
    rw[ak];intro n hn;simp only[SS,Tg,TC]at hn;rcases hn with rfl|rfl
    ·exact k1
    ·exact k3
   cases hg:(qL (jN p q)).any ku with
   | true =>
    exact⟨_,ss,ts,λe=>Gh (pl e) (by have:=hc e;rw[hg]at this;exact this),λd=>.inr ⟨rfl,rfl,mz sp (oZ _ _) (uX (wt:=[Str.ofString "times", sN l,sN l1,sN l2]) sp ha (pre d) ∅ (BF (vR (gG _ _) ⟨i0 hp,i0 hq⟩) hb hg))⟩,K0.up (TM _),.inr ⟨_,rfl,by decide +kernel⟩⟩
   | false =>
    have ho:=Bz hg;obtain⟨ss',e1,K1⟩:=K0.put (l:=l) hl ho;refine⟨.tup [cD "told", .str (fA (jN p q))],ss',_,λe=>?_,λd=>.inl ?_,K1,.inl ⟨_,_,rfl,by decide +kernel,mx _⟩⟩
    ·rw[<- e1];exact zC (pl e) (by have:=hc e;rw[hg]at this;exact this) ho hm
    ·rw[<- e1];exact qh (ur (pre d) ∅ (BK (vR (gG _ _) ⟨i0 hp,i0 hq⟩) hb hg) ho hm)
theorem Nb{nm a:Str}(hn:ac (cK [.str nm]) (.bl true)):ac (cJ [.lst ([Str.ofString "bar", nm,a].map D.str)]) (.tup [dW "new", dW "name"]):=by
 have hl:gq.lookup (Str.ofString "bar")=some [Str.ofString "new", Str.ofString "name"]:=by decide +kernel
 refine h9 (us:=[nm,a]) hl rfl λp hp=>?_
 cases hp with
 | head=>exact lM hn
 | tail _ hp=>cases hp with
  | head=>exact g9 _
  | tail _ hp=>cases hp
theorem NM(K0:cu ns i ss ts)(hi:i<1000)(hl:l∈ns)(h1:l1∈ns)(hn:∀l∈ns,db l):∃due ss' ts',(∀e,dr [.dft e (kS ss) ts,cD "bar", .str (sN l),.lst [.str (sN l1)]] e (kS ss) ts due (kS ss') ts')/\mj (kS ss) ts (sN (jn [cW "bar", l,l1])) due (kS ss') ts'/\cu ns (i+1) ss' ts'/\gm due:=by
 have n0:=hn l hl;have n1:=hn l1 h1;have fr:=RH (a:=cW "bar") (by decide:32∉cW "bar") (fF n0) (fF n1);have le:=Sx (a:=cW "bar") (SW rfl) n0.2.1 n1.2.1;have sp:Txt.split (sN (jn [cW "bar", l,l1])) (Str.ofString " ")=[Str.ofString "bar", sN l,sN l1]:=by
  rw[pW (ws:=[cW "bar", l,l1]) (λz=>nomatch z) fr,S2,eS];rfl
 have hz:=mP (ws:=[cW "bar", l,l1]) (SW rfl) le;have hm:(kS ss).length+1<bx:=by
  have:=K0.lt;rw[kS,SY];show _<40000;omega
 have ak:eh [Str.ofString "bar", sN l,sN l1]=[sN l1]:=by
  show(if Str.ofString "bar" = Str.ofString "sum" \/ Str.ofString "bar" = Str.ofString "times" \/ Str.ofString "bar" = Str.ofString "bar" then List.drop 1 [sN l,sN l1]else[sN l,sN l1])=_;rw[if_pos (.inr (.inr rfl))];rfl
 have rd:∀b,(jI [Str.ofString "bar", sN l,sN l1]&&b)=false:=λb=>by
  have e:jI [Str.ofString "bar", sN l,sN l1]=false:=by
   show[Str.ofString "show", Str.ofString "size", Str.ofString "names"].contains (Str.ofString "bar")=false;decide +kernel
  rw[e];rfl
 cases k1:aO (kS ss) (.inr (sN l1))with
 | false =>
  exact⟨_,ss,ts,λe=>zE (as:=[]) k1,λd=>.inr ⟨rfl,rfl,mz sp (rd _) (jx (l:=[]) (w:=sN l1) (post:=[]) sp hz ak (Nb (lP n0)) (by rw[ak];exact KC _ _) (λp z=>by cases z) (Tc _) k1 (lj n1))⟩,K0.up (TM _),.inl ⟨_,_,rfl,by decide +kernel,gx n1⟩⟩
 | true =>
  obtain⟨p,k2,hp⟩:=K0.at k1;have ho:=NP hp;obtain⟨ss',e1,K1⟩:=K0.put (l:=l) hl ho;refine⟨.tup [cD "told", .str (fA (jg p))],ss',_,λe=>?_,λd=>.inl ?_,K1,.inl ⟨_,_,rfl,by decide +kernel,mx _⟩⟩
  ·rw[<- e1];exact zC (D7 k1 k2) Rf ho hm
  ·rw[<- e1];exact qh (KO (g7 sp hz) (lP n0) k1 k2 ho hm)
theorem EH(K0:cu ns i ss ts)(hi:i<60)(hn:∀l∈ns,db l):mj (kS ss) ts (Str.ofString "names") (.tup [dW "told", .str (jo ss)]) (kS ss) ts:=λd=>.inr ⟨rfl,rfl,DA (ws:=[Str.ofString "names"]) (by decide +kernel) (by
  have e1:jI [Str.ofString "names"]=true:=by decide +kernel
  have e2:eh [Str.ofString "names"]=[]:=by decide +kernel
  rw[e1,e2];rfl) (va (by have:=K0.lt;omega) (λs hs=>by
  obtain⟨l,hl,rfl⟩:=K0.nam s hs;rw[aQ];exact(hn l hl).2.1))⟩
theorem Kb(K0:cu ns i ss ts)(hi:i<1000)(hl:l∈ns)(hn:∀l∈ns,db l)(ho:dU q)(hp:rO q):∃ss',dv (kS ss) (.inr (sN l))=kS ss'/\mj (kS ss) ts (sN (jn (cW "keep" :: l::eB q))) (.tup [dW "told", .str (fA q)]) (kS ss') (cQ (kS ss) ts (.inr (sN l)) (qL q))/\cu ns (i+1) ss' (cQ (kS ss) ts (.inr (sN l)) (qL q)):=by
 obtain⟨ss',e1,K1⟩:=K0.put (l:=l) hl ho;refine⟨ss',e1,?_,K1⟩;rw[<- e1];exact Ks (hn l hl) ho hp (by have:=K0.lt;rw[kS,SY];show _<40000;omega)
theorem w3{w:String}(hw:w = "drop" \/ w = "show" \/ w = "size")(n1:db l1):Txt.split (sN (jn [cW w,l1])) (Str.ofString " ")=[Str.ofString w,sN l1]/\(sN (jn [cW w,l1])).length<=1048576/\gq.lookup (Str.ofString w)=some [Str.ofString "name"]/\eh [Str.ofString w,sN l1]=[sN l1]:=by
 have q:32∉cW w/\(cW w).length<=8/\gq.lookup (Str.ofString w)=some [Str.ofString "name"] /\ ¬(Str.ofString w=Str.ofString "sum" \/ Str.ofString w=Str.ofString "times" \/ Str.ofString w=Str.ofString "bar"):=by rcases hw with rfl|rfl|rfl<;>decide +kernel
 refine⟨?_,mP (ws:=[cW w,l1]) (SW rfl) (Sy q.2.1 n1.2.1),q.2.2.1,if_neg q.2.2.2⟩;rw[pW (ws:=[cW w,l1]) (λz=>nomatch z) (RI q.1 (fF n1)),S2,eS];rfl
theorem zb{w:String}(hw:w = "drop" \/ w = "show" \/ w = "size")(n1:db l1)(k1:aO (kS ss) (.inr (sN l1))=false)(d:Addr):ac (du [bH d (kS ss) ts,.str (sN (jn [cW w,l1]))]) (.tup [cD "name", .str (sN l1)]):=by
 obtain⟨sp,hz,hl,ak⟩:=w3 hw n1;exact mz sp (by rw[ak,List.all_cons,k1,Bool.false_and,Vz]) (jx (l:=[]) (w:=sN l1) (post:=[]) sp hz ak (Er hl _) (by rw[ak];exact Db _ _) (λp z=>by cases z) (Tc _) k1 (lj n1))
theorem FZ{w:String}(hw:w = "drop" \/ w = "show" \/ w = "size")(n1:db l1)(k1:aO (kS ss) (.inr (sN l1))=true)(hr:jI [Str.ofString w]=true):(jI [Str.ofString w,sN l1]&&(eh [Str.ofString w,sN l1]).all λn=>aO (kS ss) (.inr n))=true:=by
 have hr:jI [Str.ofString w,sN l1]=true:=hr;rw[(w3 hw n1).2.2.2,List.all_cons,k1,hr];rfl
theorem Kc(K0:cu ns i ss ts)(hi:i<1000)(h1:l1∈ns)(hn:∀l∈ns,db l):∃due ss' ts',(∀e,dA [.dft e (kS ss) ts,cD "drop", .str (sN l1)] e (kS ss) ts due (kS ss') ts')/\mj (kS ss) ts (sN (jn [cW "drop", l1])) due (kS ss') ts'/\cu ns (i+1) ss' ts'/\gm due:=by
 have n1:=hn l1 h1;obtain⟨sp,hz,hl,ak⟩:=w3 (w := "drop") (.inl rfl) n1;cases k1:aO (kS ss) (.inr (sN l1))with
 | false=>exact⟨_,ss,ts,λe=>Ee k1,λd=>.inr ⟨rfl,rfl,zb (.inl rfl) n1 k1 d⟩,K0.up (TM _),.inl ⟨_,_,rfl,by decide +kernel,gx n1⟩⟩
 | true =>
  obtain⟨p,k2,hp⟩:=K0.at k1;have hm:(kS ss).length+1<bx:=by
   have:=K0.lt;rw[kS,SY];show _<40000;omega
  obtain⟨ss',e1,K1⟩:=K0.drp (s:=sN l1);refine⟨.tup [cD "told", cD "dropped"],ss',_,λe=>?_,λd=>.inl ?_,K1,.inl ⟨_,_,rfl,by decide +kernel,by decide +kernel⟩⟩
  ·rw[<- e1];exact Jl k1
  ·rw[<- e1];exact qh (Hg (g7 sp hz) k1 k2 hm)
theorem Ka(K0:cu ns i ss ts)(hi:i<1000)(h1:l1∈ns)(hn:∀l∈ns,db l):∃due ss' ts',(∀e,dA [.dft e (kS ss) ts,cD "size", .str (sN l1)] e (kS ss) ts due (kS ss') ts')/\mj (kS ss) ts (sN (jn [cW "size", l1])) due (kS ss') ts'/\cu ns (i+1) ss' ts'/\gm due:=by
 have n1:=hn l1 h1;obtain⟨sp,hz,hl,ak⟩:=w3 (w := "size") (.inr (.inr rfl)) n1;cases k1:aO (kS ss) (.inr (sN l1))with
 | false=>exact⟨_,ss,ts,λe=>Ee k1,λd=>.inr ⟨rfl,rfl,zb (.inr (.inr rfl)) n1 k1 d⟩,K0.up (TM _),.inl ⟨_,_,rfl,by decide +kernel,gx n1⟩⟩
 | true =>
  obtain⟨p,k2,hp⟩:=K0.at k1;exact⟨.tup [cD "told", uZ (tf p)],ss,ts,λe=>Jj k1 k2 (i0 hp) (K3 hp),λd=>.inr ⟨rfl,rfl,DA sp (FZ (.inr (.inr rfl)) n1 k1 (by decide +kernel)) (AR (g7 sp hz) hl ∅ ∅ k1 k2 (HG (i0 hp) (K3 hp) _))⟩,K0.up (TM _),.inl ⟨_,_,rfl,by decide +kernel,Lg _⟩⟩
theorem Ba(h:∀s∈ss,PyData.strOk s=true):PyData.strOk (jo ss)=true:=by
 unfold jo;split
 ·decide +kernel
 ·rename_i c;have h2:∀s∈cZ ss,PyData.strOk s=true:=λs hs=>h s ((UR ss kr).mem_iff.mp hs)
  have h3:=iA ss;cases e:cZ ss with
  | nil=>rw[e]at h3;exact absurd h3.symm c
  | cons y ys=>exact vj (by decide +kernel) (by rw[<- e];exact h2)
theorem OP(x r:Int)(h0:0<=r)(h1:r<2):(2*x+r).fmod 2=r:=by
 rw[Int.fmod_eq_emod_of_nonneg _ (by decide)];omega
theorem jz(L:List D)(k j:Int):(kz L k j).fmod 2=(bC L k).fmod 2:=by
 have f0:=Tt (bC L k) (show(0:Int)<2 by decide);have f1:=Tz (bC L k) (show(0:Int)<2 by decide);unfold kz;split<;>exact OP _ _ f0 f1
theorem Nl(L:List D)(k:Int):rO (fQ L k):=⟨(jz L k 1).trans (jz L k 0).symm,(jz L k 2).trans (jz L k 0).symm,(jz L k 3).trans (jz L k 0).symm⟩
theorem Bh(K0:cu ns i ss ts)(h1:l1∈ns)(hn:∀l∈ns,db l):∃due,gm due/\(∀d,ac (du [bH d (kS ss) ts,.str (sN (jn [cW "show", l1]))]) due)/\((aO (kS ss) (.inr (sN l1))=false/\due=.tup [cD "name", .str (sN l1)])\/∃p,aO (kS ss) (.inr (sN l1))=true/\eG (kS ss) ts (.inr (sN l1))=some (qL p)/\dU p/\due=.tup [cD "told", .str (fA p)]):=by
 have n1:=hn l1 h1;have hw : "show" = "drop" \/ "show" = "show" \/ "show" = "size" := .inr (.inl rfl);obtain⟨sp,hz,hl,ak⟩:=w3 hw n1;cases k1:aO (kS ss) (.inr (sN l1))with
 | false=>exact⟨_,.inl ⟨_,_,rfl,by decide +kernel,gx n1⟩,zb hw n1 k1,.inl ⟨rfl,rfl⟩⟩
 | true =>
  obtain⟨p,k2,hp⟩:=K0.at k1;exact⟨.tup [cD "told", .str (fA p)],.inl ⟨_,_,rfl,by decide +kernel,mx _⟩,λd=>DA sp (FZ hw n1 k1 (by decide +kernel)) (AR (g7 sp hz) hl ∅ ∅ k1 k2 (HH hp _)),.inr ⟨p,rfl,k2,hp,rfl⟩⟩
theorem vV(hl:oA L)(k:Int)(h3:ns.length=3)(hn:∀l∈ns,db l)(K0:cu ns i ss ts)(hi:i<60)(e:Addr):∃line due ss' ts',cS [.lst L,.int k,.dft e (kS ss) ts,.lst (ns.map λz=>.str (sN z))] e (kS ss) ts (.tup [.str line,due]) (kS ss') ts'/\mj (kS ss) ts line due (kS ss') ts'/\cu ns (i+1) ss' ts'/\gm due:=by
 obtain⟨l,l1,l2,w,hl0,h1,h2,hw,hp⟩:=ME hl k e (kS ss) ts h3;have hi':i<1000:=by omega
 have hm:(kS ss).length+1<bx:=by
  have:=K0.lt;rw[kS,SY];show _<40000;omega
 have n0:=hn l hl0;have n1:=hn l1 h1;have n2:=hn l2 h2;have sl:∀s∈ss,1<=s.length/\s.length<=8:=λs hs=>by
  obtain⟨l,hl,rfl⟩:=K0.nam s hs;rw[aQ];exact⟨(hn l hl).1,(hn l hl).2.1⟩
 have kp:rq L k e (kS ss) ts ns l l1 l2 (Str.ofString "keep")->∃line due ss' ts',cS [.lst L,.int k,.dft e (kS ss) ts,.lst (ns.map λz=>.str (sN z))] e (kS ss) ts (.tup [.str line,due]) (kS ss') ts'/\mj (kS ss) ts line due (kS ss') ts'/\cu ns (i+1) ss' ts'/\gm due:=λhp=>by
  obtain⟨ss',e1,an,K1⟩:=Kb K0 hi' hl0 hn (Gv L (k+1)) (Nl L (k+1));refine⟨_,_,ss',_,?_,an,K1,.inl ⟨_,_,rfl,by decide +kernel,mx _⟩⟩;rw[<- e1];exact Je hp hl n0 hm
 have sm:rq L k e (kS ss) ts ns l l1 l2 (Str.ofString "sum")->∃line due ss' ts',cS [.lst L,.int k,.dft e (kS ss) ts,.lst (ns.map λz=>.str (sN z))] e (kS ss) ts (.tup [.str line,due]) (kS ss') ts'/\mj (kS ss) ts line due (kS ss') ts'/\cu ns (i+1) ss' ts'/\gm due:=λhp=>by
  obtain⟨due,ss',ts',hW,an,K1,d⟩:=NL K0 hi' hl0 h1 h2 hn;exact⟨_,due,ss',ts',BU (.inl rfl) hp n0.2.1 n1.2.1 n2.2.1 (hW e),an,K1,d⟩
 have tm:rq L k e (kS ss) ts ns l l1 l2 (Str.ofString "times")->∃line due ss' ts',cS [.lst L,.int k,.dft e (kS ss) ts,.lst (ns.map λz=>.str (sN z))] e (kS ss) ts (.tup [.str line,due]) (kS ss') ts'/\mj (kS ss) ts line due (kS ss') ts'/\cu ns (i+1) ss' ts'/\gm due:=λhp=>by
  obtain⟨due,ss',ts',hW,an,K1,d⟩:=EG K0 hi' hl0 h1 h2 hn;exact⟨_,due,ss',ts',BU (.inr rfl) hp n0.2.1 n1.2.1 n2.2.1 (hW e),an,K1,d⟩
 simp only[wL,SS,Tg,TC]at hw;rcases hw with rfl|rfl|rfl|rfl|rfl|rfl|rfl|rfl|rfl|rfl|rfl|rfl
 ·exact kp hp
 ·exact kp hp
 ·exact kp hp
 ·exact sm hp
 ·exact tm hp
 ·exact tm hp
 ·obtain⟨due,ss',ts',hW,an,K1,d⟩:=NM K0 hi' hl0 h1 hn;exact⟨_,due,ss',ts',MF hp n0.2.1 n1.2.1 (hW e),an,K1,d⟩
 ·obtain⟨due,ss',ts',hW,an,K1,d⟩:=Kc K0 hi' h1 hn;exact⟨_,due,ss',ts',vU (.inl rfl) hp n1.2.1 (hW e),an,K1,d⟩
 ·obtain⟨due,hd,hS,hc⟩:=Bh K0 h1 hn;refine⟨_,due,ss,ts,vU (.inr (.inl rfl)) hp n1.2.1 ?_,λd=>.inr ⟨rfl,rfl,hS d⟩,K0.up (TM _),hd⟩;rcases hc with⟨k1,rfl⟩|⟨p,k1,k2,hp,rfl⟩
  ·exact Ee k1
  ·exact Jk k1 k2 hp
 ·obtain⟨due,ss',ts',hW,an,K1,d⟩:=Ka K0 hi' h1 hn;exact⟨_,due,ss',ts',vU (.inr (.inr rfl)) hp n1.2.1 (hW e),an,K1,d⟩
 ·exact⟨_,_,ss,ts,D8 hp (by have:=K0.lt;omega) (λs hs=>(sl s hs).2) (λs hs=>(sl s hs).1),EH K0 hi hn,K0.up (TM _),.inl ⟨_,_,rfl,by decide +kernel,Ba λs hs=>by obtain⟨l,hl,rfl⟩:=K0.nam s hs;exact gx (hn l hl)⟩⟩
 ·exact sm hp
theorem wn{d:D}(h:gm d):d.lless=true/\d.nod=true/\fL d d=true/\gT d d=true:=by
 have e2:∀{s:Str},PyData.strOk s=true->PyData.canLay0 (D.str s).py=true:=λh=>h
 rcases h with⟨s,t,rfl,hs,ht⟩|⟨s,rfl,hs⟩
 ·refine⟨rfl,rfl,?_,?_⟩
  ·have k:SeqAt.shaped (D.tup [.str s,.str t]).py=true:=by
    unfold SeqAt.shaped;rw[Bool.and_eq_true_iff];refine⟨?_,rfl⟩;show(PyData.strOk s&&(PyData.strOk t&&true))=true;rw[hs,ht];rfl
   unfold fL;rw[k];rfl
  ·show(gT (.str s) (.str s)&&(gT (.str t) (.str t)&&true))=true;rw[jV,jV,Tv rfl,Tv rfl];rfl
 ·refine⟨rfl,rfl,?_,?_⟩
  ·have k:SeqAt.shaped (D.tup [.str s,.non]).py=true:=by
    unfold SeqAt.shaped;rw[Bool.and_eq_true_iff];refine⟨?_,rfl⟩;show(PyData.strOk s&&true)=true;rw[hs];rfl
   unfold fL;rw[k];rfl
  ·show(gT (.str s) (.str s)&&true)=true;rw[jV,Tv rfl];rfl
theorem sr{d:D}(h:gm d):ac (gL .NotEq d d) false:=⟨[fL d d=true],by show Rs.ok (!gT d d) _=_;rw[(wn h).2.2.2];rfl,(wn h).2.2.1,trivial⟩
abbrev wY:=(List Str×List (List Int))×(List Str×List (List Int))
abbrev Mx(d1 d2:Addr)(s:wY):D:=.lst [bH d1 (kS s.1.1) s.1.2,bH d2 (kS s.2.1) s.2.2]
abbrev Mw(e1 e2:Addr)(s:wY):D:=.lst [.dft e1 (kS s.1.1) s.1.2,.dft e2 (kS s.2.1) s.2.2]
abbrev dX(ns:List (List Nat)):D:=.lst (ns.map λz=>.str (sN z))
noncomputable def oB(L:List D)(ns:List (List Nat))(d1 d2 e1 e2:Addr)(s:wY):ag:=bU [("_law_script", .lst L,false),("_law_names_here", dX ns,true),("_law_desks", Mx d1 d2 s,false),("_law_kept", Mw e1 e2 s,false)]
def qf(d1 d2 e1 e2:Addr)(s:wY):cz:=[(d1,kS s.1.1,s.1.2),(d2,kS s.2.1,s.2.2),(e1,kS s.1.1,s.1.2),(e2,kS s.2.1,s.2.2)]
theorem Ga(hl:oA L):(D.lst L).nod=true:=by
 obtain⟨ns,rfl⟩:=hl;exact vM ns
theorem F9(ns:List (List Nat)):(dX ns).nod=true:=vL sN ns
noncomputable def Qr(L:List D)(ns:List (List Nat))(Dl Kl:List D):ag:=bU [("_law_script", .lst L,false),("_law_names_here", dX ns,true),("_law_desks", .lst Dl,false),("_law_kept", .lst Kl,false)]
theorem AO(G:aJ ik X (aa (al 120)))(po:PassesOwn (model X.prog X.w) X.A X.env X.xe)(hU:∀g W,n4 g=some W->sP X g W)(hl:oA L){Dl Dl' Kl Kl':List D}{e:Addr}{due:D}(A1 A2 B1 B2:cz)(hat:(((bC L n).fdiv 1000).fmod 4).fdiv 3=(j:Nat))(hd:gm due)(hW:cS [.lst L,.int n,.dft e ks ts,dX ns] e ks ts (.tup [.str line,due]) ks' ts')(an:iI [bH d ks ts,.str line] d ks ts due ks' ts'\/(ks'=ks/\ts'=ts/\ac (du [bH d ks ts,.str line]) due))(h1:Kl[j]?=some (.dft e ks ts))(h2:Dl[j]?=some (bH d ks ts))(r1:kR e ks' ts' Dl Dl)(r2:kR e ks' ts' Kl Kl')(r3:kR d ks' ts' Dl Dl')(r4:kR d ks' ts' Kl' Kl')(ea:A1++(e,ks',ts')::A2=B1++(d,ks,ts)::B2)(hq:ks'=ks->ts'=ts->Dl'=Dl) :
  gC X H0 (bK (Qr L ns Dl Kl) "_law_k" (.int n,false)) (A1++(e,ks,ts)::A2) (fG ((af (al 120)).getD 3 (.Pass ⟨0,0,0,0⟩))) (.nx (Qr L ns Dl' Kl') (B1++(d,ks',ts')::B2)):=by
 have hdd:=wn hd;have nL:=Ga hl;refine bL G po 1 (aU (bq (d:=.int (j:Nat)) (ac.eq (a:=(.int ((((bC L n).fdiv 1000).fmod 4).fdiv 3),0)) (cH (x:=.int (((bC L n).fdiv 1000).fmod 4)) (y:=.int 3) (k:=0) (j:=0) (cH (x:=.int ((bC L n).fdiv 1000)) (y:=.int 4) (k:=0) (j:=0) (cH (x:=.int (bC L n)) (y:=.int 1000) (k:=0) (j:=0) (aF ∅ (F:=fj) ⟨_,rfl,hl,True.intro⟩) ∅ ∅) ∅ ∅) ∅ ∅) (by rw[hat]))) aY) ?_;refine fE (C:=bU [("_law_script", .lst L,false),("_law_names_here", dX ns,true),("_law_desks", .lst Dl,false),("_law_kept", .lst Kl,false),("_law_k", .int n,false),("_law_at", .int (j:Nat),true)]) (az rfl (az rfl (az rfl (az rfl (az rfl (az rfl dh)))))) ?_;refine d7 (G8 (U':=bU [("_law_script", .lst L,false),("_law_names_here", dX ns,true),("_law_desks", .lst Dl,false),("_law_kept", .lst Kl',false),("_law_at", .int (j:Nat),true)]) G rfl rfl (qI (A1:=A1) (A2:=A2) (a:=e) (ds:=[.lst L,.int n,.dft e ks ts,dX ns]) G (hU "_law_line" _ rfl) rfl (au (k:=1) (j:=2) ∅ (au (k:=0) (j:=2) ∅ (au (k:=0) (j:=2) (bS ∅ ∅ rfl (eT h1)) (au (k:=2) (j:=0) ∅ aN)))) hW (cA rfl (fS nL) (cA rfl (fS (F9 ns)) (cA rfl (pZ r1) (cA rfl (pZ r2) (cA rfl (fS rfl) dD)))))) rfl hdd.1 km rfl) ?_ (by simp[bt]);rw[ea];rcases an with hS|⟨q1,q2,hS⟩
 ·refine d7 (Dd (k:=kn due 1) (U':=bU [("_law_script", .lst L,false),("_law_names_here", dX ns,true),("_law_desks", .lst Dl',false),("_law_kept", .lst Kl',false),("_law_due", due,false)]) G (qI (A1:=B1) (A2:=B2) (a:=d) (k:=0) (ds:=[bH d ks ts,.str line]) G (hU "_law_said" _ rfl) rfl (au (k:=0) (j:=0) (bS ∅ ∅ rfl (eT h2)) (au (k:=0) (j:=0) ∅ aN)) hS (cA rfl (fS nL) (cA rfl (fS (F9 ns)) (cA rfl (pZ r3) (cA rfl (pZ r4) (cA rfl (fS hdd.2.1) dD)))))) (aZ ∅ G) hdd.2.2.1 hdd.2.2.2) (xT (az rfl (az rfl (az rfl (az rfl dh))))) (by simp[bt])
 ·rw[hq q1 q2,q1,q2];exact bL G po 1 (ay (t:=false) (k:=0) (bg (aF (au (k:=0) (j:=0) (bS ∅ ∅ rfl (eT h2)) (au (k:=0) (j:=0) ∅ aN)) hS) ∅ (sr hd)) rfl aY) (xT (az rfl (az rfl (az rfl (az rfl dh)))))
theorem KP(G:aJ ik X (aa (al 120)))(po:PassesOwn (model X.prog X.w) X.A X.env X.xe)(hU:∀g W,n4 g=some W->sP X g W)(hl:oA L)(h3:ns.length=3)(hn:∀l∈ns,db l)(nd12:d1≠d2)(ne12:e1≠e2)(h11:d1≠e1)(h12:d1≠e2)(h21:d2≠e1)(h22:d2≠e2){ssA ssB:List Str}{tsA tsB:List (List Int)}(KA:cu ns i ssA tsA)(KB:cu ns i ssB tsB)(hi:i<60)(n:Int) :
  ∃s':wY,(cu ns (i+1) s'.1.1 s'.1.2/\cu ns (i+1) s'.2.1 s'.2.2)/\gC X H0 (bK (oB L ns d1 d2 e1 e2 ((ssA,tsA),(ssB,tsB))) "_law_k" (.int n,false)) (qf d1 d2 e1 e2 ((ssA,tsA),(ssB,tsB))) (fG ((af (al 120)).getD 3 (.Pass ⟨0,0,0,0⟩))) (.nx (oB L ns d1 d2 e1 e2 s') (qf d1 d2 e1 e2 s')):=by
 have g0:=Tt ((bC L n).fdiv 1000) (show(0:Int)<4 by decide);have g1:=Tz ((bC L n).fdiv 1000) (show(0:Int)<4 by decide);have hv:(((bC L n).fdiv 1000).fmod 4).fdiv 3=0\/(((bC L n).fdiv 1000).fmod 4).fdiv 3=1:=by
  rw[Int.fdiv_eq_ediv_of_nonneg _ (by decide)];omega
 have rd:∀{a b:Addr} {ks k0:List av} {ts t0:List (List Int)},b≠a->mf a ks ts (bH b k0 t0) (bH b k0 t0):=λh=>Bn (lL (jH h) rH) rfl rfl
 have rs:∀{a:Addr} {ks k0:List av} {ts t0:List (List Int)},mf a ks ts (bH a k0 t0) (bH a ks ts):=Bn (lL vp rH) rfl rfl;have r2:∀{a:Addr} {ks:List av} {ts:List (List Int)} {x y x' y':D},mf a ks ts x x'->mf a ks ts y y'->kR a ks ts [x,y] [x',y']:=λh g=>lL h (lL g rH)
 rcases hv with hat|hat
 ·obtain⟨line,due,ss',ts',hW,an,K1,hd⟩:=vV hl n h3 hn KA hi e1;exact⟨((ss',ts'),(ssB,tsB)),⟨K1,KB.up (TM _)⟩,AO G po hU hl [(d1,kS ssA,tsA),(d2,kS ssB,tsB)] [(e2,kS ssB,tsB)] [] [(d2,kS ssB,tsB),(e1,kS ss',ts'),(e2,kS ssB,tsB)] hat hd hW (an d1) rfl rfl (r2 (rd h11) (rd h21)) (r2 vp (jH ne12.symm)) (r2 rs (rd nd12.symm)) (r2 (jH h11.symm) (jH h12.symm)) rfl (λa b=>by rw[a,b])⟩
 ·obtain⟨line,due,ss',ts',hW,an,K1,hd⟩:=vV hl n h3 hn KB hi e2;exact⟨((ssA,tsA),(ss',ts')),⟨KA.up (TM _),K1⟩,AO G po hU hl [(d1,kS ssA,tsA),(d2,kS ssB,tsB),(e1,kS ssA,tsA)] [] [(d1,kS ssA,tsA)] [(e1,kS ssA,tsA),(e2,kS ss',ts')] (j:=1) hat hd hW (an d2) rfl rfl (r2 (rd h12) (rd h22)) (r2 (jH ne12) vp) (r2 (rd nd12) rs) (r2 (jH h21.symm) (jH h22.symm)) rfl (λa b=>by rw[a,b])⟩
theorem PY{x y:Str}{d d':D}{o o':Bool}(h:bU [(x,d,o)] y=some (d',o')):y=x/\d'=d/\o'=o:=by
 have h:(if y=x then some (d,o)else none)=some (d',o'):=h;split at h
 ·cases h;exact⟨by assumption,rfl,rfl⟩
 ·cases h
theorem D4(G:aJ ik X (aa (al 120)))(po:PassesOwn (model X.prog X.w) X.A X.env X.xe)(hU:∀g W,n4 g=some W->sP X g W)(hl:oA L)(h3:ns.length=3)(hn:∀l∈ns,db l)(nd12:d1≠d2)(ne12:e1≠e2)(h11:d1≠e1)(h12:d1≠e2)(h21:d2≠e1)(h22:d2≠e2){s0:wY}(K0:cu ns 0 s0.1.1 s0.1.2/\cu ns 0 s0.2.1 s0.2.2) :
  ∃s':wY,(cu ns 50 s'.1.1 s'.1.2/\cu ns 50 s'.2.1 s'.2.2)/\WD X H0 (oB L ns d1 d2 e1 e2 s0) (qf d1 d2 e1 e2 s0) ((af (al 120)).getD 3 (.Pass ⟨0,0,0,0⟩)) (.nx (oB L ns d1 d2 e1 e2 s') (qf d1 d2 e1 e2 s')):=by
 have j0:=Tt (bC L 1) (show(0:Int)<50 by decide);have j1:=Tz (bC L 1) (show(0:Int)<50 by decide);generalize hN:(2+(bC L 1).fmod 50-1).toNat=N;have hN50:N<=50:=by omega
 obtain⟨f,rfl,hI,hS⟩:=Lo (n:=N) (s0:=s0) (I:=λi s=>cu ns i s.1.1 s.1.2/\cu ns i s.2.1 s.2.2) (S:=λi s s'=>gC X H0 (bK (oB L ns d1 d2 e1 e2 s) "_law_k" (.int (1+(i:Nat)),false)) (qf d1 d2 e1 e2 s) (fG ((af (al 120)).getD 3 (.Pass ⟨0,0,0,0⟩))) (.nx (oB L ns d1 d2 e1 e2 s') (qf d1 d2 e1 e2 s'))) K0 (λi s hi hK=>by
  obtain⟨⟨ssA,tsA⟩,⟨ssB,tsB⟩⟩:=s;exact KP G po hU hl h3 hn nd12 ne12 h11 h12 h21 h22 hK.1 hK.2 (by omega) _)
 have KN:=hI N (SX _);refine⟨f N,⟨KN.1.up hN50,KN.2.up hN50⟩,?_⟩;have el:((List.range N).map λm:Nat=>(1+(m:Int))).length=N:=by rw[SY,UP]
 have key:∀{px pos:Pos} {iter:Expr},IE X (bU [("_law_script", .lst L,false)]) (.Name "_law_k" px) iter (((List.range N).map λm:Nat=>(1+(m:Int))).map D.int) 0->(∀x,foldedSetIterable iter X.env x=pure x)->WD X H0 (oB L ns d1 d2 e1 e2 (f 0)) (qf d1 d2 e1 e2 (f 0)) (.For (.Name "_law_k" px) iter (fG ((af (al 120)).getD 3 (.Pass ⟨0,0,0,0⟩))) [] pos) (.nx (oB L ns d1 d2 e1 e2 (f N)) (qf d1 d2 e1 e2 (f N))):=λ{px pos iter} hi hf=>by
  have:=KH (X:=X) (pos:=pos) (H0:=H0) (Us:=λi=>oB L ns d1 d2 e1 e2 (f i)) (As:=λi=>qf d1 d2 e1 e2 (f i)) G po rfl hi (λy d o h=>by
   obtain⟨rfl,rfl,rfl⟩:=PY h;exact⟨rfl,Ga hl⟩) (λ_ _=>rfl) (λi n hn=>by
   have hlt:i<N:=by have:=(Tl.mp hn).1;rw[el]at this;exact this
   rw[TQ,List.getElem?_range hlt]at hn;cases hn;exact hS i hlt) hf
  rw[el]at this;exact this
 have hev:ac (aB ik (qv ((af (al 120)).getD 3 (.Pass ⟨0,0,0,0⟩))) true (aa (al 120)) (bU [("_law_script", .lst L,false)])) (.lst ((List.range N).map λm:Nat=>.int (1+(m:Nat))),0):=by
  rw[<- hN];refine wg (B:=mU) (k:=0) (ds:=[.int 1,.int (2+(bC L 1).fmod 50)]) (au (k:=0) (j:=0) ∅ (au (k:=0) (j:=0) (cH (x:=.int 2) (y:=.int ((bC L 1).fmod 50)) (k:=0) (j:=0) ∅ (cH (x:=.int (bC L 1)) (y:=.int 50) (k:=0) (j:=0) (aF ∅ (F:=fj) ⟨_,rfl,hl,True.intro⟩) ∅ ∅) ∅) aN)) ⟨_,rfl,by decide,by decide,?_,?_,True.intro⟩
  ·omega
  ·omega
 exact key ((bO hev G).ie rfl _ (((List.range N).map λm:Nat=>(1+(m:Int))).map D.int) (by show some _=some _;rw[Ug];rfl) rfl) (λ_=>rfl)
theorem M0(w:Str)(d:Addr)(ks:List av)(ts:List (List Int)){b:Bool}(h:aO ks (.inr w)=b):ac (gL .In (.str w) (.dft d ks ts)) b:=⟨[],by show Rs.ok (aO ks (.inr w)) []=_;rw[h],True.intro⟩
def fC(N:D)(d e:Addr)(ks:List av)(ts:List (List Int)):ag:=bU [("_law_names_here", N,false),("_law_desk", bH d ks ts,false),("_law_some", .dft e ks ts,false)]
theorem rP(K0:cu ns i ss ts)(h1:l1∈ns)(hn:∀l∈ns,db l)(N:D)(d e:Addr):∃U',ac (aL ik (fG ((fG ((af (al 120)).getD 4 (.Pass ⟨0,0,0,0⟩))).getD 1 (.Pass ⟨0,0,0,0⟩))) (aa (al 120)) (bU [("_law_names_here", N,false),("_law_desk", bH d (kS ss) ts,false),("_law_some", .dft e (kS ss) ts,false),("_law_name", .str (sN l1),false)])) (.nx U')/\Sub (fC N d e (kS ss) ts) U':=by
 have n8:=(hn l1 h1).2.1;have ha:l1.length+5<=1000:=by omega
 have he:((D.str (sN (cW "show " ++ l1)),0):D×Nat)=(.str (sN (jn [cW "show", l1])),0):=by
  congr 3;rw[tJ,show cW "show " = cW "show" ++ [32]from rfl,show jn [l1]=l1++[]from rfl];simp only[Vk,U4,Vo,Vu,Tw]
 obtain⟨due,hd,hS,hc⟩:=Bh K0 h1 hn;replace hS:=hS d;generalize jn [cW "show", l1]=jl at *;rcases hc with⟨k1,rfl⟩|⟨p,k1,k2,hp,rfl⟩
 ·exact⟨_,aU (bq ∅) (ay (t:=false) (k:=0) (bg ∅ ∅ (M0 _ _ _ _ k1)) rfl (ay (t:=false) (k:=0) (bg (aF (au (k:=0) (j:=0) ∅ (au (k:=0) (j:=0) (ac.eq (cH (x:=.str (sN (cW "show "))) (y:=.str (sN l1)) (k:=0) (j:=0) ((∅).eq (by rw[fv])) ∅ (fO (by show 5+l1.length<=1000;omega))) he) aN)) hS) ∅ (sr hd)) rfl aY)),az rfl (az rfl (az rfl dh))⟩
 ·exact⟨_,aU (bq ∅) (bZ (t:=true) (k:=0) (bg ∅ ∅ (M0 _ _ _ _ k1)) rfl (aU (bq (ly (k:=0) (au (k:=0) (j:=0) ∅ (au (k:=0) (j:=0) (aF (au (k:=0) (j:=0) (mQ ∅ ∅ k2) aN) (qg hp)) aN)) (SW rfl))) (ay (t:=false) (k:=0) (bg (aF (au (k:=0) (j:=0) ∅ (au (k:=0) (j:=0) (ac.eq (cH (x:=.str (sN (cW "show "))) (y:=.str (sN l1)) (k:=0) (j:=0) ((∅).eq (by rw[fv])) ∅ (fO (by show 5+l1.length<=1000;omega))) he) aN)) hS) ∅ (sr hd)) rfl aY))),az rfl (az rfl (az rfl dh))⟩
theorem wb(G:aJ ik X (aa (al 120)))(po:PassesOwn (model X.prog X.w) X.A X.env X.xe)(hn:∀l∈[a,b,c],db l)(hi:i<64)(K0:cu [a,b,c] i ss ts)(d e:Addr):∃U2,eU X H0 (fC (dX [a,b,c]) d e (kS ss) ts) (fG ((af (al 120)).getD 4 (.Pass ⟨0,0,0,0⟩))) (.nx U2)/\U2 "_law_names_here" = some (dX [a,b,c],false):=by
 have sl:∀s∈ss,1<=s.length/\s.length<=8/\PyData.strOk s=true:=λs hs=>by
  obtain⟨l,hl,rfl⟩:=K0.nam s hs;rw[aQ];exact⟨(hn l hl).1,(hn l hl).2.1,gx (hn l hl)⟩
 have h64:ss.length<64:=by have:=K0.lt;omega
 have hT:=va (d:=d) (ts:=ts) h64 λs hs=>(sl s hs).2.1
 have hx:=tH h64 λs hs=>(sl s hs).2.1
 have hj:=vY h64 λs hs=>(sl s hs).2.1
 have hor:=Gb λs hs=>(sl s hs).1
 have hso:=Ba λs hs=>(sl s hs).2.2
 have e1:ac (jv [.dft e (kS ss) ts]) (.lst (ss.map D.str),0):=by
  unfold jv;dsimp only;rw[ql];exact⟨_,rfl,True.intro⟩
 have e2:ac (gF [.lst (ss.map D.str)]) (.lst ((cZ ss).map D.str),0):=by
  unfold gF;dsimp only;rw[wo];exact⟨_,rfl,h64,True.intro⟩
 obtain⟨r1,f1,s1⟩:=rP K0 (l1:=a) (by simp) hn (dX [a,b,c]) d e;obtain⟨r2,f2,s2⟩:=rP K0 (l1:=b) (by simp) hn (dX [a,b,c]) d e;obtain⟨r3,f3,s3⟩:=rP K0 (l1:=c) (by simp) hn (dX [a,b,c]) d e;have sC:∀{r:ag} {l:List Nat},Sub (fC (dX [a,b,c]) d e (kS ss) ts) r->Sub (bU [("_law_names_here", dX [a,b,c],false),("_law_desk", bH d (kS ss) ts,false),("_law_some", .dft e (kS ss) ts,false),("_law_name", .str (sN l),false)]) (bK r "_law_name" (.str (sN l),false)):=λh=>az (h _ _ rfl) (az (h _ _ rfl) (az (h _ _ rfl) (az rfl dh)))
 have hz:ac (aB ik (qv ((fG ((af (al 120)).getD 4 (.Pass ⟨0,0,0,0⟩))).getD 1 (.Pass ⟨0,0,0,0⟩))) true (aa (al 120)) (cR (qv ((fG ((af (al 120)).getD 4 (.Pass ⟨0,0,0,0⟩))).getD 1 (.Pass ⟨0,0,0,0⟩))) (fC (dX [a,b,c]) d e (kS ss) ts))) (dX [a,b,c],1):=∅;have fin:eU X H0 (fC (dX [a,b,c]) d e (kS ss) ts) ((fG ((af (al 120)).getD 4 (.Pass ⟨0,0,0,0⟩))).drop 1) (.nx r3):=d9 (x8 (ds:=[.str (sN a),.str (sN b),.str (sN c)]) (k:=1) po G.calm ((bO hz G).ie rfl _ _ rfl rfl) (SX 1) ⟨_,js G rfl,.inl ⟨r1,iz (sC (az rfl (az rfl (az rfl dh)))) (dH _ f1 G po),_,js G rfl,.inl ⟨r2,iz (sC s1) (dH _ f2 G po),_,js G rfl,.inl ⟨r3,iz (sC s2) (dH _ f3 G po),rfl⟩⟩⟩⟩ (λ_=>rfl)) (dH _ aY G po);refine⟨r3,d9 (U1:=fC (dX [a,b,c]) d e (kS ss) ts) (F0 (t:=false) ?_ ?_) fin,?_⟩
 ·have key:∀{p q:Expr} {pos:Pos},ED X (fC (dX [a,b,c]) d e (kS ss) ts) p (.str (jo ss)) 0->ED X (fC (dX [a,b,c]) d e (kS ss) ts) q (.str (jo ss)) 0->TD X (fC (dX [a,b,c]) d e (kS ss) ts) (.Compare p [.NotEq] [q] pos) false:=λh1 h2=>AZ (o:=[fL (.str (jo ss)) (.str (jo ss))=true]) G.room h1 h2 (by show Rs.ok (!gT (.str (jo ss)) (.str (jo ss))) _=_;rw[jV,Tv rfl];rfl) ⟨wj hso hso,trivial⟩ (BD _)
  refine key (aZ (lA ∅ ∅ rfl hT) G) ?_;have h2:=λ(pq:Expr) (pr:Expr) (pos:Pos) (hp:ED X (fC (dX [a,b,c]) d e (kS ss) ts) pq (.str (Txt.join (Str.ofString " ") (cZ ss))) 0) (hq:ED X (fC (dX [a,b,c]) d e (kS ss) ts) pr (.str (Str.ofString "none")) 0)=>Co (pos:=pos) hx hp hq
  rw[hor]at h2;exact h2 _ _ _ (aZ (ib ∅ (au (k:=0) (j:=0) (eO (B:=gF) (au (k:=0) (j:=0) (eO (B:=jv) ∅ e1) aN) e2) aN) hj) G) (aZ ∅ G)
 ·rw[if_neg Ta];exact dH _ aY G po
 ·exact s3 _ _ rfl
theorem Ji(hl:oA L):uQ ik n4 Av "Desk" "kept" (aa (al 120)) ["_law_script"] (af (al 120)) [.lst L] (.bl true):=by
 refine⟨rfl,λX H0 G po hU hM hMk=>?_⟩;have hn:∀l∈[nB (bC L 0),nC (bC L 0),nT (bC L 0)],db l:=λl hl=>by
  simp only[SS,Tg,TC]at hl;rcases hl with rfl|rfl|rfl
  ·exact qe _
  ·exact Pg _
  ·exact Pf _
 refine k8 1 G po (aU (bq (d:=dX [nB (bC L 0),nC (bC L 0),nT (bC L 0)]) (aF (au (k:=0) (j:=0) (aF ∅ (F:=fj) ⟨_,rfl,hl,True.intro⟩) aN) (F:=kG) ⟨_,rfl,True.intro⟩)) aY) ?_;refine HM rfl ?_;refine xS (g:=λd=>.obj "Desk" ["kept"] [.dft d [] []]) (B:=λ_ _=>[]) G rfl (hMk _ _ (G.gl _ rfl)) (hMk _ _ (G.gl _ rfl)) (λd=>rfl) (λ_ _ z=>nomatch z) (λ_ _ z=>nomatch z) (λd1 d2 nd _ _=>?_);refine xS (g:=λd=>.dft d [] []) (B:=λ_ _=>[]) G rfl yd yd (λd=>rfl) (λ_ _ z=>nomatch z) (λ_ _ z=>nomatch z) (λe1 e2 ne m1 m2=>?_);have q1:∀{e:Addr},e∉bt ([]++[(d1,[],[]),(d2,[],[])]:cz)->d1≠e/\d2≠e:=λh=>⟨λz=>h (by rw[<- z];exact SV),λz=>h (by rw[<- z];exact SR _ SV)⟩
 have K00:cu [nB (bC L 0),nC (bC L 0),nT (bC L 0)] 0 [] []:=⟨SX _,rfl,λs hs=>(by cases hs),λs hs=>(by cases hs)⟩;obtain⟨s',⟨KA,KB⟩,hw⟩:=D4 (H0:=H0) G po hU hl (ns:=[nB (bC L 0),nC (bC L 0),nT (bC L 0)]) rfl hn nd ne (q1 m1).1 (q1 m2).1 (q1 m1).2 (q1 m2).2 (s0:=(([],[]),([],[]))) ⟨K00,K00⟩;generalize nB (bC L 0)=a at *;generalize nC (bC L 0)=b at *;generalize nT (bC L 0)=c at *;refine fE (C:=oB L [a,b,c] d1 d2 e1 e2 (([],[]),([],[]))) (az rfl (az rfl (az rfl (az rfl dh)))) ?_;refine d7 hw ?_ rfl;refine Kz (Ky λH1=>?_);refine iz (C:=bU [("_law_names_here", dX [a,b,c],false),("_law_desks", Mx d1 d2 s',false),("_law_kept", Mw e1 e2 s',false)]) (az rfl (az rfl (az rfl dh))) ?_;obtain⟨r1,f1,g1⟩:=wb (H0:=H1) G po hn (by decide) KA d1 e1;obtain⟨r2,f2,g2⟩:=wb (H0:=H1) G po hn (by decide) KB d2 e2;have sC:∀{r:ag} {d e:Addr} {ks:List av} {ts:List (List Int)},r "_law_names_here" = some (dX [a,b,c],false)->Sub (fC (dX [a,b,c]) d e ks ts) (bK (bK r "_law_desk" (bH d ks ts,false)) "_law_some" (.dft e ks ts,false)):=λh=>az h (az rfl (az rfl dh))
 have hz:ac (aB ik (qv ((af (al 120)).getD 4 (.Pass ⟨0,0,0,0⟩))) true (aa (al 120)) (cR (qv ((af (al 120)).getD 4 (.Pass ⟨0,0,0,0⟩))) (bU [("_law_names_here", dX [a,b,c],false),("_law_desks", Mx d1 d2 s',false),("_law_kept", Mw e1 e2 s',false)]))) (.lst [.tup [bH d1 (kS s'.1.1) s'.1.2,.dft e1 (kS s'.1.1) s'.1.2],.tup [bH d2 (kS s'.2.1) s'.2.2,.dft e2 (kS s'.2.1) s'.2.2]],1):=∅;refine d9 (U1:=r2) (x8 (ds:=[.tup [bH d1 (kS s'.1.1) s'.1.2,.dft e1 (kS s'.1.1) s'.1.2],.tup [bH d2 (kS s'.2.1) s'.2.2,.dft e2 (kS s'.2.1) s'.2.2]]) (k:=1) po G.calm ((bO hz G).ie rfl _ _ rfl rfl) (SX 1) ⟨_,js G rfl,.inl ⟨r1,iz (sC rfl) f1,_,js G rfl,.inl ⟨r2,iz (sC g1) f2,rfl⟩⟩⟩ (λ_=>rfl)) (dH _ (bD (bw ∅)) G po)
def rk:List D->Rs D:=λds=>.ok (.bl true) [uQ ik n4 Av "Desk" "kept" (aa (al 120)) ["_law_script"] (af (al 120)) ds (.bl true)]
theorem Fe:∀ds r,ac (rk ds) r->uQ ik n4 Av "Desk" "kept" (aa (al 120)) ["_law_script"] (af (al 120)) ds r:=λds r h=>by
 obtain⟨rfl,h,_⟩:=dj h;exact h
theorem Ec(ns:List Int)(_:ns.length<=63):ac (rk [.lst (ns.map D.int)]) (.bl true):=⟨_,rfl,Ji ⟨ns,rfl⟩,True.intro⟩
theorem Ls:bG (aE (aa (aM (al 95) 0))) ["self"] (aa (aM (al 95) 0)):=⟨rfl,rfl,rfl,by decide +kernel,by decide +kernel,by decide +kernel,by decide +kernel⟩
theorem OH:bG (aE (aa (al 120))) ["_law_script"] (aa (al 120)):=⟨rfl,rfl,rfl,by decide +kernel,by decide +kernel,by decide +kernel,by decide +kernel⟩
theorem Lu:bG (aE (aa (aM (al 12) 0))) ["self", "name"] (aa (aM (al 12) 0)):=⟨rfl,rfl,rfl,by decide +kernel,by decide +kernel,by decide +kernel,by decide +kernel⟩
theorem bf:∀p∈BL,gQ p:=am (Pr:=gQ) (EQ) (am (Pr:=gQ) (CN) (am (Pr:=gQ) (EN) (am (Pr:=gQ) (Ko) (am (Pr:=gQ) (Km) (am (Pr:=gQ) (EV) (am (Pr:=gQ) (Kf) (am (Pr:=gQ) (Kj) (am (Pr:=gQ) (EM) (am (Pr:=gQ) (ET) (am (Pr:=gQ) (Kg) (am (Pr:=gQ) (Kh) (ai))))))))))))
theorem be:∀p∈IL,sM p:=am (Pr:=sM) (Cb) (am (Pr:=sM) (Jv) (am (Pr:=sM) (Ek) (ai)))
theorem bd:∀p∈ML,kY p:=am (Pr:=kY) (DX) (am (Pr:=kY) (BP) (am (Pr:=kY) (Ms) (am (Pr:=kY) (Mu) (am (Pr:=kY) (DY) (am (Pr:=kY) (D1) (am (Pr:=kY) (DZ) (ai)))))))
theorem bc:∀p∈TL,wT p:=am (Pr:=wT) (zy) (am (Pr:=wT) (zw) (ai))
theorem cL{w:World}{k0:W.Frag}{k:Nat}{g:Str}{F:List D->Rs D}{l:List (Str×(List D->Rs D))}(h:cI P w k0 mg base j g F)(t:∀p∈l,C5 P w k0 mg base k p)(hj:j<=k:=by decide):∀p∈(g,F)::l,C5 P w k0 mg base k p:=am (Pr:=C5 P w k0 mg base k) (Or.inl (h.mono hj)) t
theorem cN{n:Str}{l:List Str}(h:mg n=none)(t:∀m∈l,mg m=none):∀m∈n::l,mg m=none:=am (Pr:=λn=>mg n=none) h t
theorem cM{w:World}{K:W.Frag}{k:Nat}{c:Str}{q:Str×(List D->Rs D)}{qs:List (Str×(List D->Rs D))}(h:fP P w K mg base j c q.1 q.2)(hk:j<=k)(t:∀p∈qs,fP P w K mg base k c p.1 p.2):∀p∈q::qs,fP P w K mg base k c p.1 p.2:=am (Pr:=λp:Str×(List D->Rs D)=>fP P w K mg base k c p.1 p.2) (h.mono hk) t
theorem cO{w:World}{K:W.Frag}{k:Nat}{c:Str}{ms:List (Str×(List D->Rs D))}{r:List (Str×List (Str×(List D->Rs D)))}(h:∀q∈ms,fP P w K mg base k c q.1 q.2)(t:∀p∈r,Au P w K mg base k p):∀p∈(c,ms)::r,Au P w K mg base k p:=am (Pr:=Au P w K mg base k) h t
local macro_rules | `(tactic| walk_at "bn") => `(tactic| (intro _ _ _ _ _ _ us hl;first | (obtain ⟨x0,e⟩:=MK hl;subst e;rfl) | (obtain ⟨x0,x1,e⟩:=Ea hl;subst e;rfl) | (obtain ⟨x0,x1,x2,e⟩:=MJ hl;subst e;rfl) | (obtain ⟨x0,x1,x2,x3,e⟩:=Rg hl;subst e;rfl)))
local macro_rules | `(tactic| walk_at "sc") => `(tactic| exact ⟨rfl,rfl,rfl,by decide +kernel,by decide +kernel,by decide +kernel,by decide +kernel⟩)
theorem all_mk{l:W.OpenLaw}{w:World}{K:W.Frag}{h:Heap}{fa qx Eu nR cx:Addr}(X:K.In h)(G:h.Ns mainGlobals mg)(hfa:mg "law" = some (.ref fa))
  {Ma NT OW GG Mb NU:Option Addr} {Lm OG Ln:Array (Option Value)} {Mc MR NE LI Cu NH OX Gj GA F4 zZ GB Md MS NF LJ Cv NI:Value}
  (dG:W.nsIn K mainGlobals "Desk" = some (some (.ref cx)))
  (ID:W.plainGet K cx Str.empty=true)
  (Jw:W.hasDictIn K cx=true)
  (IB:W.plainOver K cx=true)
  (Ie:W.findIn K (.ref cx) "__setattr__" = some (some (.builtin "object.__setattr__")))
  (Jb:W.makesIn K cx=true)
  (Eg:W.findIn K (.ref cx) "__init__" = some (some (.ref qx)))
  (Eh:W.isFn K (.ref qx)=true)
  (EE:W.keepIn K (.ref cx)=true)
  (mL:W.findIn K (.ref cx) "kept" = some none)
  {bV:Addr} (kD:W.nsIn K mainGlobals "NoName" = some (some (.ref bV))) (xi_NoName:W.findIn K (.ref bV) "__init__" = some (some (.ref nR)))
  (Rv:FH K "_law_names" (al 111))
  (RA:FH K "_law_cell" (al 106))
  (Ry:FH K "_law_four" (al 108))
  (Rx:FH K "_law_part_text" (al 109))
  (Rw:FH K "_law_text" (al 110))
  (Rq:FH K "_law_size" (al 115))
  (Rn:FH K "_law_asked" (al 118))
  (Ru:FH K "_law_product" (al 112))
  (Rp:FH K "_law_new" (al 116))
  (Ro:FH K "_law_made" (al 117))
  (Rm:FH K "_law_line" (al 119))
  (Rt:FH K "_law_refusal" (al 113))
  (h98:FH K "is_name" (al 98))
  (h69:FH K "are_figures" (al 69))
  (h68:FH K "whole_read" (al 68))
  (h97:FH K "is_right" (al 97))
  (h96:FH K "form_of" (al 96))
  (h61:FH K "part_text" (al 61))
  (h60:FH K "four_text" (al 60))
  (h25:FH K "size" (al 25))
  (RB:FH K "told_of_one" (al 102))
  (h99:FH K "words_like" (al 99))
  (h67:FH K "has_too_many_figures" (al 67))
  (h66:FH K "doubled_or_none" (al 66))
  (h65:FH K "odd_or_none" (al 65))
  (h64:FH K "part_read" (al 64))
  (h63:FH K "parts_read" (al 63))
  (h62:FH K "four_read" (al 62))
  (h24:FH K "other_signed" (al 24))
  (h17:FH K "total" (al 17))
  (h22:FH K "plain_product" (al 22))
  (h23:FH K "product" (al 23))
  (M4:FH K "made" (al 100))
  (PP:MH K cx "four_by" "Desk.four_by" (aM (al 95) 2))
  (PN:MH K cx "keep_four" "Desk.keep_four" (aM (al 95) 3))
  (PM:MH K cx "drop_four" "Desk.drop_four" (aM (al 95) 4))
  (PL:MH K cx "told_names" "Desk.told_names" (aM (al 95) 5))
  (PQ:MH K cx "tell" "Desk.tell" (aM (al 95) 1))
  (Rr:FH K "_law_said" (al 114))
  (Pv:K.lookup qx=some ⟨Mc,Ma,.func (W.fnOf "__init__" "Desk.__init__" (dF (aM (al 95) 0)) (af (aM (al 95) 0)) (aa (aM (al 95) 0)) .none MR NE LI NT Cu NH),Lm⟩) (P7:W.codeIn K Cu "Desk.__init__" = true) (Py:W.keepIn K (.ref qx)=true)
  (RV:W.nsIn K mainGlobals "law" = some (some (.ref Eu)))    (Rh:K.lookup Eu=some ⟨OX,OW,.func (W.fnOf "law" "law" (dF (al 120)) (af (al 120)) (aa (al 120)) .none Gj GA F4 GG zZ GB),OG⟩) (RS:W.codeIn K zZ "law" = true) (Rk:W.keepIn K (.ref Eu)=true)
  (zF:K.lookup nR=some ⟨Md,Mb,.func (W.fnOf "__init__" "NoName.__init__" (dF (aM (al 12) 0)) (af (aM (al 12) 0)) (aa (aM (al 12) 0)) .none MS NF LJ NU Cv NI),Ln⟩) (P8:W.codeIn K Cv "NoName.__init__" = true) (Pz:W.keepIn K (.ref nR)=true)
  {nG:Addr} (qM:W.nsIn K mainGlobals "Divided" = some (some (.ref nG)))
  {pM:Addr} (tV:W.nsIn K mainGlobals "NoLine" = some (some (.ref pM)))
  {nF:Addr} (qK:W.nsIn K mainGlobals "NoOrder" = some (some (.ref nF)))
  {nE:Addr} (qJ:W.nsIn K mainGlobals "NoPrime" = some (some (.ref nE)))
  {pL:Addr} (tU:W.nsIn K mainGlobals "NoSide" = some (some (.ref pL)))
  {pK:Addr} (tT:W.nsIn K mainGlobals "NoText" = some (some (.ref pK)))
  {pJ:Addr} (tS:W.nsIn K mainGlobals "NoTurn" = some (some (.ref pJ)))
  {pH:Addr} (tR:W.nsIn K mainGlobals "Nought" = some (some (.ref pH)))
  {cw:Addr} (je:W.nsIn K mainGlobals "SpaceError" = some (some (.ref cw)))
  {cy:Addr} (iR:W.nsIn K mainGlobals "TooGreat" = some (some (.ref cy)))
  (y9:gD K "Divided" nG=true) (Ac:jf K nG=true)
  (Bg:gD K "NoLine" pM=true) (CC:jf K pM=true)
  (Bf:gD K "NoName" bV=true) (CB:jf K bV=true)
  (y8:gD K "NoOrder" nF=true) (Ab:jf K nF=true)
  (y6:gD K "NoPrime" nE=true) (Aa:jf K nE=true)
  (Be:gD K "NoSide" pL=true) (CA:jf K pL=true)
  (Bd:gD K "NoText" pK=true) (Cz:jf K pK=true)
  (Bc:gD K "NoTurn" pJ=true) (Cy:jf K pJ=true)
  (Bb:gD K "Nought" pH=true) (Cw:jf K pH=true)
  (xn:gD K "TooGreat" cy=true) (xw:jf K cy=true)
  (xs0:W.specialIn K (.builtin "object.__class__") "__get__" = some (some (.builtin "getset_descriptor.__get__"))) (xt0:W.takesIn K (.builtin "object.__class__")=some true)
  (sU:kM K bV cw=true) (AI:W.findIn K (.ref bV) "__getattribute__" = some (some (.builtin "BaseException.__getattribute__"))) (AH:W.findIn K (.ref bV) "__getattr__" = some none) (AG:W.findIn K (.ref bV) "__class__" = some (some (.builtin "object.__class__"))) (AF:W.mroIn K bV (.type "object")=some true) (AE:W.exmOne K (.ref bV) (.ref cw)=some true) (AC:gE K bV=some (.ref nR))
  (AB:W.keepIn K (.ref bV)=true) (sT:W.hasDictIn K bV=true) (Az:W.findIn K (.ref bV) "__setattr__" = some (some (.builtin "object.__setattr__"))) (sR:W.findIn K (.ref bV) "name" = some none) (Ay:W.isFn K (.ref nR)=true)
  (xl:kM K cy cw=true) (xk:W.findIn K (.ref cy) "__getattribute__" = some (some (.builtin "BaseException.__getattribute__"))) (xj:W.findIn K (.ref cy) "__getattr__" = some none) (xi:W.findIn K (.ref cy) "__class__" = some (some (.builtin "object.__class__"))) (xh:W.mroIn K cy (.type "object")=some true) (xg:W.exmOne K (.ref cy) (.ref cw)=some true) (xb:gE K cy=none)
  (ui:W.specialIn K (.ref cw) "__getattribute__" = some (some (.builtin "type.__getattribute__"))) (uh:W.readsIn K cw (.type "type")=true) (uj:W.findCls K (.ref cw) (.type "type") "__init__" = some (.val (.builtin "ValueError.__init__")))
  {tk1:Tok} (g1:W.nsIn K mainGlobals "FIGURES" = some (some (.str "0123456789" tk1)))
  {ca2 uO uN uM uL uK uJ uI uH uG uF qX qW qV qU qT qS qR:Addr} {nn2:Nat} {FO FN FM FL FK FJ FI FG FF FE AY AX AW AV AU AT AS:Tok} (g2:W.nsIn K mainGlobals "FORMS" = some (some (.ref ca2))) (m2:K.lookup ca2=some ⟨.type "dict", none,.dict #[⟨PyData.keyHash w.params "keep", .str "keep" FO,.ref uO⟩,⟨PyData.keyHash w.params "sum", .str "sum" FN,.ref uN⟩,⟨PyData.keyHash w.params "times", .str "times" FM,.ref uM⟩,⟨PyData.keyHash w.params "bar", .str "bar" FL,.ref uL⟩,⟨PyData.keyHash w.params "drop", .str "drop" FK,.ref uK⟩,⟨PyData.keyHash w.params "names", .str "names" FJ,.ref uJ⟩,⟨PyData.keyHash w.params "show", .str "show" FI,.ref uI⟩,⟨PyData.keyHash w.params "size", .str "size" FG,.ref uH⟩,⟨PyData.keyHash w.params "divide", .str "divide" FF,.ref uG⟩,⟨PyData.keyHash w.params "shared", .str "shared" FE,.ref uF⟩,⟨PyData.keyHash w.params "apart", .str "apart" AY,.ref qX⟩,⟨PyData.keyHash w.params "turn", .str "turn" AX,.ref qW⟩,⟨PyData.keyHash w.params "place", .str "place" AW,.ref qV⟩,⟨PyData.keyHash w.params "corner", .str "corner" AV,.ref qU⟩,⟨PyData.keyHash w.params "base", .str "base" AU,.ref qT⟩,⟨PyData.keyHash w.params "ways", .str "ways" AT,.ref qS⟩,⟨PyData.keyHash w.params "squares", .str "squares" AS,.ref qR⟩] nn2,#[]⟩) (e2:(ca2==sysModules)=false)
  {HF HE HD HC HB:Tok} {OF:Array (Option Value)} {Pb:Nat} (Re:K.lookup uO=some ⟨.type "tuple", none,.seq #[.str "new" HF,.str "part" HE,.str "part" HD,.str "part" HC,.str "part" HB] Pb,OF⟩)
  {Hz Hy Hx:Tok} {OE:Array (Option Value)} {Pa:Nat} (Rc:K.lookup uN=some ⟨.type "tuple", none,.seq #[.str "new" Hz,.str "name" Hy,.str "name" Hx] Pa,OE⟩)
  {Hw Hv Hu:Tok} {OC:Array (Option Value)} {O9:Nat} (Rb:K.lookup uM=some ⟨.type "tuple", none,.seq #[.str "new" Hw,.str "name" Hv,.str "name" Hu] O9,OC⟩)
  {Hs Hr:Tok} {OB:Array (Option Value)} {O8:Nat} (Ra:K.lookup uL=some ⟨.type "tuple", none,.seq #[.str "new" Hs,.str "name" Hr] O8,OB⟩)
  {Hq:Tok} {OA:Array (Option Value)} {O7:Nat} (Q9:K.lookup uK=some ⟨.type "tuple", none,.seq #[.str "name" Hq] O7,OA⟩)
  {Oz:Array (Option Value)} {O6:Nat} (Q8:K.lookup uJ=some ⟨.type "tuple", none,.seq #[] O6,Oz⟩)
  {Ho:Tok} {Oy:Array (Option Value)} {O1:Nat} (Q7:K.lookup uI=some ⟨.type "tuple", none,.seq #[.str "name" Ho] O1,Oy⟩)
  {Hn:Tok} {Ox:Array (Option Value)} {O0:Nat} (Q6:K.lookup uH=some ⟨.type "tuple", none,.seq #[.str "name" Hn] O0,Ox⟩)
  {Hm Hl Hk:Tok} {Ov:Array (Option Value)} {OZ:Nat} (Q5:K.lookup uG=some ⟨.type "tuple", none,.seq #[.str "side" Hm,.str "name" Hl,.str "name" Hk] OZ,Ov⟩)
  {Hj Hi Hh:Tok} {Ou:Array (Option Value)} {OY:Nat} (Q4:K.lookup uF=some ⟨.type "tuple", none,.seq #[.str "side" Hj,.str "name" Hi,.str "name" Hh] OY,Ou⟩)
  {Dr:Tok} {Lf:Array (Option Value)} {Mm:Nat} (Pt:K.lookup qX=some ⟨.type "tuple", none,.seq #[.str "name" Dr] Mm,Lf⟩)
  {Dq:Tok} {Le:Array (Option Value)} {Ml:Nat} (Ps:K.lookup qW=some ⟨.type "tuple", none,.seq #[.str "name" Dq] Ml,Le⟩)
  {Dp Do Dn Dm:Tok} {Ld:Array (Option Value)} {Mj:Nat} (Pq:K.lookup qV=some ⟨.type "tuple", none,.seq #[.str "name" Dp,.str "number" Do,.str "number" Dn,.str "number" Dm] Mj,Ld⟩)
  {Dk:Tok} {Lc:Array (Option Value)} {Mi:Nat} (Pp:K.lookup qU=some ⟨.type "tuple", none,.seq #[.str "name" Dk] Mi,Lc⟩)
  {Dj:Tok} {Lb:Array (Option Value)} {Mh:Nat} (Po:K.lookup qT=some ⟨.type "tuple", none,.seq #[.str "name" Dj] Mh,Lb⟩)
  {Di:Tok} {La:Array (Option Value)} {Mg:Nat} (Pn:K.lookup qS=some ⟨.type "tuple", none,.seq #[.str "number" Di] Mg,La⟩)
  {Dh:Tok} {K9:Array (Option Value)} {Mf:Nat} (Pm:K.lookup qR=some ⟨.type "tuple", none,.seq #[.str "number" Dh] Mf,K9⟩)
  {tk3:Tok} (g3:W.nsIn K mainGlobals "LETTERS" = some (some (.str "abcdefghijklmnopqrstuvwxyz" tk3)))
  {tk4:Tok} (g4:W.nsIn K mainGlobals "MOST_FIGURES" = some (some (.int (40) tk4)))
  {tk5:Tok} (g5:W.nsIn K mainGlobals "MOST_LETTERS" = some (some (.int (8) tk5)))
  {tk6:Tok} (g6:W.nsIn K mainGlobals "MOST_NUMBERS" = some (some (.int (40) tk6)))
  (z0:W.nsIn K mainGlobals "len" = some none)    (z1:W.nsIn K mainGlobals "tuple" = some none)    (z2:W.nsIn K mainGlobals "list" = some none)    (z3:W.nsIn K mainGlobals "abs" = some none)    (z4:W.nsIn K mainGlobals "all" = some none)    (z5:W.nsIn K mainGlobals "sum" = some none)    (z6:W.nsIn K mainGlobals "isinstance" = some none)    (z7:W.nsIn K mainGlobals "set" = some none)    (z8:W.nsIn K mainGlobals "int" = some none)    (z9:W.nsIn K mainGlobals "bool" = some none)    (z10:W.nsIn K mainGlobals "str" = some none)    (z11:W.nsIn K mainGlobals "range" = some none)    (z12:W.nsIn K mainGlobals "zip" = some none)    (z13:W.nsIn K mainGlobals "enumerate" = some none)    (z14:W.nsIn K mainGlobals "any" = some none)    (z15:W.nsIn K mainGlobals "sorted" = some none)    (z16:W.nsIn K mainGlobals "min" = some none)    (z17:W.nsIn K mainGlobals "max" = some none)    (z18:W.nsIn K mainGlobals "reversed" = some none)    (z19:W.nsIn K mainGlobals "ValueError" = some none) :
  ∃fd:FuncData,(∀(s:Shared) (v:Value),BindsTo s fd ⟨[v],[]⟩ [("_law_script", v)])/\∀base:Heap,K.In base->base.Ns mainGlobals mg->bj l.prog w K mg base cE 11 fa fd ["_law_script"] (jG K rk):=by
 have e:=hfa.symm.trans (Uq X G RV);cases e;have hbl:∀n∈i9,mg n=none:=cN (TK X G z0) (cN (TK X G z1) (cN (TK X G z2) (cN (TK X G z3) (cN (TK X G z4) (cN (TK X G z5) (cN (TK X G z6) (cN (TK X G z7) (cN (TK X G z8) (cN (TK X G z9) (cN (TK X G z10) (cN (TK X G z11) (cN (TK X G z12) (cN (TK X G z13) (cN (TK X G z14) (cN (TK X G z15) (cN (TK X G z16) (cN (TK X G z17) (cN (TK X G z18) (cN (TK X G z19) (ai))))))))))))))))))));have hmg:∀n C,W.nsIn K mainGlobals n=some (some (.ref C))->mg n=some (.ref C):=λn C h=>Uq X G h
 have hEx:Fp K EX:=JG (am (Pr:=N0 K) (⟨bV,cw,kD,je,⟨sU,AI,AH,AG,xs0,xt0,AF⟩,AE,λ_ z=>by cases z;exact⟨sR,sT⟩⟩) (am (Pr:=N0 K) (⟨cy,cw,iR,je,⟨xl,xk,xj,xi,xs0,xt0,xh⟩,xg,λ_ z=>by cases z⟩) (ai)));have eR:eY K cx:=⟨ID,Jw,IB,Ie⟩;have G2:=mV (st:=(aM (al 95) 0)) Pv P7 Py;have P9:=G2.binds (ps:=["self"]) (by walk_at "bn");have Sa:=mV (st:=(al 120)) Rh RS Rk;have G3:=mV (st:=(aM (al 12) 0)) zF P8 Pz;have Qa:=G3.binds (ps:=["self", "name"]) λ_ _ _ _ _ _ us hl=>by obtain⟨x0,x1,rfl⟩:=Ea hl;rfl
 have hEI:∀base k,2<=k->G4 l.prog w K mg base k EX:=λbase k hk=>No (am (Pr:=NZ l.prog w K mg base k) (⟨bV,kD,(λz=>by cases z),λ_ z=>by cases z;exact⟨1,nR,_,_,["self", "name"],hk,AC,zF,Nd Ay zF,AB,C8 G3 rfl Lu ⟨rfl,rfl⟩ ⟨by decide +kernel,by decide +kernel⟩ rfl (Uq X G je) ui uh uj sU sT Az sR rfl (by decide +kernel) rfl (by decide +kernel),Qa⟩⟩) (am (Pr:=NZ l.prog w K mg base k) (⟨cy,iR,λ_=>xb,λ_ z=>by cases z⟩) (ai)))
 refine⟨W.fnOf "law" "law" (dF (al 120)) (af (al 120)) (aa (al 120)) .none Gj GA F4 GG zZ GB,λs v=>.of_eq rfl,λbase _ _=>?_⟩;have nA0:∀C,W.nsIn K mainGlobals "Desk" = some (some (.ref C))->∀f∈[("kept" : Str)],dZ K C f:=by intro C hC;cases (dG.symm.trans hC);exact am (Pr:=λf=>dZ K cx f) (mL) (ai)
 have fL0:∀p∈([("Desk", ["kept"])]:List (Str×List Str)),Fo K p:=am (Pr:=Fo K) ((λf hf C hC=>nA0 C hC f hf)) (ai);obtain⟨f111,e111,F111,b111,a111⟩:=fg (ps:=["_law_cell_here"]) X G Rv;have Sf:cI l.prog w K mg base 3 "_law_names" kG:=qw (JD F111 (by walk_at "sc") (br (ai) (ai) bf be bd bc aC hbl) wQ) a111 F111.kp b111 (by decide +kernel);have Fq:cI l.prog w K mg base 3 "_law_cell" fj:=eM (ps:=["_law_script", "_law_k"]) X G RA (br (ai) (ai) bf be bd bc aC hbl) xM;have Sh:cI l.prog w K mg base 4 "_law_four" lZ:=eM (ps:=["_law_script", "_law_k"]) X G Ry (br (cL Fq (ai)) (ai) bf be bd bc aC hbl) cT.self;have Sg:cI l.prog w K mg base 3 "_law_part_text" jk:=eM (ps:=["_law_part"]) X G Rx (br (ai) (ai) bf be bd bc aC hbl) cT.self;have Aw:cI l.prog w K mg base 4 "_law_text" iJ:=eM (ps:=["_law_four_here"]) X G Rw (br (cL Sg (ai)) (ai) bf be bd bc aC hbl) cT.self;have Sc:cI l.prog w K mg base 3 "_law_size" lY:=eM (ps:=["_law_four_here"]) X G Rq (br (ai) (ai) bf be bd bc aC hbl) xK;obtain⟨f118,e118,F118,b118,a118⟩:=fg (ps:=["_law_kept", "_law_word", "_law_name"]) X G Rn;have RX:kh l.prog w K mg base 5 "_law_asked" dA:=⟨_,_,["_law_kept", "_law_word", "_law_name"],jS F118 (by walk_at "sc") (br (cL Aw (cL Sc (ai))) (ai) bf be bd bc aC hbl) (iX (ai)) (iY (ai)) wJ,a118,F118.kp,b118,by decide +kernel⟩;have Se:cI l.prog w K mg base 3 "_law_product" iT:=eM (ps:=["_law_one", "_law_other"]) X G Ru (br (ai) (ai) bf be bd bc aC hbl) sH;have Sb:cI l.prog w K mg base 4 "_law_new" lE:=eM (ps:=["_law_word", "_law_fours"]) X G Rp (br (cL Se (ai)) (ai) bf be bd bc aC hbl) cT.self;obtain⟨f117,e117,F117,b117,a117⟩:=fg (ps:=["_law_kept", "_law_word", "_law_new_here", "_law_asked_here"]) X G Ro;have RY:kh l.prog w K mg base 5 "_law_made" dr:=⟨_,_,["_law_kept", "_law_word", "_law_new_here", "_law_asked_here"],jS F117 (by walk_at "sc") (br (cL Sb (cL Aw (ai))) (ai) bf be bd bc aC hbl) (iX (ai)) (iY (ai)) xI,a117,F117.kp,b117,by decide +kernel⟩;obtain⟨f119,e119,F119,b119,a119⟩:=fg (ps:=["_law_script", "_law_k", "_law_kept", "_law_names_here"]) X G Rm;have RW:kh l.prog w K mg base 6 "_law_line" cS:=⟨_,_,["_law_script", "_law_k", "_law_kept", "_law_names_here"],jS F119 (by walk_at "sc") (br (cL Fq (cL Sh (cL Aw (ai)))) (ai) bf be bd bc aC hbl) (iX (am (Pr:=λq:Str×b9=>kh l.prog w K mg base 5 q.1 q.2) (RX.mono (by decide)) (am (Pr:=λq:Str×b9=>kh l.prog w K mg base 5 q.1 q.2) (RY.mono (by decide)) (ai)))) (iY (ai)) xJ,a119,F119.kp,b119,by decide +kernel⟩;have N9:cI l.prog w K mg base 3 "_law_refusal" iU:=eM (ps:=["_law_error"]) X G Rt (br (ai) (am (Pr:=eu mg K) (gB (Uq X G tV) tV (gw Bg CC)) (am (Pr:=eu mg K) (gB (Uq X G kD) kD (gw Bf CB)) (am (Pr:=eu mg K) (gB (Uq X G tT) tT (gw Bd Cz)) (am (Pr:=eu mg K) (gB (Uq X G tS) tS (gw Bc Cy)) (am (Pr:=eu mg K) (gB (Uq X G qK) qK (gw y8 Ab)) (am (Pr:=eu mg K) (gB (Uq X G qM) qM (gw y9 Ac)) (am (Pr:=eu mg K) (gB (Uq X G tR) tR (gw Bb Cw)) (am (Pr:=eu mg K) (gB (Uq X G iR) iR (gw xn xw)) (am (Pr:=eu mg K) (gB (Uq X G tU) tU (gw Be CA)) (am (Pr:=eu mg K) (gB (Uq X G qJ) qJ (gw y6 Aa)) (ai))))))))))) bf be bd bc aC hbl) cT.self;have D98:cI l.prog w K mg base 3 "is_name" cK:=eM (ps:=["word"]) X G h98 (br (ai) (am (Pr:=eu mg K) (nU (Uq X G g5)) (am (Pr:=eu mg K) (yI (Uq X G g3)) (ai))) bf be bd bc aC hbl) cT.self;have D69:cI l.prog w K mg base 3 "are_figures" jm:=eM (ps:=["text"]) X G h69 (br (ai) (am (Pr:=eu mg K) (nU (Uq X G g4)) (am (Pr:=eu mg K) (yI (Uq X G g1)) (ai))) bf be bd bc aC hbl) cT.self;have D68:cI l.prog w K mg base 4 "whole_read" fW:=eM (ps:=["word"]) X G h68 (br (cL D69 (ai)) (ai) bf be bd bc aC hbl) cT.self;have D97:cI l.prog w K mg base 5 "is_right" dw:=eM (ps:=["kind", "word"]) X G h97 (br (cL D98 (cL D68 (ai))) (ai) bf be bd bc aC hbl) cT.self;obtain⟨f96,e96,F96,b96,a96⟩:=fg (ps:=["words"]) X G h96;have D96:cI l.prog w K mg base 6 "form_of" cJ:=qw (Es F96 (by walk_at "sc") (br (cL D97 (ai)) (am (Pr:=eu mg K) (nU (Uq X G g6)) (ai)) bf be bd bc aC hbl) (Ni (am (Pr:=λq:Str×List (Str×List Str)=>pF l.prog w K mg q.1 q.2) (PU (d := "FORMS") (kvs:=[("keep", ["new", "part", "part", "part", "part"]),("sum", ["new", "name", "name"]),("times", ["new", "name", "name"]),("bar", ["new", "name"]),("drop", ["name"]),("names", []),("show", ["name"]),("size", ["name"]),("divide", ["side", "name", "name"]),("shared", ["side", "name", "name"]),("apart", ["name"]),("turn", ["name"]),("place", ["name", "number", "number", "number"]),("corner", ["name"]),("base", ["name"]),("ways", ["number"]),("squares", ["number"])]) (r:=[("keep", .ref uO),("sum", .ref uN),("times", .ref uM),("bar", .ref uL),("drop", .ref uK),("names", .ref uJ),("show", .ref uI),("size", .ref uH),("divide", .ref uG),("shared", .ref uF),("apart", .ref qX),("turn", .ref qW),("place", .ref qV),("corner", .ref qU),("base", .ref qT),("ways", .ref qS),("squares", .ref qR)]) (ts:=[FO,FN,FM,FL,FK,FJ,FI,FG,FF,FE,AY,AX,AW,AV,AU,AT,AS]) (Uq X G g2) e2 (by decide +kernel) rfl (⟨rfl,⟨uO,rfl,bT (ws:=["new", "part", "part", "part", "part"]) Re (show 5<=sizeLine by decide) (.cons ⟨_,rfl⟩ (.cons ⟨_,rfl⟩ (.cons ⟨_,rfl⟩ (.cons ⟨_,rfl⟩ (.cons ⟨_,rfl⟩ (.nil))))))⟩,⟨rfl,⟨uN,rfl,bT (ws:=["new", "name", "name"]) Rc (show 3<=sizeLine by decide) (.cons ⟨_,rfl⟩ (.cons ⟨_,rfl⟩ (.cons ⟨_,rfl⟩ (.nil))))⟩,⟨rfl,⟨uM,rfl,bT (ws:=["new", "name", "name"]) Rb (show 3<=sizeLine by decide) (.cons ⟨_,rfl⟩ (.cons ⟨_,rfl⟩ (.cons ⟨_,rfl⟩ (.nil))))⟩,⟨rfl,⟨uL,rfl,bT (ws:=["new", "name"]) Ra (show 2<=sizeLine by decide) (.cons ⟨_,rfl⟩ (.cons ⟨_,rfl⟩ (.nil)))⟩,⟨rfl,⟨uK,rfl,bT (ws:=["name"]) Q9 (show 1<=sizeLine by decide) (.cons ⟨_,rfl⟩ (.nil))⟩,⟨rfl,⟨uJ,rfl,bT (ws:=[]) Q8 (show 0<=sizeLine by decide) (.nil)⟩,⟨rfl,⟨uI,rfl,bT (ws:=["name"]) Q7 (show 1<=sizeLine by decide) (.cons ⟨_,rfl⟩ (.nil))⟩,⟨rfl,⟨uH,rfl,bT (ws:=["name"]) Q6 (show 1<=sizeLine by decide) (.cons ⟨_,rfl⟩ (.nil))⟩,⟨rfl,⟨uG,rfl,bT (ws:=["side", "name", "name"]) Q5 (show 3<=sizeLine by decide) (.cons ⟨_,rfl⟩ (.cons ⟨_,rfl⟩ (.cons ⟨_,rfl⟩ (.nil))))⟩,⟨rfl,⟨uF,rfl,bT (ws:=["side", "name", "name"]) Q4 (show 3<=sizeLine by decide) (.cons ⟨_,rfl⟩ (.cons ⟨_,rfl⟩ (.cons ⟨_,rfl⟩ (.nil))))⟩,⟨rfl,⟨qX,rfl,bT (ws:=["name"]) Pt (show 1<=sizeLine by decide) (.cons ⟨_,rfl⟩ (.nil))⟩,⟨rfl,⟨qW,rfl,bT (ws:=["name"]) Ps (show 1<=sizeLine by decide) (.cons ⟨_,rfl⟩ (.nil))⟩,⟨rfl,⟨qV,rfl,bT (ws:=["name", "number", "number", "number"]) Pq (show 4<=sizeLine by decide) (.cons ⟨_,rfl⟩ (.cons ⟨_,rfl⟩ (.cons ⟨_,rfl⟩ (.cons ⟨_,rfl⟩ (.nil)))))⟩,⟨rfl,⟨qU,rfl,bT (ws:=["name"]) Pp (show 1<=sizeLine by decide) (.cons ⟨_,rfl⟩ (.nil))⟩,⟨rfl,⟨qT,rfl,bT (ws:=["name"]) Po (show 1<=sizeLine by decide) (.cons ⟨_,rfl⟩ (.nil))⟩,⟨rfl,⟨qS,rfl,bT (ws:=["number"]) Pn (show 1<=sizeLine by decide) (.cons ⟨_,rfl⟩ (.nil))⟩,⟨rfl,⟨qR,rfl,bT (ws:=["number"]) Pm (show 1<=sizeLine by decide) (.cons ⟨_,rfl⟩ (.nil))⟩,trivial⟩⟩⟩⟩⟩⟩⟩⟩⟩⟩⟩⟩⟩⟩⟩⟩⟩) m2) (ai))) wR) a96 F96.kp b96 (by decide +kernel);obtain⟨f61,e61,F61,b61,a61⟩:=fg (ps:=["part"]) X G h61;have D61:cI l.prog w K mg base 3 "part_text" kQ:=qw (Ng (pre:=(af (al 61)).take 1) F61 (by walk_at "sc") (br (ai) (ai) bf be bd bc aC hbl) rfl (sG)) a61 F61.kp b61 (by decide +kernel);have D60:cI l.prog w K mg base 4 "four_text" fH:=eM (ps:=["four"]) X G h60 (br (cL D61 (ai)) (ai) bf be bd bc aC hbl) sI;have D25:cI l.prog w K mg base 3 "size" rh:=eM (ps:=["four"]) X G h25 (br (ai) (ai) bf be bd bc aC hbl) C1;have Fs:cI l.prog w K mg base 5 "told_of_one" fB:=eM (ps:=["word", "four", "numbers"]) X G RB (br (cL D60 (cL D25 (ai))) (ai) bf be bd bc aC hbl) cT.self;have D99:cI l.prog w K mg base 3 "words_like" bv:=eM (ps:=["wanted", "form", "words"]) X G h99 (br (ai) (ai) bf be bd bc aC hbl) cT.self;have D67:cI l.prog w K mg base 3 "has_too_many_figures" cq:=eM (ps:=["number"]) X G h67 (br (ai) (am (Pr:=eu mg K) (nU (Uq X G g4)) (ai)) bf be bd bc aC hbl) cT.self;have D66:cI l.prog w K mg base 4 "doubled_or_none" gr:=eM (ps:=["number"]) X G h66 (br (cL D67 (ai)) (ai) bf be bd bc aC hbl) cT.self;have D65:cI l.prog w K mg base 3 "odd_or_none" ji:=eM (ps:=["number"]) X G h65 (br (ai) (ai) bf be bd bc aC hbl) cT.self;have D64:cI l.prog w K mg base 5 "part_read" kU:=eM (ps:=["word"]) X G h64 (br (cL D66 (cL D65 (cL D68 (ai)))) (ai) bf be bd bc aC hbl) cT.self;have D63:cI l.prog w K mg base 6 "parts_read" im:=eM (ps:=["words"]) X G h63 (br (cL D64 (ai)) (ai) bf be bd bc aC hbl) cT.self;have D62:cI l.prog w K mg base 7 "four_read" kW:=eM (ps:=["text"]) X G h62 (br (cL D63 (ai)) (ai) bf be bd bc aC hbl) cT.self;have D24:cI l.prog w K mg base 3 "other_signed" gj:=eM (ps:=["four"]) X G h24 (br (ai) (ai) bf be bd bc aC hbl) ou;have D17:cI l.prog w K mg base 3 "total" n5:=eM (ps:=["one", "other"]) X G h17 (br (ai) (ai) bf be bd bc aC hbl) Aq;have D22:cI l.prog w K mg base 3 "plain_product" il:=eM (ps:=["one", "other"]) X G h22 (br (ai) (ai) bf be bd bc aC hbl) nu;have D23:cI l.prog w K mg base 4 "product" kF:=eM (ps:=["one", "other"]) X G h23 (br (cL D22 (ai)) (ai) bf be bd bc aC hbl) wP;obtain⟨f100,e100,F100,b100,a100⟩:=fg (ps:=["words", "fours"]) X G M4;have R0:oP l.prog w K mg base 8 "made" nk:=.inl ⟨_,_,["words", "fours"],Nf (Ex:=EX) F100 (by walk_at "sc") (br (cL D62 (cL D24 (cL D17 (cL D23 (cL D67 (ai)))))) (ai) bf be bd bc aC hbl) (vE (ai)) hmg (hEI _ _ (by decide)) CT,a100,F100.kp,b100,by decide +kernel⟩;have Ft:cI l.prog w K mg base 8 "made" lD:=eM (ps:=["words", "fours"]) X G M4 (br (cL D62 (cL D24 (cL D17 (cL D23 (cL D67 (ai)))))) (ai) bf be bd bc aC hbl) cT.self;obtain⟨f95_2,e95_2,F95_2,b95_2,m95_2⟩:=mh (ps:=["self", "word"]) PP;have Qf:jq l.prog w K mg base 3 "Desk" "four_by" gi:=⟨cx,_,_,["self", "word"],dG,eR,m95_2,yt (Ex:=EX) (Ω:=iK) F95_2 (by walk_at "sc") (eJ (ai) (ai) bf be bd bc aC (fL0) (ai) hbl) (vE (ai)) (vC (ai)) hmg (hEI _ _ (by decide)) oj,b95_2⟩;have iM:fP l.prog w K mg base 3 "Desk" "four_by" gk:=o9 F95_2 (by walk_at "sc") dG eR m95_2 b95_2 (eJ (ai) (ai) bf be bd bc aC (fL0) (ai) hbl) cT.self;obtain⟨f95_3,e95_3,F95_3,b95_3,m95_3⟩:=mh (ps:=["self", "word", "four"]) PN;have Qe:kH l.prog w K mg base 5 "Desk" "keep_four" fc:=⟨cx,_,_,["self", "word", "four"],dG,eR,m95_3,jS F95_3 (by walk_at "sc") (eJ (cL D60 (ai)) (ai) bf be bd bc aC (fL0) (ai) hbl) (iX (ai)) (iY (ai)) ml,b95_3⟩;obtain⟨f95_4,e95_4,F95_4,b95_4,m95_4⟩:=mh (ps:=["self", "word"]) PM;have Qc:kH l.prog w K mg base 3 "Desk" "drop_four" fe:=⟨cx,_,_,["self", "word"],dG,eR,m95_4,jS F95_4 (by walk_at "sc") (eJ (ai) (ai) bf be bd bc aC (fL0) (ai) hbl) (iX (ai)) (iY (ai)) mm,b95_4⟩;obtain⟨f95_5,e95_5,F95_5,b95_5,m95_5⟩:=mh (ps:=["self"]) PL;have gv:fP l.prog w K mg base 3 "Desk" "told_names" gu:=o9 F95_5 (by walk_at "sc") dG eR m95_5 b95_5 (eJ (ai) (ai) bf be bd bc aC (fL0) (ai) hbl) cT.self;obtain⟨f95_1,e95_1,F95_1,b95_1,m95_1⟩:=mh (ps:=["self", "line"]) PQ;have GK:kH l.prog w K mg base 9 "Desk" "tell" cV:=⟨cx,_,_,["self", "line"],dG,eR,m95_1,jS F95_1 (by walk_at "sc") (eJ (cL D96 (cL D68 (cL Fs (cL D99 (cL Ft (ai)))))) (ai) bf be bd bc aC (ai) (cO (cM iM (by decide) (cM gv (by decide) (ai))) (ai)) hbl) (iX (ai)) (iY (am (Pr:=λq:Str×b9=>kH l.prog w K mg base 8 "Desk" q.1 q.2) (Qe.mono (by decide)) (am (Pr:=λq:Str×b9=>kH l.prog w K mg base 8 "Desk" q.1 q.2) (Qc.mono (by decide)) (ai)))) sF,b95_1⟩;have Qg:jq l.prog w K mg base 9 "Desk" "tell" dz:=⟨cx,_,_,["self", "line"],dG,eR,m95_1,yt (Ex:=EX) (Ω:=kX) F95_1 (by walk_at "sc") (eJ (cL D96 (cL D68 (cL Fs (cL D99 (cL Ft (ai)))))) (ai) bf be bd bc aC (ai) (cO (cM iM (by decide) (cM gv (by decide) (ai))) (ai)) hbl) (vE (am (Pr:=QE l.prog w K mg base 8) (R0.mono (by decide)) (ai))) (vC (am (Pr:=λq:Str×(List D->Option Xs)=>jq l.prog w K mg base 8 "Desk" q.1 q.2) (Qf.mono (by decide)) (am (Pr:=λq:Str×(List D->Option Xs)=>jq l.prog w K mg base 8 "Desk" q.1 q.2) (BG dG eR m95_3 b95_3) (am (Pr:=λq:Str×(List D->Option Xs)=>jq l.prog w K mg base 8 "Desk" q.1 q.2) (BG dG eR m95_4 b95_4) (ai))))) hmg (hEI _ _ (by decide)) sD,b95_1⟩;have fJ:fP l.prog w K mg base 9 "Desk" "tell" dB:=o9 F95_1 (by walk_at "sc") dG eR m95_1 b95_1 (eJ (cL D96 (cL D68 (cL Fs (cL D99 (cL Ft (ai)))))) (ai) bf be bd bc aC (ai) (cO (cM iM (by decide) (cM gv (by decide) (ai))) (ai)) hbl) cT.self;obtain⟨f114,e114,F114,b114,a114⟩:=fg (ps:=["_law_desk", "_law_line_here"]) X G Rr;have RZ:kh l.prog w K mg base 10 "_law_said" iI:=⟨_,_,["_law_desk", "_law_line_here"],jS F114 (by walk_at "sc") (eJ (cL N9 (ai)) (ai) bf be bd bc aC (ai) (cO (cM fJ (by decide) (ai)) (ai)) hbl) (iX (ai)) (iY (am (Pr:=λq:Str×b9=>kH l.prog w K mg base 9 "Desk" q.1 q.2) (GK.mono (by decide)) (ai))) xH,a114,F114.kp,b114,by decide +kernel⟩;have Sd:cI l.prog w K mg base 10 "_law_said" du:=qw (JB (pre:=(af (al 114)).take 2) (tb:=KQ ((af (al 114)).getD 2 (.Pass ⟨0,0,0,0⟩))) (post:=(af (al 114)).drop 3) (Ω:=wS) (Ex:=EX) F114 (by walk_at "sc") (eJ (cL N9 (ai)) (ai) bf be bd bc aC (ai) (cO (cM fJ (by decide) (ai)) (ai)) hbl) (vC (am (Pr:=λq:Str×(List D->Option Xs)=>jq l.prog w K mg base 9 "Desk" q.1 q.2) (Qg.mono (by decide)) (ai))) hmg hEx rfl rfl (by decide +kernel) rfl rfl (by decide +kernel) (by decide +kernel) (by decide +kernel) xL) a114 F114.kp b114 (by decide +kernel);have DI:bj l.prog w K mg base cE 1 qx _ ["self"] (FY K "kept"):=JV G2 rfl Ls (Or.inl rfl) rfl rfl;exact JC Sa OH (eJ (cL Sf (cL Fq (cL Sd (cL Aw (ai))))) (ai) bf be bd bc aC (ai) (cO (cM fJ (by decide) (ai)) (ai)) hbl) (iX (am (Pr:=λq:Str×b9=>kh l.prog w K mg base 10 q.1 q.2) (RW.mono (by decide)) (am (Pr:=λq:Str×b9=>kh l.prog w K mg base 10 q.1 q.2) (RZ.mono (by decide)) (ai)))) (iY (am (Pr:=λq:Str×b9=>kH l.prog w K mg base 10 "Desk" q.1 q.2) (GK.mono (by decide)) (ai))) ⟨Jb,Eg,Eh,EE⟩ DI (by decide) P9 (Uq X G dG) dG eR mL (by decide +kernel) Fe
theorem walkX{q:Program}{r:W.RowW}{d:DefRec}{kwd:List (Str×Expr)}{run:Value->List Value->Sem Value}{K:Params->W.Frag}{as:List Addr}{n t:Nat}
  (e:∀P,as=(K P).map (·.1)) (h:W.WalkO q loose XP (W.InK K) r d kwd run):W.WalkX q loose XP (W.X.obsZ as) (W.X.valZ K n t) r d kwd run :=
 λw _ _ mg mb G y a o pm cd doc dV kV h1 h2 h3 h4 h5 h6 args vals as' L =>
  h w _ _ mg mb G (W.InK.keeps w _ _ (W.X.z_facts e y).2.1 L.keeps) a o pm cd doc dV kV h1 h2 h3 h4 h5 h6 args vals as'
theorem walk{l:W.OpenLaw}{q:Program}{YP:World->Heap->Prop}{d:DefRec}{K:Params->W.Frag}(hn:l.most=some 63)(hdf:d.params.defaults=[])
  (hY:∀(w:World) (h:Heap),YP w h->(K w.params).In h)
  (F:∀(w:World) (mg:Str->Option Value) (fa:Addr) (h:Heap),(K w.params).In h->h.Ns mainGlobals mg->mg d.name=some (.ref fa) ->
   ∃fd:FuncData,(∀(s:Shared) (u:Value),BindsTo s fd ⟨[u],[]⟩ [("_law_script", u)])/\∀base:Heap,(K w.params).In base->base.Ns mainGlobals mg->bj l.prog w (K w.params) mg base cE 11 fa fd ["_law_script"] (jG (K w.params) rk)) :
  W.WalkO q loose XP YP l.row.toRowW d [] (λf vs=>PySem.call f vs) :=
 L2.walk_of (n:=63) (k:=11) (x := "_law_script") (CX:=λ_=>cE) (sp:=λw=>jG (K w.params) rk) hn (by decide) hdf ⟨rfl,by decide,by decide⟩ hY F (λ_ _ a ns hl hO hS=>M3 hO hS (Ec ns hl)) λ_ _ _ _ _ z=>z
end K
open PySem PySem.W PyProof.Rows
set_option maxRecDepth 100000 in
set_option maxHeartbeats 0 in
theorem PySem.Challenge.cw_spaceturns_k51_fours_at_the_desk_holds : PySem.Challenge.rw_spaceturns_k51_fours_at_the_desk.Holds := by
 refine PHD ?_
 k_fill
 refine K.walkX (λ_=>rfl) (K.walk (l:=PySem.Challenge.rw_spaceturns_k51_fours_at_the_desk) rfl rfl (λw h Y=>Y) ?F)
 case F =>
  intro w mg fa h KX G hmg;apply K.all_mk KX G hmg;all_goals try first|k_is|kernel_rfl|(refine' .mk ?_ ?_ ?_ ?_<;>try first|k_is|kernel_rfl)|(refine' .mk ?_ ?_ ?_ ?_ ?_<;>try first|k_is|kernel_rfl)
